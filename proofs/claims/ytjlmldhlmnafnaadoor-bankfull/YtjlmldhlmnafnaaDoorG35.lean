/-
  The walk of the law BankFull.
-/
import Derived.Test.YtjlmldhlmnafnaaDoorG34
import Derived.Test.YtjlmldhlmnafnaaDoorG32
import Derived.Test.YtjlmldhlmnafnaaDoorG33
namespace Go.Proofs.YtjlmldhlmnafnaaDoor
set_option linter.unusedSimpArgs false
set_option linter.unusedVariables false
set_option maxRecDepth 100000
open Go.RowKit

theorem below_to {w0 w : World} (h : Below w0.heap.size w0 w) : Below w0.heap.size w0 w := h
theorem andF15 (n : Int) : bits .and .i64 n 15 = n % 16 := by
  have h15 : (BitVec.ofInt 64 15).toNat = 2 ^ 4 - 1 := by decide
  have key : (BitVec.ofInt 64 n &&& BitVec.ofInt 64 15).toNat = (n % ((2 ^ 64 : Nat) : Int)).toNat % 2 ^ 4 := by
    rw [BitVec.toNat_and, BitVec.toNat_ofInt, h15, Nat.and_two_pow_sub_one_eq_mod]
  show IntKind.i64.wrap ((BitVec.ofInt 64 n &&& BitVec.ofInt 64 15).toNat : Nat) = n % 16
  rw [key, IntKind.wrap_i64]
  omega
set_option maxHeartbeats 4000000 in
theorem full_bad0 (ba : Option Addr) (bc : Nat) (bs : List Int) (cp n : Int) (w : World) (hV : Vars w) (hB : Bs w ba bc bs) (h : 200 < bs.length) :
    Calls Tryd.prog 6 #[.slice ba bs.length bc, .int .i64 cp, .int .i64 n] w fun e w' => e = .returned (.bool true) ∧ Below w.heap.size w w' := by
  have hal := fun u (hu : Vars u) => balive_run u hu
  obtain ⟨m, hm⟩ : ∃ m : Nat, n % 16 = (m : Int) := ⟨(n % 16).toNat, by omega⟩
  have hml : m < 16 := by omega
  have hand : bits .and .i64 n 15 = (m : Int) := by rw [andF15, hm]
  obtain ⟨N, hN⟩ : ∃ N, N = 16 + m := ⟨_, rfl⟩
  have hadd : (16 : Int) + (m : Int) = (N : Int) := by omega
  have hN16 : 16 ≤ N := by omega
  have hN31 : N ≤ 31 := by omega
  have hfr := bs_fresh N w (by omega) (by omega)
  obtain ⟨nb, hnb⟩ : ∃ nb, nb = bs.length := ⟨_, rfl⟩
  rw [← hnb]
  have hx1 : decide ((200 : Int) < (nb : Int)) = true := by simp; omega
  clear hnb hN hm
  go_enter Tryd.func6, Tryd.ntmps6
  go_wp2_with (first
    | (go_at_call 7; go_must (refine hfr.mono ?_); rintro e w2 ⟨k, p, g, rfl, hK2⟩)
    | (go_at_call 18; go_must (refine (hal _ (hK2.vars hV)).mono ?_); rintro e w3 ⟨rfl, hb3⟩))
  go_ret
  exact ⟨rfl, below_then hK2.bel hb3⟩

set_option maxHeartbeats 4000000 in
theorem full_bad1 (ba : Option Addr) (bc : Nat) (bs : List Int) (cp n : Int) (w : World) (hV : Vars w) (hB : Bs w ba bc bs) (h : bs.length ≤ 200) (h1 : cp < 1) :
    Calls Tryd.prog 6 #[.slice ba bs.length bc, .int .i64 cp, .int .i64 n] w fun e w' => e = .returned (.bool true) ∧ Below w.heap.size w w' := by
  have hal := fun u (hu : Vars u) => balive_run u hu
  obtain ⟨m, hm⟩ : ∃ m : Nat, n % 16 = (m : Int) := ⟨(n % 16).toNat, by omega⟩
  have hml : m < 16 := by omega
  have hand : bits .and .i64 n 15 = (m : Int) := by rw [andF15, hm]
  obtain ⟨N, hN⟩ : ∃ N, N = 16 + m := ⟨_, rfl⟩
  have hadd : (16 : Int) + (m : Int) = (N : Int) := by omega
  have hN16 : 16 ≤ N := by omega
  have hN31 : N ≤ 31 := by omega
  have hfr := bs_fresh N w (by omega) (by omega)
  obtain ⟨nb, hnb⟩ : ∃ nb, nb = bs.length := ⟨_, rfl⟩
  rw [← hnb]
  have hx1 : decide ((200 : Int) < (nb : Int)) = false := by simp; omega
  have hx2 : decide (cp < 1) = true := by simp; omega
  clear hnb hN hm
  go_enter Tryd.func6, Tryd.ntmps6
  go_wp2_with (first
    | (go_at_call 7; go_must (refine hfr.mono ?_); rintro e w2 ⟨k, p, g, rfl, hK2⟩)
    | (go_at_call 18; go_must (refine (hal _ (hK2.vars hV)).mono ?_); rintro e w3 ⟨rfl, hb3⟩))
  go_ret
  exact ⟨rfl, below_then hK2.bel hb3⟩

set_option maxHeartbeats 4000000 in
theorem full_bad2 (ba : Option Addr) (bc : Nat) (bs : List Int) (cp n : Int) (w : World) (hV : Vars w) (hB : Bs w ba bc bs) (h : bs.length ≤ 200) (h1 : 2 < cp) :
    Calls Tryd.prog 6 #[.slice ba bs.length bc, .int .i64 cp, .int .i64 n] w fun e w' => e = .returned (.bool true) ∧ Below w.heap.size w w' := by
  have hal := fun u (hu : Vars u) => balive_run u hu
  obtain ⟨m, hm⟩ : ∃ m : Nat, n % 16 = (m : Int) := ⟨(n % 16).toNat, by omega⟩
  have hml : m < 16 := by omega
  have hand : bits .and .i64 n 15 = (m : Int) := by rw [andF15, hm]
  obtain ⟨N, hN⟩ : ∃ N, N = 16 + m := ⟨_, rfl⟩
  have hadd : (16 : Int) + (m : Int) = (N : Int) := by omega
  have hN16 : 16 ≤ N := by omega
  have hN31 : N ≤ 31 := by omega
  have hfr := bs_fresh N w (by omega) (by omega)
  obtain ⟨nb, hnb⟩ : ∃ nb, nb = bs.length := ⟨_, rfl⟩
  rw [← hnb]
  have hx1 : decide ((200 : Int) < (nb : Int)) = false := by simp; omega
  have hx2 : decide (cp < 1) = false := by simp; omega
  have hx3 : decide (2 < cp) = true := by simp; omega
  clear hnb hN hm
  go_enter Tryd.func6, Tryd.ntmps6
  go_wp2_with (first
    | (go_at_call 7; go_must (refine hfr.mono ?_); rintro e w2 ⟨k, p, g, rfl, hK2⟩)
    | (go_at_call 18; go_must (refine (hal _ (hK2.vars hV)).mono ?_); rintro e w3 ⟨rfl, hb3⟩))
  go_ret
  exact ⟨rfl, below_then hK2.bel hb3⟩

/-- own: the number's byte ahead of b. -/
theorem own_row (x : Int) (u : World) : (u.alloc (.cells #[.int .u8 x] 5)).ownsRow u.heap.size 5 1 (.slice (some ⟨u.heap.size, 0, none⟩) 1 1) [x].length ([x].map (Value.int .u8)) :=
  ⟨rfl, .inr ⟨u.heap.size, 1, #[.int .u8 x], rfl, Nat.le_refl _, heap_alloc_new u _, Nat.le_refl _, by decide, rfl, rfl⟩⟩

set_option maxHeartbeats 80000000 in
theorem full_main (ba : Option Addr) (bc : Nat) (bs : List Int) (c : Nat) (n : Int) (w : World) (hV : Vars w) (hB : Bs w ba bc bs) (hb200 : bs.length ≤ 200) (hc : c = 1 ∨ c = 2) :
    Calls Tryd.prog 6 #[.slice ba bs.length bc, .int .i64 (c : Int), .int .i64 n] w fun e w' => e = .returned (.bool true) ∧ Below w.heap.size w w' := by
  have hal := fun u (hu : Vars u) => balive_run u hu
  have hi : (Tryd.prog.info? 5).map (fun i => (i.zero, i.size, i.bytes)) = some (some (.int .u8 0), 1, 1) := by kernel_rfl
  obtain ⟨i0, hi0, hz0, hz1, hz2⟩ := info_parts hi
  obtain ⟨m, hm⟩ : ∃ m : Nat, n % 16 = (m : Int) := ⟨(n % 16).toNat, by omega⟩
  have hml : m < 16 := by omega
  have hand : bits .and .i64 n 15 = (m : Int) := by rw [andF15, hm]
  obtain ⟨N, hN⟩ : ∃ N, N = 16 + m := ⟨_, rfl⟩
  have hadd : (16 : Int) + (m : Int) = (N : Int) := by omega
  have hN16 : 16 ≤ N := by omega
  have hN31 : N ≤ 31 := by omega
  have hfr := bs_fresh N w (by omega) (by omega)
  obtain ⟨nb, hnb⟩ : ∃ nb, nb = bs.length := ⟨_, rfl⟩
  rw [← hnb]
  have hx1 : decide ((200 : Int) < (nb : Int)) = false := by simp; omega
  have hx2 : decide ((c : Int) < 1) = false := by simp; omega
  have hx3 : decide (2 < (c : Int)) = false := by simp; omega
  have hc0 : ¬ ((c : Int) = 0) := by omega
  obtain ⟨R, hR⟩ : ∃ R : Nat, R = (N - 4) / c := ⟨_, rfl⟩
  have hsub : IntKind.i64.wrap ((N : Int) - 4) = (N : Int) - 4 := by rw [IntKind.wrap_i64]; omega
  have hR1 : 4 + c * R ≤ N := by
    rw [hR]; have := Nat.mul_div_le (N - 4) c; omega
  have hR2 : N < 4 + c * R + c := by
    rw [hR]
    rcases hc with rfl | rfl <;> omega
  have hR30 : R ≤ 27 := by
    rcases hc with rfl | rfl <;> omega
  have hdiv : Int.tdiv ((N : Int) - 4) (c : Int) = (R : Int) := by
    rw [hR, Int.tdiv_eq_ediv_of_nonneg (by omega)]
    have : ((N : Int) - 4) = ((N - 4 : Nat) : Int) := by omega
    rw [this]
    norm_cast
  have HNB : Hid (nb = bs.length) := hnb
  have hnb2 : nb ≤ 200 := by omega
  have HC : Hid (c = 1 ∨ c = 2) := hc
  have HR1 : Hid (4 + c * R ≤ N ∧ N < 4 + c * R + c) := ⟨hR1, hR2⟩
  clear hR1 hR2 hc hb200 hnb hN hm hR
  go_enter Tryd.func6, Tryd.ntmps6
  go_wp2_with (first
    | (go_at_call 7; go_must (refine hfr.mono ?_); rintro e w2 ⟨k, p, g, rfl, hK2⟩)
    | ((with_reducible show wpList _ _ _ (Oper.mk _ (Op.buildSlice 38 0 _) _ _ _ _ :: _) _ _); refine wpList_nop (by rfl) (by rfl) (some 46) (by rfl) ?_; intro w3 b3 hb3e hP3 hb3))
  obtain ⟨v0, hv0⟩ : ∃ v0, v0 = Value.slice (some ⟨b3, 0, none⟩) 0 0 := ⟨_, rfl⟩
  have hv0' := hv0
  rw [← hv0] at hP3 ⊢
  have hK3 : BS w w3 (rowOf v0) k p g (DS.new N) (lab N (4 + c * 0)) 7 := hK2.new hb3 (fun j hj => by
    rw [hv0'] at hj
    have hj' : b3 = j := by simpa [rowOf, Value.ownBlock] using hj
    have hjl := hP3.lt (by rw [hv0']; exact hj)
    exact .inr ⟨by omega, hjl.2⟩)
  have hP3' : Plist w.heap.size w3 v0 ((List.range 0).map (ptrB bs c)) := ⟨hP3.1, owns_mono hP3.2 (by have := hK2.bel.size; omega)⟩
  have HF0 : Hid (FullAt N c bs 0 (DS.new N)) := full_start hN16 (by omega)
  obtain ⟨S0, hS0⟩ : ∃ S0, S0 = DS.new N := ⟨_, rfl⟩
  rw [← hS0] at hK3 HF0
  clear hS0 hv0 hv0' hP3 hb3 hK2 hb3e hfr
  have HV : Hid (Vars w) := hV
  have HB : Hid (Bs w ba bc bs) := hB
  go_loopw [11, 12] (fun v x wr => ∃ (i r : Nat) (S : DS), x = .int .i64 i ∧ i ≤ R + 2 ∧ Hid (r = min i R) ∧ Plist w.heap.size wr v ((List.range r).map (ptrB bs c)) ∧ BS w wr (rowOf v) k p g S (lab N (4 + c * r)) 7 ∧ Hid (FullAt N c bs r S)) (fun _ x _ => R + 2 - (intOf x).toNat)
  case atStart => exact ⟨0, 0, S0, rfl, by omega, (by show _ = _; omega), hP3', hK3, HF0⟩
  case round =>
    clear hP3' hK3 HF0
    rename_i wr hrel
    obtain ⟨i, r, S, rfl, hiR, HR, hPr, hKr, HF⟩ := hrel
    have hadR : IntKind.i64.wrap ((R : Int) + 2) = ((R + 2 : Nat) : Int) := by rw [IntKind.wrap_i64]; omega
    by_cases hlt : i < R + 2
    · have hq1 : decide ((i : Int) < ((R + 2 : Nat) : Int)) = true := by simp; omega
      obtain ⟨av, cv, rfl⟩ := hPr.form
      obtain ⟨x8, hx8⟩ : ∃ x8, x8 = i % 256 := ⟨_, rfl⟩
      have HX8 : Hid (IntKind.u8.wrap ((i : Nat) : Int) = ((x8 : Nat) : Int)) := by show _ = _; rw [hx8]; simp [IntKind.wrap, IntKind.bits, IntKind.signed]
      have HOWR : Hid (∀ x ∈ [((x8 : Nat) : Int)] ++ bs, 0 ≤ x ∧ x ≤ 255) := by rw [hx8]; exact ownB_rng hB.rng i
      have HOL : Hid (([((x8 : Nat) : Int)] ++ bs).length = nb + 1) := by show _ = _; rw [HNB.out]; simp
      have HOL2 : Hid (nb + 1 = (ownB bs i).length) := by show _ = _; simp [HNB.out, ownB]
      have HOL3 : Hid ((ownB bs i).length ≤ 256) := by show _ ≤ _; rw [← HOL2.out]; omega
      have HOE : Hid ([((x8 : Nat) : Int)] ++ bs = ownB bs i) := by show _ = _; rw [hx8]; rfl
      have hBr := HB.out.stays (w' := wr) (below_to hKr.bel)
      have hwr8 : IntKind.u8.wrap ((i : Nat) : Int) = ((x8 : Nat) : Int) := HX8.out
      have HBL : Hid ((blkB bs i).length = 256) := blkB_len (by have := HNB.out; omega) i
      have HSL : Hid (S.ws.length ≤ 800000) := by show _ ≤ _; have := HF.out.len; have := HR.out; omega
      have HAL : Hid (∀ w : World, (Instr.alloc 42 true (.tuple #[])).run Tryd.prog w = .ok (.pointer (some ⟨w.heap.size, 0, none⟩)) (w.alloc (.cells Pt.zero.vs.toArray 42))) := alloc_ptr0
      have hzl : Pt.zero.vs.length = 35 := Pt.vs_len Pt.zero_ok
      obtain ⟨zs, hzs⟩ : ∃ zs, zs = Pt.zero.vs := ⟨_, rfl⟩
      have HZS : Hid (zs = Pt.zero.vs) := hzs
      rw [← hzs] at HAL hzl
      clear hx8 hzs
      by_cases hiR2 : i < R
      · have hri : r = i := by have := HR.out; omega
        subst hri
        have hcm : c * (r + 1) ≤ c * R := Nat.mul_le_mul_left c hiR2
        have hcm2 : c * (r + 1) = c * r + c := Nat.mul_succ c r
        obtain ⟨S', hput, hF'⟩ := full_put HF.out HC.out (by have := HNB.out; omega) hB.rng (by have := HR1.out.1; omega)
        have HPUT : Hid (putK S (lab N (4 + c * r)) 7 (blkB bs r) (c : Int) = ((S', lab N (4 + c * (r + 1))), ptrB bs c r, 0)) := hput
        have HF2 : Hid (FullAt N c bs (r + 1) S') := hF'
        have hpk := ptrB_ok (b := bs) (i := r) HC.out (by omega)
        obtain ⟨P, hPe⟩ : ∃ P, P = ptrB bs c r := ⟨_, rfl⟩
        have HPE : Hid (P = ptrB bs c r) := hPe
        rw [← hPe] at hpk
        have hvl : P.vs.length = 35 := Pt.vs_len hpk
        have hvo : ∀ v ∈ P.vs, v.oneCell' = true := Pt.vs_one P
        have HONE := run_onep P hpk
        obtain ⟨vs, hvs⟩ : ∃ vs, vs = P.vs := ⟨_, rfl⟩
        have HVS : Hid (vs = P.vs) := hvs
        rw [← hvs] at hvl hvo HONE
        have hq2 : decide ((r : Int) < (R : Int)) = true := by simp; omega
        obtain ⟨L, hLe⟩ : ∃ L, L = ((List.range r).map (ptrB bs c)).length := ⟨_, rfl⟩
        have HLE : Hid (L = ((List.range r).map (ptrB bs c)).length) := hLe
        have hPr' : Plist w.heap.size wr (.slice av L cv) ((List.range r).map (ptrB bs c)) := by rw [hLe]; exact hPr
        have hKr' : BS w wr (rowOf (.slice av L cv)) k p g S (lab N (4 + c * r)) 7 := by rw [hLe]; exact hKr
        rw [← hLe]
        clear hput hF' hPe hvs hcm hcm2 hiR hLe hPr hKr HF HR
        go_wp2_with (first
          | ((with_reducible show wpList _ _ _ (Oper.mk _ (Op.call { callee := _, args := #[Operand.tmp 55, Operand.tmp 56], argTypes := _ }) _ _ _ _ :: _) _ _); go_must (refine wpList_append_bytes (w0 := wr) (by rfl) (.tmp 55) (.tmp 56) 43 (by rfl) wr.heap.size 5 i0 Tryd.underlying43 hi0 hz0 hz1 hz2 _ [((x8 : Nat) : Int)] (by rfl) (own_row _ wr) ba nb bc bs (by rfl) HNB.out (hBr.stays ((Below.refl _ _).alloc (Nat.le_refl _) _)) (by simp; have := HNB.out; omega) (by simp) ((Below.refl _ _).alloc (Nat.le_refl _) _) ?_); intro v1 w1 hown1 hb1
             obtain ⟨a1, c1, rfl, hB1⟩ := Bs.of_owns hown1 HOWR.out
             have hl1 : ([((x8 : Nat) : Int)] ++ bs).length = nb + 1 := HOL.out
             rw [hl1]
             rw [HOE.out] at hB1
             have hw1 := whole_later a1 c1 (nb + 1) (ownB bs r) hB1 HOL2.out HOL3.out w1 (Below.refl _ _))
          | (go_at_call 22; go_must (refine hw1.mono ?_); rintro e w2 ⟨a2, c2, rfl, hN2, hb2⟩
             have hb12 := below_then hb1 hb2
             have hK2 := hKr'.new (N := fun j => rowOf (.slice av L cv) j ∨ (wr.heap.size ≤ j ∧ j < w2.heap.size)) hb12 (fun j hj => hj)
             have hN2' : NewB wr.heap.size w2 a2 c2 (blkB bs r) := hN2.mono hb1.size
             have hp2 := bs_put hK2 HV.out HSL.out a2 c2 (blkB bs r) hN2'.1 (fun h0 x hx => .inl (.inr ⟨hN2'.2 x hx, hN2'.1.lt h0 hx⟩)) (c : Int)
             rw [HPUT.out, HBL.out] at hp2
             simp only [← HPE.out, ← HVS.out] at hp2)
          | (go_at_call 21; go_must (refine hp2.mono ?_); rintro e w4 ⟨rfl, hK4, hy4⟩
             have hP4 := (hPr'.stays hb12).stay hy4 (fun j hj => .inl hj)
             have hK4' := hK4.less (N := rowOf (.slice av L cv)) (fun j hj => .inl hj))
          | ((with_reducible show wpList _ _ _ (Oper.mk _ (Op.alloc 42) _ _ _ _ :: _) _ _); refine wpList_alloc0 (by rfl) 42 (by rfl) (some 14) (by rfl) _ HAL.out ?_; intro w5 hR5 hb5 hs5
             have hP5 := hP4.stays hb5
             have hnr : ¬ rowOf (.slice av L cv) w4.heap.size := fun hj => by have := (hP4.lt hj).2; omega
             have hK5 := hK4'.new (N := fun j => rowOf (.slice av L cv) j ∨ j = w4.heap.size) hb5 (fun j hj => hj.imp id (fun e => by rw [e]; exact ⟨Nat.le_refl _, by omega⟩))
             clear hs5)
          | ((with_reducible show wpList _ _ _ (Oper.mk _ (Op.store 42 (.tmp 14) _) _ _ _ _ :: _) _ _); refine wpList_store_blk (by rfl) (.tmp 14) (.tmp 64) 42 (by rfl) _ 0 35 (by rfl) vs (by rfl) size_ptr hR5 hvl (by omega) hvo _ (whole_store hzl) ?_
             intro w6 hR6 hbut6 hs6
             have hK6 := hK5.set hbut6 (.inr rfl) hK4.bel.size
             have hP6 := hP5.but hbut6 hnr
             clear hs6)
          | ((with_reducible show wpList _ _ _ (Oper.mk _ (Op.load 42 _) _ _ _ _ :: _) _ _); refine wpList_load_blk (by rfl) (.tmp 14) 42 (by rfl) _ 0 35 (by rfl) agg_ptr size_ptr hR6 _ (whole_load hvl) hvl ?_)
          | ((with_reducible show wpList _ _ _ (Oper.mk _ (Op.buildSlice 38 1 _) _ _ _ _ :: _) _ _); refine wpList_onep (by rfl) (.tmp 83) (by rfl) (some 84) (by rfl) vs (by rfl) HONE ?_; intro w7 b7 hb7e hR7 hb7 hs7
             have hP7 := hP6.stays hb7
             rw [HVS.out] at hR7
             have hK7 := hK6.stays hb7)
          | ((with_reducible show wpList _ _ _ (Oper.mk _ (Op.call { callee := _, args := #[Operand.tmp 82, Operand.tmp 84], argTypes := _ }) _ _ _ _ :: _) _ _); go_must (refine wpList_append_ptr (by rfl) (.tmp 82) (.tmp 84) (by rfl) w.heap.size (.slice av L cv) _ (by rfl) hP7 b7 P hpk (by rfl) hR7 (by simp; omega) hK7.bel.size ?_); intro v8 w8 hP8 hg8 hr8
             have hK8 := hK7.grown hg8 (fun j hj => ⟨.inl hj, (hP7.lt hj).1⟩) (N := rowOf v8) (fun j hj => (hr8 j hj).imp (fun e => .inl e) id)))
        go_roundw
        case rel =>
          refine ⟨r + 1, r + 1, S', by go_num, by omega, (by show _ = _; omega), ?_, hK8, HF2⟩
          rw [List.range_succ, List.map_append]
          rw [HPE.out] at hP8
          exact hP8
        case measure => simp [intOf]; omega
      · have hrR : r = R := by have := HR.out; omega
        subst hrR
        have HPUT : Hid (putK S (lab N (4 + c * r)) 7 (blkB bs i) (c : Int) = ((S, lab N (4 + c * r)), Pt.zero, 7)) := full_none HF.out HC.out (by have := HNB.out; omega) HR1.out.1 HR1.out.2
        have hvo : ∀ v ∈ zs, v.oneCell' = true := by rw [HZS.out]; exact Pt.vs_one _
        have hq2 : decide ((i : Int) < (r : Int)) = false := by simp; omega
        obtain ⟨L, hLe⟩ : ∃ L, L = ((List.range r).map (ptrB bs c)).length := ⟨_, rfl⟩
        have hPr' : Plist w.heap.size wr (.slice av L cv) ((List.range r).map (ptrB bs c)) := by rw [hLe]; exact hPr
        have hKr' : BS w wr (rowOf (.slice av L cv)) k p g S (lab N (4 + c * r)) 7 := by rw [hLe]; exact hKr
        rw [← hLe]
        clear hiR hLe hPr hKr HR
        go_wp2_with (first
          | ((with_reducible show wpList _ _ _ (Oper.mk _ (Op.call { callee := _, args := #[Operand.tmp 55, Operand.tmp 56], argTypes := _ }) _ _ _ _ :: _) _ _); go_must (refine wpList_append_bytes (w0 := wr) (by rfl) (.tmp 55) (.tmp 56) 43 (by rfl) wr.heap.size 5 i0 Tryd.underlying43 hi0 hz0 hz1 hz2 _ [((x8 : Nat) : Int)] (by rfl) (own_row _ wr) ba nb bc bs (by rfl) HNB.out (hBr.stays ((Below.refl _ _).alloc (Nat.le_refl _) _)) (by simp; have := HNB.out; omega) (by simp) ((Below.refl _ _).alloc (Nat.le_refl _) _) ?_); intro v1 w1 hown1 hb1
             obtain ⟨a1, c1, rfl, hB1⟩ := Bs.of_owns hown1 HOWR.out
             have hl1 : ([((x8 : Nat) : Int)] ++ bs).length = nb + 1 := HOL.out
             rw [hl1]
             rw [HOE.out] at hB1
             have hw1 := whole_later a1 c1 (nb + 1) (ownB bs i) hB1 HOL2.out HOL3.out w1 (Below.refl _ _))
          | (go_at_call 22; go_must (refine hw1.mono ?_); rintro e w2 ⟨a2, c2, rfl, hN2, hb2⟩
             have hb12 := below_then hb1 hb2
             have hK2 := hKr'.new (N := fun j => rowOf (.slice av L cv) j ∨ (wr.heap.size ≤ j ∧ j < w2.heap.size)) hb12 (fun j hj => hj)
             have hN2' : NewB wr.heap.size w2 a2 c2 (blkB bs i) := hN2.mono hb1.size
             have hp2 := bs_put hK2 HV.out HSL.out a2 c2 (blkB bs i) hN2'.1 (fun h0 x hx => .inl (.inr ⟨hN2'.2 x hx, hN2'.1.lt h0 hx⟩)) (c : Int)
             rw [HPUT.out, HBL.out] at hp2
             simp only [← HZS.out] at hp2)
          | (go_at_call 21; go_must (refine hp2.mono ?_); rintro e w4 ⟨rfl, hK4, hy4⟩
             have hP4 := (hPr'.stays hb12).stay hy4 (fun j hj => .inl hj)
             have hK4' := hK4.less (N := rowOf (.slice av L cv)) (fun j hj => .inl hj))
          | ((with_reducible show wpList _ _ _ (Oper.mk _ (Op.alloc 42) _ _ _ _ :: _) _ _); refine wpList_alloc0 (by rfl) 42 (by rfl) (some 14) (by rfl) _ HAL.out ?_; intro w5 hR5 hb5 hs5
             have hP5 := hP4.stays hb5
             have hnr : ¬ rowOf (.slice av L cv) w4.heap.size := fun hj => by have := (hP4.lt hj).2; omega
             have hK5 := hK4'.new (N := fun j => rowOf (.slice av L cv) j ∨ j = w4.heap.size) hb5 (fun j hj => hj.imp id (fun e => by rw [e]; exact ⟨Nat.le_refl _, by omega⟩))
             clear hs5)
          | ((with_reducible show wpList _ _ _ (Oper.mk _ (Op.store 42 (.tmp 14) _) _ _ _ _ :: _) _ _); refine wpList_store_blk (by rfl) (.tmp 14) (.tmp 64) 42 (by rfl) _ 0 35 (by rfl) zs (by rfl) size_ptr hR5 hzl (by omega) hvo _ (whole_store hzl) ?_
             intro w6 hR6 hbut6 hs6
             have hK6 := hK5.set hbut6 (.inr rfl) hK4.bel.size
             have hP6 := hP5.but hbut6 hnr
             clear hs6))
        go_roundw
        case rel => exact ⟨i + 1, r, S, by go_num, by omega, (by show _ = _; omega), hP6, hK6.less (fun j hj => .inl hj), HF⟩
        case measure => simp [intOf]; omega
    · have hiE : R + 2 = i := by omega
      have hq1 : decide ((i : Int) < ((R + 2 : Nat) : Int)) = false := by simp; omega
      have hrR : r = R := by have := HR.out; omega
      subst hrR
      obtain ⟨av, cv, rfl⟩ := hPr.form
      obtain ⟨L, hLe⟩ : ∃ L, L = ((List.range r).map (ptrB bs c)).length := ⟨_, rfl⟩
      have hLr : L = r := by rw [hLe]; simp
      have hPr' : Plist w.heap.size wr (.slice av L cv) ((List.range r).map (ptrB bs c)) := by rw [hLe]; exact hPr
      have hKr' : BS w wr (rowOf (.slice av L cv)) k p g S (lab N (4 + c * r)) 7 := by rw [hLe]; exact hKr
      rw [← hLe]
      clear hiR HR hPr hKr hLe hlt
      subst hLr
      go_wp2
      have hwK : BS w wr (rowOf (.slice av L cv)) k p g S (lab N (4 + c * L)) 7 ∧ Plist w.heap.size wr (.slice av L cv) ((List.range L).map (ptrB bs c)) := ⟨hKr', hPr'⟩
      clear hKr' hPr'
      go_loopw [16] (fun x wq => ∃ (q : World) (j : Nat), q = wq ∧ x = .int .i64 j ∧ j ≤ L ∧ BS w wq (rowOf (.slice av L cv)) k p g S (lab N (4 + c * L)) 7 ∧ Plist w.heap.size wq (.slice av L cv) ((List.range L).map (ptrB bs c))) (fun x _ => L - (intOf x).toNat)
      case atStart => exact ⟨_, 0, rfl, rfl, by omega, hwK.1, hwK.2⟩
      case round =>
        clear hwK
        rename_i hrel
        obtain ⟨wq, j, rfl, rfl, hjL, hKq, hPq⟩ := hrel
        by_cases hlt : j < L
        · have hq1 : decide ((j : Int) < (L : Int)) = true := by simp; omega
          obtain ⟨b, cb, hve, hrb, hcell, hpok⟩ := hPq.at (i := j) (by simp; omega)
          simp only [List.length_map, List.length_range] at hve
          have hcv : cb = cv ∧ av = some ⟨b, 0, none⟩ := by simp only [Value.slice.injEq] at hve; exact ⟨hve.2.2.symm, hve.1⟩
          obtain ⟨rfl, rfl⟩ := hcv
          have hPj : ((List.range L).map (ptrB bs c)).getD j default = ptrB bs c j := by simp [List.getD, hlt]
          rw [hPj] at hcell hpok
          have hix : ∀ u : World, (Instr.indexAt 38 (.slice (some ⟨b, 0, none⟩) L cb) (.int .i64 (j : Int))).run Tryd.prog u = .ok (.pointer (some ⟨b, j * 35, none⟩)) u := fun u => index_ptrs b L cb j hlt u
          have HRD : Hid (readK S (ptrB bs c j) = (blkB bs j, 0)) := full_read HF.out HC.out hlt HR1.out.1
          obtain ⟨P, hPe⟩ : ∃ P, P = ptrB bs c j := ⟨_, rfl⟩
          have HPE : Hid (P = ptrB bs c j) := hPe
          rw [← hPe] at hcell hpok
          have hvl : P.vs.length = 35 := Pt.vs_len hpok
          obtain ⟨vs, hvs⟩ : ∃ vs, vs = P.vs := ⟨_, rfl⟩
          have HVS : Hid (vs = P.vs) := hvs
          rw [← hvs] at hcell hvl
          obtain ⟨x8, hx8⟩ : ∃ x8, x8 = j % 256 := ⟨_, rfl⟩
          have hwr8 : IntKind.u8.wrap ((j : Nat) : Int) = ((x8 : Nat) : Int) := by rw [hx8]; simp [IntKind.wrap, IntKind.bits, IntKind.signed]
          have HOWR : Hid (∀ x ∈ [((x8 : Nat) : Int)] ++ bs, 0 ≤ x ∧ x ≤ 255) := by rw [hx8]; exact ownB_rng hB.rng j
          have HOL : Hid (([((x8 : Nat) : Int)] ++ bs).length = nb + 1) := by show _ = _; rw [HNB.out]; simp
          have HOL2 : Hid (nb + 1 = (ownB bs j).length) := by show _ = _; simp [HNB.out, ownB]
          have HOL3 : Hid ((ownB bs j).length ≤ 256) := by show _ ≤ _; rw [← HOL2.out]; omega
          have HOE : Hid ([((x8 : Nat) : Int)] ++ bs = ownB bs j) := by show _ = _; rw [hx8]; rfl
          have HBL : Hid ((blkB bs j).length = 256 ∧ ∀ y ∈ blkB bs j, 0 ≤ y ∧ y ≤ 255) := ⟨blkB_len (by have := HNB.out; omega) j, blkB_rng hB.rng j⟩
          have HSL : Hid (S.ws.length ≤ 800000) := by show _ ≤ _; have := HF.out.len; omega
          have hBr := HB.out.stays (w' := wq) (below_to hKq.bel)
          obtain ⟨BX, hBX⟩ : ∃ BX, BX = blkB bs j := ⟨_, rfl⟩
          have HBX : Hid (BX = blkB bs j) := hBX
          clear hx8 hPe hvs hPj hve hBX
          go_wp2_with (first
            | ((with_reducible show wpList _ _ _ (Oper.mk _ (Op.call { callee := _, args := #[Operand.tmp 94, Operand.tmp 95], argTypes := _ }) _ _ _ _ :: _) _ _); go_must (refine wpList_append_bytes (w0 := wq) (by rfl) (.tmp 94) (.tmp 95) 43 (by rfl) wq.heap.size 5 i0 Tryd.underlying43 hi0 hz0 hz1 hz2 _ [((x8 : Nat) : Int)] (by rfl) (own_row _ wq) ba nb bc bs (by rfl) HNB.out (hBr.stays ((Below.refl _ _).alloc (Nat.le_refl _) _)) (by simp; have := HNB.out; omega) (by simp) ((Below.refl _ _).alloc (Nat.le_refl _) _) ?_); intro v1 w1 hown1 hb1
               obtain ⟨a1, c1, rfl, hB1⟩ := Bs.of_owns hown1 HOWR.out
               have hl1 : ([((x8 : Nat) : Int)] ++ bs).length = nb + 1 := HOL.out
               rw [hl1]
               rw [HOE.out] at hB1
               have hw1 := whole_later a1 c1 (nb + 1) (ownB bs j) hB1 HOL2.out HOL3.out w1 (Below.refl _ _)
               have hKa := hKq.stays hb1
               have hca : ∀ m, m < 35 → w1.cell? ⟨b, j * 35 + m, none⟩ = vs[m]? := fun m hm => (hb1.cell (p := ⟨b, j * 35 + m, none⟩) (hPq.lt hrb).2).trans (hcell m hm)
               have hrd := bs_read hKa HV.out HSL.out P hpok
               rw [HPE.out, HRD.out] at hrd
               simp only [← HPE.out, ← HVS.out, HBL.out.1] at hrd)
            | ((with_reducible show wpList _ _ _ (Oper.mk _ (Op.load 42 _) _ _ _ _ :: _) _ _); refine wpList_load_cells (by rfl) (.tmp 101) 42 (by rfl) b (j * 35) 35 (by rfl) agg_ptr size_ptr vs hca hvl ?_)
            | (go_at_call 19; go_must (refine hrd.mono ?_); rintro e wq2 ⟨a5, c5, rfl, hN5, hb5⟩))
          have hKq2 := hKa.stays hb5
          have hPq2 := (hPq.stays hb1).stays hb5
          have hwX := fun u (hu : Below wq2.heap.size wq2 u) => calls_nuB (xs := BX) (base := wq2.heap.size) (by rw [HBX.out]; exact whole_later a1 c1 (nb + 1) (ownB bs j) hB1 HOL2.out HOL3.out u (below_then hb5 hu)) hu.size
          obtain ⟨SX, hSX⟩ : ∃ SX, SX = strOfNums BX := ⟨_, rfl⟩
          have hcx : ∀ u, Below wq2.heap.size wq2 u → (convert 43 9 (.slice a5 256 c5)).run Tryd.prog u = .ok (.string SX) u := fun u hu => by
            rw [hSX, HBX.out]
            exact (hN5.1.stays hu).conv (P := Tryd.prog) 256 HBL.out.1.symm 43 5 Tryd.underlying43 Tryd.underlying5 9 Tryd.underlying9
          have HCY : Hid (∀ (u : World) aa cc, nuB wq2.heap.size BX (.slice aa 256 cc) u → (convert 43 9 (.slice aa 256 cc)).run Tryd.prog u = .ok (.string SX) u) := fun u aa cc hu => by
            obtain ⟨a9, c9, he9, hN9⟩ := hu
            cases he9
            rw [hSX]
            exact hN9.1.conv (P := Tryd.prog) 256 (by rw [HBX.out]; exact HBL.out.1.symm) 43 5 Tryd.underlying43 Tryd.underlying5 9 Tryd.underlying9
          have hss : (SX.toList == SX.toList) = true := by simp
          clear hSX hrd hcell hca hKa hKq hPq hb1 hown1 hw1 hb5 hN5 hBr
          refine UpT.wp_region_tail 9 (UpT.tell [(6, nuB wq2.heap.size BX)]) (fun _ => false) (by kernel_rfl) (by kernel_rfl) (UpT.tell_steady _ (by
            intro p hp
            simp only [List.mem_cons, List.not_mem_nil, or_false] at hp
            rcases hp with rfl <;> first | exact isV_steady _ | exact slB_steady _ _ | exact nuB_steady _ _)) ?_
          simp only [List.take_succ_cons, List.take_zero]
          apply UpT.wpUp_pure
          case hw => rfl
          case hψ => rfl
          case hv => (intro wz hp; clear hp; go_simp; try (with_reducible rfl))
          simp only [Act.put, List.setIfInBounds_toArray, List.set_cons_zero, List.set_cons_succ]
          apply UpT.wpUp_pure
          case hw => rfl
          case hψ => rfl
          case hv => (intro wz hp; clear hp; go_simp; try (with_reducible rfl))
          simp only [Act.put, List.setIfInBounds_toArray, List.set_cons_zero, List.set_cons_succ]
          apply UpT.wpUp_pure
          case hw => rfl
          case hψ => rfl
          case hv => (intro wz hp; clear hp; go_simp; try (with_reducible rfl))
          simp only [Act.put, List.setIfInBounds_toArray, List.set_cons_zero, List.set_cons_succ]
          apply UpT.wpUp_pure
          case hw => rfl
          case hψ => rfl
          case hv => (intro wz hp; clear hp; go_simp; try (with_reducible rfl))
          simp only [Act.put, List.setIfInBounds_toArray, List.set_cons_zero, List.set_cons_succ]
          apply UpT.wpUp_pure
          case hw => rfl
          case hψ => rfl
          case hv => (intro wz hp; have hcc := hcx wz hp.1; clear hp; go_simp; try (with_reducible rfl))
          simp only [Act.put, List.setIfInBounds_toArray, List.set_cons_zero, List.set_cons_succ]
          apply UpT.wpUp_pure
          case hw => rfl
          case hψ => rfl
          case hv => (intro wz hp; clear hp; go_simp; try (with_reducible rfl))
          simp only [Act.put, List.setIfInBounds_toArray, List.set_cons_zero, List.set_cons_succ]
          refine UpT.wpUp_call _ 22 #[.slice a1 (nb + 1) c1] (by rfl) (by rfl) (by rfl) (fun wz => by go_simp) (fun wz hp => hwX wz hp.1) ?_
          rintro v ⟨u, _, hf⟩
          obtain ⟨aa, cc, rfl, _⟩ := hf.of 6 v _ rfl rfl
          clear hf
          simp only [Act.put, List.setIfInBounds_toArray, List.set_cons_zero, List.set_cons_succ]
          apply UpT.wpUp_pure
          case hw => rfl
          case hψ => rfl
          case hv => (intro wz hp; have hcc := HCY.out wz _ _ (hp.2 6 _ _ (by kernel_rfl) rfl rfl); clear hp; go_simp; try (with_reducible rfl))
          simp only [Act.put, List.setIfInBounds_toArray, List.set_cons_zero, List.set_cons_succ]
          apply UpT.wpUp_pure
          case hw => rfl
          case hψ => rfl
          case hv => (intro wz hp; clear hp; go_simp; try (with_reducible rfl))
          simp only [Act.put, List.setIfInBounds_toArray, List.set_cons_zero, List.set_cons_succ]
          refine UpT.wpUp_end ?_
          intro wq3 hb6 hf
          clear hf
          simp only [List.drop_succ_cons, List.drop_zero]
          go_wp2
          go_roundw
          case rel => exact ⟨_, j + 1, rfl, by go_num, by omega, hKq2.stays hb6, hPq2.stays hb6⟩
          case measure => simp [intOf]; omega
        · have hjE : L = j := by omega
          subst hjE
          have hq1 : decide ((L : Int) < (L : Int)) = false := by simp
          go_wp2_with (first
            | (go_at_call 18; go_must (refine (hal _ (hKq.vars HV.out)).mono ?_); rintro e w9 ⟨rfl, hb9⟩))
          go_ret
          exact ⟨rfl, below_then hKq.bel hb9⟩

theorem full_walk (ba : Option Addr) (bc : Nat) (bs : List Int) (cp n : Int) (w : World) (hV : Vars w) (hB : Bs w ba bc bs) :
    Calls Tryd.prog 6 #[.slice ba bs.length bc, .int .i64 cp, .int .i64 n] w fun e w' => e = .returned (.bool true) ∧ Below w.heap.size w w' := by
  by_cases h0 : bs.length ≤ 200
  · by_cases h1 : cp < 1
    · exact full_bad1 ba bc bs cp n w hV hB h0 h1
    · by_cases h2 : 2 < cp
      · exact full_bad2 ba bc bs cp n w hV hB h0 h2
      · obtain ⟨c, rfl⟩ : ∃ c : Nat, cp = (c : Int) := ⟨cp.toNat, by omega⟩
        exact full_main ba bc bs c n w hV hB h0 (by omega)
  · exact full_bad0 ba bc bs cp n w hV hB (by omega)

end Go.Proofs.YtjlmldhlmnafnaaDoor
