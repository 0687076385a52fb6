/-
  The walk of the law BankHealed.
-/
import Derived.Test.YtjlmldhlmnafnaaDoorG33
import Derived.Test.YtjlmldhlmnafnaaDoorG32
import Derived.Deep.AppendLies
namespace Go.Proofs.YtjlmldhlmnafnaaDoor
set_option linter.unusedSimpArgs false
set_option linter.unusedVariables false
set_option maxRecDepth 100000
open Go.RowKit

set_option maxHeartbeats 80000000 in
theorem healed_main (ba : Option Addr) (bc : Nat) (bs : List Int) (m0a : Option Addr) (m0c : Nat) (m0 : List Int) (m1a : Option Addr) (m1c : Nat) (m1 : List Int) (oa : Option Addr) (oc : Nat) (os : List Int) (w : World) (hV : Vars w) (hB : Bs w ba bc bs) (hM0 : Bs w m0a m0c m0) (hM1 : Bs w m1a m1c m1) (hO : Bs w oa oc os) (h1 : bs.length ≤ 256) (h2 : os.length ≤ 256) (h3 : m0.length ≤ 256) (h4 : m1.length ≤ 256) :
    Calls Tryd.prog 5 #[.slice ba bs.length bc, .agg #[.slice m0a m0.length m0c, .slice m1a m1.length m1c], .slice oa os.length oc] w fun e w' => e = .returned (.bool true) ∧ Below w.heap.size w w' := by
  have hal := fun u (hu : Vars u) => balive_run u hu
  have hBl := wholeL_len h1
  have hBr := wholeL_rng hB.rng (256 - bs.length)
  have hOl := wholeL_len h2
  have hOr := wholeL_rng hO.rng (256 - os.length)
  obtain ⟨S1, S2, S3, S4, S5, S6, S7, l1, x, y, n, e, n6, n7, f, HH⟩ := healed_pure m0 m1 (wholeL bs) (wholeL os) hBl hBr hOl hOr
  have HHD : Hid (Healed _ _ _ _ _ _ _ _ _ _ _ _ _ _ _ _ _ _ _ _ _) := HH
  have hwb := whole_later ba bc bs.length bs hB rfl h1
  have hwo := whole_later oa oc os.length os hO rfl h2
  have hwb2 := hwb
  have him0 : ∀ (g : Nat) (u : World), (Instr.indexAt 66 (.pointer (some ⟨g, 0, none⟩)) (.int .i64 0)).run Tryd.prog u = .ok (.pointer (some ⟨g, 0, none⟩)) u := fun g u => index_masks g 0 (by omega) u
  have him1 : ∀ (g : Nat) (u : World), (Instr.indexAt 66 (.pointer (some ⟨g, 0, none⟩)) (.int .i64 1)).run Tryd.prog u = .ok (.pointer (some ⟨g, 1, none⟩)) u := fun g u => index_masks g 1 (by omega) u
  obtain ⟨nb, hnb⟩ : ∃ n, n = bs.length := ⟨_, rfl⟩
  obtain ⟨n0, hn0⟩ : ∃ n, n = m0.length := ⟨_, rfl⟩
  obtain ⟨n1, hn1⟩ : ∃ n, n = m1.length := ⟨_, rfl⟩
  obtain ⟨no, hno⟩ : ∃ n, n = os.length := ⟨_, rfl⟩
  rw [← hnb] at hwb hwb2 h1
  rw [← hno] at hwo h2
  rw [← hn0] at h3
  rw [← hn1] at h4
  have hM0' := hM0
  have hM1' := hM1
  have HN01 : Hid (n0 = m0.length ∧ n1 = m1.length) := ⟨hn0, hn1⟩
  rw [← hnb, ← hn0, ← hn1, ← hno]
  obtain ⟨mv, hmv⟩ : ∃ mv, mv = [Value.slice m0a n0 m0c, .slice m1a n1 m1c] := ⟨_, rfl⟩
  have HMV : Hid (mv[0]? = some (Value.slice m0a n0 m0c) ∧ mv[1]? = some (Value.slice m1a n1 m1c)) := by rw [hmv]; exact ⟨rfl, rfl⟩
  have hag : (#[Value.slice m0a n0 m0c, .slice m1a n1 m1c] : Array Value) = mv.toArray := by rw [hmv]
  rw [hag]
  have hqnb : decide ((256 : Int) < (nb : Int)) = false := by simp; omega
  have hqno : decide ((256 : Int) < (no : Int)) = false := by simp; omega
  have hqn0 : decide ((256 : Int) < (n0 : Int)) = false := by simp; omega
  have hqn1 : decide ((256 : Int) < (n1 : Int)) = false := by simp; omega
  have hpo : (pt45 (shaOf (wholeL bs))).ok := pt45_ok
  obtain ⟨P, hP⟩ : ∃ P, P = pt45 (shaOf (wholeL bs)) := ⟨_, rfl⟩
  have HX : Hid (P.vs[33]? = some (.int .u32 4) ∧ P.vs[34]? = some (.int .u32 5)) := by rw [hP]; exact ⟨Pt.vs_x hpo, Pt.vs_y hpo⟩
  have HPH : Hid (P.h = shaOf (wholeL bs)) := by show _ = _; rw [hP]; rfl
  rw [← hP] at hpo
  have HP : Hid (P = pt45 (shaOf (wholeL bs))) := hP
  obtain ⟨B, hBe⟩ : ∃ B, B = wholeL bs := ⟨_, rfl⟩
  obtain ⟨O, hOe⟩ : ∃ O, O = wholeL os := ⟨_, rfl⟩
  rw [← hBe] at hBl hwb hwb2 HP HPH
  rw [← hOe] at hOl hwo
  have HHE : Hid (Healed (DS.new 32) (lab 32 4) m0 m1 B O S1 S2 S3 S4 S5 S6 S7 l1 x y n e n6 n7 f) := by rw [hBe, hOe]; exact HH
  have HPAR : Hid (P.h.map (Value.int .u8) = (P.vs.drop 0).take 32) := Pt.vs_hash hpo
  have HAL : Hid (∀ w : World, (Instr.alloc 42 true (.tuple #[])).run Tryd.prog w = .ok (.pointer (some ⟨w.heap.size, 0, none⟩)) (w.alloc (.cells Pt.zero.vs.toArray 42))) := alloc_ptr0
  have HAB : Hid (∀ w : World, (Instr.alloc 46 true (.tuple #[])).run Tryd.prog w = .ok (.pointer (some ⟨w.heap.size, 0, none⟩)) (w.alloc (.cells (twoB false false).toArray 46))) := alloc_bools
  have hzl : Pt.zero.vs.length = 35 := Pt.vs_len Pt.zero_ok
  have hvl : P.vs.length = 35 := Pt.vs_len hpo
  have hvo : ∀ v ∈ P.vs, v.oneCell' = true := Pt.vs_one P
  have hi0 := index_at0
  have hi1 := index_at1
  have hib0 : ∀ (g' : Nat) (u : World), (Instr.indexAt 46 (.pointer (some ⟨g', 0, none⟩)) (.int .i64 0)).run Tryd.prog u = .ok (.pointer (some ⟨g', 0, none⟩)) u := fun g' u => index_bools g' 0 (by omega) u
  have hib1 : ∀ (g' : Nat) (u : World), (Instr.indexAt 46 (.pointer (some ⟨g', 0, none⟩)) (.int .i64 1)).run Tryd.prog u = .ok (.pointer (some ⟨g', 1, none⟩)) u := fun g' u => index_bools g' 1 (by omega) u
  have hbu := build_tt
  have hett := equal_tt
  have hsO := shaOf_length O
  have hsB := shaOf_length B
  have heq0 : ∀ u, (Op.equalIn 10000 39 (.agg ((shaOf O).map (Value.int .u8)).toArray) (.agg (P.h.map (Value.int .u8)).toArray)).run Tryd.prog u = .ok (shaOf O == P.h) u := fun u => equal_ints Tryd.underlying39 Tryd.underlying5 sizes5 9998 _ _ hsO hpo.len u
  have HTL : Hid ((f == 0) = (shaOf O == P.h)) := by show _ = _; rw [HPH.out]; exact HHE.out.told
  have hsmO : ∀ u a c, Bs u a c O → Vars u → Calls Tryd.prog 20 #[.slice a 256 c] u fun e w' => e = .returned (.agg ((shaOf O).map (Value.int .u8)).toArray) ∧ Below u.heap.size u w' := fun u a c hu hv => by
    have := sum_run a c O u hu hv (by omega)
    rw [hOl] at this
    exact this
  obtain ⟨zs, hzs⟩ : ∃ zs, zs = Pt.zero.vs := ⟨_, rfl⟩
  obtain ⟨ss, hss⟩ : ∃ ss, ss = (shaOf O).map (Value.int .u8) := ⟨_, rfl⟩
  obtain ⟨hs, hhs⟩ : ∃ hs, hs = P.h.map (Value.int .u8) := ⟨_, rfl⟩
  have hhl : hs.length = 32 := by rw [hhs, List.length_map, hpo.len]
  obtain ⟨qb, hqb⟩ : ∃ qb, qb = (shaOf O == P.h) := ⟨_, rfl⟩
  obtain ⟨vs, hvs⟩ : ∃ vs, vs = P.vs := ⟨_, rfl⟩
  obtain ⟨tt, htt⟩ : ∃ tt, tt = twoB true true := ⟨_, rfl⟩
  obtain ⟨ff, hff⟩ : ∃ ff, ff = twoB false false := ⟨_, rfl⟩
  obtain ⟨xy, hxy⟩ : ∃ xy, xy = twoB x y := ⟨_, rfl⟩
  have httl : tt.length = 2 := by rw [htt]; rfl
  have hffl : ff.length = 2 := by rw [hff]; rfl
  have hxyl : xy.length = 2 := by rw [hxy]; rfl
  have htto : ∀ v ∈ tt, v.oneCell' = true := by rw [htt]; exact twoB_one _ _
  have hxyo : ∀ v ∈ xy, v.oneCell' = true := by rw [hxy]; exact twoB_one _ _
  have HXY : Hid (xy[0]? = some (Value.bool x) ∧ xy[1]? = some (Value.bool y)) := by rw [hxy]; exact ⟨rfl, rfl⟩
  rw [← hzs] at HAL hzl
  rw [← hss] at heq0 hsmO
  rw [← hhs] at heq0 HPAR
  rw [← hqb] at heq0 HTL
  rw [← hvs] at HX HPAR hvl hvo
  rw [← htt] at hbu hett
  rw [← hff] at HAB
  have HEQ : Hid (∀ u, (Op.equalIn 10000 39 (.agg ss.toArray) (.agg hs.toArray)).run Tryd.prog u = .ok qb u) := heq0
  have HVS : Hid (vs = P.vs) := hvs
  have HTT : Hid (tt = twoB true true) := htt
  have HXYE : Hid (xy = twoB x y) := hxy
  have HSZ : Hid (∀ {u : World} {M k p g S l}, BS w u M k p g S l 7 → True) := fun _ => trivial
  clear HH HHD hmv hag hnb hn0 hn1 hno hP hBe hOe hzs hss hhs hqb hvs htt hff hxy heq0 hsO hsB HSZ
  go_enter Tryd.func5, Tryd.ntmps5
  go_wp2_with (first
    | ((with_reducible show wpList _ _ _ (Oper.mk _ (Op.box _ _) _ _ _ _ :: _) _ _); refine wpList_box0 (by rfl) 66 (.tmp 1) (by rfl) mv (by rfl) ?_; intro w1 hL1 hb1 hs1
       clear hs1
       have hc10 : w1.cell? ⟨w.heap.size, 0, none⟩ = some (.slice m0a n0 m0c) := (hL1.cell 0).trans HMV.out.1
       have hc11 : w1.cell? ⟨w.heap.size, 1, none⟩ = some (.slice m1a n1 m1c) := (hL1.cell 1).trans HMV.out.2
       have hfr := bs_fresh 32 w1 (by omega) (by omega))
    | (go_at_call 7; go_must (refine hfr.mono ?_); rintro e w2 ⟨k, p, g, rfl, hK2⟩
       have hb2 := hK2.bel
       have hc20 := (hb2.cell (p := ⟨w.heap.size, 0, none⟩) hL1.lt).trans hc10
       have hc21 := (hb2.cell (p := ⟨w.heap.size, 1, none⟩) hL1.lt).trans hc11)
    | (go_at_call 22; go_must (refine (hwb _ (hb1.trans (hb2.mono hb1.size))).mono ?_); rintro e w3 ⟨a3, c3, rfl, hN3, hb3⟩
       have hV1 := hV.stays hb1
       have hK3 := hK2.new (N := fun j => j < w3.heap.size ∧ w2.heap.size ≤ j) hb3 (fun j hj => .inr ⟨hj.2, hj.1⟩)
       have hx3 : ∀ x, a3 = some x → x.block < w3.heap.size ∧ w2.heap.size ≤ x.block := fun x hx => ⟨hN3.1.lt (by intro e; rw [e] at hBl; simp at hBl) hx, hN3.2 x hx⟩
       have hp3 := bs_put hK3 hV1 HHE.out.l0 a3 c3 B hN3.1 (fun _ x hx => .inl (hx3 x hx)) 2
       rw [HHE.out.put, hBl] at hp3
       simp only [← HP.out, ← HVS.out] at hp3)
    | (go_at_call 21; go_must (refine hp3.mono ?_); rintro e w4 ⟨rfl, hK4, _⟩)
    | ((with_reducible show wpList _ _ _ (Oper.mk _ (Op.alloc 42) _ _ _ _ :: _) _ _); refine wpList_alloc0 (by rfl) 42 (by rfl) (some 9) (by rfl) _ HAL.out ?_; intro w5 hR5 hb5 hs5
       have hK5 := hK4.new (N := fun j => j = w4.heap.size) hb5 (fun j hj => .inr (by rw [hj]; exact ⟨Nat.le_refl _, by omega⟩))
       clear hs5)
    | ((with_reducible show wpList _ _ _ (Oper.mk _ (Op.store 42 (.tmp 9) _) _ _ _ _ :: _) _ _); refine wpList_store_blk (by rfl) (.tmp 9) (.tmp 56) 42 (by rfl) _ 0 35 (by rfl) vs (by rfl) size_ptr hR5 hvl (by omega) hvo _ (whole_store hzl) ?_
       intro w6 hR6 hbut6 hs6
       have hK6 := hK5.set hbut6 rfl hK4.bel.size
       have hf6 := bs_flush hK6 HHE.out.l1
       rw [HHE.out.flush] at hf6
       clear hs6)
    | (go_at_call 23; go_must (refine hf6.mono ?_); rintro e w7 ⟨rfl, hK7, hy7⟩
       have hR7 := hy7.blk hR6 rfl
       have hc7 : w7.cell? ⟨w4.heap.size, 33, none⟩ = some (.int .u32 4) := (hR7.cell 33).trans HX.out.1
       have hd7 := (hK7.bel.cell (p := ⟨w.heap.size, 0, none⟩) hL1.lt).trans hc10
       have hr7 := bs_rot hK7 4 m0a m0c m0 (hM0.stays (hb1.trans (hK7.bel.mono hb1.size))) (by have := HN01.out.1; omega) (fun h0 x hx => .inr (Nat.lt_of_lt_of_le (hM0.lt h0 hx) hb1.size))
       rw [HHE.out.rot0, ← HN01.out.1] at hr7)
    | (go_at_call_of 24 (Value.int .i64 4); go_must (refine hr7.mono ?_); rintro e w8 ⟨rfl, hK8, hy8⟩
       have hR8 := hy8.blk hR7 rfl
       have hc8 : w8.cell? ⟨w4.heap.size, 34, none⟩ = some (.int .u32 5) := (hR8.cell 34).trans HX.out.2
       have hd8 := (hK8.bel.cell (p := ⟨w.heap.size, 1, none⟩) hL1.lt).trans hc11
       have hr8 := bs_rot hK8 5 m1a m1c m1 (hM1.stays (hb1.trans (hK8.bel.mono hb1.size))) (by have := HN01.out.2; omega) (fun h0 x hx => .inr (Nat.lt_of_lt_of_le (hM1.lt h0 hx) hb1.size))
       rw [HHE.out.rot1, ← HN01.out.2] at hr8)
    | (go_at_call_of 24 (Value.int .i64 5); go_must (refine hr8.mono ?_); rintro e w9 ⟨rfl, hK9, hy9⟩
       have hR9 := hy9.blk hR8 rfl
       have hl9 := bs_look hK9 hV1 HHE.out.l4 P hpo
       rw [HP.out, HHE.out.look] at hl9
       simp only [← HP.out, ← HVS.out, ← HXYE.out] at hl9)
    | ((with_reducible show wpList _ _ _ (Oper.mk _ (Op.load 42 (.tmp 9)) _ _ _ _ :: _) _ _); refine wpList_load_blk (by rfl) (.tmp 9) 42 (by rfl) _ 0 35 (by rfl) agg_ptr size_ptr hR9 _ (whole_load hvl) hvl ?_)
    | (go_at_call 25; go_must (refine hl9.mono ?_); rintro e wA ⟨rfl, hbA⟩
       have hRA := hR9.stays hbA
       have hKA := hK9.stays hbA)
    | ((with_reducible show wpList _ _ _ (Oper.mk _ (Op.alloc 46) _ _ _ _ :: _) _ _); refine wpList_alloc0 (by rfl) 46 (by rfl) (some 12) (by rfl) _ HAB.out ?_; intro wB hGB hbB hsB
       have hRB := hRA.stays hbB
       have hKB := hKA.new (N := fun j => j = w4.heap.size ∨ j = wA.heap.size) hbB (fun j hj => hj.imp id (fun e => by rw [e]; exact ⟨Nat.le_refl _, by omega⟩))
       have hne : wA.heap.size ≠ w4.heap.size := by have := hRA.lt; omega
       have HNE : Hid (wA.heap.size ≠ w4.heap.size) := hne
       clear hsB hne)
    | ((with_reducible show wpList _ _ _ (Oper.mk _ (Op.store 46 (.tmp 12) _) _ _ _ _ :: _) _ _); refine wpList_store_blk (by rfl) (.tmp 12) (.tmp 80) 46 (by rfl) _ 0 2 (by rfl) xy (by rfl) size_bools hGB hxyl (by omega) hxyo _ (whole_store hffl) ?_
       intro wC hGC hbutC hsC
       have hRC := hRB.but hbutC (Ne.symm HNE.out)
       have hKC := hKB.set hbutC (.inr rfl) hKA.bel.size
       have hhC := bs_heal hKC hV1 HHE.out.l4 P hpo
       rw [HP.out, HHE.out.heal] at hhC
       simp only [← HP.out, ← HVS.out] at hhC
       clear hsC)
    | ((with_reducible show wpList _ _ _ (Oper.mk _ (Op.load 42 (.tmp 9)) _ _ _ _ :: _) _ _); refine wpList_load_blk (by rfl) (.tmp 9) 42 (by rfl) _ 0 35 (by rfl) agg_ptr size_ptr hRC _ (whole_load hvl) hvl ?_)
    | (go_at_call 26; go_must (refine hhC.mono ?_); rintro e wD ⟨rfl, hKD, hyD⟩
       have hRD := hyD.blk hRC (.inl rfl)
       have hGD := hyD.blk hGC (.inr rfl)))
  have hg0 : wD.cell? ⟨wA.heap.size, 0, none⟩ = some (.bool x) := (hGD.cell 0).trans HXY.out.1
  have hg1 : wD.cell? ⟨wA.heap.size, 1, none⟩ = some (.bool y) := (hGD.cell 1).trans HXY.out.2
  have HR : Hid (Blk 42 wD w4.heap.size vs) := hRD
  clear hN3 hK2 hb2 hc20 hc21 hK3 hx3 hp3 hb3 hK4 hR5 hb5 hK5 hR6 hbut6 hK6 hf6 hK7 hy7 hR7 hc7 hd7 hr7 hK8 hy8 hR8 hc8 hd8 hr8 hK9 hy9 hR9 hl9 hbA hRA hKA hGB hbB hRB hKB hGC hbutC hRC hKC hhC hyD hRD hGD hfr hwb hc10 hc11
  go_loopw [16, 17] (fun c i wr => ∃ k : Nat, i = .int .i64 k ∧ wD = wr ∧ ((k = 0 ∧ c = .int .i64 0) ∨ (k = 1 ∧ c = .int .i64 ((if x then 0 else 1 : Nat) : Int)) ∨ (k = 2 ∧ c = .int .i64 ((cntR x y : Nat) : Int)))) (fun _ i _ => 2 - (intOf i).toNat)
  case atStart => exact ⟨0, rfl, rfl, .inl ⟨rfl, rfl⟩⟩
  case round =>
    rename_i hrel
    obtain ⟨k, rfl, rfl, ⟨rfl, rfl⟩ | ⟨rfl, rfl⟩ | ⟨rfl, rfl⟩⟩ := hrel
    · cases x
      · go_wp2
        go_roundw
        case rel => exact ⟨1, rfl, (by first | rfl | trivial), .inr (.inl ⟨rfl, rfl⟩)⟩
        case measure => decide
      · go_wp2
        go_roundw
        case rel => exact ⟨1, rfl, (by first | rfl | trivial), .inr (.inl ⟨rfl, rfl⟩)⟩
        case measure => decide
    · cases y
      · cases x
        · go_wp2
          go_roundw
          case rel => exact ⟨2, rfl, (by first | rfl | trivial), .inr (.inr ⟨rfl, rfl⟩)⟩
          case measure => decide
        · go_wp2
          go_roundw
          case rel => exact ⟨2, rfl, (by first | rfl | trivial), .inr (.inr ⟨rfl, rfl⟩)⟩
          case measure => decide
      · cases x
        · go_wp2
          go_roundw
          case rel => exact ⟨2, rfl, (by first | rfl | trivial), .inr (.inr ⟨rfl, rfl⟩)⟩
          case measure => decide
        · go_wp2
          go_roundw
          case rel => exact ⟨2, rfl, (by first | rfl | trivial), .inr (.inr ⟨rfl, rfl⟩)⟩
          case measure => decide
    · obtain ⟨C, hC⟩ : ∃ C, C = cntR x y := ⟨_, rfl⟩
      have hcode := HHE.out.code
      rw [← hC] at hcode ⊢
      have hle : HHE = HHE := rfl
      have bel1 := hb1
      rcases hcode with ⟨rfl, hc, rfl⟩ | ⟨rfl, rfl⟩
      · have hq : decide ((n : Int) < 2) = true := by simp; omega
        clear hle hC hc
        go_wp2
        have hldwE : ∀ u, Below wD.heap.size wD u → (Instr.loadAt 42 (.pointer (some ⟨w4.heap.size, 0, none⟩))).run Tryd.prog u = .ok (.agg vs.toArray) u := fun u hu => run_load_blk agg_ptr size_ptr (HR.out.stays hu) (whole_load hvl) hvl
        have hwwE := fun u (hu : Below wD.heap.size wD u) => calls_nuB (hwo u (bel1.trans ((hKD.bel.trans (hu.mono hKD.bel.size)).mono bel1.size))) hu.size
        refine UpT.wp_region_mid 4 (UpT.tell [(3, nuB wD.heap.size O)]) (fun _ => false) (by kernel_rfl) (by kernel_rfl) (UpT.tell_steady _ (by
          intro p hp
          simp only [List.mem_cons, List.not_mem_nil, or_false] at hp
          rcases hp with rfl <;> first | exact isV_steady _ | exact slB_steady _ _ | exact nuB_steady _ _)) ?_
        simp only [List.take_succ_cons, List.take_zero]
        apply UpT.wpUp_pure
        case hw => rfl
        case hψ => rfl
        case hv => (intro wz hp; clear hp; go_simp; try (with_reducible rfl))
        simp only [Act.put, List.setIfInBounds_toArray, List.set_cons_zero, List.set_cons_succ]
        refine UpT.wpUp_pure (.agg vs.toArray) (by rfl) (by rfl) (fun wz hp => exec_load (by rfl) (by rfl) (hldwE wz hp.1)) ?_
        simp only [Act.put, List.setIfInBounds_toArray, List.set_cons_zero, List.set_cons_succ]
        apply UpT.wpUp_pure
        case hw => rfl
        case hψ => rfl
        case hv => (intro wz hp; clear hp; go_simp; try (with_reducible rfl))
        simp only [Act.put, List.setIfInBounds_toArray, List.set_cons_zero, List.set_cons_succ]
        refine UpT.wpUp_call _ 22 #[.slice oa no oc] (by rfl) (by rfl) (by rfl) (fun wz => by go_simp) (fun wz hp => hwwE wz hp.1) ?_
        rintro v ⟨u, _, hf⟩
        obtain ⟨aa, cc, rfl, _⟩ := hf.of 3 v _ rfl rfl
        clear hf
        simp only [Act.put, List.setIfInBounds_toArray, List.set_cons_zero, List.set_cons_succ]
        refine UpT.wpUp_end ?_
        intro wE hbwE hf
        obtain ⟨aa2, cc2, hEe, hNwE⟩ := hf.of 3 _ _ rfl rfl
        cases hEe
        clear hf
        simp only [List.drop_succ_cons, List.drop_zero, List.take_succ_cons, List.take_zero]
        have hRE := HR.out.stays hbwE
        have hKE := hKD.new (N := fun j => j = w4.heap.size ∨ (wD.heap.size ≤ j ∧ j < wE.heap.size)) hbwE (fun j hj => hj.imp (fun e => .inl e) id)
        have hfE := bs_fix hKE hV1 HHE.out.l5 P hpo aa cc O hNwE.1 (fun h0 x hx => .inl (.inr ⟨hNwE.2 x hx, hNwE.1.lt h0 hx⟩))
        rw [HP.out, HHE.out.fix, hOl] at hfE
        simp only [← HP.out, ← HVS.out] at hfE
        go_wp2_with (first
          | (go_at_call 27; go_must (refine hfE.mono ?_); rintro e wX ⟨rfl, hKX, hyX⟩
             have hRX := hyX.blk hRE (.inl rfl)))
        show wpQuiet _ _ _ _ _ _
        repeat (quiet_step (skip))
        refine wpQuiet_nil ?_
        rintro _ ⟨nq, rfl⟩
        have hRF' := hRX.stays (below_drewN wX nq)
        have hKF' := hKX.stays (below_drewN wX nq)
        obtain ⟨wF, hwF⟩ : ∃ wF, wF = wX.drewN nq := ⟨_, rfl⟩
        rw [← hwF] at hRF' hKF' ⊢
        have hRF := hRF'
        have hKF := hKF'
        clear hwF hRF' hKF'
        go_wp2
        have hldF : ∀ u, Below wF.heap.size wF u → (Instr.loadAt 39 (.pointer (some ⟨w4.heap.size, 0, none⟩))).run Tryd.prog u = .ok (.agg hs.toArray) u := fun u hu => run_load_blk agg_hsh size_hash (hRF.stays hu) HPAR.out hhl
        have hwF := fun u (hu : Below wF.heap.size wF u) => calls_nuB (hwo u (bel1.trans ((hKF.bel.trans (hu.mono hKF.bel.size)).mono bel1.size))) hu.size
        have hVF := hKF.vars hV1
        have htl := HTL.out
        refine UpT.wp_region_tail 8 (UpT.tell [(3, nuB wF.heap.size O), (4, isV (.agg ss.toArray))]) (fun _ => false) (by kernel_rfl) (by kernel_rfl) (UpT.tell_steady _ (by
          intro p hp
          simp only [List.mem_cons, List.not_mem_nil, or_false] at hp
          rcases hp with rfl | rfl <;> first | exact isV_steady _ | exact slB_steady _ _ | exact nuB_steady _ _)) ?_
        simp only [List.take_succ_cons, List.take_zero]
        apply UpT.wpUp_pure
        case hw => rfl
        case hψ => rfl
        case hv => (intro wz hp; clear hp; go_simp; try (with_reducible rfl))
        simp only [Act.put, List.setIfInBounds_toArray, List.set_cons_zero, List.set_cons_succ]
        apply UpT.wpUp_pure
        case hw => rfl
        case hψ => rfl
        case hv => (intro wz hp; clear hp; go_simp; try (with_reducible rfl))
        simp only [Act.put, List.setIfInBounds_toArray, List.set_cons_zero, List.set_cons_succ]
        apply UpT.wpUp_pure
        case hw => rfl
        case hψ => rfl
        case hv => (intro wz hp; clear hp; go_simp; try (with_reducible rfl))
        simp only [Act.put, List.setIfInBounds_toArray, List.set_cons_zero, List.set_cons_succ]
        refine UpT.wpUp_call _ 22 #[.slice oa no oc] (by rfl) (by rfl) (by rfl) (fun wz => by go_simp) (fun wz hp => hwF wz hp.1) ?_
        rintro v ⟨u, _, hf⟩
        obtain ⟨aa, cc, rfl, _⟩ := hf.of 3 v _ rfl rfl
        clear hf
        simp only [Act.put, List.setIfInBounds_toArray, List.set_cons_zero, List.set_cons_succ]
        refine UpT.wpUp_call _ 20 #[.slice aa 256 cc] (by rfl) (by rfl) (by rfl) (fun wz => by go_simp) (fun wz hp => by obtain ⟨a9, c9, he9, hN9⟩ := hp.2 3 _ _ (by kernel_rfl) rfl rfl; cases he9; exact calls_isV (hsmO wz _ _ hN9.1 (hVF.stays hp.1))) ?_
        rintro v ⟨u, _, hf⟩
        obtain rfl := hf.of 4 v _ rfl rfl
        clear hf
        simp only [Act.put, List.setIfInBounds_toArray, List.set_cons_zero, List.set_cons_succ]
        apply UpT.wpUp_pure
        case hw => rfl
        case hψ => rfl
        case hv => (intro wz hp; clear hp; go_simp; try (with_reducible rfl))
        simp only [Act.put, List.setIfInBounds_toArray, List.set_cons_zero, List.set_cons_succ]
        refine UpT.wpUp_pure (.agg hs.toArray) (by rfl) (by rfl) (fun wz hp => exec_load (by rfl) (by rfl) (hldF wz hp.1)) ?_
        simp only [Act.put, List.setIfInBounds_toArray, List.set_cons_zero, List.set_cons_succ]
        have heq := HEQ.out
        apply UpT.wpUp_pure
        case hw => rfl
        case hψ => rfl
        case hv => (intro wz hp; clear hp; go_simp; try (with_reducible rfl))
        simp only [Act.put, List.setIfInBounds_toArray, List.set_cons_zero, List.set_cons_succ]
        refine UpT.wpUp_end ?_
        intro wG hbG hf
        clear hf
        simp only [List.drop_succ_cons, List.drop_zero]
        have hKG := hKF.stays hbG
        have hRG := hRF.stays hbG
        go_wp2
        have hldwI : ∀ u, Below wG.heap.size wG u → (Instr.loadAt 42 (.pointer (some ⟨w4.heap.size, 0, none⟩))).run Tryd.prog u = .ok (.agg vs.toArray) u := fun u hu => run_load_blk agg_ptr size_ptr (hRG.stays hu) (whole_load hvl) hvl
        have hwwI := fun u (hu : Below wG.heap.size wG u) => calls_nuB (hwb2 u (bel1.trans ((hKG.bel.trans (hu.mono hKG.bel.size)).mono bel1.size))) hu.size
        refine UpT.wp_region_mid 4 (UpT.tell [(3, nuB wG.heap.size B)]) (fun _ => false) (by kernel_rfl) (by kernel_rfl) (UpT.tell_steady _ (by
          intro p hp
          simp only [List.mem_cons, List.not_mem_nil, or_false] at hp
          rcases hp with rfl <;> first | exact isV_steady _ | exact slB_steady _ _ | exact nuB_steady _ _)) ?_
        simp only [List.take_succ_cons, List.take_zero]
        apply UpT.wpUp_pure
        case hw => rfl
        case hψ => rfl
        case hv => (intro wz hp; clear hp; go_simp; try (with_reducible rfl))
        simp only [Act.put, List.setIfInBounds_toArray, List.set_cons_zero, List.set_cons_succ]
        refine UpT.wpUp_pure (.agg vs.toArray) (by rfl) (by rfl) (fun wz hp => exec_load (by rfl) (by rfl) (hldwI wz hp.1)) ?_
        simp only [Act.put, List.setIfInBounds_toArray, List.set_cons_zero, List.set_cons_succ]
        apply UpT.wpUp_pure
        case hw => rfl
        case hψ => rfl
        case hv => (intro wz hp; clear hp; go_simp; try (with_reducible rfl))
        simp only [Act.put, List.setIfInBounds_toArray, List.set_cons_zero, List.set_cons_succ]
        refine UpT.wpUp_call _ 22 #[.slice ba nb bc] (by rfl) (by rfl) (by rfl) (fun wz => by go_simp) (fun wz hp => hwwI wz hp.1) ?_
        rintro v ⟨u, _, hf⟩
        obtain ⟨aa, cc, rfl, _⟩ := hf.of 3 v _ rfl rfl
        clear hf
        simp only [Act.put, List.setIfInBounds_toArray, List.set_cons_zero, List.set_cons_succ]
        refine UpT.wpUp_end ?_
        intro wI hbwI hf
        obtain ⟨aa2, cc2, hEe, hNwI⟩ := hf.of 3 _ _ rfl rfl
        cases hEe
        clear hf
        simp only [List.drop_succ_cons, List.drop_zero, List.take_succ_cons, List.take_zero]
        have hRI := hRG.stays hbwI
        have hKI := hKG.new (N := fun j => j = w4.heap.size ∨ (wG.heap.size ≤ j ∧ j < wI.heap.size)) hbwI (fun j hj => hj.imp (fun e => .inl e) id)
        have hfI := bs_fix hKI hV1 HHE.out.l6 P hpo aa cc B hNwI.1 (fun h0 x hx => .inl (.inr ⟨hNwI.2 x hx, hNwI.1.lt h0 hx⟩))
        rw [HP.out, HHE.out.fix2, hBl] at hfI
        simp only [← HP.out, ← HVS.out] at hfI
        go_wp2_with (first
          | (go_at_call 27; go_must (refine hfI.mono ?_); rintro e wY ⟨rfl, hKY, hyY⟩
             have hRY := hyY.blk hRI (.inl rfl)))
        show wpQuiet _ _ _ _ _ _
        repeat (quiet_step (skip))
        refine wpQuiet_nil ?_
        rintro _ ⟨mq, rfl⟩
        have hRJ' := hRY.stays (below_drewN wY mq)
        have hKJ' := hKY.stays (below_drewN wY mq)
        obtain ⟨wJ, hwJ⟩ : ∃ wJ, wJ = wY.drewN mq := ⟨_, rfl⟩
        rw [← hwJ] at hRJ' hKJ' ⊢
        have hRJ := hRJ'
        have hKJ := hKJ'
        clear hwJ hRJ' hKJ'
        have hlJ := bs_look hKJ hV1 HHE.out.l7 P hpo
        rw [HP.out, HHE.out.look2] at hlJ
        simp only [← HP.out, ← HVS.out, ← HTT.out] at hlJ
        go_wp2_with (first
          | ((with_reducible show wpList _ _ _ (Oper.mk _ (Op.load 42 (.tmp 9)) _ _ _ _ :: _) _ _); refine wpList_load_blk (by rfl) (.tmp 9) 42 (by rfl) _ 0 35 (by rfl) agg_ptr size_ptr hRJ _ (whole_load hvl) hvl ?_)
          | (go_at_call 25; go_must (refine hlJ.mono ?_); rintro e wK ⟨rfl, hbK⟩
             have hKK := hKJ.stays hbK)
          | ((with_reducible show wpList _ _ _ (Oper.mk _ (Op.alloc 46) _ _ _ _ :: _) _ _); refine wpList_alloc0 (by rfl) 46 (by rfl) (some 22) (by rfl) _ HAB.out ?_; intro wL hGL hbL hsL
             have hKL := hKK.new (N := fun j => j = wK.heap.size) hbL (fun j hj => .inr (by rw [hj]; exact ⟨Nat.le_refl _, by omega⟩))
             clear hsL)
          | ((with_reducible show wpList _ _ _ (Oper.mk _ (Op.store 46 (.tmp 22) _) _ _ _ _ :: _) _ _); refine wpList_store_blk (by rfl) (.tmp 22) (.tmp 153) 46 (by rfl) _ 0 2 (by rfl) tt (by rfl) size_bools hGL httl (by omega) htto _ (whole_store hffl) ?_
             intro wM hGM hbutM hsM
             have hKM := hKL.set hbutM rfl hKK.bel.size
             clear hsM)
          | (go_at_call 18; go_must (refine (hal _ (hKM.vars hV1)).mono ?_); rintro e wN ⟨rfl, hbN⟩
             have hGN := hGM.stays hbN)
          | ((with_reducible show wpList _ _ _ (Oper.mk _ (Op.load 46 _) _ _ _ _ :: _) _ _); refine wpList_load_blk_guard (by kernel_rfl) (.tmp 22) 46 (by rfl) _ 0 2 (by rfl) agg_bools size_bools hGN _ (whole_load httl) httl ?_)
          | ((with_reducible show wpList _ _ _ (Oper.mk _ (Op.build 46 _) _ _ _ _ :: _) _ _); refine wpList_build (by kernel_rfl) 46 [(0, .const (.bool true)), (1, .const (.bool true))] (by rfl) [(0, .bool true), (1, .bool true)] (by rfl) _ hbu ?_))
        go_ret
        exact ⟨rfl, below_then (bel1.trans (hKM.bel.mono bel1.size)) hbN⟩
      · clear hle hC
        go_wp2
        have hldwE : ∀ u, Below wD.heap.size wD u → (Instr.loadAt 42 (.pointer (some ⟨w4.heap.size, 0, none⟩))).run Tryd.prog u = .ok (.agg vs.toArray) u := fun u hu => run_load_blk agg_ptr size_ptr (HR.out.stays hu) (whole_load hvl) hvl
        have hwwE := fun u (hu : Below wD.heap.size wD u) => calls_nuB (hwo u (bel1.trans ((hKD.bel.trans (hu.mono hKD.bel.size)).mono bel1.size))) hu.size
        refine UpT.wp_region_mid 4 (UpT.tell [(3, nuB wD.heap.size O)]) (fun _ => false) (by kernel_rfl) (by kernel_rfl) (UpT.tell_steady _ (by
          intro p hp
          simp only [List.mem_cons, List.not_mem_nil, or_false] at hp
          rcases hp with rfl <;> first | exact isV_steady _ | exact slB_steady _ _ | exact nuB_steady _ _)) ?_
        simp only [List.take_succ_cons, List.take_zero]
        apply UpT.wpUp_pure
        case hw => rfl
        case hψ => rfl
        case hv => (intro wz hp; clear hp; go_simp; try (with_reducible rfl))
        simp only [Act.put, List.setIfInBounds_toArray, List.set_cons_zero, List.set_cons_succ]
        refine UpT.wpUp_pure (.agg vs.toArray) (by rfl) (by rfl) (fun wz hp => exec_load (by rfl) (by rfl) (hldwE wz hp.1)) ?_
        simp only [Act.put, List.setIfInBounds_toArray, List.set_cons_zero, List.set_cons_succ]
        apply UpT.wpUp_pure
        case hw => rfl
        case hψ => rfl
        case hv => (intro wz hp; clear hp; go_simp; try (with_reducible rfl))
        simp only [Act.put, List.setIfInBounds_toArray, List.set_cons_zero, List.set_cons_succ]
        refine UpT.wpUp_call _ 22 #[.slice oa no oc] (by rfl) (by rfl) (by rfl) (fun wz => by go_simp) (fun wz hp => hwwE wz hp.1) ?_
        rintro v ⟨u, _, hf⟩
        obtain ⟨aa, cc, rfl, _⟩ := hf.of 3 v _ rfl rfl
        clear hf
        simp only [Act.put, List.setIfInBounds_toArray, List.set_cons_zero, List.set_cons_succ]
        refine UpT.wpUp_end ?_
        intro wE hbwE hf
        obtain ⟨aa2, cc2, hEe, hNwE⟩ := hf.of 3 _ _ rfl rfl
        cases hEe
        clear hf
        simp only [List.drop_succ_cons, List.drop_zero, List.take_succ_cons, List.take_zero]
        have hRE := HR.out.stays hbwE
        have hKE := hKD.new (N := fun j => j = w4.heap.size ∨ (wD.heap.size ≤ j ∧ j < wE.heap.size)) hbwE (fun j hj => hj.imp (fun e => .inl e) id)
        have hfE := bs_fix hKE hV1 HHE.out.l5 P hpo aa cc O hNwE.1 (fun h0 x hx => .inl (.inr ⟨hNwE.2 x hx, hNwE.1.lt h0 hx⟩))
        rw [HP.out, HHE.out.fix, hOl] at hfE
        simp only [← HP.out, ← HVS.out] at hfE
        go_wp2_with (first
          | (go_at_call 27; go_must (refine hfE.mono ?_); rintro e wX ⟨rfl, hKX, hyX⟩
             have hRX := hyX.blk hRE (.inl rfl)))
        show wpQuiet _ _ _ _ _ _
        repeat (quiet_step (skip))
        refine wpQuiet_nil ?_
        rintro _ ⟨nq, rfl⟩
        have hRF' := hRX.stays (below_drewN wX nq)
        have hKF' := hKX.stays (below_drewN wX nq)
        obtain ⟨wF, hwF⟩ : ∃ wF, wF = wX.drewN nq := ⟨_, rfl⟩
        rw [← hwF] at hRF' hKF' ⊢
        have hRF := hRF'
        have hKF := hKF'
        clear hwF hRF' hKF'
        go_wp2
        have hldF : ∀ u, Below wF.heap.size wF u → (Instr.loadAt 39 (.pointer (some ⟨w4.heap.size, 0, none⟩))).run Tryd.prog u = .ok (.agg hs.toArray) u := fun u hu => run_load_blk agg_hsh size_hash (hRF.stays hu) HPAR.out hhl
        have hwF := fun u (hu : Below wF.heap.size wF u) => calls_nuB (hwo u (bel1.trans ((hKF.bel.trans (hu.mono hKF.bel.size)).mono bel1.size))) hu.size
        have hVF := hKF.vars hV1
        have htl := HTL.out
        refine UpT.wp_region_tail 8 (UpT.tell [(3, nuB wF.heap.size O), (4, isV (.agg ss.toArray))]) (fun _ => false) (by kernel_rfl) (by kernel_rfl) (UpT.tell_steady _ (by
          intro p hp
          simp only [List.mem_cons, List.not_mem_nil, or_false] at hp
          rcases hp with rfl | rfl <;> first | exact isV_steady _ | exact slB_steady _ _ | exact nuB_steady _ _)) ?_
        simp only [List.take_succ_cons, List.take_zero]
        apply UpT.wpUp_pure
        case hw => rfl
        case hψ => rfl
        case hv => (intro wz hp; clear hp; go_simp; try (with_reducible rfl))
        simp only [Act.put, List.setIfInBounds_toArray, List.set_cons_zero, List.set_cons_succ]
        apply UpT.wpUp_pure
        case hw => rfl
        case hψ => rfl
        case hv => (intro wz hp; clear hp; go_simp; try (with_reducible rfl))
        simp only [Act.put, List.setIfInBounds_toArray, List.set_cons_zero, List.set_cons_succ]
        apply UpT.wpUp_pure
        case hw => rfl
        case hψ => rfl
        case hv => (intro wz hp; clear hp; go_simp; try (with_reducible rfl))
        simp only [Act.put, List.setIfInBounds_toArray, List.set_cons_zero, List.set_cons_succ]
        refine UpT.wpUp_call _ 22 #[.slice oa no oc] (by rfl) (by rfl) (by rfl) (fun wz => by go_simp) (fun wz hp => hwF wz hp.1) ?_
        rintro v ⟨u, _, hf⟩
        obtain ⟨aa, cc, rfl, _⟩ := hf.of 3 v _ rfl rfl
        clear hf
        simp only [Act.put, List.setIfInBounds_toArray, List.set_cons_zero, List.set_cons_succ]
        refine UpT.wpUp_call _ 20 #[.slice aa 256 cc] (by rfl) (by rfl) (by rfl) (fun wz => by go_simp) (fun wz hp => by obtain ⟨a9, c9, he9, hN9⟩ := hp.2 3 _ _ (by kernel_rfl) rfl rfl; cases he9; exact calls_isV (hsmO wz _ _ hN9.1 (hVF.stays hp.1))) ?_
        rintro v ⟨u, _, hf⟩
        obtain rfl := hf.of 4 v _ rfl rfl
        clear hf
        simp only [Act.put, List.setIfInBounds_toArray, List.set_cons_zero, List.set_cons_succ]
        apply UpT.wpUp_pure
        case hw => rfl
        case hψ => rfl
        case hv => (intro wz hp; clear hp; go_simp; try (with_reducible rfl))
        simp only [Act.put, List.setIfInBounds_toArray, List.set_cons_zero, List.set_cons_succ]
        refine UpT.wpUp_pure (.agg hs.toArray) (by rfl) (by rfl) (fun wz hp => exec_load (by rfl) (by rfl) (hldF wz hp.1)) ?_
        simp only [Act.put, List.setIfInBounds_toArray, List.set_cons_zero, List.set_cons_succ]
        have heq := HEQ.out
        apply UpT.wpUp_pure
        case hw => rfl
        case hψ => rfl
        case hv => (intro wz hp; clear hp; go_simp; try (with_reducible rfl))
        simp only [Act.put, List.setIfInBounds_toArray, List.set_cons_zero, List.set_cons_succ]
        refine UpT.wpUp_end ?_
        intro wG hbG hf
        clear hf
        simp only [List.drop_succ_cons, List.drop_zero]
        have hKG := hKF.stays hbG
        have hRG := hRF.stays hbG
        go_wp2
        have hldwI : ∀ u, Below wG.heap.size wG u → (Instr.loadAt 42 (.pointer (some ⟨w4.heap.size, 0, none⟩))).run Tryd.prog u = .ok (.agg vs.toArray) u := fun u hu => run_load_blk agg_ptr size_ptr (hRG.stays hu) (whole_load hvl) hvl
        have hwwI := fun u (hu : Below wG.heap.size wG u) => calls_nuB (hwb2 u (bel1.trans ((hKG.bel.trans (hu.mono hKG.bel.size)).mono bel1.size))) hu.size
        refine UpT.wp_region_mid 4 (UpT.tell [(3, nuB wG.heap.size B)]) (fun _ => false) (by kernel_rfl) (by kernel_rfl) (UpT.tell_steady _ (by
          intro p hp
          simp only [List.mem_cons, List.not_mem_nil, or_false] at hp
          rcases hp with rfl <;> first | exact isV_steady _ | exact slB_steady _ _ | exact nuB_steady _ _)) ?_
        simp only [List.take_succ_cons, List.take_zero]
        apply UpT.wpUp_pure
        case hw => rfl
        case hψ => rfl
        case hv => (intro wz hp; clear hp; go_simp; try (with_reducible rfl))
        simp only [Act.put, List.setIfInBounds_toArray, List.set_cons_zero, List.set_cons_succ]
        refine UpT.wpUp_pure (.agg vs.toArray) (by rfl) (by rfl) (fun wz hp => exec_load (by rfl) (by rfl) (hldwI wz hp.1)) ?_
        simp only [Act.put, List.setIfInBounds_toArray, List.set_cons_zero, List.set_cons_succ]
        apply UpT.wpUp_pure
        case hw => rfl
        case hψ => rfl
        case hv => (intro wz hp; clear hp; go_simp; try (with_reducible rfl))
        simp only [Act.put, List.setIfInBounds_toArray, List.set_cons_zero, List.set_cons_succ]
        refine UpT.wpUp_call _ 22 #[.slice ba nb bc] (by rfl) (by rfl) (by rfl) (fun wz => by go_simp) (fun wz hp => hwwI wz hp.1) ?_
        rintro v ⟨u, _, hf⟩
        obtain ⟨aa, cc, rfl, _⟩ := hf.of 3 v _ rfl rfl
        clear hf
        simp only [Act.put, List.setIfInBounds_toArray, List.set_cons_zero, List.set_cons_succ]
        refine UpT.wpUp_end ?_
        intro wI hbwI hf
        obtain ⟨aa2, cc2, hEe, hNwI⟩ := hf.of 3 _ _ rfl rfl
        cases hEe
        clear hf
        simp only [List.drop_succ_cons, List.drop_zero, List.take_succ_cons, List.take_zero]
        have hRI := hRG.stays hbwI
        have hKI := hKG.new (N := fun j => j = w4.heap.size ∨ (wG.heap.size ≤ j ∧ j < wI.heap.size)) hbwI (fun j hj => hj.imp (fun e => .inl e) id)
        have hfI := bs_fix hKI hV1 HHE.out.l6 P hpo aa cc B hNwI.1 (fun h0 x hx => .inl (.inr ⟨hNwI.2 x hx, hNwI.1.lt h0 hx⟩))
        rw [HP.out, HHE.out.fix2, hBl] at hfI
        simp only [← HP.out, ← HVS.out] at hfI
        go_wp2_with (first
          | (go_at_call 27; go_must (refine hfI.mono ?_); rintro e wY ⟨rfl, hKY, hyY⟩
             have hRY := hyY.blk hRI (.inl rfl)))
        show wpQuiet _ _ _ _ _ _
        repeat (quiet_step (skip))
        refine wpQuiet_nil ?_
        rintro _ ⟨mq, rfl⟩
        have hRJ' := hRY.stays (below_drewN wY mq)
        have hKJ' := hKY.stays (below_drewN wY mq)
        obtain ⟨wJ, hwJ⟩ : ∃ wJ, wJ = wY.drewN mq := ⟨_, rfl⟩
        rw [← hwJ] at hRJ' hKJ' ⊢
        have hRJ := hRJ'
        have hKJ := hKJ'
        clear hwJ hRJ' hKJ'
        have hlJ := bs_look hKJ hV1 HHE.out.l7 P hpo
        rw [HP.out, HHE.out.look2] at hlJ
        simp only [← HP.out, ← HVS.out, ← HTT.out] at hlJ
        go_wp2_with (first
          | ((with_reducible show wpList _ _ _ (Oper.mk _ (Op.load 42 (.tmp 9)) _ _ _ _ :: _) _ _); refine wpList_load_blk (by rfl) (.tmp 9) 42 (by rfl) _ 0 35 (by rfl) agg_ptr size_ptr hRJ _ (whole_load hvl) hvl ?_)
          | (go_at_call 25; go_must (refine hlJ.mono ?_); rintro e wK ⟨rfl, hbK⟩
             have hKK := hKJ.stays hbK)
          | ((with_reducible show wpList _ _ _ (Oper.mk _ (Op.alloc 46) _ _ _ _ :: _) _ _); refine wpList_alloc0 (by rfl) 46 (by rfl) (some 22) (by rfl) _ HAB.out ?_; intro wL hGL hbL hsL
             have hKL := hKK.new (N := fun j => j = wK.heap.size) hbL (fun j hj => .inr (by rw [hj]; exact ⟨Nat.le_refl _, by omega⟩))
             clear hsL)
          | ((with_reducible show wpList _ _ _ (Oper.mk _ (Op.store 46 (.tmp 22) _) _ _ _ _ :: _) _ _); refine wpList_store_blk (by rfl) (.tmp 22) (.tmp 153) 46 (by rfl) _ 0 2 (by rfl) tt (by rfl) size_bools hGL httl (by omega) htto _ (whole_store hffl) ?_
             intro wM hGM hbutM hsM
             have hKM := hKL.set hbutM rfl hKK.bel.size
             clear hsM)
          | (go_at_call 18; go_must (refine (hal _ (hKM.vars hV1)).mono ?_); rintro e wN ⟨rfl, hbN⟩
             have hGN := hGM.stays hbN)
          | ((with_reducible show wpList _ _ _ (Oper.mk _ (Op.load 46 _) _ _ _ _ :: _) _ _); refine wpList_load_blk_guard (by kernel_rfl) (.tmp 22) 46 (by rfl) _ 0 2 (by rfl) agg_bools size_bools hGN _ (whole_load httl) httl ?_)
          | ((with_reducible show wpList _ _ _ (Oper.mk _ (Op.build 46 _) _ _ _ _ :: _) _ _); refine wpList_build (by kernel_rfl) 46 [(0, .const (.bool true)), (1, .const (.bool true))] (by rfl) [(0, .bool true), (1, .bool true)] (by rfl) _ hbu ?_))
        go_ret
        exact ⟨rfl, below_then (bel1.trans (hKM.bel.mono bel1.size)) hbN⟩

theorem healed_walk (ba : Option Addr) (bc : Nat) (bs : List Int) (m0a : Option Addr) (m0c : Nat) (m0 : List Int) (m1a : Option Addr) (m1c : Nat) (m1 : List Int) (oa : Option Addr) (oc : Nat) (os : List Int) (w : World) (hV : Vars w) (hB : Bs w ba bc bs) (hM0 : Bs w m0a m0c m0) (hM1 : Bs w m1a m1c m1) (hO : Bs w oa oc os) :
    Calls Tryd.prog 5 #[.slice ba bs.length bc, .agg #[.slice m0a m0.length m0c, .slice m1a m1.length m1c], .slice oa os.length oc] w fun e w' => e = .returned (.bool true) ∧ Below w.heap.size w w' := by
  by_cases h1 : bs.length ≤ 256
  · by_cases h2 : os.length ≤ 256
    · by_cases h3 : m0.length ≤ 256
      · by_cases h4 : m1.length ≤ 256
        · exact healed_main ba bc bs m0a m0c m0 m1a m1c m1 oa oc os w hV hB hM0 hM1 hO h1 h2 h3 h4
        · exact healed_long3 ba bc bs m0a m0c m0 m1a m1c m1 oa oc os w hV hB hM0 hM1 hO h1 h2 h3 (by omega)
      · exact healed_long2 ba bc bs m0a m0c m0 m1a m1c m1 oa oc os w hV hB hM0 hM1 hO h1 h2 (by omega)
    · exact healed_long1 ba bc bs m0a m0c m0 m1a m1c m1 oa oc os w hV hB hM0 hM1 hO h1 (by omega)
  · exact healed_long0 ba bc bs m0a m0c m0 m1a m1c m1 oa oc os w hV hB hM0 hM1 hO (by omega)

end Go.Proofs.YtjlmldhlmnafnaaDoor

/-
  Lists of pointers of a law's own.
-/

namespace Go.Proofs.YtjlmldhlmnafnaaDoor
set_option linter.unusedSimpArgs false
set_option linter.unusedVariables false
set_option maxRecDepth 100000
open Go.RowKit

instance : Inhabited Pt := ⟨Pt.zero⟩
def ptrsV (ps : List Pt) : List Value := ps.flatMap Pt.vs
def Plist (base : Nat) (w : World) (v : Value) (ps : List Pt) : Prop := (∀ p ∈ ps, p.ok) ∧ w.ownsRow base 42 35 v ps.length (ptrsV ps)
/-- The list's block. -/
def rowOf (v : Value) : Nat → Prop := fun j => v.ownBlock = some j

theorem ptrsV_len : ∀ {ps : List Pt}, (∀ p ∈ ps, p.ok) → (ptrsV ps).length = 35 * ps.length
  | [], _ => rfl
  | p :: ps, h => by
    have ih := ptrsV_len (ps := ps) (fun q hq => h q (List.mem_cons_of_mem _ hq))
    have h1 := Pt.vs_len (h p List.mem_cons_self)
    show (p.vs ++ ptrsV ps).length = _
    rw [List.length_append, ih, h1, List.length_cons]; omega
theorem ptrsV_more (ps : List Pt) (p : Pt) : ptrsV (ps ++ [p]) = ptrsV ps ++ p.vs := by unfold ptrsV; rw [List.flatMap_append]; simp
theorem ptrsV_at : ∀ {ps : List Pt}, (∀ p ∈ ps, p.ok) → ∀ i, i < ps.length → ∀ j, j < 35 → (ptrsV ps)[i * 35 + j]? = (ps.getD i default).vs[j]?
  | [], _, i, hi, _, _ => by simp at hi
  | p :: ps, h, i, hi, j, hj => by
    have h1 := Pt.vs_len (h p List.mem_cons_self)
    show (p.vs ++ ptrsV ps)[i * 35 + j]? = _
    cases i with
    | zero => rw [Nat.zero_mul, Nat.zero_add, List.getElem?_append_left (by omega)]; rfl
    | succ i =>
      rw [List.getElem?_append_right (by omega), h1, show (i + 1) * 35 + j - 35 = i * 35 + j by omega]
      exact ptrsV_at (fun q hq => h q (List.mem_cons_of_mem _ hq)) i (by simpa using hi) j hj

section
variable {base : Nat} {w w' w0 : World} {v : Value} {ps : List Pt}
theorem Plist.form (h : Plist base w v ps) : ∃ a c, v = .slice a ps.length c := by
  rcases h.2.2 with ⟨rfl, h0⟩ | ⟨g, cap, cur, rfl, _⟩
  · exact ⟨none, 0, by rw [h0]⟩
  · exact ⟨_, _, rfl⟩
theorem Plist.lt (h : Plist base w v ps) {j : Nat} (hj : rowOf v j) : base ≤ j ∧ j < w.heap.size := World.ownsRow.lt h.2 j hj
theorem Plist.keep (h : Plist base w v ps) (hk : ∀ j, rowOf v j → w'.heap[j]? = w.heap[j]?) : Plist base w' v ps := by
  obtain ⟨h0, h1, h2⟩ := h
  refine ⟨h0, h1, ?_⟩
  rcases h2 with h2 | ⟨g, cap, cur, rfl, hb, hh, rest⟩
  · exact .inl h2
  · exact .inr ⟨g, cap, cur, rfl, hb, by rw [hk g rfl]; exact hh, rest⟩
theorem Plist.stays (h : Plist base w v ps) (hb : Below w.heap.size w w') : Plist base w' v ps := h.keep fun j hj => hb.block j (h.lt hj).2
theorem Plist.stay {M : Nat → Prop} (h : Plist base w v ps) (hy : Stay M w w') (hM : ∀ j, rowOf v j → M j) : Plist base w' v ps := h.keep fun j hj => hy.block j (hM j hj) (h.lt hj).2
theorem Plist.but {m : Nat} (h : Plist base w v ps) (hb : But m w w') (hm : ¬ rowOf v m) : Plist base w' v ps := h.keep fun j hj => hb.block j (fun e => hm (e ▸ hj)) (h.lt hj).2
theorem Plist.at (h : Plist base w v ps) {i : Nat} (hi : i < ps.length) : ∃ b c, v = .slice (some ⟨b, 0, none⟩) ps.length c ∧ rowOf v b ∧ (∀ j, j < 35 → w.cell? ⟨b, i * 35 + j, none⟩ = (ps.getD i default).vs[j]?) ∧ (ps.getD i default).ok := by
  obtain ⟨h0, h1⟩ := h
  have h1' := h1
  rcases h1.2 with ⟨_, h2⟩ | ⟨g, cap, cur, rfl, _⟩
  · omega
  · refine ⟨g, cap, rfl, rfl, fun j hj => ?_, ?_⟩
    · rw [h1'.cellAt (i * 35 + j) (by have := Nat.mul_le_mul_right 35 (show i + 1 ≤ ps.length from hi); omega)]
      exact ptrsV_at h0 i hi j hj
    · exact h0 _ (by simp [List.getD, hi])
theorem index_ptrs (b n c i : Nat) (hi : i < n) (u : World) : (Instr.indexAt 38 (.slice (some ⟨b, 0, none⟩) n c) (.int .i64 (i : Int))).run Tryd.prog u = .ok (.pointer (some ⟨b, i * 35, none⟩)) u := by
  have := index_slice (P := Tryd.prog) 38 42 35 Tryd.underlying38 (by kernel_rfl) (by kernel_rfl) b 0 n c .i64 i hi u
  simpa using this

theorem run_nop (w : World) : (Instr.buildSlice 38 0 #[]).run Tryd.prog w = .ok (.slice (some ⟨w.heap.size, 0, none⟩) 0 0) (w.alloc (.cells #[] 42)) := by kernel_rfl
/-- A slice of no pointers. -/
theorem wpList_nop {ops : Array Oper} {rest : List Oper} {o : Oper} {a : Act} {Q : Exit → Act → World → Prop} (hgd : o.guard = none) (ho : o.op = Op.buildSlice 38 0 #[]) (d : Option Tmp) (hd : o.dst = d)
    (h : ∀ w' b, w.heap.size = b → Plist b w' (.slice (some ⟨b, 0, none⟩) 0 0) [] → Below w.heap.size w w' → wpList Tryd.prog ops Q rest (a.put d (.slice (some ⟨b, 0, none⟩) 0 0)) w') : wpList Tryd.prog ops Q (o :: rest) a w := by
  subst hd
  refine wpList_plain hgd fun K hK => ?_
  have e : (#[] : Array (Nat × Operand)).map (fun (i, x) => (i, a.eval x)) = #[] := by simp
  unfold Oper.wp execOp
  simp only [ho, Sem.run_bind, Sem.run_pure, Result.andThen_ok, e, run_nop]
  exact hK _ _ (h _ _ rfl ⟨fun p hp => (by cases hp), World.ownsRow_made w #[] 0 (Nat.le_refl _) (by decide) (by simp)⟩ ((Below.refl _ _).alloc (Nat.le_refl _) _))
theorem run_onep (p : Pt) (hp : p.ok) (w : World) : (Instr.buildSlice 38 1 [(0, Value.agg p.vs.toArray)].toArray).run Tryd.prog w = .ok (.slice (some ⟨w.heap.size, 0, none⟩) 1 1) (w.alloc (.cells p.vs.toArray 42)) := by
  obtain ⟨h, b, x, y⟩ := p
  have hl : h.length = 32 := hp.len
  clear hp
  match h, hl with
  | [x0, x1, x2, x3, x4, x5, x6, x7, x8, x9, x10, x11, x12, x13, x14, x15, x16, x17, x18, x19, x20, x21, x22, x23, x24, x25, x26, x27, x28, x29, x30, x31], _ => show _ = _; kernel_rfl
/-- A slice of one pointer. -/
theorem wpList_onep {ops : Array Oper} {rest : List Oper} {o : Oper} {a : Act} {Q : Exit → Act → World → Prop} (hgd : o.guard = none) (x : Operand) (ho : o.op = Op.buildSlice 38 1 [(0, x)].toArray) (d : Option Tmp) (hd : o.dst = d) (vs : List Value) (hx : a.eval x = .agg vs.toArray)
    (hr : ∀ w : World, (Instr.buildSlice 38 1 [(0, Value.agg vs.toArray)].toArray).run Tryd.prog w = .ok (.slice (some ⟨w.heap.size, 0, none⟩) 1 1) (w.alloc (.cells vs.toArray 42)))
    (h : ∀ w' b, w.heap.size = b → Blk 42 w' b vs → Below w.heap.size w w' → w'.heap.size = w.heap.size + 1 → wpList Tryd.prog ops Q rest (a.put d (.slice (some ⟨b, 0, none⟩) 1 1)) w') : wpList Tryd.prog ops Q (o :: rest) a w := by
  subst hd
  refine wpList_plain hgd fun K hK => ?_
  have e : [(0, x)].toArray.map (fun (i, x) => (i, a.eval x)) = [(0, Value.agg vs.toArray)].toArray := by simp [hx]
  unfold Oper.wp execOp
  simp only [ho, Sem.run_bind, Sem.run_pure, Result.andThen_ok, e, hr]
  exact hK _ _ (h _ _ rfl (Blk.newAt rfl rfl) ((Below.refl _ _).alloc (Nat.le_refl _) _) (by simp))

/-- append(l, p). -/
theorem wpList_append_ptr {ops : Array Oper} {rest : List Oper} {o : Oper} {a : Act} {Q : Exit → Act → World → Prop} (hgd : o.guard = none) (s x : Operand)
    (ho : o.op = .call { callee := .builtin .append, args := #[s, x], argTypes := #[38, 38] })
    (base : Nat) (v : Value) (ps : List Pt) (hs : a.eval s = v) (hown : Plist base w v ps) (b : Nat) (p : Pt) (hp : p.ok) (hx : a.eval x = .slice (some ⟨b, 0, none⟩) 1 1) (hb : Blk 42 w b p.vs) (hlen : ps.length ≤ 1000000) (hbase : base ≤ w.heap.size)
    (h : ∀ v' w', Plist base w' v' (ps ++ [p]) → w.grownBy w' v.ownBlock → (∀ j, rowOf v' j → rowOf v j ∨ (w.heap.size ≤ j ∧ j < w'.heap.size)) → wpList Tryd.prog ops Q rest (a.put o.dst v') w') : wpList Tryd.prog ops Q (o :: rest) a w := by
  have hi : (Tryd.prog.info? 42).map (fun i => (i.zero, i.size, i.bytes)) = some (some (.agg Pt.zero.vs.toArray), 35, 44) := by kernel_rfl
  obtain ⟨i0, hi0, hz0, hz1, hz2⟩ := info_parts hi
  have hvl := Pt.vs_len hp
  refine wpList_append_lies _ hgd s x 38 ho base 42 i0 (.agg Pt.zero.vs.toArray) 35 44 Tryd.underlying38 hi0 hz0 hz1 hz2 rfl (by decide) v ps.length (ptrsV ps) hs hown.2 ⟨b, 0, none⟩ 1 1 p.vs hx hvl (fun j u hj => ?_) (Pt.vs_one p) (by omega) (by unfold maxLen; omega) (by omega) hbase _ rfl fun g cap w' h1 h2 h4 h5 => ?_
  · have hadd : (⟨b, 0, none⟩ : Addr).add j = ⟨b, j, none⟩ := by unfold Addr.add; split <;> simp_all
    rw [hadd, hb.cell j, hj]
  · refine h _ w' ⟨fun q hq => ?_, ?_⟩ h2 (fun j hj => ?_)
    · rcases List.mem_append.1 hq with h3 | h3
      · exact hown.1 q h3
      · simp only [List.mem_singleton] at h3; rw [h3]; exact hp
    · rw [ptrsV_more, List.length_append]; exact h1
    · obtain rfl : g = j := by simpa [rowOf, Value.ownBlock] using hj
      rcases h4 with h4 | h4
      · exact .inl h4
      · exact .inr ⟨by omega, h5⟩

variable {M : Nat → Prop} {k p g : Nat} {S : DS} {l : List Bool} {t : Nat}
/-- A list that is held beside grows. -/
theorem BS.grown {row : Option Nat} (h : BS w0 w M k p g S l t) (hg : w.grownBy w' row) (hM : ∀ j, row = some j → M j ∧ w0.heap.size ≤ j) {N : Nat → Prop} (hN : ∀ j, N j → M j ∨ (w.heap.size ≤ j ∧ j < w'.heap.size)) : BS w0 w' N k p g S l t := by
  obtain ⟨F, h1, h2, h3⟩ := h
  have hkeep : ∀ j, ¬ M j → j < w.heap.size → w'.heap[j]? = w.heap[j]? := fun j hn hl => hg.block j hl (fun e => hn (hM j e.symm).1)
  refine ⟨F, ⟨h1.dk.keep (fun j hj hl => hkeep j (fun hm => (h3 j hm).1 hj) hl), ⟨?_, h1.mp.lo, h1.mp.hi⟩, ?_, fun j hj => ⟨(h1.low j hj).1, Nat.lt_of_lt_of_le (h1.low j hj).2 hg.size⟩, h1.fg, h1.fk, h1.lg, h1.lk, h1.sz, h1.lab, h1.tt⟩, h2.grown hg h2.size (fun j hj => (hM j hj).2), fun j hj => ?_⟩
  · have hl := h1.mp.blk.lt
    have hb := h1.mp.blk
    unfold Blk at *
    rw [hkeep g (fun hm => (h3 g hm).2.1 rfl) hl]; exact hb
  · have hl := h1.bb.lt
    have hb := h1.bb
    unfold Blk at *
    rw [hkeep k (fun hm => (h3 k hm).2.2.1 rfl) hl]; exact hb
  · rcases hN j hj with h4 | h4
    · exact ⟨(h3 j h4).1, (h3 j h4).2.1, (h3 j h4).2.2.1, Nat.lt_of_lt_of_le (h3 j h4).2.2.2 hg.size⟩
    · refine ⟨fun hf => ?_, fun e => ?_, fun e => ?_, h4.2⟩
      · have := (h1.low j hf).2; omega
      · have := h1.mp.blk.lt; omega
      · have := h1.bb.lt; omega
end

end Go.Proofs.YtjlmldhlmnafnaaDoor

/-
  What BankFull finds, as plain data; no function here.
-/

namespace Go.Proofs.YtjlmldhlmnafnaaDoor
set_option linter.unusedSimpArgs false
set_option linter.unusedVariables false
set_option maxRecDepth 100000
open Go.RowKit

theorem lab_below (n k j : Nat) (hj : j < n) : (lab n k).getD j false = decide (j < k) := by rw [lab_at]; simp [hj]
theorem Fr_lab0 (n k : Nat) (hk : k ≤ n) : ∀ i, i ≤ k → Fr (lab n k) i = []
  | 0, _ => rfl
  | i + 1, h => by rw [Fr_used _ i (by rw [lab_below _ _ _ (by omega)]; simp; omega)]; exact Fr_lab0 n k hk i (by omega)
theorem Fr_lab (n k : Nat) (hk : k ≤ n) : ∀ d, k + d ≤ n → Fr (lab n k) (k + d) = (List.range d).map (k + ·)
  | 0, _ => by rw [Nat.add_zero, Fr_lab0 n k hk k (Nat.le_refl _)]; rfl
  | d + 1, h => by
    rw [← Nat.add_assoc, Fr_free _ (k + d) (by rw [lab_below _ _ _ (by omega)]; simp), Fr_lab n k hk d (by omega), List.range_succ, List.map_append]
    rfl
theorem free_lab (n k : Nat) (hk : k ≤ n) : freeN (lab n k) = n - k := by
  rw [← Fr_all, lab_len]
  have h := Fr_lab n k hk (n - k) (by omega)
  rw [show k + (n - k) = n by omega] at h
  rw [h]; simp
theorem take_lab (n k : Nat) (hk : k ≤ n) (m : Nat) (hm : k + m ≤ n) : (Fr (lab n k) n).take m = (List.range m).map (k + ·) := by
  have h := Fr_take (lab n k) (k + m) (by rw [lab_len]; exact hm) m (by rw [Fr_lab n k hk m hm]; simp)
  rw [lab_len] at h
  rw [← h, Fr_lab n k hk m hm]
/-- The sectors that a block takes. -/
def secs (k c : Nat) : List Nat := (List.range c).map (k + ·)
theorem takeL_lab (n k c : Nat) (hc : c = 1 ∨ c = 2) (hk : k + c ≤ n) : takeL (lab n k) (c : Int) = (lab n (k + c), secs k c, 0) := by
  have h1 := take_lab n k (by omega) c hk
  unfold takeL
  rw [if_neg (by omega), if_neg (by rw [free_lab n k (by omega)]; omega), lab_len]
  simp only [Int.toNat_natCast]
  rw [h1]
  rcases hc with rfl | rfl
  · show (setAll (lab n k) [k + 0], [k + 0], 0) = (_, [k + 0], 0)
    show ((lab n k).set (k + 0) true, _, _) = _
    rw [Nat.add_zero, lab_next n k (by omega)]
  · show (setAll (lab n k) [k + 0, k + 1], [k + 0, k + 1], 0) = (_, [k + 0, k + 1], 0)
    show (((lab n k).set (k + 0) true).set (k + 1) true, _, _) = _
    rw [Nat.add_zero, lab_next n k (by omega), lab_next n (k + 1) (by omega)]
theorem takeL_none (n k c : Nat) (hc : c = 1 ∨ c = 2) (hk : k ≤ n) (hf : n < k + c) : (takeL (lab n k) (c : Int)).2.2 = 7 := by
  unfold takeL
  rw [if_neg (by omega), if_pos (by rw [free_lab n k hk]; omega)]

/-- The block number i of BankFull. -/
def ownB (b : List Int) (i : Nat) : List Int := (((i % 256 : Nat) : Int) :: b)
def blkB (b : List Int) (i : Nat) : List Int := wholeL (ownB b i)
theorem ownB_rng {b : List Int} (h : ∀ x ∈ b, 0 ≤ x ∧ x ≤ 255) (i : Nat) : ∀ x ∈ ownB b i, 0 ≤ x ∧ x ≤ 255 := by
  intro x hx
  rcases List.mem_cons.1 hx with rfl | h1
  · omega
  · exact h x h1
theorem blkB_len {b : List Int} (h : b.length ≤ 200) (i : Nat) : (blkB b i).length = 256 := wholeL_len (by simp [ownB]; omega)
theorem blkB_rng {b : List Int} (h : ∀ x ∈ b, 0 ≤ x ∧ x ≤ 255) (i : Nat) : ∀ x ∈ blkB b i, 0 ≤ x ∧ x ≤ 255 := wholeL_rng (ownB_rng h i) _
/-- The pointer to it. -/
def ptrB (b : List Int) (c i : Nat) : Pt := ⟨shaOf (blkB b i), 7, 4 + c * i, if c = 2 then 4 + c * i + 1 else 0⟩
theorem ptrB_ok {b : List Int} {c i : Nat} (hc : c = 1 ∨ c = 2) (hi : i ≤ 100) : (ptrB b c i).ok := by
  refine ⟨shaOf_length _, shaOf_rng _, by show (7 : Nat) < _; omega, ?_, ?_⟩
  · show 4 + c * i < _
    rcases hc with rfl | rfl <;> omega
  · show (if c = 2 then 4 + c * i + 1 else 0) < _
    rcases hc with rfl | rfl
    · rw [if_neg (by omega)]; omega
    · rw [if_pos rfl]; omega
/-- Behind i blocks. -/
structure FullAt (n c : Nat) (b : List Int) (i : Nat) (S : DS) : Prop where
  live : Live S n
  len : S.ws.length ≤ 2 * i
  read : ∀ j, j < i → readW S.laid S.ws (4 + c * j) = blkB b j
theorem full_start {n c : Nat} {b : List Int} (h1 : 16 ≤ n) (h2 : n ≤ 512) : FullAt n c b 0 (DS.new n) := ⟨Live.new h1 h2, by simp [DS.new], fun j hj => by omega⟩
theorem full_put {n c : Nat} {b : List Int} {i : Nat} {S : DS} (h : FullAt n c b i S) (hc : c = 1 ∨ c = 2) (hb : b.length ≤ 200) (hr : ∀ x ∈ b, 0 ≤ x ∧ x ≤ 255) (hk : 4 + c * i + c ≤ n) :
    ∃ S', putK S (lab n (4 + c * i)) 7 (blkB b i) (c : Int) = ((S', lab n (4 + c * (i + 1))), ptrB b c i, 0) ∧ FullAt n c b (i + 1) S' := by
  have hl := blkB_len hb i
  have hrg := blkB_rng hr i
  have ht := takeL_lab n (4 + c * i) c hc hk
  have hoff := h.live.off
  have hnx : 4 + c * i + c = 4 + c * (i + 1) := by rw [Nat.mul_succ]; omega
  rcases hc with rfl | rfl
  · obtain ⟨a1, a2, a3⟩ := h.live.write (x := 4 + 1 * i) (by omega) hl hrg
    refine ⟨(S.write ((4 + 1 * i : Nat) : Int) (blkB b i)).1, ?_, a2, by rw [a3]; simp; have := h.len; omega, fun j hj => ?_⟩
    · unfold putK
      have hw : wrK (blkB b i) S [4 + 1 * i + 0] = ((S.write ((4 + 1 * i : Nat) : Int) (blkB b i)).1, 0) := by
        simp only [wrK, Nat.add_zero]; rw [if_pos a1]
      rw [hoff, if_neg (by decide), if_neg (by omega), ht, if_neg (by simp)]
      have hse : secs (4 + 1 * i) 1 = [4 + 1 * i + 0] := rfl
      simp only [hse]
      rw [hw, if_neg (by simp), ← hnx]
      unfold ptrB
      rw [if_neg (by omega)]
      rfl
    · by_cases e : j = i
      · subst e; rw [readW_write a1, if_pos rfl]
      · rw [readW_write_ne _ _ (show 4 + 1 * i ≠ 4 + 1 * j by omega)]; exact h.read j (by omega)
  · obtain ⟨a1, a2, a3⟩ := h.live.write (x := 4 + 2 * i) (by omega) hl hrg
    obtain ⟨b1, b2, b3⟩ := a2.write (x := 4 + 2 * i + 1) (by omega) hl hrg
    refine ⟨((S.write ((4 + 2 * i : Nat) : Int) (blkB b i)).1.write ((4 + 2 * i + 1 : Nat) : Int) (blkB b i)).1, ?_, b2, by rw [b3, a3]; simp; have := h.len; omega, fun j hj => ?_⟩
    · unfold putK
      have hw : wrK (blkB b i) S [4 + 2 * i + 0, 4 + 2 * i + 1] = (((S.write ((4 + 2 * i : Nat) : Int) (blkB b i)).1.write ((4 + 2 * i + 1 : Nat) : Int) (blkB b i)).1, 0) := by
        simp only [wrK, Nat.add_zero]; rw [if_pos a1, if_pos b1]
      rw [hoff, if_neg (by decide), if_neg (by omega), ht, if_neg (by simp)]
      have hse : secs (4 + 2 * i) 2 = [4 + 2 * i + 0, 4 + 2 * i + 1] := rfl
      simp only [hse]
      rw [hw, if_neg (by simp), ← hnx]
      unfold ptrB
      rw [if_pos rfl]
      rfl
    · rw [readW_write_ne _ _ (show 4 + 2 * i + 1 ≠ 4 + 2 * j by omega)]
      by_cases e : j = i
      · subst e; rw [readW_write a1, if_pos rfl]
      · rw [readW_write_ne _ _ (show 4 + 2 * i ≠ 4 + 2 * j by omega)]; exact h.read j (by omega)
theorem full_none {n c : Nat} {b : List Int} {i m : Nat} {S : DS} (h : FullAt n c b i S) (hc : c = 1 ∨ c = 2) (hb : b.length ≤ 200) (hk : 4 + c * i ≤ n) (hf : n < 4 + c * i + c) : putK S (lab n (4 + c * i)) 7 (blkB b m) (c : Int) = ((S, lab n (4 + c * i)), Pt.zero, 7) := by
  have hl := blkB_len hb m
  have ht := takeL_none n (4 + c * i) c hc hk hf
  unfold putK
  rw [h.live.off, if_neg (by decide), if_neg (by omega), if_pos (by rw [ht]; simp), ht]
  rfl
theorem full_read {n c : Nat} {b : List Int} {i j : Nat} {S : DS} (h : FullAt n c b i S) (hc : c = 1 ∨ c = 2) (hj : j < i) (hk : 4 + c * i ≤ n) : readK S (ptrB b c j) = (blkB b j, 0) := by
  have hx : (ptrB b c j).x = 4 + c * j := rfl
  have hlt : 4 + c * j < n := by
    have : c * (j + 1) ≤ c * i := Nat.mul_le_mul_left c hj
    rw [Nat.mul_succ] at this
    omega
  have hm : (ptrB b c j).may = true := by
    unfold Pt.may
    rw [hx, if_neg (by omega)]
    show (!((if c = 2 then 4 + c * j + 1 else 0) == 4 + c * j)) = true
    rcases hc with rfl | rfl
    · rw [if_neg (by omega)]; simp; omega
    · rw [if_pos rfl]; simp
  have hh : (ptrB b c j).hole = false := by
    unfold Pt.hole
    refine Pt.same_not (fun e => ?_)
    have := congrArg Pt.x e
    rw [hx] at this
    simp [Pt.zero] at this
  have hr : rightL S (ptrB b c j).x (ptrB b c j).h = true := by
    unfold rightL
    rw [hx, h.live.ok.secs, h.read j hj]
    simp [hlt]
    rfl
  unfold readK
  rw [okK_live h.live hm, if_neg (by simp), hh, if_neg (by simp), if_pos hr, hx, h.read j hj]

end Go.Proofs.YtjlmldhlmnafnaaDoor
