/-
  The walk of the law BankHealed.
-/
import Derived.Test.YtjlmldhlmnafnaaDoorG33
namespace Go.Proofs.YtjlmldhlmnafnaaDoor
set_option linter.unusedSimpArgs false
set_option linter.unusedVariables false
set_option maxRecDepth 100000
open Go.RowKit

set_option maxHeartbeats 80000000 in
theorem healed_main (ba : Option Addr) (bc : Nat) (bs : List Int) (m0a : Option Addr) (m0c : Nat) (m0 : List Int) (m1a : Option Addr) (m1c : Nat) (m1 : List Int) (oa : Option Addr) (oc : Nat) (os : List Int) (w : World) (hV : Vars w) (hB : Bs w ba bc bs) (hM0 : Bs w m0a m0c m0) (hM1 : Bs w m1a m1c m1) (hO : Bs w oa oc os) (h1 : bs.length ≤ 256) (h2 : os.length ≤ 256) (h3 : m0.length ≤ 256) (h4 : m1.length ≤ 256) :
    Calls Tryd.prog 5 #[.slice ba bs.length bc, .agg #[.slice m0a m0.length m0c, .slice m1a m1.length m1c], .slice oa os.length oc] w fun e w' => e = .returned (.bool true) ∧ Below w.heap.size w w' := by
  have hal := fun u (hu : Vars u) => balive_run u hu
  have hBl := wholeL_len h1
  have hBr := wholeL_rng hB.rng (256 - bs.length)
  have hOl := wholeL_len h2
  have hOr := wholeL_rng hO.rng (256 - os.length)
  obtain ⟨S1, S2, S3, S4, S5, S6, S7, l1, x, y, n, e, n6, n7, f, HH⟩ := healed_pure m0 m1 (wholeL bs) (wholeL os) hBl hBr hOl hOr
  have HHD : Hid (Healed _ _ _ _ _ _ _ _ _ _ _ _ _ _ _ _ _ _ _ _ _) := HH
  have hwb := whole_later ba bc bs.length bs hB rfl h1
  have hwo := whole_later oa oc os.length os hO rfl h2
  have hwb2 := hwb
  have him0 : ∀ (g : Nat) (u : World), (Instr.indexAt 66 (.pointer (some ⟨g, 0, none⟩)) (.int .i64 0)).run Tryd.prog u = .ok (.pointer (some ⟨g, 0, none⟩)) u := fun g u => index_masks g 0 (by omega) u
  have him1 : ∀ (g : Nat) (u : World), (Instr.indexAt 66 (.pointer (some ⟨g, 0, none⟩)) (.int .i64 1)).run Tryd.prog u = .ok (.pointer (some ⟨g, 1, none⟩)) u := fun g u => index_masks g 1 (by omega) u
  obtain ⟨nb, hnb⟩ : ∃ n, n = bs.length := ⟨_, rfl⟩
  obtain ⟨n0, hn0⟩ : ∃ n, n = m0.length := ⟨_, rfl⟩
  obtain ⟨n1, hn1⟩ : ∃ n, n = m1.length := ⟨_, rfl⟩
  obtain ⟨no, hno⟩ : ∃ n, n = os.length := ⟨_, rfl⟩
  rw [← hnb] at hwb hwb2 h1
  rw [← hno] at hwo h2
  rw [← hn0] at h3
  rw [← hn1] at h4
  have hM0' := hM0
  have hM1' := hM1
  have HN01 : Hid (n0 = m0.length ∧ n1 = m1.length) := ⟨hn0, hn1⟩
  rw [← hnb, ← hn0, ← hn1, ← hno]
  obtain ⟨mv, hmv⟩ : ∃ mv, mv = [Value.slice m0a n0 m0c, .slice m1a n1 m1c] := ⟨_, rfl⟩
  have HMV : Hid (mv[0]? = some (Value.slice m0a n0 m0c) ∧ mv[1]? = some (Value.slice m1a n1 m1c)) := by rw [hmv]; exact ⟨rfl, rfl⟩
  have hag : (#[Value.slice m0a n0 m0c, .slice m1a n1 m1c] : Array Value) = mv.toArray := by rw [hmv]
  rw [hag]
  have hqnb : decide ((256 : Int) < (nb : Int)) = false := by simp; omega
  have hqno : decide ((256 : Int) < (no : Int)) = false := by simp; omega
  have hqn0 : decide ((256 : Int) < (n0 : Int)) = false := by simp; omega
  have hqn1 : decide ((256 : Int) < (n1 : Int)) = false := by simp; omega
  have hpo : (pt45 (shaOf (wholeL bs))).ok := pt45_ok
  obtain ⟨P, hP⟩ : ∃ P, P = pt45 (shaOf (wholeL bs)) := ⟨_, rfl⟩
  have HX : Hid (P.vs[33]? = some (.int .u32 4) ∧ P.vs[34]? = some (.int .u32 5)) := by rw [hP]; exact ⟨Pt.vs_x hpo, Pt.vs_y hpo⟩
  have HPH : Hid (P.h = shaOf (wholeL bs)) := by show _ = _; rw [hP]; rfl
  rw [← hP] at hpo
  have HP : Hid (P = pt45 (shaOf (wholeL bs))) := hP
  obtain ⟨B, hBe⟩ : ∃ B, B = wholeL bs := ⟨_, rfl⟩
  obtain ⟨O, hOe⟩ : ∃ O, O = wholeL os := ⟨_, rfl⟩
  rw [← hBe] at hBl hwb hwb2 HP HPH
  rw [← hOe] at hOl hwo
  have HHE : Hid (Healed (DS.new 32) (lab 32 4) m0 m1 B O S1 S2 S3 S4 S5 S6 S7 l1 x y n e n6 n7 f) := by rw [hBe, hOe]; exact HH
  have HPAR : Hid (P.h.map (Value.int .u8) = (P.vs.drop 0).take 32) := Pt.vs_hash hpo
  have HAL : Hid (∀ w : World, (Instr.alloc 42 true (.tuple #[])).run Tryd.prog w = .ok (.pointer (some ⟨w.heap.size, 0, none⟩)) (w.alloc (.cells Pt.zero.vs.toArray 42))) := alloc_ptr0
  have HAB : Hid (∀ w : World, (Instr.alloc 46 true (.tuple #[])).run Tryd.prog w = .ok (.pointer (some ⟨w.heap.size, 0, none⟩)) (w.alloc (.cells (twoB false false).toArray 46))) := alloc_bools
  have hzl : Pt.zero.vs.length = 35 := Pt.vs_len Pt.zero_ok
  have hvl : P.vs.length = 35 := Pt.vs_len hpo
  have hvo : ∀ v ∈ P.vs, v.oneCell' = true := Pt.vs_one P
  have hi0 := index_at0
  have hi1 := index_at1
  have hib0 : ∀ (g' : Nat) (u : World), (Instr.indexAt 46 (.pointer (some ⟨g', 0, none⟩)) (.int .i64 0)).run Tryd.prog u = .ok (.pointer (some ⟨g', 0, none⟩)) u := fun g' u => index_bools g' 0 (by omega) u
  have hib1 : ∀ (g' : Nat) (u : World), (Instr.indexAt 46 (.pointer (some ⟨g', 0, none⟩)) (.int .i64 1)).run Tryd.prog u = .ok (.pointer (some ⟨g', 1, none⟩)) u := fun g' u => index_bools g' 1 (by omega) u
  have hbu := build_tt
  have hett := equal_tt
  have hsO := shaOf_length O
  have hsB := shaOf_length B
  have heq0 : ∀ u, (Op.equalIn 10000 39 (.agg ((shaOf O).map (Value.int .u8)).toArray) (.agg (P.h.map (Value.int .u8)).toArray)).run Tryd.prog u = .ok (shaOf O == P.h) u := fun u => equal_ints Tryd.underlying39 Tryd.underlying5 sizes5 9998 _ _ hsO hpo.len u
  have HTL : Hid ((f == 0) = (shaOf O == P.h)) := by show _ = _; rw [HPH.out]; exact HHE.out.told
  have hsmO : ∀ u a c, Bs u a c O → Vars u → Calls Tryd.prog 20 #[.slice a 256 c] u fun e w' => e = .returned (.agg ((shaOf O).map (Value.int .u8)).toArray) ∧ Below u.heap.size u w' := fun u a c hu hv => by
    have := sum_run a c O u hu hv (by omega)
    rw [hOl] at this
    exact this
  obtain ⟨zs, hzs⟩ : ∃ zs, zs = Pt.zero.vs := ⟨_, rfl⟩
  obtain ⟨ss, hss⟩ : ∃ ss, ss = (shaOf O).map (Value.int .u8) := ⟨_, rfl⟩
  obtain ⟨hs, hhs⟩ : ∃ hs, hs = P.h.map (Value.int .u8) := ⟨_, rfl⟩
  have hhl : hs.length = 32 := by rw [hhs, List.length_map, hpo.len]
  obtain ⟨qb, hqb⟩ : ∃ qb, qb = (shaOf O == P.h) := ⟨_, rfl⟩
  obtain ⟨vs, hvs⟩ : ∃ vs, vs = P.vs := ⟨_, rfl⟩
  obtain ⟨tt, htt⟩ : ∃ tt, tt = twoB true true := ⟨_, rfl⟩
  obtain ⟨ff, hff⟩ : ∃ ff, ff = twoB false false := ⟨_, rfl⟩
  obtain ⟨xy, hxy⟩ : ∃ xy, xy = twoB x y := ⟨_, rfl⟩
  have httl : tt.length = 2 := by rw [htt]; rfl
  have hffl : ff.length = 2 := by rw [hff]; rfl
  have hxyl : xy.length = 2 := by rw [hxy]; rfl
  have htto : ∀ v ∈ tt, v.oneCell' = true := by rw [htt]; exact twoB_one _ _
  have hxyo : ∀ v ∈ xy, v.oneCell' = true := by rw [hxy]; exact twoB_one _ _
  have HXY : Hid (xy[0]? = some (Value.bool x) ∧ xy[1]? = some (Value.bool y)) := by rw [hxy]; exact ⟨rfl, rfl⟩
  rw [← hzs] at HAL hzl
  rw [← hss] at heq0 hsmO
  rw [← hhs] at heq0 HPAR
  rw [← hqb] at heq0 HTL
  rw [← hvs] at HX HPAR hvl hvo
  rw [← htt] at hbu hett
  rw [← hff] at HAB
  have HEQ : Hid (∀ u, (Op.equalIn 10000 39 (.agg ss.toArray) (.agg hs.toArray)).run Tryd.prog u = .ok qb u) := heq0
  have HVS : Hid (vs = P.vs) := hvs
  have HTT : Hid (tt = twoB true true) := htt
  have HXYE : Hid (xy = twoB x y) := hxy
  have HSZ : Hid (∀ {u : World} {M k p g S l}, BS w u M k p g S l 7 → True) := fun _ => trivial
  clear HH HHD hmv hag hnb hn0 hn1 hno hP hBe hOe hzs hss hhs hqb hvs htt hff hxy heq0 hsO hsB HSZ
  go_enter Tryd.func5, Tryd.ntmps5
  go_wp2_with (first
    | ((with_reducible show wpList _ _ _ (Oper.mk _ (Op.box _ _) _ _ _ _ :: _) _ _); refine wpList_box0 (by rfl) 66 (.tmp 1) (by rfl) mv (by rfl) ?_; intro w1 hL1 hb1 hs1
       clear hs1
       have hc10 : w1.cell? ⟨w.heap.size, 0, none⟩ = some (.slice m0a n0 m0c) := (hL1.cell 0).trans HMV.out.1
       have hc11 : w1.cell? ⟨w.heap.size, 1, none⟩ = some (.slice m1a n1 m1c) := (hL1.cell 1).trans HMV.out.2
       have hfr := bs_fresh 32 w1 (by omega) (by omega))
    | (go_at_call 7; go_must (refine hfr.mono ?_); rintro e w2 ⟨k, p, g, rfl, hK2⟩
       have hb2 := hK2.bel
       have hc20 := (hb2.cell (p := ⟨w.heap.size, 0, none⟩) hL1.lt).trans hc10
       have hc21 := (hb2.cell (p := ⟨w.heap.size, 1, none⟩) hL1.lt).trans hc11)
    | (go_at_call 22; go_must (refine (hwb _ (hb1.trans (hb2.mono hb1.size))).mono ?_); rintro e w3 ⟨a3, c3, rfl, hN3, hb3⟩
       have hV1 := hV.stays hb1
       have hK3 := hK2.new (N := fun j => j < w3.heap.size ∧ w2.heap.size ≤ j) hb3 (fun j hj => .inr ⟨hj.2, hj.1⟩)
       have hx3 : ∀ x, a3 = some x → x.block < w3.heap.size ∧ w2.heap.size ≤ x.block := fun x hx => ⟨hN3.1.lt (by intro e; rw [e] at hBl; simp at hBl) hx, hN3.2 x hx⟩
       have hp3 := bs_put hK3 hV1 HHE.out.l0 a3 c3 B hN3.1 (fun _ x hx => .inl (hx3 x hx)) 2
       rw [HHE.out.put, hBl] at hp3
       simp only [← HP.out, ← HVS.out] at hp3)
    | (go_at_call 21; go_must (refine hp3.mono ?_); rintro e w4 ⟨rfl, hK4, _⟩)
    | ((with_reducible show wpList _ _ _ (Oper.mk _ (Op.alloc 42) _ _ _ _ :: _) _ _); refine wpList_alloc0 (by rfl) 42 (by rfl) (some 9) (by rfl) _ HAL.out ?_; intro w5 hR5 hb5 hs5
       have hK5 := hK4.new (N := fun j => j = w4.heap.size) hb5 (fun j hj => .inr (by rw [hj]; exact ⟨Nat.le_refl _, by omega⟩))
       clear hs5)
    | ((with_reducible show wpList _ _ _ (Oper.mk _ (Op.store 42 (.tmp 9) _) _ _ _ _ :: _) _ _); refine wpList_store_blk (by rfl) (.tmp 9) (.tmp 56) 42 (by rfl) _ 0 35 (by rfl) vs (by rfl) size_ptr hR5 hvl (by omega) hvo _ (whole_store hzl) ?_
       intro w6 hR6 hbut6 hs6
       have hK6 := hK5.set hbut6 rfl hK4.bel.size
       have hf6 := bs_flush hK6 HHE.out.l1
       rw [HHE.out.flush] at hf6
       clear hs6)
    | (go_at_call 23; go_must (refine hf6.mono ?_); rintro e w7 ⟨rfl, hK7, hy7⟩
       have hR7 := hy7.blk hR6 rfl
       have hc7 : w7.cell? ⟨w4.heap.size, 33, none⟩ = some (.int .u32 4) := (hR7.cell 33).trans HX.out.1
       have hd7 := (hK7.bel.cell (p := ⟨w.heap.size, 0, none⟩) hL1.lt).trans hc10
       have hr7 := bs_rot hK7 4 m0a m0c m0 (hM0.stays (hb1.trans (hK7.bel.mono hb1.size))) (by have := HN01.out.1; omega) (fun h0 x hx => .inr (Nat.lt_of_lt_of_le (hM0.lt h0 hx) hb1.size))
       rw [HHE.out.rot0, ← HN01.out.1] at hr7)
    | (go_at_call_of 24 (Value.int .i64 4); go_must (refine hr7.mono ?_); rintro e w8 ⟨rfl, hK8, hy8⟩
       have hR8 := hy8.blk hR7 rfl
       have hc8 : w8.cell? ⟨w4.heap.size, 34, none⟩ = some (.int .u32 5) := (hR8.cell 34).trans HX.out.2
       have hd8 := (hK8.bel.cell (p := ⟨w.heap.size, 1, none⟩) hL1.lt).trans hc11
       have hr8 := bs_rot hK8 5 m1a m1c m1 (hM1.stays (hb1.trans (hK8.bel.mono hb1.size))) (by have := HN01.out.2; omega) (fun h0 x hx => .inr (Nat.lt_of_lt_of_le (hM1.lt h0 hx) hb1.size))
       rw [HHE.out.rot1, ← HN01.out.2] at hr8)
    | (go_at_call_of 24 (Value.int .i64 5); go_must (refine hr8.mono ?_); rintro e w9 ⟨rfl, hK9, hy9⟩
       have hR9 := hy9.blk hR8 rfl
       have hl9 := bs_look hK9 hV1 HHE.out.l4 P hpo
       rw [HP.out, HHE.out.look] at hl9
       simp only [← HP.out, ← HVS.out, ← HXYE.out] at hl9)
    | ((with_reducible show wpList _ _ _ (Oper.mk _ (Op.load 42 (.tmp 9)) _ _ _ _ :: _) _ _); refine wpList_load_blk (by rfl) (.tmp 9) 42 (by rfl) _ 0 35 (by rfl) agg_ptr size_ptr hR9 _ (whole_load hvl) hvl ?_)
    | (go_at_call 25; go_must (refine hl9.mono ?_); rintro e wA ⟨rfl, hbA⟩
       have hRA := hR9.stays hbA
       have hKA := hK9.stays hbA)
    | ((with_reducible show wpList _ _ _ (Oper.mk _ (Op.alloc 46) _ _ _ _ :: _) _ _); refine wpList_alloc0 (by rfl) 46 (by rfl) (some 12) (by rfl) _ HAB.out ?_; intro wB hGB hbB hsB
       have hRB := hRA.stays hbB
       have hKB := hKA.new (N := fun j => j = w4.heap.size ∨ j = wA.heap.size) hbB (fun j hj => hj.imp id (fun e => by rw [e]; exact ⟨Nat.le_refl _, by omega⟩))
       have hne : wA.heap.size ≠ w4.heap.size := by have := hRA.lt; omega
       have HNE : Hid (wA.heap.size ≠ w4.heap.size) := hne
       clear hsB hne)
    | ((with_reducible show wpList _ _ _ (Oper.mk _ (Op.store 46 (.tmp 12) _) _ _ _ _ :: _) _ _); refine wpList_store_blk (by rfl) (.tmp 12) (.tmp 80) 46 (by rfl) _ 0 2 (by rfl) xy (by rfl) size_bools hGB hxyl (by omega) hxyo _ (whole_store hffl) ?_
       intro wC hGC hbutC hsC
       have hRC := hRB.but hbutC (Ne.symm HNE.out)
       have hKC := hKB.set hbutC (.inr rfl) hKA.bel.size
       have hhC := bs_heal hKC hV1 HHE.out.l4 P hpo
       rw [HP.out, HHE.out.heal] at hhC
       simp only [← HP.out, ← HVS.out] at hhC
       clear hsC)
    | ((with_reducible show wpList _ _ _ (Oper.mk _ (Op.load 42 (.tmp 9)) _ _ _ _ :: _) _ _); refine wpList_load_blk (by rfl) (.tmp 9) 42 (by rfl) _ 0 35 (by rfl) agg_ptr size_ptr hRC _ (whole_load hvl) hvl ?_)
    | (go_at_call 26; go_must (refine hhC.mono ?_); rintro e wD ⟨rfl, hKD, hyD⟩
       have hRD := hyD.blk hRC (.inl rfl)
       have hGD := hyD.blk hGC (.inr rfl)))
  have hg0 : wD.cell? ⟨wA.heap.size, 0, none⟩ = some (.bool x) := (hGD.cell 0).trans HXY.out.1
  have hg1 : wD.cell? ⟨wA.heap.size, 1, none⟩ = some (.bool y) := (hGD.cell 1).trans HXY.out.2
  have HR : Hid (Blk 42 wD w4.heap.size vs) := hRD
  clear hN3 hK2 hb2 hc20 hc21 hK3 hx3 hp3 hb3 hK4 hR5 hb5 hK5 hR6 hbut6 hK6 hf6 hK7 hy7 hR7 hc7 hd7 hr7 hK8 hy8 hR8 hc8 hd8 hr8 hK9 hy9 hR9 hl9 hbA hRA hKA hGB hbB hRB hKB hGC hbutC hRC hKC hhC hyD hRD hGD hfr hwb hc10 hc11
  go_loopw [16, 17] (fun c i wr => ∃ k : Nat, i = .int .i64 k ∧ wD = wr ∧ ((k = 0 ∧ c = .int .i64 0) ∨ (k = 1 ∧ c = .int .i64 ((if x then 0 else 1 : Nat) : Int)) ∨ (k = 2 ∧ c = .int .i64 ((cntR x y : Nat) : Int)))) (fun _ i _ => 2 - (intOf i).toNat)
  case atStart => exact ⟨0, rfl, rfl, .inl ⟨rfl, rfl⟩⟩
  case round =>
    rename_i hrel
    obtain ⟨k, rfl, rfl, ⟨rfl, rfl⟩ | ⟨rfl, rfl⟩ | ⟨rfl, rfl⟩⟩ := hrel
    · cases x
      · go_wp2
        go_roundw
        case rel => exact ⟨1, rfl, (by first | rfl | trivial), .inr (.inl ⟨rfl, rfl⟩)⟩
        case measure => decide
      · go_wp2
        go_roundw
        case rel => exact ⟨1, rfl, (by first | rfl | trivial), .inr (.inl ⟨rfl, rfl⟩)⟩
        case measure => decide
    · cases y
      · cases x
        · go_wp2
          go_roundw
          case rel => exact ⟨2, rfl, (by first | rfl | trivial), .inr (.inr ⟨rfl, rfl⟩)⟩
          case measure => decide
        · go_wp2
          go_roundw
          case rel => exact ⟨2, rfl, (by first | rfl | trivial), .inr (.inr ⟨rfl, rfl⟩)⟩
          case measure => decide
      · cases x
        · go_wp2
          go_roundw
          case rel => exact ⟨2, rfl, (by first | rfl | trivial), .inr (.inr ⟨rfl, rfl⟩)⟩
          case measure => decide
        · go_wp2
          go_roundw
          case rel => exact ⟨2, rfl, (by first | rfl | trivial), .inr (.inr ⟨rfl, rfl⟩)⟩
          case measure => decide
    · obtain ⟨C, hC⟩ : ∃ C, C = cntR x y := ⟨_, rfl⟩
      have hcode := HHE.out.code
      rw [← hC] at hcode ⊢
      have hle : HHE = HHE := rfl
      have bel1 := hb1
      rcases hcode with ⟨rfl, hc, rfl⟩ | ⟨rfl, rfl⟩
      · have hq : decide ((n : Int) < 2) = true := by simp; omega
        clear hle hC hc
        go_wp2
        have hldwE : ∀ u, Below wD.heap.size wD u → (Instr.loadAt 42 (.pointer (some ⟨w4.heap.size, 0, none⟩))).run Tryd.prog u = .ok (.agg vs.toArray) u := fun u hu => run_load_blk agg_ptr size_ptr (HR.out.stays hu) (whole_load hvl) hvl
        have hwwE := fun u (hu : Below wD.heap.size wD u) => calls_nuB (hwo u (bel1.trans ((hKD.bel.trans (hu.mono hKD.bel.size)).mono bel1.size))) hu.size
        refine UpT.wp_region_mid 4 (UpT.tell [(3, nuB wD.heap.size O)]) (fun _ => false) (by kernel_rfl) (by kernel_rfl) (UpT.tell_steady _ (by
          intro p hp
          simp only [List.mem_cons, List.not_mem_nil, or_false] at hp
          rcases hp with rfl <;> first | exact isV_steady _ | exact slB_steady _ _ | exact nuB_steady _ _)) ?_
        simp only [List.take_succ_cons, List.take_zero]
        apply UpT.wpUp_pure
        case hw => rfl
        case hψ => rfl
        case hv => (intro wz hp; clear hp; go_simp; try (with_reducible rfl))
        simp only [Act.put, List.setIfInBounds_toArray, List.set_cons_zero, List.set_cons_succ]
        refine UpT.wpUp_pure (.agg vs.toArray) (by rfl) (by rfl) (fun wz hp => exec_load (by rfl) (by rfl) (hldwE wz hp.1)) ?_
        simp only [Act.put, List.setIfInBounds_toArray, List.set_cons_zero, List.set_cons_succ]
        apply UpT.wpUp_pure
        case hw => rfl
        case hψ => rfl
        case hv => (intro wz hp; clear hp; go_simp; try (with_reducible rfl))
        simp only [Act.put, List.setIfInBounds_toArray, List.set_cons_zero, List.set_cons_succ]
        refine UpT.wpUp_call _ 22 #[.slice oa no oc] (by rfl) (by rfl) (by rfl) (fun wz => by go_simp) (fun wz hp => hwwE wz hp.1) ?_
        rintro v ⟨u, _, hf⟩
        obtain ⟨aa, cc, rfl, _⟩ := hf.of 3 v _ rfl rfl
        clear hf
        simp only [Act.put, List.setIfInBounds_toArray, List.set_cons_zero, List.set_cons_succ]
        refine UpT.wpUp_end ?_
        intro wE hbwE hf
        obtain ⟨aa2, cc2, hEe, hNwE⟩ := hf.of 3 _ _ rfl rfl
        cases hEe
        clear hf
        simp only [List.drop_succ_cons, List.drop_zero, List.take_succ_cons, List.take_zero]
        have hRE := HR.out.stays hbwE
        have hKE := hKD.new (N := fun j => j = w4.heap.size ∨ (wD.heap.size ≤ j ∧ j < wE.heap.size)) hbwE (fun j hj => hj.imp (fun e => .inl e) id)
        have hfE := bs_fix hKE hV1 HHE.out.l5 P hpo aa cc O hNwE.1 (fun h0 x hx => .inl (.inr ⟨hNwE.2 x hx, hNwE.1.lt h0 hx⟩))
        rw [HP.out, HHE.out.fix, hOl] at hfE
        simp only [← HP.out, ← HVS.out] at hfE
        go_wp2_with (first
          | (go_at_call 27; go_must (refine hfE.mono ?_); rintro e wX ⟨rfl, hKX, hyX⟩
             have hRX := hyX.blk hRE (.inl rfl)))
        show wpQuiet _ _ _ _ _ _
        repeat (quiet_step (skip))
        refine wpQuiet_nil ?_
        rintro _ ⟨nq, rfl⟩
        have hRF' := hRX.stays (below_drewN wX nq)
        have hKF' := hKX.stays (below_drewN wX nq)
        obtain ⟨wF, hwF⟩ : ∃ wF, wF = wX.drewN nq := ⟨_, rfl⟩
        rw [← hwF] at hRF' hKF' ⊢
        have hRF := hRF'
        have hKF := hKF'
        clear hwF hRF' hKF'
        go_wp2
        have hldF : ∀ u, Below wF.heap.size wF u → (Instr.loadAt 39 (.pointer (some ⟨w4.heap.size, 0, none⟩))).run Tryd.prog u = .ok (.agg hs.toArray) u := fun u hu => run_load_blk agg_hsh size_hash (hRF.stays hu) HPAR.out hhl
        have hwF := fun u (hu : Below wF.heap.size wF u) => calls_nuB (hwo u (bel1.trans ((hKF.bel.trans (hu.mono hKF.bel.size)).mono bel1.size))) hu.size
        have hVF := hKF.vars hV1
        have htl := HTL.out
        refine UpT.wp_region_tail 8 (UpT.tell [(3, nuB wF.heap.size O), (4, isV (.agg ss.toArray))]) (fun _ => false) (by kernel_rfl) (by kernel_rfl) (UpT.tell_steady _ (by
          intro p hp
          simp only [List.mem_cons, List.not_mem_nil, or_false] at hp
          rcases hp with rfl | rfl <;> first | exact isV_steady _ | exact slB_steady _ _ | exact nuB_steady _ _)) ?_
        simp only [List.take_succ_cons, List.take_zero]
        apply UpT.wpUp_pure
        case hw => rfl
        case hψ => rfl
        case hv => (intro wz hp; clear hp; go_simp; try (with_reducible rfl))
        simp only [Act.put, List.setIfInBounds_toArray, List.set_cons_zero, List.set_cons_succ]
        apply UpT.wpUp_pure
        case hw => rfl
        case hψ => rfl
        case hv => (intro wz hp; clear hp; go_simp; try (with_reducible rfl))
        simp only [Act.put, List.setIfInBounds_toArray, List.set_cons_zero, List.set_cons_succ]
        apply UpT.wpUp_pure
        case hw => rfl
        case hψ => rfl
        case hv => (intro wz hp; clear hp; go_simp; try (with_reducible rfl))
        simp only [Act.put, List.setIfInBounds_toArray, List.set_cons_zero, List.set_cons_succ]
        refine UpT.wpUp_call _ 22 #[.slice oa no oc] (by rfl) (by rfl) (by rfl) (fun wz => by go_simp) (fun wz hp => hwF wz hp.1) ?_
        rintro v ⟨u, _, hf⟩
        obtain ⟨aa, cc, rfl, _⟩ := hf.of 3 v _ rfl rfl
        clear hf
        simp only [Act.put, List.setIfInBounds_toArray, List.set_cons_zero, List.set_cons_succ]
        refine UpT.wpUp_call _ 20 #[.slice aa 256 cc] (by rfl) (by rfl) (by rfl) (fun wz => by go_simp) (fun wz hp => by obtain ⟨a9, c9, he9, hN9⟩ := hp.2 3 _ _ (by kernel_rfl) rfl rfl; cases he9; exact calls_isV (hsmO wz _ _ hN9.1 (hVF.stays hp.1))) ?_
        rintro v ⟨u, _, hf⟩
        obtain rfl := hf.of 4 v _ rfl rfl
        clear hf
        simp only [Act.put, List.setIfInBounds_toArray, List.set_cons_zero, List.set_cons_succ]
        apply UpT.wpUp_pure
        case hw => rfl
        case hψ => rfl
        case hv => (intro wz hp; clear hp; go_simp; try (with_reducible rfl))
        simp only [Act.put, List.setIfInBounds_toArray, List.set_cons_zero, List.set_cons_succ]
        refine UpT.wpUp_pure (.agg hs.toArray) (by rfl) (by rfl) (fun wz hp => exec_load (by rfl) (by rfl) (hldF wz hp.1)) ?_
        simp only [Act.put, List.setIfInBounds_toArray, List.set_cons_zero, List.set_cons_succ]
        have heq := HEQ.out
        apply UpT.wpUp_pure
        case hw => rfl
        case hψ => rfl
        case hv => (intro wz hp; clear hp; go_simp; try (with_reducible rfl))
        simp only [Act.put, List.setIfInBounds_toArray, List.set_cons_zero, List.set_cons_succ]
        refine UpT.wpUp_end ?_
        intro wG hbG hf
        clear hf
        simp only [List.drop_succ_cons, List.drop_zero]
        have hKG := hKF.stays hbG
        have hRG := hRF.stays hbG
        go_wp2
        have hldwI : ∀ u, Below wG.heap.size wG u → (Instr.loadAt 42 (.pointer (some ⟨w4.heap.size, 0, none⟩))).run Tryd.prog u = .ok (.agg vs.toArray) u := fun u hu => run_load_blk agg_ptr size_ptr (hRG.stays hu) (whole_load hvl) hvl
        have hwwI := fun u (hu : Below wG.heap.size wG u) => calls_nuB (hwb2 u (bel1.trans ((hKG.bel.trans (hu.mono hKG.bel.size)).mono bel1.size))) hu.size
        refine UpT.wp_region_mid 4 (UpT.tell [(3, nuB wG.heap.size B)]) (fun _ => false) (by kernel_rfl) (by kernel_rfl) (UpT.tell_steady _ (by
          intro p hp
          simp only [List.mem_cons, List.not_mem_nil, or_false] at hp
          rcases hp with rfl <;> first | exact isV_steady _ | exact slB_steady _ _ | exact nuB_steady _ _)) ?_
        simp only [List.take_succ_cons, List.take_zero]
        apply UpT.wpUp_pure
        case hw => rfl
        case hψ => rfl
        case hv => (intro wz hp; clear hp; go_simp; try (with_reducible rfl))
        simp only [Act.put, List.setIfInBounds_toArray, List.set_cons_zero, List.set_cons_succ]
        refine UpT.wpUp_pure (.agg vs.toArray) (by rfl) (by rfl) (fun wz hp => exec_load (by rfl) (by rfl) (hldwI wz hp.1)) ?_
        simp only [Act.put, List.setIfInBounds_toArray, List.set_cons_zero, List.set_cons_succ]
        apply UpT.wpUp_pure
        case hw => rfl
        case hψ => rfl
        case hv => (intro wz hp; clear hp; go_simp; try (with_reducible rfl))
        simp only [Act.put, List.setIfInBounds_toArray, List.set_cons_zero, List.set_cons_succ]
        refine UpT.wpUp_call _ 22 #[.slice ba nb bc] (by rfl) (by rfl) (by rfl) (fun wz => by go_simp) (fun wz hp => hwwI wz hp.1) ?_
        rintro v ⟨u, _, hf⟩
        obtain ⟨aa, cc, rfl, _⟩ := hf.of 3 v _ rfl rfl
        clear hf
        simp only [Act.put, List.setIfInBounds_toArray, List.set_cons_zero, List.set_cons_succ]
        refine UpT.wpUp_end ?_
        intro wI hbwI hf
        obtain ⟨aa2, cc2, hEe, hNwI⟩ := hf.of 3 _ _ rfl rfl
        cases hEe
        clear hf
        simp only [List.drop_succ_cons, List.drop_zero, List.take_succ_cons, List.take_zero]
        have hRI := hRG.stays hbwI
        have hKI := hKG.new (N := fun j => j = w4.heap.size ∨ (wG.heap.size ≤ j ∧ j < wI.heap.size)) hbwI (fun j hj => hj.imp (fun e => .inl e) id)
        have hfI := bs_fix hKI hV1 HHE.out.l6 P hpo aa cc B hNwI.1 (fun h0 x hx => .inl (.inr ⟨hNwI.2 x hx, hNwI.1.lt h0 hx⟩))
        rw [HP.out, HHE.out.fix2, hBl] at hfI
        simp only [← HP.out, ← HVS.out] at hfI
        go_wp2_with (first
          | (go_at_call 27; go_must (refine hfI.mono ?_); rintro e wY ⟨rfl, hKY, hyY⟩
             have hRY := hyY.blk hRI (.inl rfl)))
        show wpQuiet _ _ _ _ _ _
        repeat (quiet_step (skip))
        refine wpQuiet_nil ?_
        rintro _ ⟨mq, rfl⟩
        have hRJ' := hRY.stays (below_drewN wY mq)
        have hKJ' := hKY.stays (below_drewN wY mq)
        obtain ⟨wJ, hwJ⟩ : ∃ wJ, wJ = wY.drewN mq := ⟨_, rfl⟩
        rw [← hwJ] at hRJ' hKJ' ⊢
        have hRJ := hRJ'
        have hKJ := hKJ'
        clear hwJ hRJ' hKJ'
        have hlJ := bs_look hKJ hV1 HHE.out.l7 P hpo
        rw [HP.out, HHE.out.look2] at hlJ
        simp only [← HP.out, ← HVS.out, ← HTT.out] at hlJ
        go_wp2_with (first
          | ((with_reducible show wpList _ _ _ (Oper.mk _ (Op.load 42 (.tmp 9)) _ _ _ _ :: _) _ _); refine wpList_load_blk (by rfl) (.tmp 9) 42 (by rfl) _ 0 35 (by rfl) agg_ptr size_ptr hRJ _ (whole_load hvl) hvl ?_)
          | (go_at_call 25; go_must (refine hlJ.mono ?_); rintro e wK ⟨rfl, hbK⟩
             have hKK := hKJ.stays hbK)
          | ((with_reducible show wpList _ _ _ (Oper.mk _ (Op.alloc 46) _ _ _ _ :: _) _ _); refine wpList_alloc0 (by rfl) 46 (by rfl) (some 22) (by rfl) _ HAB.out ?_; intro wL hGL hbL hsL
             have hKL := hKK.new (N := fun j => j = wK.heap.size) hbL (fun j hj => .inr (by rw [hj]; exact ⟨Nat.le_refl _, by omega⟩))
             clear hsL)
          | ((with_reducible show wpList _ _ _ (Oper.mk _ (Op.store 46 (.tmp 22) _) _ _ _ _ :: _) _ _); refine wpList_store_blk (by rfl) (.tmp 22) (.tmp 153) 46 (by rfl) _ 0 2 (by rfl) tt (by rfl) size_bools hGL httl (by omega) htto _ (whole_store hffl) ?_
             intro wM hGM hbutM hsM
             have hKM := hKL.set hbutM rfl hKK.bel.size
             clear hsM)
          | (go_at_call 18; go_must (refine (hal _ (hKM.vars hV1)).mono ?_); rintro e wN ⟨rfl, hbN⟩
             have hGN := hGM.stays hbN)
          | ((with_reducible show wpList _ _ _ (Oper.mk _ (Op.load 46 _) _ _ _ _ :: _) _ _); refine wpList_load_blk_guard (by kernel_rfl) (.tmp 22) 46 (by rfl) _ 0 2 (by rfl) agg_bools size_bools hGN _ (whole_load httl) httl ?_)
          | ((with_reducible show wpList _ _ _ (Oper.mk _ (Op.build 46 _) _ _ _ _ :: _) _ _); refine wpList_build (by kernel_rfl) 46 [(0, .const (.bool true)), (1, .const (.bool true))] (by rfl) [(0, .bool true), (1, .bool true)] (by rfl) _ hbu ?_))
        go_ret
        exact ⟨rfl, below_then (bel1.trans (hKM.bel.mono bel1.size)) hbN⟩
      · clear hle hC
        go_wp2
        have hldwE : ∀ u, Below wD.heap.size wD u → (Instr.loadAt 42 (.pointer (some ⟨w4.heap.size, 0, none⟩))).run Tryd.prog u = .ok (.agg vs.toArray) u := fun u hu => run_load_blk agg_ptr size_ptr (HR.out.stays hu) (whole_load hvl) hvl
        have hwwE := fun u (hu : Below wD.heap.size wD u) => calls_nuB (hwo u (bel1.trans ((hKD.bel.trans (hu.mono hKD.bel.size)).mono bel1.size))) hu.size
        refine UpT.wp_region_mid 4 (UpT.tell [(3, nuB wD.heap.size O)]) (fun _ => false) (by kernel_rfl) (by kernel_rfl) (UpT.tell_steady _ (by
          intro p hp
          simp only [List.mem_cons, List.not_mem_nil, or_false] at hp
          rcases hp with rfl <;> first | exact isV_steady _ | exact slB_steady _ _ | exact nuB_steady _ _)) ?_
        simp only [List.take_succ_cons, List.take_zero]
        apply UpT.wpUp_pure
        case hw => rfl
        case hψ => rfl
        case hv => (intro wz hp; clear hp; go_simp; try (with_reducible rfl))
        simp only [Act.put, List.setIfInBounds_toArray, List.set_cons_zero, List.set_cons_succ]
        refine UpT.wpUp_pure (.agg vs.toArray) (by rfl) (by rfl) (fun wz hp => exec_load (by rfl) (by rfl) (hldwE wz hp.1)) ?_
        simp only [Act.put, List.setIfInBounds_toArray, List.set_cons_zero, List.set_cons_succ]
        apply UpT.wpUp_pure
        case hw => rfl
        case hψ => rfl
        case hv => (intro wz hp; clear hp; go_simp; try (with_reducible rfl))
        simp only [Act.put, List.setIfInBounds_toArray, List.set_cons_zero, List.set_cons_succ]
        refine UpT.wpUp_call _ 22 #[.slice oa no oc] (by rfl) (by rfl) (by rfl) (fun wz => by go_simp) (fun wz hp => hwwE wz hp.1) ?_
        rintro v ⟨u, _, hf⟩
        obtain ⟨aa, cc, rfl, _⟩ := hf.of 3 v _ rfl rfl
        clear hf
        simp only [Act.put, List.setIfInBounds_toArray, List.set_cons_zero, List.set_cons_succ]
        refine UpT.wpUp_end ?_
        intro wE hbwE hf
        obtain ⟨aa2, cc2, hEe, hNwE⟩ := hf.of 3 _ _ rfl rfl
        cases hEe
        clear hf
        simp only [List.drop_succ_cons, List.drop_zero, List.take_succ_cons, List.take_zero]
        have hRE := HR.out.stays hbwE
        have hKE := hKD.new (N := fun j => j = w4.heap.size ∨ (wD.heap.size ≤ j ∧ j < wE.heap.size)) hbwE (fun j hj => hj.imp (fun e => .inl e) id)
        have hfE := bs_fix hKE hV1 HHE.out.l5 P hpo aa cc O hNwE.1 (fun h0 x hx => .inl (.inr ⟨hNwE.2 x hx, hNwE.1.lt h0 hx⟩))
        rw [HP.out, HHE.out.fix, hOl] at hfE
        simp only [← HP.out, ← HVS.out] at hfE
        go_wp2_with (first
          | (go_at_call 27; go_must (refine hfE.mono ?_); rintro e wX ⟨rfl, hKX, hyX⟩
             have hRX := hyX.blk hRE (.inl rfl)))
        show wpQuiet _ _ _ _ _ _
        repeat (quiet_step (skip))
        refine wpQuiet_nil ?_
        rintro _ ⟨nq, rfl⟩
        have hRF' := hRX.stays (below_drewN wX nq)
        have hKF' := hKX.stays (below_drewN wX nq)
        obtain ⟨wF, hwF⟩ : ∃ wF, wF = wX.drewN nq := ⟨_, rfl⟩
        rw [← hwF] at hRF' hKF' ⊢
        have hRF := hRF'
        have hKF := hKF'
        clear hwF hRF' hKF'
        go_wp2
        have hldF : ∀ u, Below wF.heap.size wF u → (Instr.loadAt 39 (.pointer (some ⟨w4.heap.size, 0, none⟩))).run Tryd.prog u = .ok (.agg hs.toArray) u := fun u hu => run_load_blk agg_hsh size_hash (hRF.stays hu) HPAR.out hhl
        have hwF := fun u (hu : Below wF.heap.size wF u) => calls_nuB (hwo u (bel1.trans ((hKF.bel.trans (hu.mono hKF.bel.size)).mono bel1.size))) hu.size
        have hVF := hKF.vars hV1
        have htl := HTL.out
        refine UpT.wp_region_tail 8 (UpT.tell [(3, nuB wF.heap.size O), (4, isV (.agg ss.toArray))]) (fun _ => false) (by kernel_rfl) (by kernel_rfl) (UpT.tell_steady _ (by
          intro p hp
          simp only [List.mem_cons, List.not_mem_nil, or_false] at hp
          rcases hp with rfl | rfl <;> first | exact isV_steady _ | exact slB_steady _ _ | exact nuB_steady _ _)) ?_
        simp only [List.take_succ_cons, List.take_zero]
        apply UpT.wpUp_pure
        case hw => rfl
        case hψ => rfl
        case hv => (intro wz hp; clear hp; go_simp; try (with_reducible rfl))
        simp only [Act.put, List.setIfInBounds_toArray, List.set_cons_zero, List.set_cons_succ]
        apply UpT.wpUp_pure
        case hw => rfl
        case hψ => rfl
        case hv => (intro wz hp; clear hp; go_simp; try (with_reducible rfl))
        simp only [Act.put, List.setIfInBounds_toArray, List.set_cons_zero, List.set_cons_succ]
        apply UpT.wpUp_pure
        case hw => rfl
        case hψ => rfl
        case hv => (intro wz hp; clear hp; go_simp; try (with_reducible rfl))
        simp only [Act.put, List.setIfInBounds_toArray, List.set_cons_zero, List.set_cons_succ]
        refine UpT.wpUp_call _ 22 #[.slice oa no oc] (by rfl) (by rfl) (by rfl) (fun wz => by go_simp) (fun wz hp => hwF wz hp.1) ?_
        rintro v ⟨u, _, hf⟩
        obtain ⟨aa, cc, rfl, _⟩ := hf.of 3 v _ rfl rfl
        clear hf
        simp only [Act.put, List.setIfInBounds_toArray, List.set_cons_zero, List.set_cons_succ]
        refine UpT.wpUp_call _ 20 #[.slice aa 256 cc] (by rfl) (by rfl) (by rfl) (fun wz => by go_simp) (fun wz hp => by obtain ⟨a9, c9, he9, hN9⟩ := hp.2 3 _ _ (by kernel_rfl) rfl rfl; cases he9; exact calls_isV (hsmO wz _ _ hN9.1 (hVF.stays hp.1))) ?_
        rintro v ⟨u, _, hf⟩
        obtain rfl := hf.of 4 v _ rfl rfl
        clear hf
        simp only [Act.put, List.setIfInBounds_toArray, List.set_cons_zero, List.set_cons_succ]
        apply UpT.wpUp_pure
        case hw => rfl
        case hψ => rfl
        case hv => (intro wz hp; clear hp; go_simp; try (with_reducible rfl))
        simp only [Act.put, List.setIfInBounds_toArray, List.set_cons_zero, List.set_cons_succ]
        refine UpT.wpUp_pure (.agg hs.toArray) (by rfl) (by rfl) (fun wz hp => exec_load (by rfl) (by rfl) (hldF wz hp.1)) ?_
        simp only [Act.put, List.setIfInBounds_toArray, List.set_cons_zero, List.set_cons_succ]
        have heq := HEQ.out
        apply UpT.wpUp_pure
        case hw => rfl
        case hψ => rfl
        case hv => (intro wz hp; clear hp; go_simp; try (with_reducible rfl))
        simp only [Act.put, List.setIfInBounds_toArray, List.set_cons_zero, List.set_cons_succ]
        refine UpT.wpUp_end ?_
        intro wG hbG hf
        clear hf
        simp only [List.drop_succ_cons, List.drop_zero]
        have hKG := hKF.stays hbG
        have hRG := hRF.stays hbG
        go_wp2
        have hldwI : ∀ u, Below wG.heap.size wG u → (Instr.loadAt 42 (.pointer (some ⟨w4.heap.size, 0, none⟩))).run Tryd.prog u = .ok (.agg vs.toArray) u := fun u hu => run_load_blk agg_ptr size_ptr (hRG.stays hu) (whole_load hvl) hvl
        have hwwI := fun u (hu : Below wG.heap.size wG u) => calls_nuB (hwb2 u (bel1.trans ((hKG.bel.trans (hu.mono hKG.bel.size)).mono bel1.size))) hu.size
        refine UpT.wp_region_mid 4 (UpT.tell [(3, nuB wG.heap.size B)]) (fun _ => false) (by kernel_rfl) (by kernel_rfl) (UpT.tell_steady _ (by
          intro p hp
          simp only [List.mem_cons, List.not_mem_nil, or_false] at hp
          rcases hp with rfl <;> first | exact isV_steady _ | exact slB_steady _ _ | exact nuB_steady _ _)) ?_
        simp only [List.take_succ_cons, List.take_zero]
        apply UpT.wpUp_pure
        case hw => rfl
        case hψ => rfl
        case hv => (intro wz hp; clear hp; go_simp; try (with_reducible rfl))
        simp only [Act.put, List.setIfInBounds_toArray, List.set_cons_zero, List.set_cons_succ]
        refine UpT.wpUp_pure (.agg vs.toArray) (by rfl) (by rfl) (fun wz hp => exec_load (by rfl) (by rfl) (hldwI wz hp.1)) ?_
        simp only [Act.put, List.setIfInBounds_toArray, List.set_cons_zero, List.set_cons_succ]
        apply UpT.wpUp_pure
        case hw => rfl
        case hψ => rfl
        case hv => (intro wz hp; clear hp; go_simp; try (with_reducible rfl))
        simp only [Act.put, List.setIfInBounds_toArray, List.set_cons_zero, List.set_cons_succ]
        refine UpT.wpUp_call _ 22 #[.slice ba nb bc] (by rfl) (by rfl) (by rfl) (fun wz => by go_simp) (fun wz hp => hwwI wz hp.1) ?_
        rintro v ⟨u, _, hf⟩
        obtain ⟨aa, cc, rfl, _⟩ := hf.of 3 v _ rfl rfl
        clear hf
        simp only [Act.put, List.setIfInBounds_toArray, List.set_cons_zero, List.set_cons_succ]
        refine UpT.wpUp_end ?_
        intro wI hbwI hf
        obtain ⟨aa2, cc2, hEe, hNwI⟩ := hf.of 3 _ _ rfl rfl
        cases hEe
        clear hf
        simp only [List.drop_succ_cons, List.drop_zero, List.take_succ_cons, List.take_zero]
        have hRI := hRG.stays hbwI
        have hKI := hKG.new (N := fun j => j = w4.heap.size ∨ (wG.heap.size ≤ j ∧ j < wI.heap.size)) hbwI (fun j hj => hj.imp (fun e => .inl e) id)
        have hfI := bs_fix hKI hV1 HHE.out.l6 P hpo aa cc B hNwI.1 (fun h0 x hx => .inl (.inr ⟨hNwI.2 x hx, hNwI.1.lt h0 hx⟩))
        rw [HP.out, HHE.out.fix2, hBl] at hfI
        simp only [← HP.out, ← HVS.out] at hfI
        go_wp2_with (first
          | (go_at_call 27; go_must (refine hfI.mono ?_); rintro e wY ⟨rfl, hKY, hyY⟩
             have hRY := hyY.blk hRI (.inl rfl)))
        show wpQuiet _ _ _ _ _ _
        repeat (quiet_step (skip))
        refine wpQuiet_nil ?_
        rintro _ ⟨mq, rfl⟩
        have hRJ' := hRY.stays (below_drewN wY mq)
        have hKJ' := hKY.stays (below_drewN wY mq)
        obtain ⟨wJ, hwJ⟩ : ∃ wJ, wJ = wY.drewN mq := ⟨_, rfl⟩
        rw [← hwJ] at hRJ' hKJ' ⊢
        have hRJ := hRJ'
        have hKJ := hKJ'
        clear hwJ hRJ' hKJ'
        have hlJ := bs_look hKJ hV1 HHE.out.l7 P hpo
        rw [HP.out, HHE.out.look2] at hlJ
        simp only [← HP.out, ← HVS.out, ← HTT.out] at hlJ
        go_wp2_with (first
          | ((with_reducible show wpList _ _ _ (Oper.mk _ (Op.load 42 (.tmp 9)) _ _ _ _ :: _) _ _); refine wpList_load_blk (by rfl) (.tmp 9) 42 (by rfl) _ 0 35 (by rfl) agg_ptr size_ptr hRJ _ (whole_load hvl) hvl ?_)
          | (go_at_call 25; go_must (refine hlJ.mono ?_); rintro e wK ⟨rfl, hbK⟩
             have hKK := hKJ.stays hbK)
          | ((with_reducible show wpList _ _ _ (Oper.mk _ (Op.alloc 46) _ _ _ _ :: _) _ _); refine wpList_alloc0 (by rfl) 46 (by rfl) (some 22) (by rfl) _ HAB.out ?_; intro wL hGL hbL hsL
             have hKL := hKK.new (N := fun j => j = wK.heap.size) hbL (fun j hj => .inr (by rw [hj]; exact ⟨Nat.le_refl _, by omega⟩))
             clear hsL)
          | ((with_reducible show wpList _ _ _ (Oper.mk _ (Op.store 46 (.tmp 22) _) _ _ _ _ :: _) _ _); refine wpList_store_blk (by rfl) (.tmp 22) (.tmp 153) 46 (by rfl) _ 0 2 (by rfl) tt (by rfl) size_bools hGL httl (by omega) htto _ (whole_store hffl) ?_
             intro wM hGM hbutM hsM
             have hKM := hKL.set hbutM rfl hKK.bel.size
             clear hsM)
          | (go_at_call 18; go_must (refine (hal _ (hKM.vars hV1)).mono ?_); rintro e wN ⟨rfl, hbN⟩
             have hGN := hGM.stays hbN)
          | ((with_reducible show wpList _ _ _ (Oper.mk _ (Op.load 46 _) _ _ _ _ :: _) _ _); refine wpList_load_blk_guard (by kernel_rfl) (.tmp 22) 46 (by rfl) _ 0 2 (by rfl) agg_bools size_bools hGN _ (whole_load httl) httl ?_)
          | ((with_reducible show wpList _ _ _ (Oper.mk _ (Op.build 46 _) _ _ _ _ :: _) _ _); refine wpList_build (by kernel_rfl) 46 [(0, .const (.bool true)), (1, .const (.bool true))] (by rfl) [(0, .bool true), (1, .bool true)] (by rfl) _ hbu ?_))
        go_ret
        exact ⟨rfl, below_then (bel1.trans (hKM.bel.mono bel1.size)) hbN⟩

theorem healed_walk (ba : Option Addr) (bc : Nat) (bs : List Int) (m0a : Option Addr) (m0c : Nat) (m0 : List Int) (m1a : Option Addr) (m1c : Nat) (m1 : List Int) (oa : Option Addr) (oc : Nat) (os : List Int) (w : World) (hV : Vars w) (hB : Bs w ba bc bs) (hM0 : Bs w m0a m0c m0) (hM1 : Bs w m1a m1c m1) (hO : Bs w oa oc os) :
    Calls Tryd.prog 5 #[.slice ba bs.length bc, .agg #[.slice m0a m0.length m0c, .slice m1a m1.length m1c], .slice oa os.length oc] w fun e w' => e = .returned (.bool true) ∧ Below w.heap.size w w' := by
  by_cases h1 : bs.length ≤ 256
  · by_cases h2 : os.length ≤ 256
    · by_cases h3 : m0.length ≤ 256
      · by_cases h4 : m1.length ≤ 256
        · exact healed_main ba bc bs m0a m0c m0 m1a m1c m1 oa oc os w hV hB hM0 hM1 hO h1 h2 h3 h4
        · exact healed_long3 ba bc bs m0a m0c m0 m1a m1c m1 oa oc os w hV hB hM0 hM1 hO h1 h2 h3 (by omega)
      · exact healed_long2 ba bc bs m0a m0c m0 m1a m1c m1 oa oc os w hV hB hM0 hM1 hO h1 h2 (by omega)
    · exact healed_long1 ba bc bs m0a m0c m0 m1a m1c m1 oa oc os w hV hB hM0 hM1 hO h1 (by omega)
  · exact healed_long0 ba bc bs m0a m0c m0 m1a m1c m1 oa oc os w hV hB hM0 hM1 hO (by omega)

end Go.Proofs.YtjlmldhlmnafnaaDoor
