/-
  The walk over the document's Choose.
-/
import Derived.Test.YthbcphalokoknaaDoorG26
import Derived.Test.YthbcphalokoknaaDoorG28
namespace Go.Proofs.YthbcphalokoknaaDoor
set_option linter.unusedSimpArgs false
set_option linter.unusedVariables false
set_option maxRecDepth 100000
open Go.RowKit

theorem Rf.cells5 {w : World} {G : Nat → Prop} {cs : List Value} {S : DS} (h : Rf w G cs S) : cs.length = 5 ∧ ∀ v ∈ cs, v.oneCell' = true := by
  obtain ⟨n, sa, sc, wa, wc, hok, rfl, hs, hw⟩ := h
  refine ⟨rfl, fun v hv => ?_⟩
  simp only [rcells, List.mem_cons, List.not_mem_nil, or_false] at hv
  rcases hv with rfl | rfl | rfl | rfl | rfl <;> rfl
theorem Rf.ok' {w : World} {G : Nat → Prop} {cs : List Value} {S : DS} (h : Rf w G cs S) : ∃ n, S.Ok n := by
  obtain ⟨n, sa, sc, wa, wc, hok, rfl, hs, hw⟩ := h
  exact ⟨n, hok⟩

theorem lrdecode_in (a : Option Addr) (c n : Nat) (xs : List Int) (w : World) (hn : n = xs.length) (hB : Bs w a c xs) (B : Nat) (ha : ∀ x, a = some x → B ≤ x.block) :
    Calls Tryd.prog 14 #[.slice a n c] w fun e w' => ∃ a' c', e = .returned (.tuple #[.agg ((decL xs).1.vs a' c').toArray, .int .i64 ((decL xs).2 : Int)]) ∧ (Bs w' a' c' (decL xs).1.m ∧ ∀ x, a' = some x → B ≤ x.block) ∧ Below w.heap.size w w' := by
  by_cases h1 : (decL xs).2 = 0
  · obtain ⟨h2, h3, h4, h5, h6⟩ := decL_only hB.rng h1
    obtain ⟨bb, oo, rfl, _⟩ := hB.cell (by omega)
    obtain rfl : n = 256 := by omega
    unfold okL at h4
    simp only [Bool.and_eq_true, decide_eq_true_eq] at h4
    refine (lrdec_ok bb oo c xs w h2 hB h3 h4.1 h4.2).mono ?_
    rintro e w' ⟨⟨rfl, hB'⟩, hb⟩
    rw [h5, h1]
    exact ⟨_, _, rfl, ⟨hB', fun x hx => by cases hx; exact (ha ⟨bb, oo, none⟩ rfl : B ≤ bb)⟩, hb⟩
  · have hz : (decL xs).1 = Lb.zero := by
      unfold decL at h1 ⊢
      split
      · rfl
      · rename_i g1
        rw [if_neg g1] at h1
        split
        · rfl
        · rename_i g2
          rw [if_neg g2] at h1
          split
          · rename_i g3
            rw [if_pos g3] at h1
            exact absurd rfl h1
          · rfl
    have hnl : n ≤ 9223372036854775807 := by have h1 := hB.cap; have h2 := hB.capm; unfold maxLen at h2; omega
    have hd : ∃ e0 : Nat, (decL xs).2 = e0 ∧ Calls Tryd.prog 14 #[.slice a n c] w fun e w' => e = .returned (.tuple #[.agg (Lb.zero.vs none 0).toArray, .int .i64 (e0 : Int)]) ∧ Below w.heap.size w w' := by
      unfold decL at h1 ⊢
      by_cases g1 : xs.length = 256
      · rw [if_neg (by omega)] at h1 ⊢
        obtain ⟨bb, oo, rfl, _⟩ := hB.cell (by omega)
        obtain rfl : n = 256 := by omega
        cases hs : sumL xs
        · exact ⟨14, by simp, lrdec_sum bb oo c xs w g1 hB hs⟩
        · rw [hs, if_neg (by decide)] at h1
          rw [if_neg (by decide)]
          have g3 : okL xs = false := by
            cases g4 : okL xs
            · rfl
            · rw [g4] at h1; exact absurd rfl h1
          rw [g3]
          refine ⟨3, by simp, ?_⟩
          cases hmy : (decP ((xs.drop 8).take 44)).may
          · exact lrdec_form1 bb oo c xs w g1 hB hs hmy
          · refine lrdec_form2 bb oo c xs w g1 hB hs hmy (fun hy => ?_)
            unfold okL at g3
            rw [hmy, decide_eq_true hy.1, decide_eq_true hy.2] at g3
            cases g3
      · rw [if_pos g1]
        exact ⟨3, rfl, lrdec_len a c n w (by omega) hnl⟩
    obtain ⟨e0, he0, hc⟩ := hd
    refine hc.mono ?_
    rintro e w' ⟨rfl, hb⟩
    rw [hz, he0]
    exact ⟨none, 0, rfl, ⟨Bs.empty _, fun x hx => by cases hx⟩, hb⟩

section
variable {w : World} {G : Nat → Prop} {cs : List Value} {S : DS}

set_option maxHeartbeats 8000000 in
theorem rchoose_off (h : Rf w G cs S) (hl : S.ws.length ≤ 900000) (hoff : S.off = true) :
    Calls Tryd.prog 29 #[.agg cs.toArray] w fun e w' => e = .returned (.tuple #[.agg (Lb.zero.vs none 0).toArray, .int .i64 0, .int .i64 8]) ∧ Below w.heap.size w w' := by
  have hzl := zero_vs_len
  obtain ⟨zs, hzs⟩ : ∃ zs, zs = Lb.zero.vs none 0 := ⟨_, rfl⟩
  have HBU : Hid (∀ w : World, (Instr.build 29 #[]).run Tryd.prog w = .ok (.agg zs.toArray) w) := by rw [hzs]; exact build_label0
  have HAL : Hid (∀ w : World, (Instr.alloc 29 true (.tuple #[])).run Tryd.prog w = .ok (.pointer (some ⟨w.heap.size, 0, none⟩)) (w.alloc (.cells zs.toArray 29))) := by rw [hzs]; exact alloc_label0
  have hzo : ∀ v ∈ zs, v.oneCell' = true := by rw [hzs]; exact Lb.vs_one _ _ _
  have HZS : Hid (zs = Lb.zero.vs none 0) := hzs
  rw [← hzs] at hzl
  clear hzs
  have hread : ∀ u, Below w.heap.size w u → Calls Tryd.prog 60 #[.agg cs.toArray, .int .i64 0] u fun e w' => ∃ a c, e = .returned (.tuple #[.slice a 0 c, .int .i64 8]) ∧ Below u.heap.size u w' := fun u hu => by
    refine (rread_run (h.stays hu) 0 hl).mono ?_
    rintro e w' ⟨a, c, rfl, _, hb⟩
    have : S.read 0 = ([], 8) := by unfold DS.read; rw [hoff]; rfl
    rw [this]
    exact ⟨a, c, rfl, hb⟩
  rw [← HZS.out]
  obtain ⟨hcl, hco⟩ := h.cells5
  go_enter Tryd.func29, Tryd.ntmps29
  go_wp2_with (first
    | ((with_reducible show wpList _ _ _ (Oper.mk _ (Op.box _ _) _ _ _ _ :: _) _ _); refine wpList_box0 (by rfl) 48 (.tmp 0) (by rfl) cs (by rfl) ?_; intro w0 hK0 hb0 hs0)
    | ((with_reducible show wpList _ _ _ (Oper.mk _ (Op.alloc _) _ _ _ _ :: _) _ _); refine wpList_alloc0 (by rfl) 29 (by rfl) (some 2) (by rfl) _ HAL.out ?_; intro w1 hR1 hb1 hs1
       have hK1 := hK0.stays hb1
       rw [hs0] at hR1 hs1)
    | ((with_reducible show wpList _ _ _ (Oper.mk _ (Op.build _ _) _ _ _ _ :: _) _ _); refine wpList_build0 (by rfl) 29 (by rfl) _ HBU.out ?_)
    | ((with_reducible show wpList _ _ _ (Oper.mk _ (Op.alloc _) _ _ _ _ :: _) _ _); refine wpList_alloc0 (by rfl) 29 (by rfl) (some 5) (by rfl) _ HAL.out ?_; intro w2 hT2 hb2 hs2
       have hR2 := hR1.stays hb2
       have hK2 := hK1.stays hb2
       have hb2' := below_then (below_then hb0 hb1) hb2)
    | ((with_reducible show wpList _ _ _ (Oper.mk _ (Op.store _ _ _) _ _ _ _ :: _) _ _); refine wpList_store_blk (by rfl) (.tmp 5) (.tmp 13) 29 (by rfl) _ 0 37 (by rfl) zs (by rfl) size_label hT2 hzl (by omega) hzo _ (whole_store hzl) ?_
       intro w3 hT3 hbut3 hs3
       rw [hs1] at hT3 hbut3
       have hR3 := hR2.but hbut3 (by omega)
       have hK3 := hK2.but hbut3 (by omega)
       have hb3 : Below w.heap.size w w3 := hb2'.trans (hbut3.below (by omega) hb2'.size)))
  go_loopw [6, 7] (fun n i wr => n = .int .i64 0 ∧ i = .int .i64 0 ∧ wr = w3) (fun _ _ _ => 0)
  case atStart => exact ⟨rfl, rfl, rfl⟩
  case round =>
    rename_i hrel
    obtain ⟨rfl, rfl, rfl⟩ := hrel
    have hrd := hread _ hb3
    go_wp2_with (first
      | ((with_reducible show wpList _ _ _ (Oper.mk _ (Op.load _ _) _ _ _ _ :: _) _ _); refine wpList_load_blk (by rfl) (.tmp 1) 48 (by rfl) _ 0 5 (by rfl) rAgg rSize hK3 _ (whole_load hcl) hcl ?_)
      | (go_at_call 60; go_must (refine hrd.mono ?_); rintro e w4 ⟨a4, c4, rfl, hb4⟩
         have hR4 := hR3.stays hb4)
      | ((with_reducible show wpList _ _ _ (Oper.mk _ (Op.build _ _) _ _ _ _ :: _) _ _); refine wpList_build0 (by rfl) 29 (by rfl) _ HBU.out ?_)
      | ((with_reducible show wpList _ _ _ (Oper.mk _ (Op.store _ _ _) _ _ _ _ :: _) _ _); refine wpList_store_blk (by rfl) (.tmp 2) (.tmp 26) 29 (by rfl) _ 0 37 (by rfl) zs (by rfl) size_label hR4 hzl (by omega) hzo _ (whole_store hzl) ?_
         intro wZ hRZ hbutZ hsZ))
    have hb4' := below_then hb3 hb4
    exact bodyPost_ret_blk3 rfl rfl (by rfl) (by rfl) (by rfl) agg_label size_label hRZ hzl ⟨rfl, hb4'.trans (hbutZ.below (by omega) hb4'.size)⟩

set_option maxHeartbeats 80000000 in
theorem rchoose_on (h : Rf w G cs S) (hl : S.ws.length ≤ 900000) (hoff : S.off = false) :
    Calls Tryd.prog 29 #[.agg cs.toArray] w fun e w' => ∃ a c, e = .returned (.tuple #[.agg ((chooseL S).1.1.vs a c).toArray, .int .i64 ((chooseL S).1.2 : Int), .int .i64 ((chooseL S).2 : Int)]) ∧ Bs w' a c (chooseL S).1.1.m ∧ Below w.heap.size w w' := by
  obtain ⟨n, hok⟩ := h.ok'
  have hzl := zero_vs_len
  obtain ⟨zs, hzs⟩ : ∃ zs, zs = Lb.zero.vs none 0 := ⟨_, rfl⟩
  have HBU : Hid (∀ w : World, (Instr.build 29 #[]).run Tryd.prog w = .ok (.agg zs.toArray) w) := by rw [hzs]; exact build_label0
  have HAL : Hid (∀ w : World, (Instr.alloc 29 true (.tuple #[])).run Tryd.prog w = .ok (.pointer (some ⟨w.heap.size, 0, none⟩)) (w.alloc (.cells zs.toArray 29))) := by rw [hzs]; exact alloc_label0
  have hzo : ∀ v ∈ zs, v.oneCell' = true := by rw [hzs]; exact Lb.vs_one _ _ _
  have HZS : Hid (zs = Lb.zero.vs none 0) := hzs
  rw [← hzs] at hzl
  clear hzs
  have hread : ∀ (u : World) (k : Nat), k < 4 → Below w.heap.size w u → Calls Tryd.prog 60 #[.agg cs.toArray, .int .i64 (k : Int)] u fun e w' => ∃ a c, e = .returned (.tuple #[.slice a 256 c, .int .i64 0]) ∧ (Bs w' a c (readW S.laid S.ws k) ∧ ∀ x, a = some x → u.heap.size ≤ x.block) ∧ Below u.heap.size u w' := fun u k hk hu => by
    have hk' : k < n := by have := hok.lo; omega
    refine (rread_new (h.stays hu) k hl).mono ?_
    rintro e w' ⟨a, c, rfl, ho, hb⟩
    rw [DS.read_at hok hoff hk'] at ho ⊢
    obtain ⟨h1, h2⟩ := readW_ok hok hk'
    simp only at ho ⊢
    rw [h1]
    exact ⟨a, c, rfl, ho, hb⟩
  obtain ⟨hcl, hco⟩ := h.cells5
  go_enter Tryd.func29, Tryd.ntmps29
  go_wp2_with (first
    | ((with_reducible show wpList _ _ _ (Oper.mk _ (Op.box _ _) _ _ _ _ :: _) _ _); refine wpList_box0 (by rfl) 48 (.tmp 0) (by rfl) cs (by rfl) ?_; intro w0 hK0 hb0 hs0)
    | ((with_reducible show wpList _ _ _ (Oper.mk _ (Op.alloc _) _ _ _ _ :: _) _ _); refine wpList_alloc0 (by rfl) 29 (by rfl) (some 2) (by rfl) _ HAL.out ?_; intro w1 hR1 hb1 hs1
       have hK1 := hK0.stays hb1
       rw [hs0] at hR1 hs1)
    | ((with_reducible show wpList _ _ _ (Oper.mk _ (Op.build _ _) _ _ _ _ :: _) _ _); refine wpList_build0 (by rfl) 29 (by rfl) _ HBU.out ?_)
    | ((with_reducible show wpList _ _ _ (Oper.mk _ (Op.alloc _) _ _ _ _ :: _) _ _); refine wpList_alloc0 (by rfl) 29 (by rfl) (some 5) (by rfl) _ HAL.out ?_; intro w2 hT2 hb2 hs2
       have hR2 := hR1.stays hb2
       have hK2 := hK1.stays hb2
       have hb2' := below_then (below_then hb0 hb1) hb2)
    | ((with_reducible show wpList _ _ _ (Oper.mk _ (Op.store _ _ _) _ _ _ _ :: _) _ _); refine wpList_store_blk (by rfl) (.tmp 5) (.tmp 13) 29 (by rfl) _ 0 37 (by rfl) zs (by rfl) size_label hT2 hzl (by omega) hzo _ (whole_store hzl) ?_
       intro w3 hT3 hbut3 hs3
       rw [hs1] at hT3 hbut3
       have hR3 := hR2.but hbut3 (by omega)
       have hK3 := hK2.but hbut3 (by omega)
       have hb3 : Below w.heap.size w w3 := hb2'.trans (hbut3.below (by omega) hb2'.size)))
  go_loopw [6, 7] (fun c i wr => ∃ k : Nat, k ≤ 4 ∧ i = .int .i64 k ∧ c = .int .i64 ((scanC S k).2 : Int) ∧ ∃ aB cB, Blk 29 wr (w.heap.size + 2) ((scanC S k).1.vs aB cB) ∧ (Bs wr aB cB (scanC S k).1.m ∧ ∀ x, aB = some x → w.heap.size + 3 ≤ x.block) ∧ (Blk 29 wr (w.heap.size + 1) zs ∧ Blk 48 wr w.heap.size cs) ∧ Below w.heap.size w wr) (fun _ i _ => 4 - (intOf i).toNat)
  case atStart => exact ⟨0, by omega, rfl, rfl, none, 0, by rw [HZS.out] at hT3; exact hT3, ⟨Bs.empty _, fun x hx => by cases hx⟩, ⟨hR3, hK3⟩, hb3⟩
  case round =>
    rename_i hrel
    obtain ⟨k, hk, rfl, rfl, aB, cB, hTr, ⟨hMr, hMne⟩, ⟨hRr, hKr⟩, hbr⟩ := hrel
    have hBok := scanC_ok hok k hk
    have hcle := scanC_le S k
    obtain ⟨C, hC⟩ : ∃ C, C = (scanC S k).2 := ⟨_, rfl⟩
    obtain ⟨B, hB⟩ : ∃ B, B = (scanC S k).1 := ⟨_, rfl⟩
    have HS : Hid (scanC S k = (B, C)) := by show _ = _; rw [hB, hC]
    rw [← hC] at hcle ⊢
    rw [← hB] at hTr hMr hBok
    clear hC hB hT3 hR3 hK3 hT2 hR2 hK2 hK1 hK0 hR1
    by_cases hlt : k < 4
    · have hd4 : decide ((k : Int) < 4) = true := by simp; omega
      obtain ⟨X, hX⟩ : ∃ X, X = readW S.laid S.ws k := ⟨_, rfl⟩
      have hrd := hread _ k hlt hbr
      obtain ⟨hX3, hXr⟩ := readW_ok hok (show k < n by have := hok.lo; omega)
      rw [← hX] at hrd hX3 hXr
      have hDok := decL_ok hXr
      obtain ⟨D, hD⟩ : ∃ D, D = (decL X).1 := ⟨_, rfl⟩
      obtain ⟨E, hE⟩ : ∃ E, E = (decL X).2 := ⟨_, rfl⟩
      have HD : Hid (D = (decL X).1) := hD
      have HEE : Hid (E = (decL X).2) := hE
      have hnx : scanC S (k + 1) = stepC k X (B, C) := by rw [hX]; show stepC k _ (scanC S k) = _; rw [HS.out]
      unfold stepC at hnx
      rw [← hD, ← hE] at hnx
      have hDok' : D.ok := by rw [hD]; exact hDok
      simp only at hnx
      have HNX : Hid (scanC S (k + 1) = if ¬ E = 0 then (B, C) else if plcd D.t k = false then (B, C) else if C = 0 then (D, 1) else if B.t < D.t then (D, 1) else if D.t = B.t then (B, C + 1) else (B, C)) := hnx
      have hplc := rplaces_run D.t hDok'.t
      obtain ⟨q, hq⟩ : ∃ q, q = plc D.t := ⟨_, rfl⟩
      obtain ⟨q1, hq1⟩ : ∃ q1 : Nat, q1 = q + 1 := ⟨_, rfl⟩
      have HPL : Hid (plcd D.t k = (k == q || k == q1)) := by show _ = _; unfold plcd; rw [hq1, hq]
      unfold placesV at hplc
      rw [← hq, ← hq1] at hplc
      clear hX hD hE hnx hread HS hq hq1
      by_cases hE0 : E = 0
      · have heE : ((E : Int) != 0) = false := by rw [hE0]; rfl
        have HE0 : Hid (E = 0) := hE0
        clear hE0
        by_cases hk1 : k = q
        · have hpl : plcd D.t k = true := by rw [HPL.out, hk1]; simp
          have hz1 : ((q : Int) != (k : Int)) = false := by rw [hk1]; simp
          clear hk1
          by_cases hC0 : C = 0
          · have hnext : scanC S (k + 1) = (D, 1) := by rw [HNX.out, if_neg (fun h => h HE0.out), if_neg (by rw [hpl]; decide), if_pos hC0]
            have hcC : ((C : Int) == 0) = true := by rw [hC0]; rfl
            clear hC0
            go_wp2_with (first
                    | ((with_reducible show wpList _ _ _ (Oper.mk _ (Op.load _ _) _ _ _ _ :: _) _ _); refine wpList_load_blk (by rfl) (.tmp 1) 48 (by rfl) _ 0 5 (by rfl) rAgg rSize hKr _ (whole_load hcl) hcl ?_)
                    | (go_at_call 60; go_must (refine hrd.mono ?_); rintro e w3 ⟨a3, c3, rfl, ⟨hB3, hn3⟩, hb3⟩
                       have hR3 := hRr.stays hb3
                       have hT3 := hTr.stays hb3
                       have hK3 := hKr.stays hb3
                       have hM3 := hMr.stays hb3
                       have hdc := lrdecode_in a3 c3 256 X w3 hX3.symm hB3 (w.heap.size + 3) (fun x hx => by have := hn3 x hx; have := hTr.lt; omega))
                    | (go_at_call 14; go_must (refine hdc.mono ?_); rintro e w4 ⟨a4, c4, rfl, ⟨hD4, hDne⟩, hb4⟩
                       have hR4 := hR3.stays hb4
                       have hT4 := hT3.stays hb4
                       have hK4 := hK3.stays hb4
                       have hM4 := hM3.stays hb4
                       rw [← HD.out] at hD4
                       rw [← HD.out, ← HEE.out])
                    | ((with_reducible show wpList _ _ _ (Oper.mk _ (Op.alloc _) _ _ _ _ :: _) _ _); refine wpList_alloc0 (by rfl) 29 (by rfl) (some 10) (by rfl) _ HAL.out ?_; intro w5 hN5 hb5 hs5
                       have hR5 := hR4.stays hb5
                       have hT5 := hT4.stays hb5
                       have hK5 := hK4.stays hb5)
                    | ((with_reducible show wpList _ _ _ (Oper.mk _ (Op.store _ _ _) _ _ _ _ :: _) _ _); refine wpList_store_blk (by rfl) (.tmp 10) (.tmp 31) 29 (by rfl) _ 0 37 (by rfl) (D.vs a4 c4) (by rfl) size_label hN5 (Lb.vs_len hDok'.p a4 c4) (by omega) (Lb.vs_one _ _ _) _ (whole_store hzl) ?_
                       intro w6 hN6 hbut6 hs6
                       have hR6 := hR5.but hbut6 (by have := hR4.lt; omega)
                       have hT6 := hT5.but hbut6 (by have := hT4.lt; omega)
                       have hK6 := hK5.but hbut6 (by have := hK4.lt; omega)
                       have hb6 : Below w.heap.size w w6 := by
                         have h1 := below_then (below_then (below_then hbr hb3) hb4) hb5
                         exact h1.trans (hbut6.below (B := w.heap.size) (by have := (below_then (below_then hbr hb3) hb4).size; omega) h1.size)
                       have hM6 := (hM4.stays hb5).but hbut6 (fun h0 b hb => by have := hM4.lt h0 hb; omega)
                       have hD6 := (hD4.stays hb5).but hbut6 (fun h0 b hb => by have := hD4.lt h0 hb; omega)
                       have cn6 : w6.cell? ⟨w4.heap.size, 0, none⟩ = some (.int .u32 (D.t : Int)) := hN6.cell 0)
                    | (go_at_call 12; go_must (refine (hplc _).mono ?_); rintro e w7 ⟨rfl, hb7⟩
                       have hR7 := hR6.stays hb7
                       have hT7 := hT6.stays hb7
                       have hK7 := hK6.stays hb7
                       have hN7 := hN6.stays hb7
                       have hM7 := hM6.stays hb7
                       have hD7 := hD6.stays hb7
                       have hb7' := below_then hb6 hb7)
                    | ((with_reducible show wpList _ _ _ (Oper.mk _ (Op.alloc _) _ _ _ _ :: _) _ _); refine wpList_alloc0 (by rfl) 34 (by rfl) (some 12) (by rfl) _ alloc_two0 ?_; intro w8 hP8 hb8 hs8)
                    | ((with_reducible show wpList _ _ _ (Oper.mk _ (Op.store _ _ _) _ _ _ _ :: _) _ _); refine wpList_store_blk (by rfl) (.tmp 12) (.tmp 35) 34 (by rfl) _ 0 2 (by rfl) _ (by rfl) size_two hP8 (by rfl) (by decide) (by simp [Value.oneCell']) _ (whole_store (by rfl)) ?_
                       intro w9 hP9 hbut9 hs9
                       have hx0 := hP9.cell 0
                       have hx1 := hP9.cell 1
                       simp only [List.getElem?_cons_zero, List.getElem?_cons_succ] at hx0 hx1
                       have hR9 := (hR7.stays hb8).but hbut9 (by have := hR7.lt; omega)
                       have hT9 := (hT7.stays hb8).but hbut9 (by have := hT7.lt; omega)
                       have hK9 := (hK7.stays hb8).but hbut9 (by have := hK7.lt; omega)
                       have hN9 := (hN7.stays hb8).but hbut9 (by have := hN7.lt; omega)
                       have hM9 := (hM7.stays hb8).but hbut9 (fun h0 b hb => by have := hM7.lt h0 hb; omega)
                       have hD9 := (hD7.stays hb8).but hbut9 (fun h0 b hb => by have := hD7.lt h0 hb; omega)
                       have hb9 : Below w.heap.size w w9 := (below_then hb7' hb8).trans (hbut9.below (B := w.heap.size) (by have := hb7'.size; omega) (below_then hb7' hb8).size)
                       have cn9 : w9.cell? ⟨w4.heap.size, 0, none⟩ = some (.int .u32 (D.t : Int)) := hN9.cell 0
                       have ct9 : w9.cell? ⟨w.heap.size + 2, 0, none⟩ = some (.int .u32 (B.t : Int)) := hT9.cell 0)
                    | ((with_reducible show wpList _ _ _ (Oper.mk _ (Op.load _ _) _ _ _ _ :: _) _ _); refine wpList_load_blk (by rfl) (.tmp 10) 29 (by rfl) _ 0 37 (by rfl) agg_label size_label hN9 _ (whole_load (Lb.vs_len hDok'.p a4 c4)) (Lb.vs_len hDok'.p a4 c4) ?_)
                    | ((with_reducible show wpList _ _ _ (Oper.mk _ (Op.store _ _ _) _ _ _ _ :: _) _ _); refine wpList_store_blk (by rfl) (.tmp 5) (.tmp 59) 29 (by rfl) _ 0 37 (by rfl) (D.vs a4 c4) (by rfl) size_label hT9 (Lb.vs_len hDok'.p a4 c4) (by rw [Lb.vs_len hBok.p]; omega) (Lb.vs_one _ _ _) _ (whole_store (Lb.vs_len hBok.p aB cB)) ?_
                       intro wA hTA hbutA hsA
                       have hNA := hN9.but hbutA (by have := hT4.lt; omega)
                       have hRA := hR9.but hbutA (by omega)
                       have hKA := hK9.but hbutA (by omega)
                       have hDA := hD9.but hbutA (fun h0 b hb => by have := hDne b hb; omega)
                       have hbA := hb9.trans (hbutA.below (B := w.heap.size) (by omega) hb9.size)
                       have cnA : wA.cell? ⟨w4.heap.size, 0, none⟩ = some (.int .u32 (D.t : Int)) := hNA.cell 0
                       have ctA : wA.cell? ⟨w.heap.size + 2, 0, none⟩ = some (.int .u32 (D.t : Int)) := hTA.cell 0))
            exact ⟨⟨k + 1, by omega, by go_num, by rw [hnext]; rfl, a4, c4, by rw [hnext]; exact hTA, by rw [hnext]; exact ⟨hDA, hDne⟩, ⟨hRA, hKA⟩, hbA⟩, by simp [intOf]; omega⟩
          · have hcC : ((C : Int) == 0) = false := by simp; omega
            by_cases hlt2 : B.t < D.t
            · have hnext : scanC S (k + 1) = (D, 1) := by rw [HNX.out, if_neg (fun h => h HE0.out), if_neg (by rw [hpl]; decide), if_neg hC0, if_pos hlt2]
              clear hC0
              go_wp2_with (first
                      | ((with_reducible show wpList _ _ _ (Oper.mk _ (Op.load _ _) _ _ _ _ :: _) _ _); refine wpList_load_blk (by rfl) (.tmp 1) 48 (by rfl) _ 0 5 (by rfl) rAgg rSize hKr _ (whole_load hcl) hcl ?_)
                      | (go_at_call 60; go_must (refine hrd.mono ?_); rintro e w3 ⟨a3, c3, rfl, ⟨hB3, hn3⟩, hb3⟩
                         have hR3 := hRr.stays hb3
                         have hT3 := hTr.stays hb3
                         have hK3 := hKr.stays hb3
                         have hM3 := hMr.stays hb3
                         have hdc := lrdecode_in a3 c3 256 X w3 hX3.symm hB3 (w.heap.size + 3) (fun x hx => by have := hn3 x hx; have := hTr.lt; omega))
                      | (go_at_call 14; go_must (refine hdc.mono ?_); rintro e w4 ⟨a4, c4, rfl, ⟨hD4, hDne⟩, hb4⟩
                         have hR4 := hR3.stays hb4
                         have hT4 := hT3.stays hb4
                         have hK4 := hK3.stays hb4
                         have hM4 := hM3.stays hb4
                         rw [← HD.out] at hD4
                         rw [← HD.out, ← HEE.out])
                      | ((with_reducible show wpList _ _ _ (Oper.mk _ (Op.alloc _) _ _ _ _ :: _) _ _); refine wpList_alloc0 (by rfl) 29 (by rfl) (some 10) (by rfl) _ HAL.out ?_; intro w5 hN5 hb5 hs5
                         have hR5 := hR4.stays hb5
                         have hT5 := hT4.stays hb5
                         have hK5 := hK4.stays hb5)
                      | ((with_reducible show wpList _ _ _ (Oper.mk _ (Op.store _ _ _) _ _ _ _ :: _) _ _); refine wpList_store_blk (by rfl) (.tmp 10) (.tmp 31) 29 (by rfl) _ 0 37 (by rfl) (D.vs a4 c4) (by rfl) size_label hN5 (Lb.vs_len hDok'.p a4 c4) (by omega) (Lb.vs_one _ _ _) _ (whole_store hzl) ?_
                         intro w6 hN6 hbut6 hs6
                         have hR6 := hR5.but hbut6 (by have := hR4.lt; omega)
                         have hT6 := hT5.but hbut6 (by have := hT4.lt; omega)
                         have hK6 := hK5.but hbut6 (by have := hK4.lt; omega)
                         have hb6 : Below w.heap.size w w6 := by
                           have h1 := below_then (below_then (below_then hbr hb3) hb4) hb5
                           exact h1.trans (hbut6.below (B := w.heap.size) (by have := (below_then (below_then hbr hb3) hb4).size; omega) h1.size)
                         have hM6 := (hM4.stays hb5).but hbut6 (fun h0 b hb => by have := hM4.lt h0 hb; omega)
                         have hD6 := (hD4.stays hb5).but hbut6 (fun h0 b hb => by have := hD4.lt h0 hb; omega)
                         have cn6 : w6.cell? ⟨w4.heap.size, 0, none⟩ = some (.int .u32 (D.t : Int)) := hN6.cell 0)
                      | (go_at_call 12; go_must (refine (hplc _).mono ?_); rintro e w7 ⟨rfl, hb7⟩
                         have hR7 := hR6.stays hb7
                         have hT7 := hT6.stays hb7
                         have hK7 := hK6.stays hb7
                         have hN7 := hN6.stays hb7
                         have hM7 := hM6.stays hb7
                         have hD7 := hD6.stays hb7
                         have hb7' := below_then hb6 hb7)
                      | ((with_reducible show wpList _ _ _ (Oper.mk _ (Op.alloc _) _ _ _ _ :: _) _ _); refine wpList_alloc0 (by rfl) 34 (by rfl) (some 12) (by rfl) _ alloc_two0 ?_; intro w8 hP8 hb8 hs8)
                      | ((with_reducible show wpList _ _ _ (Oper.mk _ (Op.store _ _ _) _ _ _ _ :: _) _ _); refine wpList_store_blk (by rfl) (.tmp 12) (.tmp 35) 34 (by rfl) _ 0 2 (by rfl) _ (by rfl) size_two hP8 (by rfl) (by decide) (by simp [Value.oneCell']) _ (whole_store (by rfl)) ?_
                         intro w9 hP9 hbut9 hs9
                         have hx0 := hP9.cell 0
                         have hx1 := hP9.cell 1
                         simp only [List.getElem?_cons_zero, List.getElem?_cons_succ] at hx0 hx1
                         have hR9 := (hR7.stays hb8).but hbut9 (by have := hR7.lt; omega)
                         have hT9 := (hT7.stays hb8).but hbut9 (by have := hT7.lt; omega)
                         have hK9 := (hK7.stays hb8).but hbut9 (by have := hK7.lt; omega)
                         have hN9 := (hN7.stays hb8).but hbut9 (by have := hN7.lt; omega)
                         have hM9 := (hM7.stays hb8).but hbut9 (fun h0 b hb => by have := hM7.lt h0 hb; omega)
                         have hD9 := (hD7.stays hb8).but hbut9 (fun h0 b hb => by have := hD7.lt h0 hb; omega)
                         have hb9 : Below w.heap.size w w9 := (below_then hb7' hb8).trans (hbut9.below (B := w.heap.size) (by have := hb7'.size; omega) (below_then hb7' hb8).size)
                         have cn9 : w9.cell? ⟨w4.heap.size, 0, none⟩ = some (.int .u32 (D.t : Int)) := hN9.cell 0
                         have ct9 : w9.cell? ⟨w.heap.size + 2, 0, none⟩ = some (.int .u32 (B.t : Int)) := hT9.cell 0)
                      | ((with_reducible show wpList _ _ _ (Oper.mk _ (Op.load _ _) _ _ _ _ :: _) _ _); refine wpList_load_blk (by rfl) (.tmp 10) 29 (by rfl) _ 0 37 (by rfl) agg_label size_label hN9 _ (whole_load (Lb.vs_len hDok'.p a4 c4)) (Lb.vs_len hDok'.p a4 c4) ?_)
                      | ((with_reducible show wpList _ _ _ (Oper.mk _ (Op.store _ _ _) _ _ _ _ :: _) _ _); refine wpList_store_blk (by rfl) (.tmp 5) (.tmp 59) 29 (by rfl) _ 0 37 (by rfl) (D.vs a4 c4) (by rfl) size_label hT9 (Lb.vs_len hDok'.p a4 c4) (by rw [Lb.vs_len hBok.p]; omega) (Lb.vs_one _ _ _) _ (whole_store (Lb.vs_len hBok.p aB cB)) ?_
                         intro wA hTA hbutA hsA
                         have hNA := hN9.but hbutA (by have := hT4.lt; omega)
                         have hRA := hR9.but hbutA (by omega)
                         have hKA := hK9.but hbutA (by omega)
                         have hDA := hD9.but hbutA (fun h0 b hb => by have := hDne b hb; omega)
                         have hbA := hb9.trans (hbutA.below (B := w.heap.size) (by omega) hb9.size)
                         have cnA : wA.cell? ⟨w4.heap.size, 0, none⟩ = some (.int .u32 (D.t : Int)) := hNA.cell 0
                         have ctA : wA.cell? ⟨w.heap.size + 2, 0, none⟩ = some (.int .u32 (D.t : Int)) := hTA.cell 0))
              exact ⟨⟨k + 1, by omega, by go_num, by rw [hnext]; rfl, a4, c4, by rw [hnext]; exact hTA, by rw [hnext]; exact ⟨hDA, hDne⟩, ⟨hRA, hKA⟩, hbA⟩, by simp [intOf]; omega⟩
            · by_cases heq2 : D.t = B.t
              · have hnext : scanC S (k + 1) = (B, C + 1) := by rw [HNX.out, if_neg (fun h => h HE0.out), if_neg (by rw [hpl]; decide), if_neg hC0, if_neg hlt2, if_pos heq2]
                have he2 : ((D.t : Int) == (B.t : Int)) = true := by rw [heq2]; simp
                clear hC0 heq2
                go_wp2_with (first
                        | ((with_reducible show wpList _ _ _ (Oper.mk _ (Op.load _ _) _ _ _ _ :: _) _ _); refine wpList_load_blk (by rfl) (.tmp 1) 48 (by rfl) _ 0 5 (by rfl) rAgg rSize hKr _ (whole_load hcl) hcl ?_)
                        | (go_at_call 60; go_must (refine hrd.mono ?_); rintro e w3 ⟨a3, c3, rfl, ⟨hB3, hn3⟩, hb3⟩
                           have hR3 := hRr.stays hb3
                           have hT3 := hTr.stays hb3
                           have hK3 := hKr.stays hb3
                           have hM3 := hMr.stays hb3
                           have hdc := lrdecode_in a3 c3 256 X w3 hX3.symm hB3 (w.heap.size + 3) (fun x hx => by have := hn3 x hx; have := hTr.lt; omega))
                        | (go_at_call 14; go_must (refine hdc.mono ?_); rintro e w4 ⟨a4, c4, rfl, ⟨hD4, hDne⟩, hb4⟩
                           have hR4 := hR3.stays hb4
                           have hT4 := hT3.stays hb4
                           have hK4 := hK3.stays hb4
                           have hM4 := hM3.stays hb4
                           rw [← HD.out] at hD4
                           rw [← HD.out, ← HEE.out])
                        | ((with_reducible show wpList _ _ _ (Oper.mk _ (Op.alloc _) _ _ _ _ :: _) _ _); refine wpList_alloc0 (by rfl) 29 (by rfl) (some 10) (by rfl) _ HAL.out ?_; intro w5 hN5 hb5 hs5
                           have hR5 := hR4.stays hb5
                           have hT5 := hT4.stays hb5
                           have hK5 := hK4.stays hb5)
                        | ((with_reducible show wpList _ _ _ (Oper.mk _ (Op.store _ _ _) _ _ _ _ :: _) _ _); refine wpList_store_blk (by rfl) (.tmp 10) (.tmp 31) 29 (by rfl) _ 0 37 (by rfl) (D.vs a4 c4) (by rfl) size_label hN5 (Lb.vs_len hDok'.p a4 c4) (by omega) (Lb.vs_one _ _ _) _ (whole_store hzl) ?_
                           intro w6 hN6 hbut6 hs6
                           have hR6 := hR5.but hbut6 (by have := hR4.lt; omega)
                           have hT6 := hT5.but hbut6 (by have := hT4.lt; omega)
                           have hK6 := hK5.but hbut6 (by have := hK4.lt; omega)
                           have hb6 : Below w.heap.size w w6 := by
                             have h1 := below_then (below_then (below_then hbr hb3) hb4) hb5
                             exact h1.trans (hbut6.below (B := w.heap.size) (by have := (below_then (below_then hbr hb3) hb4).size; omega) h1.size)
                           have hM6 := (hM4.stays hb5).but hbut6 (fun h0 b hb => by have := hM4.lt h0 hb; omega)
                           have hD6 := (hD4.stays hb5).but hbut6 (fun h0 b hb => by have := hD4.lt h0 hb; omega)
                           have cn6 : w6.cell? ⟨w4.heap.size, 0, none⟩ = some (.int .u32 (D.t : Int)) := hN6.cell 0)
                        | (go_at_call 12; go_must (refine (hplc _).mono ?_); rintro e w7 ⟨rfl, hb7⟩
                           have hR7 := hR6.stays hb7
                           have hT7 := hT6.stays hb7
                           have hK7 := hK6.stays hb7
                           have hN7 := hN6.stays hb7
                           have hM7 := hM6.stays hb7
                           have hD7 := hD6.stays hb7
                           have hb7' := below_then hb6 hb7)
                        | ((with_reducible show wpList _ _ _ (Oper.mk _ (Op.alloc _) _ _ _ _ :: _) _ _); refine wpList_alloc0 (by rfl) 34 (by rfl) (some 12) (by rfl) _ alloc_two0 ?_; intro w8 hP8 hb8 hs8)
                        | ((with_reducible show wpList _ _ _ (Oper.mk _ (Op.store _ _ _) _ _ _ _ :: _) _ _); refine wpList_store_blk (by rfl) (.tmp 12) (.tmp 35) 34 (by rfl) _ 0 2 (by rfl) _ (by rfl) size_two hP8 (by rfl) (by decide) (by simp [Value.oneCell']) _ (whole_store (by rfl)) ?_
                           intro w9 hP9 hbut9 hs9
                           have hx0 := hP9.cell 0
                           have hx1 := hP9.cell 1
                           simp only [List.getElem?_cons_zero, List.getElem?_cons_succ] at hx0 hx1
                           have hR9 := (hR7.stays hb8).but hbut9 (by have := hR7.lt; omega)
                           have hT9 := (hT7.stays hb8).but hbut9 (by have := hT7.lt; omega)
                           have hK9 := (hK7.stays hb8).but hbut9 (by have := hK7.lt; omega)
                           have hN9 := (hN7.stays hb8).but hbut9 (by have := hN7.lt; omega)
                           have hM9 := (hM7.stays hb8).but hbut9 (fun h0 b hb => by have := hM7.lt h0 hb; omega)
                           have hD9 := (hD7.stays hb8).but hbut9 (fun h0 b hb => by have := hD7.lt h0 hb; omega)
                           have hb9 : Below w.heap.size w w9 := (below_then hb7' hb8).trans (hbut9.below (B := w.heap.size) (by have := hb7'.size; omega) (below_then hb7' hb8).size)
                           have cn9 : w9.cell? ⟨w4.heap.size, 0, none⟩ = some (.int .u32 (D.t : Int)) := hN9.cell 0
                           have ct9 : w9.cell? ⟨w.heap.size + 2, 0, none⟩ = some (.int .u32 (B.t : Int)) := hT9.cell 0))
                exact ⟨⟨k + 1, by omega, by go_num, by rw [hnext]; go_num, aB, cB, by rw [hnext]; exact hT9, by rw [hnext]; exact ⟨hM9, hMne⟩, ⟨hR9, hK9⟩, hb9⟩, by simp [intOf]; omega⟩
              · have hnext : scanC S (k + 1) = (B, C) := by rw [HNX.out, if_neg (fun h => h HE0.out), if_neg (by rw [hpl]; decide), if_neg hC0, if_neg hlt2, if_neg heq2]
                have he2 : ((D.t : Int) == (B.t : Int)) = false := by simp; omega
                clear hC0 heq2
                go_wp2_with (first
                        | ((with_reducible show wpList _ _ _ (Oper.mk _ (Op.load _ _) _ _ _ _ :: _) _ _); refine wpList_load_blk (by rfl) (.tmp 1) 48 (by rfl) _ 0 5 (by rfl) rAgg rSize hKr _ (whole_load hcl) hcl ?_)
                        | (go_at_call 60; go_must (refine hrd.mono ?_); rintro e w3 ⟨a3, c3, rfl, ⟨hB3, hn3⟩, hb3⟩
                           have hR3 := hRr.stays hb3
                           have hT3 := hTr.stays hb3
                           have hK3 := hKr.stays hb3
                           have hM3 := hMr.stays hb3
                           have hdc := lrdecode_in a3 c3 256 X w3 hX3.symm hB3 (w.heap.size + 3) (fun x hx => by have := hn3 x hx; have := hTr.lt; omega))
                        | (go_at_call 14; go_must (refine hdc.mono ?_); rintro e w4 ⟨a4, c4, rfl, ⟨hD4, hDne⟩, hb4⟩
                           have hR4 := hR3.stays hb4
                           have hT4 := hT3.stays hb4
                           have hK4 := hK3.stays hb4
                           have hM4 := hM3.stays hb4
                           rw [← HD.out] at hD4
                           rw [← HD.out, ← HEE.out])
                        | ((with_reducible show wpList _ _ _ (Oper.mk _ (Op.alloc _) _ _ _ _ :: _) _ _); refine wpList_alloc0 (by rfl) 29 (by rfl) (some 10) (by rfl) _ HAL.out ?_; intro w5 hN5 hb5 hs5
                           have hR5 := hR4.stays hb5
                           have hT5 := hT4.stays hb5
                           have hK5 := hK4.stays hb5)
                        | ((with_reducible show wpList _ _ _ (Oper.mk _ (Op.store _ _ _) _ _ _ _ :: _) _ _); refine wpList_store_blk (by rfl) (.tmp 10) (.tmp 31) 29 (by rfl) _ 0 37 (by rfl) (D.vs a4 c4) (by rfl) size_label hN5 (Lb.vs_len hDok'.p a4 c4) (by omega) (Lb.vs_one _ _ _) _ (whole_store hzl) ?_
                           intro w6 hN6 hbut6 hs6
                           have hR6 := hR5.but hbut6 (by have := hR4.lt; omega)
                           have hT6 := hT5.but hbut6 (by have := hT4.lt; omega)
                           have hK6 := hK5.but hbut6 (by have := hK4.lt; omega)
                           have hb6 : Below w.heap.size w w6 := by
                             have h1 := below_then (below_then (below_then hbr hb3) hb4) hb5
                             exact h1.trans (hbut6.below (B := w.heap.size) (by have := (below_then (below_then hbr hb3) hb4).size; omega) h1.size)
                           have hM6 := (hM4.stays hb5).but hbut6 (fun h0 b hb => by have := hM4.lt h0 hb; omega)
                           have hD6 := (hD4.stays hb5).but hbut6 (fun h0 b hb => by have := hD4.lt h0 hb; omega)
                           have cn6 : w6.cell? ⟨w4.heap.size, 0, none⟩ = some (.int .u32 (D.t : Int)) := hN6.cell 0)
                        | (go_at_call 12; go_must (refine (hplc _).mono ?_); rintro e w7 ⟨rfl, hb7⟩
                           have hR7 := hR6.stays hb7
                           have hT7 := hT6.stays hb7
                           have hK7 := hK6.stays hb7
                           have hN7 := hN6.stays hb7
                           have hM7 := hM6.stays hb7
                           have hD7 := hD6.stays hb7
                           have hb7' := below_then hb6 hb7)
                        | ((with_reducible show wpList _ _ _ (Oper.mk _ (Op.alloc _) _ _ _ _ :: _) _ _); refine wpList_alloc0 (by rfl) 34 (by rfl) (some 12) (by rfl) _ alloc_two0 ?_; intro w8 hP8 hb8 hs8)
                        | ((with_reducible show wpList _ _ _ (Oper.mk _ (Op.store _ _ _) _ _ _ _ :: _) _ _); refine wpList_store_blk (by rfl) (.tmp 12) (.tmp 35) 34 (by rfl) _ 0 2 (by rfl) _ (by rfl) size_two hP8 (by rfl) (by decide) (by simp [Value.oneCell']) _ (whole_store (by rfl)) ?_
                           intro w9 hP9 hbut9 hs9
                           have hx0 := hP9.cell 0
                           have hx1 := hP9.cell 1
                           simp only [List.getElem?_cons_zero, List.getElem?_cons_succ] at hx0 hx1
                           have hR9 := (hR7.stays hb8).but hbut9 (by have := hR7.lt; omega)
                           have hT9 := (hT7.stays hb8).but hbut9 (by have := hT7.lt; omega)
                           have hK9 := (hK7.stays hb8).but hbut9 (by have := hK7.lt; omega)
                           have hN9 := (hN7.stays hb8).but hbut9 (by have := hN7.lt; omega)
                           have hM9 := (hM7.stays hb8).but hbut9 (fun h0 b hb => by have := hM7.lt h0 hb; omega)
                           have hD9 := (hD7.stays hb8).but hbut9 (fun h0 b hb => by have := hD7.lt h0 hb; omega)
                           have hb9 : Below w.heap.size w w9 := (below_then hb7' hb8).trans (hbut9.below (B := w.heap.size) (by have := hb7'.size; omega) (below_then hb7' hb8).size)
                           have cn9 : w9.cell? ⟨w4.heap.size, 0, none⟩ = some (.int .u32 (D.t : Int)) := hN9.cell 0
                           have ct9 : w9.cell? ⟨w.heap.size + 2, 0, none⟩ = some (.int .u32 (B.t : Int)) := hT9.cell 0))
                exact ⟨⟨k + 1, by omega, by go_num, by rw [hnext], aB, cB, by rw [hnext]; exact hT9, by rw [hnext]; exact ⟨hM9, hMne⟩, ⟨hR9, hK9⟩, hb9⟩, by simp [intOf]; omega⟩
        · have hz1 : ((q : Int) != (k : Int)) = true := by simp; omega
          by_cases hk2 : k = q1
          · have hpl : plcd D.t k = true := by rw [HPL.out, hk2]; simp
            have hz2 : ((q1 : Int) != (k : Int)) = false := by rw [hk2]; simp
            clear hk1 hk2
            by_cases hC0 : C = 0
            · have hnext : scanC S (k + 1) = (D, 1) := by rw [HNX.out, if_neg (fun h => h HE0.out), if_neg (by rw [hpl]; decide), if_pos hC0]
              have hcC : ((C : Int) == 0) = true := by rw [hC0]; rfl
              clear hC0
              go_wp2_with (first
                      | ((with_reducible show wpList _ _ _ (Oper.mk _ (Op.load _ _) _ _ _ _ :: _) _ _); refine wpList_load_blk (by rfl) (.tmp 1) 48 (by rfl) _ 0 5 (by rfl) rAgg rSize hKr _ (whole_load hcl) hcl ?_)
                      | (go_at_call 60; go_must (refine hrd.mono ?_); rintro e w3 ⟨a3, c3, rfl, ⟨hB3, hn3⟩, hb3⟩
                         have hR3 := hRr.stays hb3
                         have hT3 := hTr.stays hb3
                         have hK3 := hKr.stays hb3
                         have hM3 := hMr.stays hb3
                         have hdc := lrdecode_in a3 c3 256 X w3 hX3.symm hB3 (w.heap.size + 3) (fun x hx => by have := hn3 x hx; have := hTr.lt; omega))
                      | (go_at_call 14; go_must (refine hdc.mono ?_); rintro e w4 ⟨a4, c4, rfl, ⟨hD4, hDne⟩, hb4⟩
                         have hR4 := hR3.stays hb4
                         have hT4 := hT3.stays hb4
                         have hK4 := hK3.stays hb4
                         have hM4 := hM3.stays hb4
                         rw [← HD.out] at hD4
                         rw [← HD.out, ← HEE.out])
                      | ((with_reducible show wpList _ _ _ (Oper.mk _ (Op.alloc _) _ _ _ _ :: _) _ _); refine wpList_alloc0 (by rfl) 29 (by rfl) (some 10) (by rfl) _ HAL.out ?_; intro w5 hN5 hb5 hs5
                         have hR5 := hR4.stays hb5
                         have hT5 := hT4.stays hb5
                         have hK5 := hK4.stays hb5)
                      | ((with_reducible show wpList _ _ _ (Oper.mk _ (Op.store _ _ _) _ _ _ _ :: _) _ _); refine wpList_store_blk (by rfl) (.tmp 10) (.tmp 31) 29 (by rfl) _ 0 37 (by rfl) (D.vs a4 c4) (by rfl) size_label hN5 (Lb.vs_len hDok'.p a4 c4) (by omega) (Lb.vs_one _ _ _) _ (whole_store hzl) ?_
                         intro w6 hN6 hbut6 hs6
                         have hR6 := hR5.but hbut6 (by have := hR4.lt; omega)
                         have hT6 := hT5.but hbut6 (by have := hT4.lt; omega)
                         have hK6 := hK5.but hbut6 (by have := hK4.lt; omega)
                         have hb6 : Below w.heap.size w w6 := by
                           have h1 := below_then (below_then (below_then hbr hb3) hb4) hb5
                           exact h1.trans (hbut6.below (B := w.heap.size) (by have := (below_then (below_then hbr hb3) hb4).size; omega) h1.size)
                         have hM6 := (hM4.stays hb5).but hbut6 (fun h0 b hb => by have := hM4.lt h0 hb; omega)
                         have hD6 := (hD4.stays hb5).but hbut6 (fun h0 b hb => by have := hD4.lt h0 hb; omega)
                         have cn6 : w6.cell? ⟨w4.heap.size, 0, none⟩ = some (.int .u32 (D.t : Int)) := hN6.cell 0)
                      | (go_at_call 12; go_must (refine (hplc _).mono ?_); rintro e w7 ⟨rfl, hb7⟩
                         have hR7 := hR6.stays hb7
                         have hT7 := hT6.stays hb7
                         have hK7 := hK6.stays hb7
                         have hN7 := hN6.stays hb7
                         have hM7 := hM6.stays hb7
                         have hD7 := hD6.stays hb7
                         have hb7' := below_then hb6 hb7)
                      | ((with_reducible show wpList _ _ _ (Oper.mk _ (Op.alloc _) _ _ _ _ :: _) _ _); refine wpList_alloc0 (by rfl) 34 (by rfl) (some 12) (by rfl) _ alloc_two0 ?_; intro w8 hP8 hb8 hs8)
                      | ((with_reducible show wpList _ _ _ (Oper.mk _ (Op.store _ _ _) _ _ _ _ :: _) _ _); refine wpList_store_blk (by rfl) (.tmp 12) (.tmp 35) 34 (by rfl) _ 0 2 (by rfl) _ (by rfl) size_two hP8 (by rfl) (by decide) (by simp [Value.oneCell']) _ (whole_store (by rfl)) ?_
                         intro w9 hP9 hbut9 hs9
                         have hx0 := hP9.cell 0
                         have hx1 := hP9.cell 1
                         simp only [List.getElem?_cons_zero, List.getElem?_cons_succ] at hx0 hx1
                         have hR9 := (hR7.stays hb8).but hbut9 (by have := hR7.lt; omega)
                         have hT9 := (hT7.stays hb8).but hbut9 (by have := hT7.lt; omega)
                         have hK9 := (hK7.stays hb8).but hbut9 (by have := hK7.lt; omega)
                         have hN9 := (hN7.stays hb8).but hbut9 (by have := hN7.lt; omega)
                         have hM9 := (hM7.stays hb8).but hbut9 (fun h0 b hb => by have := hM7.lt h0 hb; omega)
                         have hD9 := (hD7.stays hb8).but hbut9 (fun h0 b hb => by have := hD7.lt h0 hb; omega)
                         have hb9 : Below w.heap.size w w9 := (below_then hb7' hb8).trans (hbut9.below (B := w.heap.size) (by have := hb7'.size; omega) (below_then hb7' hb8).size)
                         have cn9 : w9.cell? ⟨w4.heap.size, 0, none⟩ = some (.int .u32 (D.t : Int)) := hN9.cell 0
                         have ct9 : w9.cell? ⟨w.heap.size + 2, 0, none⟩ = some (.int .u32 (B.t : Int)) := hT9.cell 0)
                      | ((with_reducible show wpList _ _ _ (Oper.mk _ (Op.load _ _) _ _ _ _ :: _) _ _); refine wpList_load_blk (by rfl) (.tmp 10) 29 (by rfl) _ 0 37 (by rfl) agg_label size_label hN9 _ (whole_load (Lb.vs_len hDok'.p a4 c4)) (Lb.vs_len hDok'.p a4 c4) ?_)
                      | ((with_reducible show wpList _ _ _ (Oper.mk _ (Op.store _ _ _) _ _ _ _ :: _) _ _); refine wpList_store_blk (by rfl) (.tmp 5) (.tmp 59) 29 (by rfl) _ 0 37 (by rfl) (D.vs a4 c4) (by rfl) size_label hT9 (Lb.vs_len hDok'.p a4 c4) (by rw [Lb.vs_len hBok.p]; omega) (Lb.vs_one _ _ _) _ (whole_store (Lb.vs_len hBok.p aB cB)) ?_
                         intro wA hTA hbutA hsA
                         have hNA := hN9.but hbutA (by have := hT4.lt; omega)
                         have hRA := hR9.but hbutA (by omega)
                         have hKA := hK9.but hbutA (by omega)
                         have hDA := hD9.but hbutA (fun h0 b hb => by have := hDne b hb; omega)
                         have hbA := hb9.trans (hbutA.below (B := w.heap.size) (by omega) hb9.size)
                         have cnA : wA.cell? ⟨w4.heap.size, 0, none⟩ = some (.int .u32 (D.t : Int)) := hNA.cell 0
                         have ctA : wA.cell? ⟨w.heap.size + 2, 0, none⟩ = some (.int .u32 (D.t : Int)) := hTA.cell 0))
              exact ⟨⟨k + 1, by omega, by go_num, by rw [hnext]; rfl, a4, c4, by rw [hnext]; exact hTA, by rw [hnext]; exact ⟨hDA, hDne⟩, ⟨hRA, hKA⟩, hbA⟩, by simp [intOf]; omega⟩
            · have hcC : ((C : Int) == 0) = false := by simp; omega
              by_cases hlt2 : B.t < D.t
              · have hnext : scanC S (k + 1) = (D, 1) := by rw [HNX.out, if_neg (fun h => h HE0.out), if_neg (by rw [hpl]; decide), if_neg hC0, if_pos hlt2]
                clear hC0
                go_wp2_with (first
                        | ((with_reducible show wpList _ _ _ (Oper.mk _ (Op.load _ _) _ _ _ _ :: _) _ _); refine wpList_load_blk (by rfl) (.tmp 1) 48 (by rfl) _ 0 5 (by rfl) rAgg rSize hKr _ (whole_load hcl) hcl ?_)
                        | (go_at_call 60; go_must (refine hrd.mono ?_); rintro e w3 ⟨a3, c3, rfl, ⟨hB3, hn3⟩, hb3⟩
                           have hR3 := hRr.stays hb3
                           have hT3 := hTr.stays hb3
                           have hK3 := hKr.stays hb3
                           have hM3 := hMr.stays hb3
                           have hdc := lrdecode_in a3 c3 256 X w3 hX3.symm hB3 (w.heap.size + 3) (fun x hx => by have := hn3 x hx; have := hTr.lt; omega))
                        | (go_at_call 14; go_must (refine hdc.mono ?_); rintro e w4 ⟨a4, c4, rfl, ⟨hD4, hDne⟩, hb4⟩
                           have hR4 := hR3.stays hb4
                           have hT4 := hT3.stays hb4
                           have hK4 := hK3.stays hb4
                           have hM4 := hM3.stays hb4
                           rw [← HD.out] at hD4
                           rw [← HD.out, ← HEE.out])
                        | ((with_reducible show wpList _ _ _ (Oper.mk _ (Op.alloc _) _ _ _ _ :: _) _ _); refine wpList_alloc0 (by rfl) 29 (by rfl) (some 10) (by rfl) _ HAL.out ?_; intro w5 hN5 hb5 hs5
                           have hR5 := hR4.stays hb5
                           have hT5 := hT4.stays hb5
                           have hK5 := hK4.stays hb5)
                        | ((with_reducible show wpList _ _ _ (Oper.mk _ (Op.store _ _ _) _ _ _ _ :: _) _ _); refine wpList_store_blk (by rfl) (.tmp 10) (.tmp 31) 29 (by rfl) _ 0 37 (by rfl) (D.vs a4 c4) (by rfl) size_label hN5 (Lb.vs_len hDok'.p a4 c4) (by omega) (Lb.vs_one _ _ _) _ (whole_store hzl) ?_
                           intro w6 hN6 hbut6 hs6
                           have hR6 := hR5.but hbut6 (by have := hR4.lt; omega)
                           have hT6 := hT5.but hbut6 (by have := hT4.lt; omega)
                           have hK6 := hK5.but hbut6 (by have := hK4.lt; omega)
                           have hb6 : Below w.heap.size w w6 := by
                             have h1 := below_then (below_then (below_then hbr hb3) hb4) hb5
                             exact h1.trans (hbut6.below (B := w.heap.size) (by have := (below_then (below_then hbr hb3) hb4).size; omega) h1.size)
                           have hM6 := (hM4.stays hb5).but hbut6 (fun h0 b hb => by have := hM4.lt h0 hb; omega)
                           have hD6 := (hD4.stays hb5).but hbut6 (fun h0 b hb => by have := hD4.lt h0 hb; omega)
                           have cn6 : w6.cell? ⟨w4.heap.size, 0, none⟩ = some (.int .u32 (D.t : Int)) := hN6.cell 0)
                        | (go_at_call 12; go_must (refine (hplc _).mono ?_); rintro e w7 ⟨rfl, hb7⟩
                           have hR7 := hR6.stays hb7
                           have hT7 := hT6.stays hb7
                           have hK7 := hK6.stays hb7
                           have hN7 := hN6.stays hb7
                           have hM7 := hM6.stays hb7
                           have hD7 := hD6.stays hb7
                           have hb7' := below_then hb6 hb7)
                        | ((with_reducible show wpList _ _ _ (Oper.mk _ (Op.alloc _) _ _ _ _ :: _) _ _); refine wpList_alloc0 (by rfl) 34 (by rfl) (some 12) (by rfl) _ alloc_two0 ?_; intro w8 hP8 hb8 hs8)
                        | ((with_reducible show wpList _ _ _ (Oper.mk _ (Op.store _ _ _) _ _ _ _ :: _) _ _); refine wpList_store_blk (by rfl) (.tmp 12) (.tmp 35) 34 (by rfl) _ 0 2 (by rfl) _ (by rfl) size_two hP8 (by rfl) (by decide) (by simp [Value.oneCell']) _ (whole_store (by rfl)) ?_
                           intro w9 hP9 hbut9 hs9
                           have hx0 := hP9.cell 0
                           have hx1 := hP9.cell 1
                           simp only [List.getElem?_cons_zero, List.getElem?_cons_succ] at hx0 hx1
                           have hR9 := (hR7.stays hb8).but hbut9 (by have := hR7.lt; omega)
                           have hT9 := (hT7.stays hb8).but hbut9 (by have := hT7.lt; omega)
                           have hK9 := (hK7.stays hb8).but hbut9 (by have := hK7.lt; omega)
                           have hN9 := (hN7.stays hb8).but hbut9 (by have := hN7.lt; omega)
                           have hM9 := (hM7.stays hb8).but hbut9 (fun h0 b hb => by have := hM7.lt h0 hb; omega)
                           have hD9 := (hD7.stays hb8).but hbut9 (fun h0 b hb => by have := hD7.lt h0 hb; omega)
                           have hb9 : Below w.heap.size w w9 := (below_then hb7' hb8).trans (hbut9.below (B := w.heap.size) (by have := hb7'.size; omega) (below_then hb7' hb8).size)
                           have cn9 : w9.cell? ⟨w4.heap.size, 0, none⟩ = some (.int .u32 (D.t : Int)) := hN9.cell 0
                           have ct9 : w9.cell? ⟨w.heap.size + 2, 0, none⟩ = some (.int .u32 (B.t : Int)) := hT9.cell 0)
                        | ((with_reducible show wpList _ _ _ (Oper.mk _ (Op.load _ _) _ _ _ _ :: _) _ _); refine wpList_load_blk (by rfl) (.tmp 10) 29 (by rfl) _ 0 37 (by rfl) agg_label size_label hN9 _ (whole_load (Lb.vs_len hDok'.p a4 c4)) (Lb.vs_len hDok'.p a4 c4) ?_)
                        | ((with_reducible show wpList _ _ _ (Oper.mk _ (Op.store _ _ _) _ _ _ _ :: _) _ _); refine wpList_store_blk (by rfl) (.tmp 5) (.tmp 59) 29 (by rfl) _ 0 37 (by rfl) (D.vs a4 c4) (by rfl) size_label hT9 (Lb.vs_len hDok'.p a4 c4) (by rw [Lb.vs_len hBok.p]; omega) (Lb.vs_one _ _ _) _ (whole_store (Lb.vs_len hBok.p aB cB)) ?_
                           intro wA hTA hbutA hsA
                           have hNA := hN9.but hbutA (by have := hT4.lt; omega)
                           have hRA := hR9.but hbutA (by omega)
                           have hKA := hK9.but hbutA (by omega)
                           have hDA := hD9.but hbutA (fun h0 b hb => by have := hDne b hb; omega)
                           have hbA := hb9.trans (hbutA.below (B := w.heap.size) (by omega) hb9.size)
                           have cnA : wA.cell? ⟨w4.heap.size, 0, none⟩ = some (.int .u32 (D.t : Int)) := hNA.cell 0
                           have ctA : wA.cell? ⟨w.heap.size + 2, 0, none⟩ = some (.int .u32 (D.t : Int)) := hTA.cell 0))
                exact ⟨⟨k + 1, by omega, by go_num, by rw [hnext]; rfl, a4, c4, by rw [hnext]; exact hTA, by rw [hnext]; exact ⟨hDA, hDne⟩, ⟨hRA, hKA⟩, hbA⟩, by simp [intOf]; omega⟩
              · by_cases heq2 : D.t = B.t
                · have hnext : scanC S (k + 1) = (B, C + 1) := by rw [HNX.out, if_neg (fun h => h HE0.out), if_neg (by rw [hpl]; decide), if_neg hC0, if_neg hlt2, if_pos heq2]
                  have he2 : ((D.t : Int) == (B.t : Int)) = true := by rw [heq2]; simp
                  clear hC0 heq2
                  go_wp2_with (first
                          | ((with_reducible show wpList _ _ _ (Oper.mk _ (Op.load _ _) _ _ _ _ :: _) _ _); refine wpList_load_blk (by rfl) (.tmp 1) 48 (by rfl) _ 0 5 (by rfl) rAgg rSize hKr _ (whole_load hcl) hcl ?_)
                          | (go_at_call 60; go_must (refine hrd.mono ?_); rintro e w3 ⟨a3, c3, rfl, ⟨hB3, hn3⟩, hb3⟩
                             have hR3 := hRr.stays hb3
                             have hT3 := hTr.stays hb3
                             have hK3 := hKr.stays hb3
                             have hM3 := hMr.stays hb3
                             have hdc := lrdecode_in a3 c3 256 X w3 hX3.symm hB3 (w.heap.size + 3) (fun x hx => by have := hn3 x hx; have := hTr.lt; omega))
                          | (go_at_call 14; go_must (refine hdc.mono ?_); rintro e w4 ⟨a4, c4, rfl, ⟨hD4, hDne⟩, hb4⟩
                             have hR4 := hR3.stays hb4
                             have hT4 := hT3.stays hb4
                             have hK4 := hK3.stays hb4
                             have hM4 := hM3.stays hb4
                             rw [← HD.out] at hD4
                             rw [← HD.out, ← HEE.out])
                          | ((with_reducible show wpList _ _ _ (Oper.mk _ (Op.alloc _) _ _ _ _ :: _) _ _); refine wpList_alloc0 (by rfl) 29 (by rfl) (some 10) (by rfl) _ HAL.out ?_; intro w5 hN5 hb5 hs5
                             have hR5 := hR4.stays hb5
                             have hT5 := hT4.stays hb5
                             have hK5 := hK4.stays hb5)
                          | ((with_reducible show wpList _ _ _ (Oper.mk _ (Op.store _ _ _) _ _ _ _ :: _) _ _); refine wpList_store_blk (by rfl) (.tmp 10) (.tmp 31) 29 (by rfl) _ 0 37 (by rfl) (D.vs a4 c4) (by rfl) size_label hN5 (Lb.vs_len hDok'.p a4 c4) (by omega) (Lb.vs_one _ _ _) _ (whole_store hzl) ?_
                             intro w6 hN6 hbut6 hs6
                             have hR6 := hR5.but hbut6 (by have := hR4.lt; omega)
                             have hT6 := hT5.but hbut6 (by have := hT4.lt; omega)
                             have hK6 := hK5.but hbut6 (by have := hK4.lt; omega)
                             have hb6 : Below w.heap.size w w6 := by
                               have h1 := below_then (below_then (below_then hbr hb3) hb4) hb5
                               exact h1.trans (hbut6.below (B := w.heap.size) (by have := (below_then (below_then hbr hb3) hb4).size; omega) h1.size)
                             have hM6 := (hM4.stays hb5).but hbut6 (fun h0 b hb => by have := hM4.lt h0 hb; omega)
                             have hD6 := (hD4.stays hb5).but hbut6 (fun h0 b hb => by have := hD4.lt h0 hb; omega)
                             have cn6 : w6.cell? ⟨w4.heap.size, 0, none⟩ = some (.int .u32 (D.t : Int)) := hN6.cell 0)
                          | (go_at_call 12; go_must (refine (hplc _).mono ?_); rintro e w7 ⟨rfl, hb7⟩
                             have hR7 := hR6.stays hb7
                             have hT7 := hT6.stays hb7
                             have hK7 := hK6.stays hb7
                             have hN7 := hN6.stays hb7
                             have hM7 := hM6.stays hb7
                             have hD7 := hD6.stays hb7
                             have hb7' := below_then hb6 hb7)
                          | ((with_reducible show wpList _ _ _ (Oper.mk _ (Op.alloc _) _ _ _ _ :: _) _ _); refine wpList_alloc0 (by rfl) 34 (by rfl) (some 12) (by rfl) _ alloc_two0 ?_; intro w8 hP8 hb8 hs8)
                          | ((with_reducible show wpList _ _ _ (Oper.mk _ (Op.store _ _ _) _ _ _ _ :: _) _ _); refine wpList_store_blk (by rfl) (.tmp 12) (.tmp 35) 34 (by rfl) _ 0 2 (by rfl) _ (by rfl) size_two hP8 (by rfl) (by decide) (by simp [Value.oneCell']) _ (whole_store (by rfl)) ?_
                             intro w9 hP9 hbut9 hs9
                             have hx0 := hP9.cell 0
                             have hx1 := hP9.cell 1
                             simp only [List.getElem?_cons_zero, List.getElem?_cons_succ] at hx0 hx1
                             have hR9 := (hR7.stays hb8).but hbut9 (by have := hR7.lt; omega)
                             have hT9 := (hT7.stays hb8).but hbut9 (by have := hT7.lt; omega)
                             have hK9 := (hK7.stays hb8).but hbut9 (by have := hK7.lt; omega)
                             have hN9 := (hN7.stays hb8).but hbut9 (by have := hN7.lt; omega)
                             have hM9 := (hM7.stays hb8).but hbut9 (fun h0 b hb => by have := hM7.lt h0 hb; omega)
                             have hD9 := (hD7.stays hb8).but hbut9 (fun h0 b hb => by have := hD7.lt h0 hb; omega)
                             have hb9 : Below w.heap.size w w9 := (below_then hb7' hb8).trans (hbut9.below (B := w.heap.size) (by have := hb7'.size; omega) (below_then hb7' hb8).size)
                             have cn9 : w9.cell? ⟨w4.heap.size, 0, none⟩ = some (.int .u32 (D.t : Int)) := hN9.cell 0
                             have ct9 : w9.cell? ⟨w.heap.size + 2, 0, none⟩ = some (.int .u32 (B.t : Int)) := hT9.cell 0))
                  exact ⟨⟨k + 1, by omega, by go_num, by rw [hnext]; go_num, aB, cB, by rw [hnext]; exact hT9, by rw [hnext]; exact ⟨hM9, hMne⟩, ⟨hR9, hK9⟩, hb9⟩, by simp [intOf]; omega⟩
                · have hnext : scanC S (k + 1) = (B, C) := by rw [HNX.out, if_neg (fun h => h HE0.out), if_neg (by rw [hpl]; decide), if_neg hC0, if_neg hlt2, if_neg heq2]
                  have he2 : ((D.t : Int) == (B.t : Int)) = false := by simp; omega
                  clear hC0 heq2
                  go_wp2_with (first
                          | ((with_reducible show wpList _ _ _ (Oper.mk _ (Op.load _ _) _ _ _ _ :: _) _ _); refine wpList_load_blk (by rfl) (.tmp 1) 48 (by rfl) _ 0 5 (by rfl) rAgg rSize hKr _ (whole_load hcl) hcl ?_)
                          | (go_at_call 60; go_must (refine hrd.mono ?_); rintro e w3 ⟨a3, c3, rfl, ⟨hB3, hn3⟩, hb3⟩
                             have hR3 := hRr.stays hb3
                             have hT3 := hTr.stays hb3
                             have hK3 := hKr.stays hb3
                             have hM3 := hMr.stays hb3
                             have hdc := lrdecode_in a3 c3 256 X w3 hX3.symm hB3 (w.heap.size + 3) (fun x hx => by have := hn3 x hx; have := hTr.lt; omega))
                          | (go_at_call 14; go_must (refine hdc.mono ?_); rintro e w4 ⟨a4, c4, rfl, ⟨hD4, hDne⟩, hb4⟩
                             have hR4 := hR3.stays hb4
                             have hT4 := hT3.stays hb4
                             have hK4 := hK3.stays hb4
                             have hM4 := hM3.stays hb4
                             rw [← HD.out] at hD4
                             rw [← HD.out, ← HEE.out])
                          | ((with_reducible show wpList _ _ _ (Oper.mk _ (Op.alloc _) _ _ _ _ :: _) _ _); refine wpList_alloc0 (by rfl) 29 (by rfl) (some 10) (by rfl) _ HAL.out ?_; intro w5 hN5 hb5 hs5
                             have hR5 := hR4.stays hb5
                             have hT5 := hT4.stays hb5
                             have hK5 := hK4.stays hb5)
                          | ((with_reducible show wpList _ _ _ (Oper.mk _ (Op.store _ _ _) _ _ _ _ :: _) _ _); refine wpList_store_blk (by rfl) (.tmp 10) (.tmp 31) 29 (by rfl) _ 0 37 (by rfl) (D.vs a4 c4) (by rfl) size_label hN5 (Lb.vs_len hDok'.p a4 c4) (by omega) (Lb.vs_one _ _ _) _ (whole_store hzl) ?_
                             intro w6 hN6 hbut6 hs6
                             have hR6 := hR5.but hbut6 (by have := hR4.lt; omega)
                             have hT6 := hT5.but hbut6 (by have := hT4.lt; omega)
                             have hK6 := hK5.but hbut6 (by have := hK4.lt; omega)
                             have hb6 : Below w.heap.size w w6 := by
                               have h1 := below_then (below_then (below_then hbr hb3) hb4) hb5
                               exact h1.trans (hbut6.below (B := w.heap.size) (by have := (below_then (below_then hbr hb3) hb4).size; omega) h1.size)
                             have hM6 := (hM4.stays hb5).but hbut6 (fun h0 b hb => by have := hM4.lt h0 hb; omega)
                             have hD6 := (hD4.stays hb5).but hbut6 (fun h0 b hb => by have := hD4.lt h0 hb; omega)
                             have cn6 : w6.cell? ⟨w4.heap.size, 0, none⟩ = some (.int .u32 (D.t : Int)) := hN6.cell 0)
                          | (go_at_call 12; go_must (refine (hplc _).mono ?_); rintro e w7 ⟨rfl, hb7⟩
                             have hR7 := hR6.stays hb7
                             have hT7 := hT6.stays hb7
                             have hK7 := hK6.stays hb7
                             have hN7 := hN6.stays hb7
                             have hM7 := hM6.stays hb7
                             have hD7 := hD6.stays hb7
                             have hb7' := below_then hb6 hb7)
                          | ((with_reducible show wpList _ _ _ (Oper.mk _ (Op.alloc _) _ _ _ _ :: _) _ _); refine wpList_alloc0 (by rfl) 34 (by rfl) (some 12) (by rfl) _ alloc_two0 ?_; intro w8 hP8 hb8 hs8)
                          | ((with_reducible show wpList _ _ _ (Oper.mk _ (Op.store _ _ _) _ _ _ _ :: _) _ _); refine wpList_store_blk (by rfl) (.tmp 12) (.tmp 35) 34 (by rfl) _ 0 2 (by rfl) _ (by rfl) size_two hP8 (by rfl) (by decide) (by simp [Value.oneCell']) _ (whole_store (by rfl)) ?_
                             intro w9 hP9 hbut9 hs9
                             have hx0 := hP9.cell 0
                             have hx1 := hP9.cell 1
                             simp only [List.getElem?_cons_zero, List.getElem?_cons_succ] at hx0 hx1
                             have hR9 := (hR7.stays hb8).but hbut9 (by have := hR7.lt; omega)
                             have hT9 := (hT7.stays hb8).but hbut9 (by have := hT7.lt; omega)
                             have hK9 := (hK7.stays hb8).but hbut9 (by have := hK7.lt; omega)
                             have hN9 := (hN7.stays hb8).but hbut9 (by have := hN7.lt; omega)
                             have hM9 := (hM7.stays hb8).but hbut9 (fun h0 b hb => by have := hM7.lt h0 hb; omega)
                             have hD9 := (hD7.stays hb8).but hbut9 (fun h0 b hb => by have := hD7.lt h0 hb; omega)
                             have hb9 : Below w.heap.size w w9 := (below_then hb7' hb8).trans (hbut9.below (B := w.heap.size) (by have := hb7'.size; omega) (below_then hb7' hb8).size)
                             have cn9 : w9.cell? ⟨w4.heap.size, 0, none⟩ = some (.int .u32 (D.t : Int)) := hN9.cell 0
                             have ct9 : w9.cell? ⟨w.heap.size + 2, 0, none⟩ = some (.int .u32 (B.t : Int)) := hT9.cell 0))
                  exact ⟨⟨k + 1, by omega, by go_num, by rw [hnext], aB, cB, by rw [hnext]; exact hT9, by rw [hnext]; exact ⟨hM9, hMne⟩, ⟨hR9, hK9⟩, hb9⟩, by simp [intOf]; omega⟩
          · have hpl : plcd D.t k = false := by rw [HPL.out]; simp [hk1, hk2]
            have hz2 : ((q1 : Int) != (k : Int)) = true := by simp; omega
            have hnext : scanC S (k + 1) = (B, C) := by rw [HNX.out, if_neg (fun h => h HE0.out), if_pos hpl]
            clear hk1 hk2
            go_wp2_with (first
                    | ((with_reducible show wpList _ _ _ (Oper.mk _ (Op.load _ _) _ _ _ _ :: _) _ _); refine wpList_load_blk (by rfl) (.tmp 1) 48 (by rfl) _ 0 5 (by rfl) rAgg rSize hKr _ (whole_load hcl) hcl ?_)
                    | (go_at_call 60; go_must (refine hrd.mono ?_); rintro e w3 ⟨a3, c3, rfl, ⟨hB3, hn3⟩, hb3⟩
                       have hR3 := hRr.stays hb3
                       have hT3 := hTr.stays hb3
                       have hK3 := hKr.stays hb3
                       have hM3 := hMr.stays hb3
                       have hdc := lrdecode_in a3 c3 256 X w3 hX3.symm hB3 (w.heap.size + 3) (fun x hx => by have := hn3 x hx; have := hTr.lt; omega))
                    | (go_at_call 14; go_must (refine hdc.mono ?_); rintro e w4 ⟨a4, c4, rfl, ⟨hD4, hDne⟩, hb4⟩
                       have hR4 := hR3.stays hb4
                       have hT4 := hT3.stays hb4
                       have hK4 := hK3.stays hb4
                       have hM4 := hM3.stays hb4
                       rw [← HD.out] at hD4
                       rw [← HD.out, ← HEE.out])
                    | ((with_reducible show wpList _ _ _ (Oper.mk _ (Op.alloc _) _ _ _ _ :: _) _ _); refine wpList_alloc0 (by rfl) 29 (by rfl) (some 10) (by rfl) _ HAL.out ?_; intro w5 hN5 hb5 hs5
                       have hR5 := hR4.stays hb5
                       have hT5 := hT4.stays hb5
                       have hK5 := hK4.stays hb5)
                    | ((with_reducible show wpList _ _ _ (Oper.mk _ (Op.store _ _ _) _ _ _ _ :: _) _ _); refine wpList_store_blk (by rfl) (.tmp 10) (.tmp 31) 29 (by rfl) _ 0 37 (by rfl) (D.vs a4 c4) (by rfl) size_label hN5 (Lb.vs_len hDok'.p a4 c4) (by omega) (Lb.vs_one _ _ _) _ (whole_store hzl) ?_
                       intro w6 hN6 hbut6 hs6
                       have hR6 := hR5.but hbut6 (by have := hR4.lt; omega)
                       have hT6 := hT5.but hbut6 (by have := hT4.lt; omega)
                       have hK6 := hK5.but hbut6 (by have := hK4.lt; omega)
                       have hb6 : Below w.heap.size w w6 := by
                         have h1 := below_then (below_then (below_then hbr hb3) hb4) hb5
                         exact h1.trans (hbut6.below (B := w.heap.size) (by have := (below_then (below_then hbr hb3) hb4).size; omega) h1.size)
                       have hM6 := (hM4.stays hb5).but hbut6 (fun h0 b hb => by have := hM4.lt h0 hb; omega)
                       have hD6 := (hD4.stays hb5).but hbut6 (fun h0 b hb => by have := hD4.lt h0 hb; omega)
                       have cn6 : w6.cell? ⟨w4.heap.size, 0, none⟩ = some (.int .u32 (D.t : Int)) := hN6.cell 0)
                    | (go_at_call 12; go_must (refine (hplc _).mono ?_); rintro e w7 ⟨rfl, hb7⟩
                       have hR7 := hR6.stays hb7
                       have hT7 := hT6.stays hb7
                       have hK7 := hK6.stays hb7
                       have hN7 := hN6.stays hb7
                       have hM7 := hM6.stays hb7
                       have hD7 := hD6.stays hb7
                       have hb7' := below_then hb6 hb7)
                    | ((with_reducible show wpList _ _ _ (Oper.mk _ (Op.alloc _) _ _ _ _ :: _) _ _); refine wpList_alloc0 (by rfl) 34 (by rfl) (some 12) (by rfl) _ alloc_two0 ?_; intro w8 hP8 hb8 hs8)
                    | ((with_reducible show wpList _ _ _ (Oper.mk _ (Op.store _ _ _) _ _ _ _ :: _) _ _); refine wpList_store_blk (by rfl) (.tmp 12) (.tmp 35) 34 (by rfl) _ 0 2 (by rfl) _ (by rfl) size_two hP8 (by rfl) (by decide) (by simp [Value.oneCell']) _ (whole_store (by rfl)) ?_
                       intro w9 hP9 hbut9 hs9
                       have hx0 := hP9.cell 0
                       have hx1 := hP9.cell 1
                       simp only [List.getElem?_cons_zero, List.getElem?_cons_succ] at hx0 hx1
                       have hR9 := (hR7.stays hb8).but hbut9 (by have := hR7.lt; omega)
                       have hT9 := (hT7.stays hb8).but hbut9 (by have := hT7.lt; omega)
                       have hK9 := (hK7.stays hb8).but hbut9 (by have := hK7.lt; omega)
                       have hN9 := (hN7.stays hb8).but hbut9 (by have := hN7.lt; omega)
                       have hM9 := (hM7.stays hb8).but hbut9 (fun h0 b hb => by have := hM7.lt h0 hb; omega)
                       have hD9 := (hD7.stays hb8).but hbut9 (fun h0 b hb => by have := hD7.lt h0 hb; omega)
                       have hb9 : Below w.heap.size w w9 := (below_then hb7' hb8).trans (hbut9.below (B := w.heap.size) (by have := hb7'.size; omega) (below_then hb7' hb8).size)
                       have cn9 : w9.cell? ⟨w4.heap.size, 0, none⟩ = some (.int .u32 (D.t : Int)) := hN9.cell 0
                       have ct9 : w9.cell? ⟨w.heap.size + 2, 0, none⟩ = some (.int .u32 (B.t : Int)) := hT9.cell 0))
            exact ⟨⟨k + 1, by omega, by go_num, by rw [hnext], aB, cB, by rw [hnext]; exact hT9, by rw [hnext]; exact ⟨hM9, hMne⟩, ⟨hR9, hK9⟩, hb9⟩, by simp [intOf]; omega⟩
      · have hnext : scanC S (k + 1) = (B, C) := by rw [HNX.out, if_pos hE0]
        have heE : ((E : Int) != 0) = true := by simp; omega
        clear hE0
        go_wp2_with (first
                | ((with_reducible show wpList _ _ _ (Oper.mk _ (Op.load _ _) _ _ _ _ :: _) _ _); refine wpList_load_blk (by rfl) (.tmp 1) 48 (by rfl) _ 0 5 (by rfl) rAgg rSize hKr _ (whole_load hcl) hcl ?_)
                | (go_at_call 60; go_must (refine hrd.mono ?_); rintro e w3 ⟨a3, c3, rfl, ⟨hB3, hn3⟩, hb3⟩
                   have hR3 := hRr.stays hb3
                   have hT3 := hTr.stays hb3
                   have hK3 := hKr.stays hb3
                   have hM3 := hMr.stays hb3
                   have hdc := lrdecode_in a3 c3 256 X w3 hX3.symm hB3 (w.heap.size + 3) (fun x hx => by have := hn3 x hx; have := hTr.lt; omega))
                | (go_at_call 14; go_must (refine hdc.mono ?_); rintro e w4 ⟨a4, c4, rfl, ⟨hD4, hDne⟩, hb4⟩
                   have hR4 := hR3.stays hb4
                   have hT4 := hT3.stays hb4
                   have hK4 := hK3.stays hb4
                   have hM4 := hM3.stays hb4
                   rw [← HD.out] at hD4
                   rw [← HD.out, ← HEE.out])
                | ((with_reducible show wpList _ _ _ (Oper.mk _ (Op.alloc _) _ _ _ _ :: _) _ _); refine wpList_alloc0 (by rfl) 29 (by rfl) (some 10) (by rfl) _ HAL.out ?_; intro w5 hN5 hb5 hs5
                   have hR5 := hR4.stays hb5
                   have hT5 := hT4.stays hb5
                   have hK5 := hK4.stays hb5)
                | ((with_reducible show wpList _ _ _ (Oper.mk _ (Op.store _ _ _) _ _ _ _ :: _) _ _); refine wpList_store_blk (by rfl) (.tmp 10) (.tmp 31) 29 (by rfl) _ 0 37 (by rfl) (D.vs a4 c4) (by rfl) size_label hN5 (Lb.vs_len hDok'.p a4 c4) (by omega) (Lb.vs_one _ _ _) _ (whole_store hzl) ?_
                   intro w6 hN6 hbut6 hs6
                   have hR6 := hR5.but hbut6 (by have := hR4.lt; omega)
                   have hT6 := hT5.but hbut6 (by have := hT4.lt; omega)
                   have hK6 := hK5.but hbut6 (by have := hK4.lt; omega)
                   have hb6 : Below w.heap.size w w6 := by
                     have h1 := below_then (below_then (below_then hbr hb3) hb4) hb5
                     exact h1.trans (hbut6.below (B := w.heap.size) (by have := (below_then (below_then hbr hb3) hb4).size; omega) h1.size)
                   have hM6 := (hM4.stays hb5).but hbut6 (fun h0 b hb => by have := hM4.lt h0 hb; omega)
                   have hD6 := (hD4.stays hb5).but hbut6 (fun h0 b hb => by have := hD4.lt h0 hb; omega)
                   have cn6 : w6.cell? ⟨w4.heap.size, 0, none⟩ = some (.int .u32 (D.t : Int)) := hN6.cell 0)
                | (go_at_call 12; go_must (refine (hplc _).mono ?_); rintro e w7 ⟨rfl, hb7⟩
                   have hR7 := hR6.stays hb7
                   have hT7 := hT6.stays hb7
                   have hK7 := hK6.stays hb7
                   have hN7 := hN6.stays hb7
                   have hM7 := hM6.stays hb7
                   have hD7 := hD6.stays hb7
                   have hb7' := below_then hb6 hb7)
                | ((with_reducible show wpList _ _ _ (Oper.mk _ (Op.alloc _) _ _ _ _ :: _) _ _); refine wpList_alloc0 (by rfl) 34 (by rfl) (some 12) (by rfl) _ alloc_two0 ?_; intro w8 hP8 hb8 hs8)
                | ((with_reducible show wpList _ _ _ (Oper.mk _ (Op.store _ _ _) _ _ _ _ :: _) _ _); refine wpList_store_blk (by rfl) (.tmp 12) (.tmp 35) 34 (by rfl) _ 0 2 (by rfl) _ (by rfl) size_two hP8 (by rfl) (by decide) (by simp [Value.oneCell']) _ (whole_store (by rfl)) ?_
                   intro w9 hP9 hbut9 hs9
                   have hx0 := hP9.cell 0
                   have hx1 := hP9.cell 1
                   simp only [List.getElem?_cons_zero, List.getElem?_cons_succ] at hx0 hx1
                   have hR9 := (hR7.stays hb8).but hbut9 (by have := hR7.lt; omega)
                   have hT9 := (hT7.stays hb8).but hbut9 (by have := hT7.lt; omega)
                   have hK9 := (hK7.stays hb8).but hbut9 (by have := hK7.lt; omega)
                   have hN9 := (hN7.stays hb8).but hbut9 (by have := hN7.lt; omega)
                   have hM9 := (hM7.stays hb8).but hbut9 (fun h0 b hb => by have := hM7.lt h0 hb; omega)
                   have hD9 := (hD7.stays hb8).but hbut9 (fun h0 b hb => by have := hD7.lt h0 hb; omega)
                   have hb9 : Below w.heap.size w w9 := (below_then hb7' hb8).trans (hbut9.below (B := w.heap.size) (by have := hb7'.size; omega) (below_then hb7' hb8).size)
                   have cn9 : w9.cell? ⟨w4.heap.size, 0, none⟩ = some (.int .u32 (D.t : Int)) := hN9.cell 0
                   have ct9 : w9.cell? ⟨w.heap.size + 2, 0, none⟩ = some (.int .u32 (B.t : Int)) := hT9.cell 0))
        exact ⟨⟨k + 1, by omega, by go_num, by rw [hnext], aB, cB, by rw [hnext]; exact hT9, by rw [hnext]; exact ⟨hM9, hMne⟩, ⟨hR9, hK9⟩, hb9⟩, by simp [intOf]; omega⟩
    · have hk4 : k = 4 := by omega
      subst hk4
      have hd4 : decide (((4 : Nat) : Int) < 4) = false := rfl
      by_cases hC0 : C = 0
      · have hch : chooseL S = ((Lb.zero, 0), 15) := by unfold chooseL; rw [hoff, if_neg (by decide), HS.out, if_pos hC0]
        have hcC : ((C : Int) == 0) = true := by rw [hC0]; rfl
        clear hC0
        go_wp2_with (first
          | ((with_reducible show wpList _ _ _ (Oper.mk _ (Op.build _ _) _ _ _ _ :: _) _ _); refine wpList_build0 (by rfl) 29 (by rfl) _ HBU.out ?_)
          | ((with_reducible show wpList _ _ _ (Oper.mk _ (Op.store _ _ _) _ _ _ _ :: _) _ _); refine wpList_store_blk (by rfl) (.tmp 2) (.tmp 69) 29 (by rfl) _ 0 37 (by rfl) zs (by rfl) size_label hRr hzl (by omega) hzo _ (whole_store hzl) ?_
             intro wZ hRZ hbutZ hsZ))
        refine bodyPost_ret_blk3 rfl rfl (by rfl) (by rfl) (by rfl) agg_label size_label hRZ hzl ?_
        rw [hch, HZS.out]
        exact ⟨none, 0, rfl, Bs.empty _, hbr.trans (hbutZ.below (by omega) hbr.size)⟩
      · have hch : chooseL S = ((B, C), 0) := by unfold chooseL; rw [hoff, if_neg (by decide), HS.out, if_neg hC0]
        have hcC : ((C : Int) == 0) = false := by simp; omega
        clear hC0
        go_wp2_with (first
          | ((with_reducible show wpList _ _ _ (Oper.mk _ (Op.load _ _) _ _ _ _ :: _) _ _); refine wpList_load_blk (by rfl) (.tmp 5) 29 (by rfl) _ 0 37 (by rfl) agg_label size_label hTr _ (whole_load (Lb.vs_len hBok.p aB cB)) (Lb.vs_len hBok.p aB cB) ?_)
          | ((with_reducible show wpList _ _ _ (Oper.mk _ (Op.store _ _ _) _ _ _ _ :: _) _ _); refine wpList_store_blk (by rfl) (.tmp 2) (.tmp 70) 29 (by rfl) _ 0 37 (by rfl) (B.vs aB cB) (by rfl) size_label hRr (Lb.vs_len hBok.p aB cB) (by omega) (Lb.vs_one _ _ _) _ (whole_store hzl) ?_
             intro wZ hRZ hbutZ hsZ))
        refine bodyPost_ret_blk3 rfl rfl (by rfl) (by rfl) (by rfl) agg_label size_label hRZ (Lb.vs_len hBok.p aB cB) ?_
        rw [hch]
        exact ⟨aB, cB, rfl, hMr.but hbutZ (fun h0 b hb => by have := hMne b hb; omega), hbr.trans (hbutZ.below (by omega) hbr.size)⟩

end

end Go.Proofs.YthbcphalokoknaaDoor
