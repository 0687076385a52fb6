/-
  The walk over label.Choose.
-/
import Derived.Test.YteocmmmnfbabaaaDoorLbCalls
import Derived.Test.YteocmmmnfbabaaaDoorBoth
namespace Go.Proofs.YteocmmmnfbabaaaDoor
set_option linter.unusedSimpArgs false
set_option linter.unusedVariables false
set_option maxRecDepth 100000
open Go.RowKit

/-- What a sector's bytes make of what was the best till then. -/
def stepC (i : Nat) (xs : List Int) (s : Lb × Nat) : Lb × Nat :=
  if ¬ (decL xs).2 = 0 then s else if plcd (decL xs).1.t i = false then s
  else if s.2 = 0 then ((decL xs).1, 1) else if s.1.t < (decL xs).1.t then ((decL xs).1, 1) else if (decL xs).1.t = s.1.t then (s.1, s.2 + 1) else s
def scanC (S : DS) : Nat → Lb × Nat
  | 0 => (Lb.zero, 0)
  | k + 1 => stepC k (readW S.laid S.ws k) (scanC S k)
/-- Choose's answer: the label, how many there are, the error. -/
def chooseL (S : DS) : (Lb × Nat) × Nat := if S.off then ((Lb.zero, 0), 8) else if (scanC S 4).2 = 0 then ((Lb.zero, 0), 15) else (scanC S 4, 0)

theorem stepC_ok {i : Nat} {xs : List Int} {s : Lb × Nat} (hr : ∀ x ∈ xs, 0 ≤ x ∧ x ≤ 255) (hs : s.1.ok) : (stepC i xs s).1.ok := by
  unfold stepC
  split
  · exact hs
  · split
    · exact hs
    · split
      · exact decL_ok hr
      · split
        · exact decL_ok hr
        · split
          · exact hs
          · exact hs
theorem stepC_le {i : Nat} {xs : List Int} {s : Lb × Nat} {n : Nat} (hs : s.2 ≤ n) : (stepC i xs s).2 ≤ n + 1 := by
  unfold stepC
  repeat' split
  all_goals (try simp only) <;> omega
theorem scanC_ok {S : DS} {n : Nat} (h : S.Ok n) : ∀ k, k ≤ 4 → (scanC S k).1.ok
  | 0, _ => Lb.zero_ok
  | k + 1, hk => stepC_ok (readW_ok h (by have := h.lo; omega)).2 (scanC_ok h k (by omega))
theorem scanC_le (S : DS) : ∀ k, (scanC S k).2 ≤ k
  | 0 => Nat.le_refl _
  | k + 1 => stepC_le (scanC_le S k)
theorem chooseL_ok {S : DS} {n : Nat} (h : S.Ok n) : (chooseL S).1.1.ok := by
  unfold chooseL
  split
  · exact Lb.zero_ok
  · split
    · exact Lb.zero_ok
    · exact scanC_ok h 4 (by omega)

theorem DS.read_at {S : DS} {n k : Nat} (h : S.Ok n) (hoff : S.off = false) (hk : k < n) : S.read (k : Int) = (readW S.laid S.ws k, 0) := by
  have hh : S.has (k : Int) := by
    unfold DS.has
    rw [h.len, Nat.mul_div_cancel_left _ (by omega)]
    omega
  unfold DS.read
  rw [hoff, if_neg (by decide), if_neg (by simpa using hh)]
  simp

section
variable {w : World} {F : Nat → Prop} {p : Nat} {S : DS}

set_option maxHeartbeats 8000000 in
theorem choose_off (h : Dk w F p S) (hl : S.ws.length ≤ 1000000) (hoff : S.off = true) :
    Calls Tryd.prog 28 #[.pointer (some ⟨p, 0, none⟩)] w fun e w' => e = .returned (.tuple #[.agg (Lb.zero.vs none 0).toArray, .int .i64 0, .int .i64 8]) ∧ Below w.heap.size w w' := by
  have hzl := zero_vs_len
  obtain ⟨zs, hzs⟩ : ∃ zs, zs = Lb.zero.vs none 0 := ⟨_, rfl⟩
  have HBU : Hid (∀ w : World, (Instr.build 29 #[]).run Tryd.prog w = .ok (.agg zs.toArray) w) := by rw [hzs]; exact build_label0
  have HAL : Hid (∀ w : World, (Instr.alloc 29 true (.tuple #[])).run Tryd.prog w = .ok (.pointer (some ⟨w.heap.size, 0, none⟩)) (w.alloc (.cells zs.toArray 29))) := by rw [hzs]; exact alloc_label0
  have hzo : ∀ v ∈ zs, v.oneCell' = true := by rw [hzs]; exact Lb.vs_one _ _ _
  have HZS : Hid (zs = Lb.zero.vs none 0) := hzs
  rw [← hzs] at hzl
  clear hzs
  have hread : ∀ u, Below w.heap.size w u → Calls Tryd.prog 32 #[.pointer (some ⟨p, 0, none⟩), .int .i64 0] u fun e w' => ∃ a c, e = .returned (.tuple #[.slice a 0 c, .int .i64 8]) ∧ Below u.heap.size u w' := fun u hu => by
    refine (dk_read (h.stays hu) hl 0).mono ?_
    rintro e w' ⟨a, c, rfl, _, hb⟩
    have : S.read 0 = ([], 8) := by unfold DS.read; rw [hoff]; rfl
    rw [this]
    exact ⟨a, c, rfl, hb⟩
  have hE : Hid (∀ w', Below w.heap.size w w' → True) := fun _ _ => trivial
  rw [← HZS.out]
  go_enter Tryd.func28, Tryd.ntmps28
  go_wp2_with (first
    | ((with_reducible show wpList _ _ _ (Oper.mk _ (Op.alloc _) _ _ _ _ :: _) _ _); refine wpList_alloc0 (by rfl) 29 (by rfl) (some 2) (by rfl) _ HAL.out ?_; intro w1 hR1 hb1 hs1)
    | ((with_reducible show wpList _ _ _ (Oper.mk _ (Op.alloc _) _ _ _ _ :: _) _ _); refine wpList_alloc0 (by rfl) 29 (by rfl) (some 5) (by rfl) _ HAL.out ?_; intro w2 hT2 hb2 hs2
       have hR2 := hR1.stays hb2
       have hb2' := below_then hb1 hb2
       rw [hs1] at hT2))
  go_loopw [6, 11] (fun n i wr => n = .int .i64 0 ∧ i = .int .i64 0 ∧ wr = w2) (fun _ _ _ => 0)
  case atStart => exact ⟨rfl, rfl, rfl⟩
  case round =>
    rename_i hrel
    obtain ⟨rfl, rfl, rfl⟩ := hrel
    have hrd := hread _ hb2'
    go_wp2_with (first
      | (go_at_call 32; go_must (refine hrd.mono ?_); rintro e w3 ⟨a3, c3, rfl, hb3⟩
         have hR3 := hR2.stays hb3)
      | ((with_reducible show wpList _ _ _ (Oper.mk _ (Op.build _ _) _ _ _ _ :: _) _ _); refine wpList_build0 (by rfl) 29 (by rfl) _ HBU.out ?_)
      | ((with_reducible show wpList _ _ _ (Oper.mk _ (Op.store _ _ _) _ _ _ _ :: _) _ _); refine wpList_store_blk (by rfl) (.tmp 2) (.tmp 22) 29 (by rfl) _ 0 37 (by rfl) zs (by rfl) size_label hR3 hzl (by omega) hzo _ (whole_store hzl) ?_
         intro wZ hRZ hbutZ hsZ))
    have hb3' := below_then hb2' hb3
    exact bodyPost_ret_blk3 rfl rfl (by rfl) (by rfl) (by rfl) agg_label size_label hRZ hzl ⟨rfl, hb3'.trans (hbutZ.below (Nat.le_refl _) hb3'.size)⟩

set_option maxHeartbeats 40000000 in
theorem choose_on (h : Dk w F p S) (hl : S.ws.length ≤ 1000000) (hoff : S.off = false) (hV : Vars w) :
    Calls Tryd.prog 28 #[.pointer (some ⟨p, 0, none⟩)] w fun e w' => ∃ a c, e = .returned (.tuple #[.agg ((chooseL S).1.1.vs a c).toArray, .int .i64 ((chooseL S).1.2 : Int), .int .i64 ((chooseL S).2 : Int)]) ∧ Bs w' a c (chooseL S).1.1.m ∧ Below w.heap.size w w' := by
  obtain ⟨n, hok⟩ := h.ok
  have hzl := zero_vs_len
  obtain ⟨zs, hzs⟩ : ∃ zs, zs = Lb.zero.vs none 0 := ⟨_, rfl⟩
  have HBU : Hid (∀ w : World, (Instr.build 29 #[]).run Tryd.prog w = .ok (.agg zs.toArray) w) := by rw [hzs]; exact build_label0
  have HAL : Hid (∀ w : World, (Instr.alloc 29 true (.tuple #[])).run Tryd.prog w = .ok (.pointer (some ⟨w.heap.size, 0, none⟩)) (w.alloc (.cells zs.toArray 29))) := by rw [hzs]; exact alloc_label0
  have hzo : ∀ v ∈ zs, v.oneCell' = true := by rw [hzs]; exact Lb.vs_one _ _ _
  have HZS : Hid (zs = Lb.zero.vs none 0) := hzs
  rw [← hzs] at hzl
  clear hzs
  have hread : ∀ (u : World) (k : Nat), k < 4 → Below w.heap.size w u → Calls Tryd.prog 32 #[.pointer (some ⟨p, 0, none⟩), .int .i64 (k : Int)] u fun e w' => ∃ a c, e = .returned (.tuple #[.slice a 256 c, .int .i64 0]) ∧ Bs w' a c (readW S.laid S.ws k) ∧ Below u.heap.size u w' := fun u k hk hu => by
    have hk' : k < n := by have := hok.lo; omega
    refine (dk_read (h.stays hu) hl k).mono ?_
    rintro e w' ⟨a, c, rfl, ho, hb⟩
    rw [DS.read_at hok hoff hk'] at ho ⊢
    obtain ⟨h1, h2⟩ := readW_ok hok hk'
    simp only at ho ⊢
    rw [h1] at ho ⊢
    exact ⟨a, c, rfl, (Out.bs ho h2).2.1, hb⟩
  go_enter Tryd.func28, Tryd.ntmps28
  go_wp2_with (first
    | ((with_reducible show wpList _ _ _ (Oper.mk _ (Op.alloc _) _ _ _ _ :: _) _ _); refine wpList_alloc0 (by rfl) 29 (by rfl) (some 2) (by rfl) _ HAL.out ?_; intro w1 hR1 hb1 hs1)
    | ((with_reducible show wpList _ _ _ (Oper.mk _ (Op.alloc _) _ _ _ _ :: _) _ _); refine wpList_alloc0 (by rfl) 29 (by rfl) (some 5) (by rfl) _ HAL.out ?_; intro w2 hT2 hb2 hs2
       have hR2 := hR1.stays hb2
       have hb2' := below_then hb1 hb2
       rw [hs1] at hT2))
  go_loopw [6, 11] (fun c i wr => ∃ k : Nat, k ≤ 4 ∧ i = .int .i64 k ∧ c = .int .i64 ((scanC S k).2 : Int) ∧ ∃ aB cB, Blk 29 wr (w.heap.size + 1) ((scanC S k).1.vs aB cB) ∧ (Bs wr aB cB (scanC S k).1.m ∧ ∀ x, aB = some x → w.heap.size + 2 ≤ x.block) ∧ Blk 29 wr w.heap.size zs ∧ Below w.heap.size w wr) (fun _ i _ => 4 - (intOf i).toNat)
  case atStart => exact ⟨0, by omega, rfl, rfl, none, 0, by rw [HZS.out] at hT2; exact hT2, ⟨Bs.empty _, fun x hx => by cases hx⟩, hR2, hb2'⟩
  case round =>
    rename_i hrel
    obtain ⟨k, hk, rfl, rfl, aB, cB, hTr, ⟨hMr, hMne⟩, hRr, hbr⟩ := hrel
    have hBok := scanC_ok hok k hk
    have hcle := scanC_le S k
    obtain ⟨C, hC⟩ : ∃ C, C = (scanC S k).2 := ⟨_, rfl⟩
    obtain ⟨B, hB⟩ : ∃ B, B = (scanC S k).1 := ⟨_, rfl⟩
    have HS : Hid (scanC S k = (B, C)) := by show _ = _; rw [hB, hC]
    rw [← hC] at hcle ⊢
    rw [← hB] at hTr hMr hBok
    clear hC hB hT2 hR2
    by_cases hlt : k < 4
    · have hd4 : decide ((k : Int) < 4) = true := by simp; omega
      obtain ⟨X, hX⟩ : ∃ X, X = readW S.laid S.ws k := ⟨_, rfl⟩
      have hrd := hread _ k hlt hbr
      obtain ⟨hX3, hXr⟩ := readW_ok hok (show k < n by have := hok.lo; omega)
      rw [← hX] at hrd hX3 hXr
      have hDok := decL_ok hXr
      obtain ⟨D, hD⟩ : ∃ D, D = (decL X).1 := ⟨_, rfl⟩
      obtain ⟨E, hE⟩ : ∃ E, E = (decL X).2 := ⟨_, rfl⟩
      have HD : Hid (D = (decL X).1) := hD
      have HEE : Hid (E = (decL X).2) := hE
      have hnx : scanC S (k + 1) = stepC k X (B, C) := by rw [hX]; show stepC k _ (scanC S k) = _; rw [HS.out]
      unfold stepC at hnx
      rw [← hD, ← hE] at hnx
      have hDok' : D.ok := by rw [hD]; exact hDok
      simp only at hnx
      have HNX : Hid (scanC S (k + 1) = if ¬ E = 0 then (B, C) else if plcd D.t k = false then (B, C) else if C = 0 then (D, 1) else if B.t < D.t then (D, 1) else if D.t = B.t then (B, C + 1) else (B, C)) := hnx
      clear hX hD hE hnx hread HS
      by_cases hE0 : E = 0
      · have heE : ((E : Int) != 0) = false := by rw [hE0]; rfl
        have HE0 : Hid (E = 0) := hE0
        clear hE0
        cases hpl : plcd D.t k
        · have hnext : scanC S (k + 1) = (B, C) := by rw [HNX.out, if_neg (fun h => h HE0.out), if_pos hpl]
          go_wp2_with (first
                  | (go_at_call 32; go_must (refine hrd.mono ?_); rintro e w3 ⟨a3, c3, rfl, hB3, hb3⟩
                     have hR3 := hRr.stays hb3
                     have hT3 := hTr.stays hb3
                     have hM3 := hMr.stays hb3
                     have hdc := ldecode_run a3 c3 256 X w3 hX3.symm hB3 (hV.stays (below_then hbr hb3)))
                  | (go_at_call 13; go_must (refine hdc.mono ?_); rintro e w4 ⟨a4, c4, rfl, hO4, hb4⟩
                     have hR4 := hR3.stays hb4
                     have hT4 := hT3.stays hb4
                     have hM4 := hM3.stays hb4
                     have hD4 := (Out.bs hO4 hDok.m).2.1
                     have hDne : ∀ x, a4 = some x → w.heap.size + 2 ≤ x.block := fun x hx => by have := (Out.bs hO4 hDok.m).2.2 x hx; have := hTr.lt; have := hb3.size; omega
                     rw [← HD.out] at hD4
                     rw [← HD.out, ← HEE.out])
                  | ((with_reducible show wpList _ _ _ (Oper.mk _ (Op.alloc _) _ _ _ _ :: _) _ _); refine wpList_alloc0 (by rfl) 29 (by rfl) (some 10) (by rfl) _ HAL.out ?_; intro w5 hN5 hb5 hs5
                     have hR5 := hR4.stays hb5
                     have hT5 := hT4.stays hb5)
                  | ((with_reducible show wpList _ _ _ (Oper.mk _ (Op.store _ _ _) _ _ _ _ :: _) _ _); refine wpList_store_blk (by rfl) (.tmp 10) (.tmp 27) 29 (by rfl) _ 0 37 (by rfl) (D.vs a4 c4) (by rfl) size_label hN5 (Lb.vs_len hDok'.p a4 c4) (by omega) (Lb.vs_one _ _ _) _ (whole_store hzl) ?_
                     intro w6 hN6 hbut6 hs6
                     have hR6 := hR5.but hbut6 (by have := hR4.lt; omega)
                     have hT6 := hT5.but hbut6 (by have := hT4.lt; omega)
                     have hb6 : Below w.heap.size w w6 := by
                       have h1 := below_then (below_then (below_then hbr hb3) hb4) hb5
                       exact h1.trans (hbut6.below (B := w.heap.size) (by have := (below_then (below_then hbr hb3) hb4).size; omega) h1.size)
                     have hM6 := (hM4.stays hb5).but hbut6 (fun h0 b hb => by have := hM4.lt h0 hb; omega)
                     have hD6 := (hD4.stays hb5).but hbut6 (fun h0 b hb => by have := hD4.lt h0 hb; omega)
                     have cn6 : w6.cell? ⟨w4.heap.size, 0, none⟩ = some (.int .u32 (D.t : Int)) := hN6.cell 0
                     have ct6 : w6.cell? ⟨w.heap.size + 1, 0, none⟩ = some (.int .u32 (B.t : Int)) := hT6.cell 0)
                  | ((with_reducible show wpList _ _ _ (Oper.mk _ (Op.load _ _) _ _ _ _ :: _) _ _); refine wpList_load_guard7 (.tmp 10) 29 (by rfl) (by kernel_rfl) _ 0 37 (by rfl) agg_label size_label hN6 _ (whole_load (Lb.vs_len hDok'.p a4 c4)) (Lb.vs_len hDok'.p a4 c4) ?_
                     have hpc := placed_run D hDok' a4 c4 k hlt w6
                     rw [hpl] at hpc)
                  | (go_at_call 59; go_must (refine hpc.mono ?_); rintro e w7 ⟨rfl, hb7⟩
                     have hR7 := hR6.stays hb7
                     have hT7 := hT6.stays hb7
                     have hN7 := hN6.stays hb7
                     have hM7 := hM6.stays hb7
                     have hD7 := hD6.stays hb7
                     have hb7' := below_then hb6 hb7
                     have cn7 : w7.cell? ⟨w4.heap.size, 0, none⟩ = some (.int .u32 (D.t : Int)) := hN7.cell 0
                     have ct7 : w7.cell? ⟨w.heap.size + 1, 0, none⟩ = some (.int .u32 (B.t : Int)) := hT7.cell 0))
          exact ⟨⟨k + 1, by omega, by go_num, by rw [hnext], aB, cB, by rw [hnext]; exact hT7, by rw [hnext]; exact ⟨hM7, hMne⟩, hR7, hb7'⟩, by simp [intOf]; omega⟩
        · by_cases hC0 : C = 0
          · have hnext : scanC S (k + 1) = (D, 1) := by rw [HNX.out, if_neg (fun h => h HE0.out), if_neg (by rw [hpl]; decide), if_pos hC0]
            have hcC : ((C : Int) == 0) = true := by rw [hC0]; rfl
            clear hC0
            go_wp2_with (first
                    | (go_at_call 32; go_must (refine hrd.mono ?_); rintro e w3 ⟨a3, c3, rfl, hB3, hb3⟩
                       have hR3 := hRr.stays hb3
                       have hT3 := hTr.stays hb3
                       have hM3 := hMr.stays hb3
                       have hdc := ldecode_run a3 c3 256 X w3 hX3.symm hB3 (hV.stays (below_then hbr hb3)))
                    | (go_at_call 13; go_must (refine hdc.mono ?_); rintro e w4 ⟨a4, c4, rfl, hO4, hb4⟩
                       have hR4 := hR3.stays hb4
                       have hT4 := hT3.stays hb4
                       have hM4 := hM3.stays hb4
                       have hD4 := (Out.bs hO4 hDok.m).2.1
                       have hDne : ∀ x, a4 = some x → w.heap.size + 2 ≤ x.block := fun x hx => by have := (Out.bs hO4 hDok.m).2.2 x hx; have := hTr.lt; have := hb3.size; omega
                       rw [← HD.out] at hD4
                       rw [← HD.out, ← HEE.out])
                    | ((with_reducible show wpList _ _ _ (Oper.mk _ (Op.alloc _) _ _ _ _ :: _) _ _); refine wpList_alloc0 (by rfl) 29 (by rfl) (some 10) (by rfl) _ HAL.out ?_; intro w5 hN5 hb5 hs5
                       have hR5 := hR4.stays hb5
                       have hT5 := hT4.stays hb5)
                    | ((with_reducible show wpList _ _ _ (Oper.mk _ (Op.store _ _ _) _ _ _ _ :: _) _ _); refine wpList_store_blk (by rfl) (.tmp 10) (.tmp 27) 29 (by rfl) _ 0 37 (by rfl) (D.vs a4 c4) (by rfl) size_label hN5 (Lb.vs_len hDok'.p a4 c4) (by omega) (Lb.vs_one _ _ _) _ (whole_store hzl) ?_
                       intro w6 hN6 hbut6 hs6
                       have hR6 := hR5.but hbut6 (by have := hR4.lt; omega)
                       have hT6 := hT5.but hbut6 (by have := hT4.lt; omega)
                       have hb6 : Below w.heap.size w w6 := by
                         have h1 := below_then (below_then (below_then hbr hb3) hb4) hb5
                         exact h1.trans (hbut6.below (B := w.heap.size) (by have := (below_then (below_then hbr hb3) hb4).size; omega) h1.size)
                       have hM6 := (hM4.stays hb5).but hbut6 (fun h0 b hb => by have := hM4.lt h0 hb; omega)
                       have hD6 := (hD4.stays hb5).but hbut6 (fun h0 b hb => by have := hD4.lt h0 hb; omega)
                       have cn6 : w6.cell? ⟨w4.heap.size, 0, none⟩ = some (.int .u32 (D.t : Int)) := hN6.cell 0
                       have ct6 : w6.cell? ⟨w.heap.size + 1, 0, none⟩ = some (.int .u32 (B.t : Int)) := hT6.cell 0)
                    | ((with_reducible show wpList _ _ _ (Oper.mk _ (Op.load _ _) _ _ _ _ :: _) _ _); refine wpList_load_guard7 (.tmp 10) 29 (by rfl) (by kernel_rfl) _ 0 37 (by rfl) agg_label size_label hN6 _ (whole_load (Lb.vs_len hDok'.p a4 c4)) (Lb.vs_len hDok'.p a4 c4) ?_
                       have hpc := placed_run D hDok' a4 c4 k hlt w6
                       rw [hpl] at hpc)
                    | (go_at_call 59; go_must (refine hpc.mono ?_); rintro e w7 ⟨rfl, hb7⟩
                       have hR7 := hR6.stays hb7
                       have hT7 := hT6.stays hb7
                       have hN7 := hN6.stays hb7
                       have hM7 := hM6.stays hb7
                       have hD7 := hD6.stays hb7
                       have hb7' := below_then hb6 hb7
                       have cn7 : w7.cell? ⟨w4.heap.size, 0, none⟩ = some (.int .u32 (D.t : Int)) := hN7.cell 0
                       have ct7 : w7.cell? ⟨w.heap.size + 1, 0, none⟩ = some (.int .u32 (B.t : Int)) := hT7.cell 0)
                    | ((with_reducible show wpList _ _ _ (Oper.mk _ (Op.load _ _) _ _ _ _ :: _) _ _); refine wpList_load_blk (by rfl) (.tmp 10) 29 (by rfl) _ 0 37 (by rfl) agg_label size_label hN7 _ (whole_load (Lb.vs_len hDok'.p a4 c4)) (Lb.vs_len hDok'.p a4 c4) ?_)
                    | ((with_reducible show wpList _ _ _ (Oper.mk _ (Op.store _ _ _) _ _ _ _ :: _) _ _); refine wpList_store_blk (by rfl) (.tmp 5) (.tmp 46) 29 (by rfl) _ 0 37 (by rfl) (D.vs a4 c4) (by rfl) size_label hT7 (Lb.vs_len hDok'.p a4 c4) (by rw [Lb.vs_len hBok.p]; omega) (Lb.vs_one _ _ _) _ (whole_store (Lb.vs_len hBok.p aB cB)) ?_
                       intro w8 hT8 hbut8 hs8
                       have hN8 := hN7.but hbut8 (by have := hT4.lt; omega)
                       have hR8 := hR7.but hbut8 (by omega)
                       have hD8 := hD7.but hbut8 (fun h0 b hb => by have := hDne b hb; omega)
                       have hb8 := hb7'.trans (hbut8.below (B := w.heap.size) (by omega) hb7'.size)
                       have cn8 : w8.cell? ⟨w4.heap.size, 0, none⟩ = some (.int .u32 (D.t : Int)) := hN8.cell 0
                       have ct8 : w8.cell? ⟨w.heap.size + 1, 0, none⟩ = some (.int .u32 (D.t : Int)) := hT8.cell 0))
            exact ⟨⟨k + 1, by omega, by go_num, by rw [hnext]; rfl, a4, c4, by rw [hnext]; exact hT8, by rw [hnext]; exact ⟨hD8, hDne⟩, hR8, hb8⟩, by simp [intOf]; omega⟩
          · have hcC : ((C : Int) == 0) = false := by simp; omega
            by_cases hlt2 : B.t < D.t
            · have hnext : scanC S (k + 1) = (D, 1) := by rw [HNX.out, if_neg (fun h => h HE0.out), if_neg (by rw [hpl]; decide), if_neg hC0, if_pos hlt2]
              clear hC0
              go_wp2_with (first
                      | (go_at_call 32; go_must (refine hrd.mono ?_); rintro e w3 ⟨a3, c3, rfl, hB3, hb3⟩
                         have hR3 := hRr.stays hb3
                         have hT3 := hTr.stays hb3
                         have hM3 := hMr.stays hb3
                         have hdc := ldecode_run a3 c3 256 X w3 hX3.symm hB3 (hV.stays (below_then hbr hb3)))
                      | (go_at_call 13; go_must (refine hdc.mono ?_); rintro e w4 ⟨a4, c4, rfl, hO4, hb4⟩
                         have hR4 := hR3.stays hb4
                         have hT4 := hT3.stays hb4
                         have hM4 := hM3.stays hb4
                         have hD4 := (Out.bs hO4 hDok.m).2.1
                         have hDne : ∀ x, a4 = some x → w.heap.size + 2 ≤ x.block := fun x hx => by have := (Out.bs hO4 hDok.m).2.2 x hx; have := hTr.lt; have := hb3.size; omega
                         rw [← HD.out] at hD4
                         rw [← HD.out, ← HEE.out])
                      | ((with_reducible show wpList _ _ _ (Oper.mk _ (Op.alloc _) _ _ _ _ :: _) _ _); refine wpList_alloc0 (by rfl) 29 (by rfl) (some 10) (by rfl) _ HAL.out ?_; intro w5 hN5 hb5 hs5
                         have hR5 := hR4.stays hb5
                         have hT5 := hT4.stays hb5)
                      | ((with_reducible show wpList _ _ _ (Oper.mk _ (Op.store _ _ _) _ _ _ _ :: _) _ _); refine wpList_store_blk (by rfl) (.tmp 10) (.tmp 27) 29 (by rfl) _ 0 37 (by rfl) (D.vs a4 c4) (by rfl) size_label hN5 (Lb.vs_len hDok'.p a4 c4) (by omega) (Lb.vs_one _ _ _) _ (whole_store hzl) ?_
                         intro w6 hN6 hbut6 hs6
                         have hR6 := hR5.but hbut6 (by have := hR4.lt; omega)
                         have hT6 := hT5.but hbut6 (by have := hT4.lt; omega)
                         have hb6 : Below w.heap.size w w6 := by
                           have h1 := below_then (below_then (below_then hbr hb3) hb4) hb5
                           exact h1.trans (hbut6.below (B := w.heap.size) (by have := (below_then (below_then hbr hb3) hb4).size; omega) h1.size)
                         have hM6 := (hM4.stays hb5).but hbut6 (fun h0 b hb => by have := hM4.lt h0 hb; omega)
                         have hD6 := (hD4.stays hb5).but hbut6 (fun h0 b hb => by have := hD4.lt h0 hb; omega)
                         have cn6 : w6.cell? ⟨w4.heap.size, 0, none⟩ = some (.int .u32 (D.t : Int)) := hN6.cell 0
                         have ct6 : w6.cell? ⟨w.heap.size + 1, 0, none⟩ = some (.int .u32 (B.t : Int)) := hT6.cell 0)
                      | ((with_reducible show wpList _ _ _ (Oper.mk _ (Op.load _ _) _ _ _ _ :: _) _ _); refine wpList_load_guard7 (.tmp 10) 29 (by rfl) (by kernel_rfl) _ 0 37 (by rfl) agg_label size_label hN6 _ (whole_load (Lb.vs_len hDok'.p a4 c4)) (Lb.vs_len hDok'.p a4 c4) ?_
                         have hpc := placed_run D hDok' a4 c4 k hlt w6
                         rw [hpl] at hpc)
                      | (go_at_call 59; go_must (refine hpc.mono ?_); rintro e w7 ⟨rfl, hb7⟩
                         have hR7 := hR6.stays hb7
                         have hT7 := hT6.stays hb7
                         have hN7 := hN6.stays hb7
                         have hM7 := hM6.stays hb7
                         have hD7 := hD6.stays hb7
                         have hb7' := below_then hb6 hb7
                         have cn7 : w7.cell? ⟨w4.heap.size, 0, none⟩ = some (.int .u32 (D.t : Int)) := hN7.cell 0
                         have ct7 : w7.cell? ⟨w.heap.size + 1, 0, none⟩ = some (.int .u32 (B.t : Int)) := hT7.cell 0)
                      | ((with_reducible show wpList _ _ _ (Oper.mk _ (Op.load _ _) _ _ _ _ :: _) _ _); refine wpList_load_blk (by rfl) (.tmp 10) 29 (by rfl) _ 0 37 (by rfl) agg_label size_label hN7 _ (whole_load (Lb.vs_len hDok'.p a4 c4)) (Lb.vs_len hDok'.p a4 c4) ?_)
                      | ((with_reducible show wpList _ _ _ (Oper.mk _ (Op.store _ _ _) _ _ _ _ :: _) _ _); refine wpList_store_blk (by rfl) (.tmp 5) (.tmp 46) 29 (by rfl) _ 0 37 (by rfl) (D.vs a4 c4) (by rfl) size_label hT7 (Lb.vs_len hDok'.p a4 c4) (by rw [Lb.vs_len hBok.p]; omega) (Lb.vs_one _ _ _) _ (whole_store (Lb.vs_len hBok.p aB cB)) ?_
                         intro w8 hT8 hbut8 hs8
                         have hN8 := hN7.but hbut8 (by have := hT4.lt; omega)
                         have hR8 := hR7.but hbut8 (by omega)
                         have hD8 := hD7.but hbut8 (fun h0 b hb => by have := hDne b hb; omega)
                         have hb8 := hb7'.trans (hbut8.below (B := w.heap.size) (by omega) hb7'.size)
                         have cn8 : w8.cell? ⟨w4.heap.size, 0, none⟩ = some (.int .u32 (D.t : Int)) := hN8.cell 0
                         have ct8 : w8.cell? ⟨w.heap.size + 1, 0, none⟩ = some (.int .u32 (D.t : Int)) := hT8.cell 0))
              exact ⟨⟨k + 1, by omega, by go_num, by rw [hnext]; rfl, a4, c4, by rw [hnext]; exact hT8, by rw [hnext]; exact ⟨hD8, hDne⟩, hR8, hb8⟩, by simp [intOf]; omega⟩
            · by_cases heq2 : D.t = B.t
              · have hnext : scanC S (k + 1) = (B, C + 1) := by rw [HNX.out, if_neg (fun h => h HE0.out), if_neg (by rw [hpl]; decide), if_neg hC0, if_neg hlt2, if_pos heq2]
                have he2 : ((D.t : Int) == (B.t : Int)) = true := by rw [heq2]; simp
                clear hC0 heq2
                go_wp2_with (first
                        | (go_at_call 32; go_must (refine hrd.mono ?_); rintro e w3 ⟨a3, c3, rfl, hB3, hb3⟩
                           have hR3 := hRr.stays hb3
                           have hT3 := hTr.stays hb3
                           have hM3 := hMr.stays hb3
                           have hdc := ldecode_run a3 c3 256 X w3 hX3.symm hB3 (hV.stays (below_then hbr hb3)))
                        | (go_at_call 13; go_must (refine hdc.mono ?_); rintro e w4 ⟨a4, c4, rfl, hO4, hb4⟩
                           have hR4 := hR3.stays hb4
                           have hT4 := hT3.stays hb4
                           have hM4 := hM3.stays hb4
                           have hD4 := (Out.bs hO4 hDok.m).2.1
                           have hDne : ∀ x, a4 = some x → w.heap.size + 2 ≤ x.block := fun x hx => by have := (Out.bs hO4 hDok.m).2.2 x hx; have := hTr.lt; have := hb3.size; omega
                           rw [← HD.out] at hD4
                           rw [← HD.out, ← HEE.out])
                        | ((with_reducible show wpList _ _ _ (Oper.mk _ (Op.alloc _) _ _ _ _ :: _) _ _); refine wpList_alloc0 (by rfl) 29 (by rfl) (some 10) (by rfl) _ HAL.out ?_; intro w5 hN5 hb5 hs5
                           have hR5 := hR4.stays hb5
                           have hT5 := hT4.stays hb5)
                        | ((with_reducible show wpList _ _ _ (Oper.mk _ (Op.store _ _ _) _ _ _ _ :: _) _ _); refine wpList_store_blk (by rfl) (.tmp 10) (.tmp 27) 29 (by rfl) _ 0 37 (by rfl) (D.vs a4 c4) (by rfl) size_label hN5 (Lb.vs_len hDok'.p a4 c4) (by omega) (Lb.vs_one _ _ _) _ (whole_store hzl) ?_
                           intro w6 hN6 hbut6 hs6
                           have hR6 := hR5.but hbut6 (by have := hR4.lt; omega)
                           have hT6 := hT5.but hbut6 (by have := hT4.lt; omega)
                           have hb6 : Below w.heap.size w w6 := by
                             have h1 := below_then (below_then (below_then hbr hb3) hb4) hb5
                             exact h1.trans (hbut6.below (B := w.heap.size) (by have := (below_then (below_then hbr hb3) hb4).size; omega) h1.size)
                           have hM6 := (hM4.stays hb5).but hbut6 (fun h0 b hb => by have := hM4.lt h0 hb; omega)
                           have hD6 := (hD4.stays hb5).but hbut6 (fun h0 b hb => by have := hD4.lt h0 hb; omega)
                           have cn6 : w6.cell? ⟨w4.heap.size, 0, none⟩ = some (.int .u32 (D.t : Int)) := hN6.cell 0
                           have ct6 : w6.cell? ⟨w.heap.size + 1, 0, none⟩ = some (.int .u32 (B.t : Int)) := hT6.cell 0)
                        | ((with_reducible show wpList _ _ _ (Oper.mk _ (Op.load _ _) _ _ _ _ :: _) _ _); refine wpList_load_guard7 (.tmp 10) 29 (by rfl) (by kernel_rfl) _ 0 37 (by rfl) agg_label size_label hN6 _ (whole_load (Lb.vs_len hDok'.p a4 c4)) (Lb.vs_len hDok'.p a4 c4) ?_
                           have hpc := placed_run D hDok' a4 c4 k hlt w6
                           rw [hpl] at hpc)
                        | (go_at_call 59; go_must (refine hpc.mono ?_); rintro e w7 ⟨rfl, hb7⟩
                           have hR7 := hR6.stays hb7
                           have hT7 := hT6.stays hb7
                           have hN7 := hN6.stays hb7
                           have hM7 := hM6.stays hb7
                           have hD7 := hD6.stays hb7
                           have hb7' := below_then hb6 hb7
                           have cn7 : w7.cell? ⟨w4.heap.size, 0, none⟩ = some (.int .u32 (D.t : Int)) := hN7.cell 0
                           have ct7 : w7.cell? ⟨w.heap.size + 1, 0, none⟩ = some (.int .u32 (B.t : Int)) := hT7.cell 0))
                exact ⟨⟨k + 1, by omega, by go_num, by rw [hnext]; go_num, aB, cB, by rw [hnext]; exact hT7, by rw [hnext]; exact ⟨hM7, hMne⟩, hR7, hb7'⟩, by simp [intOf]; omega⟩
              · have hnext : scanC S (k + 1) = (B, C) := by rw [HNX.out, if_neg (fun h => h HE0.out), if_neg (by rw [hpl]; decide), if_neg hC0, if_neg hlt2, if_neg heq2]
                have he2 : ((D.t : Int) == (B.t : Int)) = false := by simp; omega
                clear hC0 heq2
                go_wp2_with (first
                        | (go_at_call 32; go_must (refine hrd.mono ?_); rintro e w3 ⟨a3, c3, rfl, hB3, hb3⟩
                           have hR3 := hRr.stays hb3
                           have hT3 := hTr.stays hb3
                           have hM3 := hMr.stays hb3
                           have hdc := ldecode_run a3 c3 256 X w3 hX3.symm hB3 (hV.stays (below_then hbr hb3)))
                        | (go_at_call 13; go_must (refine hdc.mono ?_); rintro e w4 ⟨a4, c4, rfl, hO4, hb4⟩
                           have hR4 := hR3.stays hb4
                           have hT4 := hT3.stays hb4
                           have hM4 := hM3.stays hb4
                           have hD4 := (Out.bs hO4 hDok.m).2.1
                           have hDne : ∀ x, a4 = some x → w.heap.size + 2 ≤ x.block := fun x hx => by have := (Out.bs hO4 hDok.m).2.2 x hx; have := hTr.lt; have := hb3.size; omega
                           rw [← HD.out] at hD4
                           rw [← HD.out, ← HEE.out])
                        | ((with_reducible show wpList _ _ _ (Oper.mk _ (Op.alloc _) _ _ _ _ :: _) _ _); refine wpList_alloc0 (by rfl) 29 (by rfl) (some 10) (by rfl) _ HAL.out ?_; intro w5 hN5 hb5 hs5
                           have hR5 := hR4.stays hb5
                           have hT5 := hT4.stays hb5)
                        | ((with_reducible show wpList _ _ _ (Oper.mk _ (Op.store _ _ _) _ _ _ _ :: _) _ _); refine wpList_store_blk (by rfl) (.tmp 10) (.tmp 27) 29 (by rfl) _ 0 37 (by rfl) (D.vs a4 c4) (by rfl) size_label hN5 (Lb.vs_len hDok'.p a4 c4) (by omega) (Lb.vs_one _ _ _) _ (whole_store hzl) ?_
                           intro w6 hN6 hbut6 hs6
                           have hR6 := hR5.but hbut6 (by have := hR4.lt; omega)
                           have hT6 := hT5.but hbut6 (by have := hT4.lt; omega)
                           have hb6 : Below w.heap.size w w6 := by
                             have h1 := below_then (below_then (below_then hbr hb3) hb4) hb5
                             exact h1.trans (hbut6.below (B := w.heap.size) (by have := (below_then (below_then hbr hb3) hb4).size; omega) h1.size)
                           have hM6 := (hM4.stays hb5).but hbut6 (fun h0 b hb => by have := hM4.lt h0 hb; omega)
                           have hD6 := (hD4.stays hb5).but hbut6 (fun h0 b hb => by have := hD4.lt h0 hb; omega)
                           have cn6 : w6.cell? ⟨w4.heap.size, 0, none⟩ = some (.int .u32 (D.t : Int)) := hN6.cell 0
                           have ct6 : w6.cell? ⟨w.heap.size + 1, 0, none⟩ = some (.int .u32 (B.t : Int)) := hT6.cell 0)
                        | ((with_reducible show wpList _ _ _ (Oper.mk _ (Op.load _ _) _ _ _ _ :: _) _ _); refine wpList_load_guard7 (.tmp 10) 29 (by rfl) (by kernel_rfl) _ 0 37 (by rfl) agg_label size_label hN6 _ (whole_load (Lb.vs_len hDok'.p a4 c4)) (Lb.vs_len hDok'.p a4 c4) ?_
                           have hpc := placed_run D hDok' a4 c4 k hlt w6
                           rw [hpl] at hpc)
                        | (go_at_call 59; go_must (refine hpc.mono ?_); rintro e w7 ⟨rfl, hb7⟩
                           have hR7 := hR6.stays hb7
                           have hT7 := hT6.stays hb7
                           have hN7 := hN6.stays hb7
                           have hM7 := hM6.stays hb7
                           have hD7 := hD6.stays hb7
                           have hb7' := below_then hb6 hb7
                           have cn7 : w7.cell? ⟨w4.heap.size, 0, none⟩ = some (.int .u32 (D.t : Int)) := hN7.cell 0
                           have ct7 : w7.cell? ⟨w.heap.size + 1, 0, none⟩ = some (.int .u32 (B.t : Int)) := hT7.cell 0))
                exact ⟨⟨k + 1, by omega, by go_num, by rw [hnext], aB, cB, by rw [hnext]; exact hT7, by rw [hnext]; exact ⟨hM7, hMne⟩, hR7, hb7'⟩, by simp [intOf]; omega⟩
      · have hnext : scanC S (k + 1) = (B, C) := by rw [HNX.out, if_pos hE0]
        have heE : ((E : Int) != 0) = true := by simp; omega
        clear hE0
        go_wp2_with (first
                | (go_at_call 32; go_must (refine hrd.mono ?_); rintro e w3 ⟨a3, c3, rfl, hB3, hb3⟩
                   have hR3 := hRr.stays hb3
                   have hT3 := hTr.stays hb3
                   have hM3 := hMr.stays hb3
                   have hdc := ldecode_run a3 c3 256 X w3 hX3.symm hB3 (hV.stays (below_then hbr hb3)))
                | (go_at_call 13; go_must (refine hdc.mono ?_); rintro e w4 ⟨a4, c4, rfl, hO4, hb4⟩
                   have hR4 := hR3.stays hb4
                   have hT4 := hT3.stays hb4
                   have hM4 := hM3.stays hb4
                   have hD4 := (Out.bs hO4 hDok.m).2.1
                   have hDne : ∀ x, a4 = some x → w.heap.size + 2 ≤ x.block := fun x hx => by have := (Out.bs hO4 hDok.m).2.2 x hx; have := hTr.lt; have := hb3.size; omega
                   rw [← HD.out] at hD4
                   rw [← HD.out, ← HEE.out])
                | ((with_reducible show wpList _ _ _ (Oper.mk _ (Op.alloc _) _ _ _ _ :: _) _ _); refine wpList_alloc0 (by rfl) 29 (by rfl) (some 10) (by rfl) _ HAL.out ?_; intro w5 hN5 hb5 hs5
                   have hR5 := hR4.stays hb5
                   have hT5 := hT4.stays hb5)
                | ((with_reducible show wpList _ _ _ (Oper.mk _ (Op.store _ _ _) _ _ _ _ :: _) _ _); refine wpList_store_blk (by rfl) (.tmp 10) (.tmp 27) 29 (by rfl) _ 0 37 (by rfl) (D.vs a4 c4) (by rfl) size_label hN5 (Lb.vs_len hDok'.p a4 c4) (by omega) (Lb.vs_one _ _ _) _ (whole_store hzl) ?_
                   intro w6 hN6 hbut6 hs6
                   have hR6 := hR5.but hbut6 (by have := hR4.lt; omega)
                   have hT6 := hT5.but hbut6 (by have := hT4.lt; omega)
                   have hb6 : Below w.heap.size w w6 := by
                     have h1 := below_then (below_then (below_then hbr hb3) hb4) hb5
                     exact h1.trans (hbut6.below (B := w.heap.size) (by have := (below_then (below_then hbr hb3) hb4).size; omega) h1.size)
                   have hM6 := (hM4.stays hb5).but hbut6 (fun h0 b hb => by have := hM4.lt h0 hb; omega)
                   have hD6 := (hD4.stays hb5).but hbut6 (fun h0 b hb => by have := hD4.lt h0 hb; omega)
                   have cn6 : w6.cell? ⟨w4.heap.size, 0, none⟩ = some (.int .u32 (D.t : Int)) := hN6.cell 0
                   have ct6 : w6.cell? ⟨w.heap.size + 1, 0, none⟩ = some (.int .u32 (B.t : Int)) := hT6.cell 0))
        exact ⟨⟨k + 1, by omega, by go_num, by rw [hnext], aB, cB, by rw [hnext]; exact hT6, by rw [hnext]; exact ⟨hM6, hMne⟩, hR6, hb6⟩, by simp [intOf]; omega⟩
    · have hk4 : k = 4 := by omega
      subst hk4
      have hd4 : decide (((4 : Nat) : Int) < 4) = false := rfl
      by_cases hC0 : C = 0
      · have hch : chooseL S = ((Lb.zero, 0), 15) := by unfold chooseL; rw [hoff, if_neg (by decide), HS.out, if_pos hC0]
        have hcC : ((C : Int) == 0) = true := by rw [hC0]; rfl
        clear hC0
        go_wp2_with (first
          | ((with_reducible show wpList _ _ _ (Oper.mk _ (Op.build _ _) _ _ _ _ :: _) _ _); refine wpList_build0 (by rfl) 29 (by rfl) _ HBU.out ?_)
          | ((with_reducible show wpList _ _ _ (Oper.mk _ (Op.store _ _ _) _ _ _ _ :: _) _ _); refine wpList_store_blk (by rfl) (.tmp 2) (.tmp 57) 29 (by rfl) _ 0 37 (by rfl) zs (by rfl) size_label hRr hzl (by omega) hzo _ (whole_store hzl) ?_
             intro wZ hRZ hbutZ hsZ))
        refine bodyPost_ret_blk3 rfl rfl (by rfl) (by rfl) (by rfl) agg_label size_label hRZ hzl ?_
        rw [hch, HZS.out]
        exact ⟨none, 0, rfl, Bs.empty _, hbr.trans (hbutZ.below (Nat.le_refl _) hbr.size)⟩
      · have hch : chooseL S = ((B, C), 0) := by unfold chooseL; rw [hoff, if_neg (by decide), HS.out, if_neg hC0]
        have hcC : ((C : Int) == 0) = false := by simp; omega
        clear hC0
        go_wp2_with (first
          | ((with_reducible show wpList _ _ _ (Oper.mk _ (Op.load _ _) _ _ _ _ :: _) _ _); refine wpList_load_blk (by rfl) (.tmp 5) 29 (by rfl) _ 0 37 (by rfl) agg_label size_label hTr _ (whole_load (Lb.vs_len hBok.p aB cB)) (Lb.vs_len hBok.p aB cB) ?_)
          | ((with_reducible show wpList _ _ _ (Oper.mk _ (Op.store _ _ _) _ _ _ _ :: _) _ _); refine wpList_store_blk (by rfl) (.tmp 2) (.tmp 58) 29 (by rfl) _ 0 37 (by rfl) (B.vs aB cB) (by rfl) size_label hRr (Lb.vs_len hBok.p aB cB) (by omega) (Lb.vs_one _ _ _) _ (whole_store hzl) ?_
             intro wZ hRZ hbutZ hsZ))
        refine bodyPost_ret_blk3 rfl rfl (by rfl) (by rfl) (by rfl) agg_label size_label hRZ (Lb.vs_len hBok.p aB cB) ?_
        rw [hch]
        exact ⟨aB, cB, rfl, hMr.but hbutZ (fun h0 b hb => by have := hMne b hb; omega), hbr.trans (hbutZ.below (Nat.le_refl _) hbr.size)⟩

end

end Go.Proofs.YteocmmmnfbabaaaDoor
