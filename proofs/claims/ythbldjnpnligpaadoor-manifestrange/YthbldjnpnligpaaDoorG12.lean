/-
  Package space: Keep and New.
-/
import Derived.Test.YthbldjnpnligpaaDoorG11
namespace Go.Proofs.YthbldjnpnligpaaDoor
set_option linter.unusedSimpArgs false
set_option linter.unusedVariables false
set_option maxRecDepth 100000
open Go.RowKit

/-- Numbers behind a slice. -/
structure Us (w : World) (a : Option Addr) (ks : List Nat) : Prop where
  rng : ∀ k ∈ ks, k < 4294967296
  lay : ks = [] ∨ ∃ b off, a = some ⟨b, off, none⟩ ∧ ∀ i, i < ks.length → w.cell? ⟨b, off + i, none⟩ = some (.int .u32 ((ks.getD i 0 : Nat) : Int))

theorem Us.none (w : World) (a : Option Addr) : Us w a [] := ⟨by simp, .inl rfl⟩
theorem Us.stays {w w' : World} {a : Option Addr} {ks : List Nat} (h : Us w a ks) (hb : Below w.heap.size w w') : Us w' a ks := by
  refine ⟨h.rng, ?_⟩
  rcases h.lay with h0 | ⟨b, off, rfl, hc⟩
  · exact .inl h0
  · refine .inr ⟨b, off, rfl, fun i hi => ?_⟩
    rw [hb.cell (World.block_lt_of_cell? w _ (hc i hi))]
    exact hc i hi
theorem Mp.not_u32 {w : World} {g : Nat} {l : List Bool} (h : Mp w g l) (j : Nat) (x : Int) : ¬ w.cell? ⟨g, j, none⟩ = some (.int .u32 x) := by
  intro he
  rw [h.blk.cell j] at he
  have hm := List.mem_of_getElem? he
  simp only [mapV, wordsV, List.mem_cons, List.mem_map] at hm
  rcases hm with hm | ⟨k, _, hm⟩
  · simp at hm
  · simp at hm
theorem Us.but {w w' : World} {a : Option Addr} {ks : List Nat} {g : Nat} {l : List Bool} (h : Us w a ks) (hm : Mp w g l) (hb : But g w w') : Us w' a ks := by
  refine ⟨h.rng, ?_⟩
  rcases h.lay with h0 | ⟨b, off, rfl, hc⟩
  · exact .inl h0
  · refine .inr ⟨b, off, rfl, fun i hi => ?_⟩
    have hci := hc i hi
    have hne : b ≠ g := by
      rintro rfl
      exact hm.not_u32 _ _ hci
    rw [World.cell?_of_block (w := w) (hb.block b hne (World.block_lt_of_cell? w _ hci))]
    exact hci

theorem sizes32 : (Tryd.prog.info? 34).map (·.size) = some 1 := by kernel_rfl
theorem elem32 : Tryd.prog.elem 169 = 34 := by kernel_rfl
theorem build_words0 (w : World) : (Instr.build 134 #[]).run Tryd.prog w = .ok (.agg (List.replicate 8 (Value.int .u64 0)).toArray) w := by kernel_rfl

theorem wordsV_none (n : Nat) : wordsV (lab n 0) = List.replicate 8 (Value.int .u64 0) := by
  unfold wordsV
  simp only [W_none]
  rfl
theorem mapV_none (n : Nat) : mapV (lab n 0) = .int .i64 (n : Int) :: List.replicate 8 (Value.int .u64 0) := by
  rw [mapV, wordsV_none, lab_len]

section
variable {g : Nat} {l : List Bool}

theorem keep_run (a : Option Addr) (c : Nat) (ks : List Nat) (w : World) (h : Mp w g l) (hk : Us w a ks) (hlen : ks.length ≤ 1000000) :
    Calls Tryd.prog 100 #[.pointer (some ⟨g, 0, none⟩), .slice a ks.length c] w fun e w' => e = .returned (.tuple #[]) ∧ Mp w' g (keepL l.length ks) ∧ But g w w' := by
  have hbl := h.blk
  have hlo := h.lo
  have hhi := h.hi
  obtain ⟨n, hn⟩ : ∃ n, n = l.length := ⟨_, rfl⟩
  obtain ⟨m, hm⟩ : ∃ m, m = ks.length := ⟨_, rfl⟩
  have hvl : (mapV l).length = 9 := mapV_len l
  have HST : Hid (mapV (lab n 0) = (mapV l).take 1 ++ List.replicate 8 (Value.int .u64 0) ++ (mapV l).drop (1 + 8)) := by
    show _ = _
    rw [mapV_none, hn, List.drop_eq_nil_of_le (by omega), List.append_nil]
    simp [mapV]
  have HUS : Hid (∀ u, But g w u → Us u a ks) := fun u hu => hk.but h hu
  have HRN : Hid (∀ j, j < m → ks.getD j 0 < 4294967296) := fun j hj => hk.rng _ (by simp [List.getD, show j < ks.length by omega])
  obtain ⟨vs, hvs⟩ : ∃ vs, vs = mapV l := ⟨_, rfl⟩
  rw [← hvs] at hbl hvl HST
  have hone : ∀ v ∈ List.replicate 8 (Value.int .u64 0), v.oneCell' = true := by intro v hv; rw [List.eq_of_mem_replicate hv]; rfl
  have HM : Hid (m = ks.length) := hm
  rw [← hm] at hlen ⊢
  rw [← hn] at hlo hhi ⊢
  clear hm hn hvs h hk
  go_enter Tryd.func100, Tryd.ntmps100
  go_wp2_with (first
    | (refine wpList_build0 (by rfl) 134 (by rfl) _ build_words0 ?_)
    | (refine wpList_store_blk (by rfl) (.tmp 12) (.tmp 10) 134 (by rfl) g 1 8 (by rfl) (List.replicate 8 (Value.int .u64 0)) (by rfl) size_words hbl rfl (by omega) hone (mapV (lab n 0)) HST.out ?_; intro w1 hP1 hbut1 hs1; have hn1 := (Mp.mk hP1 (by rw [lab_len]; exact hlo) (by rw [lab_len]; exact hhi)).len; rw [lab_len] at hn1))
  have hP0 : Mp w1 g (lab n 0) := ⟨hP1, by rw [lab_len]; exact hlo, by rw [lab_len]; exact hhi⟩
  clear hn1 hP1 hbl HST hvl hone hs1
  go_loopw [4, 18] (fun _ i wr => ∃ k : Nat, k ≤ 4 ∧ i = .int .i64 k ∧ Mp wr g (lab n k) ∧ But g w wr) (fun _ i _ => 4 - (intOf i).toNat)
  case atStart => exact ⟨0, by omega, rfl, hP0, hbut1⟩
  case round =>
    rename_i hrel
    obtain ⟨k, hk, rfl, hP, hbr⟩ := hrel
    clear hP0 hbut1
    by_cases hlt : k < 4
    · have HU : Hid (Calls Tryd.prog 140 #[.pointer (some ⟨g, 0, none⟩), .int .i64 (k : Int)] wr fun e w' => e = .returned (.tuple #[]) ∧ Mp w' g (lab n (k + 1)) ∧ But g w w') := by
        have h1 := use_run k wr hP (by rw [lab_len]; omega)
        rw [lab_next n k (by omega)] at h1
        exact h1.mono fun e w' ⟨h2, h3, h4, _⟩ => ⟨h2, h3, hbr.trans h4⟩
      clear hP hbr
      go_wp2_with (go_at_call 140; refine HU.out.mono ?_; rintro e w2 ⟨rfl, hP2, hb2⟩)
      go_roundw
      case rel => exact ⟨k + 1, by omega, by go_num, hP2, hb2⟩
      case measure => simp [intOf]; omega
    · have hk4 : k = 4 := by omega
      subst hk4
      go_wp2
      go_loopw [6, 27] (fun _ i wr => ∃ j : Nat, j ≤ m ∧ i = .int .i64 j ∧ Mp wr g (addL (lab n 4) (ks.take j)) ∧ But g w wr) (fun _ i _ => m - (intOf i).toNat)
      case atStart => exact ⟨0, by omega, rfl, by simpa [addL] using hP, hbr⟩
      case round =>
        rename_i hrel
        obtain ⟨j, hj, rfl, hP', hbr'⟩ := hrel
        clear hP hbr
        by_cases hlt' : j < m
        · obtain ⟨b, off, ha, hc⟩ : ∃ b off, a = some ⟨b, off, none⟩ ∧ wr.cell? ⟨b, off + j, none⟩ = some (.int .u32 ((ks.getD j 0 : Nat) : Int)) := by
            have hm := HM.out
            rcases (HUS.out wr hbr').lay with h0 | ⟨b, off, h1, h2⟩
            · rw [h0] at hm; simp at hm; omega
            · exact ⟨b, off, h1, h2 j (by omega)⟩
          have hix : ∀ u : World, (Instr.indexAt 169 (.slice a m c) (.int .i64 j)).run Tryd.prog u = .ok (.pointer (some ⟨b, off + j, none⟩)) u := fun u => by
            rw [ha]; exact index_run 169 34 Tryd.underlying169 sizes32 elem32 b off m c .i64 j hlt' u
          obtain ⟨q, hq⟩ : ∃ q, q = ks.getD j 0 := ⟨_, rfl⟩
          have hql : q < 4294967296 := by rw [hq]; exact HRN.out j hlt'
          have hnx := addL_next (lab n 4) ks j (by have := HM.out; omega)
          rw [← hq, lab_len] at hnx
          rw [← hq] at hc
          have hl4 : (addL (lab n 4) (ks.take j)).length = n := by rw [addL_len, lab_len]
          clear hq ha
          have HHas := shas_run q hql wr hP'
          rw [hl4] at HHas
          have HH : Hid (Calls Tryd.prog 141 #[.pointer (some ⟨g, 0, none⟩), .int .u32 (q : Int)] wr fun e w' => e = .returned (.bool (decide (q < n))) ∧ w' = wr) := HHas
          clear HHas
          by_cases hin : q < n
          · have HU : Hid (Calls Tryd.prog 140 #[.pointer (some ⟨g, 0, none⟩), .int .i64 (q : Int)] wr fun e w' => e = .returned (.tuple #[]) ∧ Mp w' g (addL (lab n 4) (ks.take (j + 1))) ∧ But g w w') := by
              have h1 := use_run q wr hP' (by omega)
              rw [hnx, if_pos hin]
              exact h1.mono fun e w' ⟨h2, h3, h4, _⟩ => ⟨h2, h3, hbr'.trans h4⟩
            clear hP' hbr' hnx hl4
            go_wp2_with (first
              | (go_at_call 141; refine HH.out.mono ?_; rintro e w2 ⟨rfl, rfl⟩)
              | (go_at_call 140; refine HU.out.mono ?_; rintro e w2 ⟨rfl, hP2, hb2⟩))
            go_roundw
            case rel => exact ⟨_, .int .i64 ((j + 1 : Nat) : Int), _, _, _, _, _, _, _, _, _, _, _, ⟨j + 1, by omega, rfl, hP2, hb2⟩, by congr 1⟩
            case measure => simp [intOf]; omega
          · have hP2 : Mp wr g (addL (lab n 4) (ks.take (j + 1))) := by rw [hnx, if_neg hin]; exact hP'
            clear hP' hnx hl4
            go_wp2_with (first
              | (go_at_call 141; refine HH.out.mono ?_; rintro e w2 ⟨rfl, rfl⟩))
            go_roundw
            case rel => exact ⟨_, .int .i64 ((j + 1 : Nat) : Int), _, _, _, _, _, _, _, _, _, _, _, ⟨j + 1, by omega, rfl, hP2, hbr'⟩, by congr 1⟩
            case measure => simp [intOf]; omega
        · have hjm : j = m := by omega
          subst hjm
          have hfin : Mp wr g (keepL n ks) := by
            have := HM.out
            rw [List.take_of_length_le (by omega)] at hP'
            exact hP'
          clear hP'
          go_wp2
          go_end0
          exact ⟨rfl, hfin, hbr'⟩

theorem build_map (n : Int) (w : World) : (Instr.build 136 #[(0, .int .i64 n)]).run Tryd.prog w = .ok (.agg (Value.int .i64 n :: List.replicate 8 (Value.int .u64 0)).toArray) w := by kernel_rfl

theorem snew_run (n : Nat) (h1 : 16 ≤ n) (h2 : n ≤ 512) (w : World) : Calls Tryd.prog 46 #[.int .i64 (n : Int)] w fun e w' => e = .returned (.tuple #[.pointer (some ⟨w.heap.size, 0, none⟩), .int .i64 0]) ∧ Mp w' w.heap.size (lab n 4) ∧ Below w.heap.size w w' := by
  have hd : decide (16 ≤ (n : Int) ∧ (n : Int) ≤ 512) = true := decide_eq_true (by omega)
  have HM : Hid (∀ u, Calls Tryd.prog 99 #[.int .i64 (n : Int)] u fun e w' => e = .returned (.bool true) ∧ w' = u) := fun u => by rw [← hd]; exact smay_run n u
  clear hd
  obtain ⟨zs, hzs⟩ : ∃ zs, zs = Value.int .i64 (n : Int) :: List.replicate 8 (Value.int .u64 0) := ⟨_, rfl⟩
  have HB : Hid (∀ u, (Instr.build 136 #[(0, .int .i64 (n : Int))]).run Tryd.prog u = .ok (.agg zs.toArray) u) := fun u => by rw [hzs]; exact build_map n u
  have HZ : Hid (zs = mapV (lab n 0)) := by show _ = _; rw [hzs, mapV_none]
  clear hzs
  have HK : Hid (∀ u, Blk 136 u w.heap.size zs → Calls Tryd.prog 100 #[.pointer (some ⟨w.heap.size, 0, none⟩), .slice none 0 0] u fun e w' => e = .returned (.tuple #[]) ∧ Mp w' w.heap.size (lab n 4) ∧ But w.heap.size u w') := fun u hu => by
    have hm : Mp u w.heap.size (lab n 0) := ⟨by rw [← HZ.out]; exact hu, by rw [lab_len]; exact h1, by rw [lab_len]; exact h2⟩
    have := keep_run none 0 [] u hm (Us.none _ _) (by simp)
    rw [lab_len] at this
    exact this
  go_enter Tryd.func46, Tryd.ntmps46
  go_wp2_with (first
    | (go_at_call 99; refine (HM.out _).mono ?_; rintro e w' ⟨rfl, rfl⟩)
    | (refine wpList_build (by rfl) 136 [(0, .tmp 8)] (by rfl) [(0, .int .i64 (n : Int))] (by rfl) _ HB.out ?_)
    | (refine wpList_box0 (by rfl) 136 (.tmp 9) (by rfl) zs (by rfl) ?_; intro w1 hP1 hb1 hs1)
    | (go_at_call 100; refine (HK.out _ hP1).mono ?_; rintro e w2 ⟨rfl, hP2, hb2⟩))
  go_ret2
  exact ⟨rfl, hP2, hb1.trans (hb2.below (Nat.le_refl _) (by omega))⟩
end
end Go.Proofs.YthbldjnpnligpaaDoor

/-
  Package space: Give.
-/

namespace Go.Proofs.YthbldjnpnligpaaDoor
set_option linter.unusedSimpArgs false
set_option linter.unusedVariables false
set_option maxRecDepth 100000
open Go.RowKit

section
variable {g : Nat} {l : List Bool}

theorem give_out (i : Nat) (hi : i < 4294967296) (w : World) (h : Mp w g l) (ho : l.length ≤ i) : Calls Tryd.prog 105 #[.pointer (some ⟨g, 0, none⟩), .int .u32 (i : Int)] w fun e w' => e = .returned (.int .i64 1) ∧ Below w.heap.size w w' := by
  have hd : decide (i < l.length) = false := decide_eq_false (by omega)
  have h1 := shas_run i hi w h
  rw [hd] at h1
  have HH : Hid (Calls Tryd.prog 141 #[.pointer (some ⟨g, 0, none⟩), .int .u32 (i : Int)] w fun e w' => e = .returned (.bool false) ∧ w' = w) := h1
  clear h1 hd
  go_enter Tryd.func105, Tryd.ntmps105
  go_wp2_with (go_at_call 141; refine HH.out.mono ?_; rintro e w' ⟨rfl, rfl⟩)
  go_ret
  exact ⟨rfl, Below.refl _ _⟩

theorem give_lab (i : Nat) (hi : i < 4) (w : World) (h : Mp w g l) : Calls Tryd.prog 105 #[.pointer (some ⟨g, 0, none⟩), .int .u32 (i : Int)] w fun e w' => e = .returned (.int .i64 1) ∧ Below w.heap.size w w' := by
  have hlo := h.lo
  have hd : decide (i < l.length) = true := decide_eq_true (by omega)
  have hd2 : decide ((i : Int) < 4) = true := decide_eq_true (by omega)
  have h1 := shas_run i (by omega) w h
  rw [hd] at h1
  have HH : Hid (Calls Tryd.prog 141 #[.pointer (some ⟨g, 0, none⟩), .int .u32 (i : Int)] w fun e w' => e = .returned (.bool true) ∧ w' = w) := h1
  have h2 := isLabel_run (i : Int) w
  rw [hd2] at h2
  have HL : Hid (Calls Tryd.prog 145 #[.int .i64 (i : Int)] w fun e w' => e = .returned (.bool true) ∧ w' = w) := h2
  clear h1 hd h2 hd2
  go_enter Tryd.func105, Tryd.ntmps105
  go_wp2_with (first
    | (go_at_call 141; refine HH.out.mono ?_; rintro e w' ⟨rfl, rfl⟩)
    | (go_at_call 145; refine HL.out.mono ?_; rintro e w' ⟨rfl, rfl⟩))
  go_ret
  exact ⟨rfl, Below.refl _ _⟩

theorem give_free (i : Nat) (h4 : 4 ≤ i) (hi : i < l.length) (hu : l.getD i false = false) (w : World) (h : Mp w g l) : Calls Tryd.prog 105 #[.pointer (some ⟨g, 0, none⟩), .int .u32 (i : Int)] w fun e w' => e = .returned (.int .i64 1) ∧ Below w.heap.size w w' := by
  have hhi := h.hi
  have hd : decide (i < l.length) = true := decide_eq_true (by omega)
  have hd2 : decide ((i : Int) < 4) = false := decide_eq_false (by omega)
  have h1 := shas_run i (by omega) w h
  rw [hd] at h1
  have HH : Hid (Calls Tryd.prog 141 #[.pointer (some ⟨g, 0, none⟩), .int .u32 (i : Int)] w fun e w' => e = .returned (.bool true) ∧ w' = w) := h1
  have h2 := isLabel_run (i : Int) w
  rw [hd2] at h2
  have HL : Hid (Calls Tryd.prog 145 #[.int .i64 (i : Int)] w fun e w' => e = .returned (.bool false) ∧ w' = w) := h2
  have h3 := used_in i w h hi
  rw [hu] at h3
  have HU : Hid (Calls Tryd.prog 143 #[.pointer (some ⟨g, 0, none⟩), .int .i64 (i : Int)] w fun e w' => e = .returned (.bool false) ∧ Below w.heap.size w w') := h3
  clear h1 hd h2 hd2 h3 hu
  go_enter Tryd.func105, Tryd.ntmps105
  go_wp2_with (first
    | (go_at_call 141; refine HH.out.mono ?_; rintro e w' ⟨rfl, rfl⟩)
    | (go_at_call 145; refine HL.out.mono ?_; rintro e w' ⟨rfl, rfl⟩)
    | (go_at_call 143; refine HU.out.mono ?_; rintro e w1 ⟨rfl, hb1⟩))
  go_ret
  exact ⟨rfl, hb1⟩

theorem give_used (i : Nat) (h4 : 4 ≤ i) (hi : i < l.length) (hu : l.getD i false = true) (w : World) (h : Mp w g l) : Calls Tryd.prog 105 #[.pointer (some ⟨g, 0, none⟩), .int .u32 (i : Int)] w fun e w' => e = .returned (.int .i64 0) ∧ Mp w' g (l.set i false) ∧ But g w w' := by
  have hhi := h.hi
  have hd : decide (i < l.length) = true := decide_eq_true (by omega)
  have hd2 : decide ((i : Int) < 4) = false := decide_eq_false (by omega)
  have h1 := shas_run i (by omega) w h
  rw [hd] at h1
  have HH : Hid (Calls Tryd.prog 141 #[.pointer (some ⟨g, 0, none⟩), .int .u32 (i : Int)] w fun e w' => e = .returned (.bool true) ∧ w' = w) := h1
  have h2 := isLabel_run (i : Int) w
  rw [hd2] at h2
  have HL : Hid (Calls Tryd.prog 145 #[.int .i64 (i : Int)] w fun e w' => e = .returned (.bool false) ∧ w' = w) := h2
  have h3 := used_in i w h hi
  rw [hu] at h3
  have HU : Hid (Calls Tryd.prog 143 #[.pointer (some ⟨g, 0, none⟩), .int .i64 (i : Int)] w fun e w' => e = .returned (.bool true) ∧ Below w.heap.size w w') := h3
  have HM : Hid (∀ u, Below w.heap.size w u → Mp u g l) := fun u hu => h.stays hu
  clear h1 hd h2 hd2 h3 hu h
  have hb := fun u => bit_run i (by omega) u
  have hlt := W_lt l (i / 64)
  have hcl := clr_word l i hi
  have hq0 : (0 : Int) ≤ (i : Int) / 64 := by omega
  have hq1 : (i : Int) / 64 < 8 := by omega
  have hq2 : ((i : Int) / 64).toNat = i / 64 := by omega
  have hwr : IntKind.u32.wrap ((i : Int) / 64) = (i : Int) / 64 := by simp [IntKind.wrap, IntKind.bits, IntKind.signed]; omega
  have hwr2 : IntKind.i64.wrap (i : Int) = (i : Int) := by simp [IntKind.wrap, IntKind.bits, IntKind.signed]; omega
  go_enter Tryd.func105, Tryd.ntmps105
  go_wp2_with (first
    | (go_at_call 141; refine HH.out.mono ?_; rintro e w' ⟨rfl, rfl⟩)
    | (go_at_call 145; refine HL.out.mono ?_; rintro e w' ⟨rfl, rfl⟩)
    | (go_at_call 143; refine HU.out.mono ?_; rintro e w1 ⟨rfl, hb1⟩))
  have hP1 := HM.out w1 hb1
  have hw := hP1.word (i / 64) (by omega)
  have hfr := hP1.blk.free (1 + i / 64)
  go_region_law (refine step_call rfl 146 #[.int .i64 (i : Int)] (by go_simp) (hb _) ?_; rintro e w' ⟨rfl, rfl⟩; refine ⟨_, rfl, ?_⟩)
  all_goals go_wp2
  all_goals go_ret
  all_goals exact ⟨rfl, ⟨(hP1.put i false hi).blk, (hP1.put i false hi).lo, (hP1.put i false hi).hi⟩, (But.of_below hb1).trans ((But.refl g w1).setCell _ _).drew⟩

theorem give_run (i : Nat) (hi : i < 4294967296) (w : World) (h : Mp w g l) : Calls Tryd.prog 105 #[.pointer (some ⟨g, 0, none⟩), .int .u32 (i : Int)] w fun e w' => e = .returned (.int .i64 ((giveL l i).2 : Int)) ∧ Mp w' g (giveL l i).1 ∧ But g w w' := by
  unfold giveL
  by_cases hc : i < l.length ∧ 4 ≤ i ∧ l.getD i false = true
  · rw [if_pos hc]
    exact give_used i hc.2.1 hc.1 hc.2.2 w h
  · rw [if_neg hc]
    have key : Calls Tryd.prog 105 #[.pointer (some ⟨g, 0, none⟩), .int .u32 (i : Int)] w fun e w' => e = .returned (.int .i64 1) ∧ Below w.heap.size w w' := by
      by_cases h1 : i < l.length
      · by_cases h2 : 4 ≤ i
        · exact give_free i h2 h1 (by cases hx : l.getD i false; rfl; exact absurd ⟨h1, h2, hx⟩ hc) w h
        · exact give_lab i (by omega) w h
      · exact give_out i hi w h (by omega)
    exact key.mono fun e w' ⟨h1, h2⟩ => ⟨h1, h.stays h2, But.of_below h2⟩
end
end Go.Proofs.YthbldjnpnligpaaDoor

/-
  Package space: Take.
-/

namespace Go.Proofs.YthbldjnpnligpaaDoor
set_option linter.unusedSimpArgs false
set_option linter.unusedVariables false
set_option maxRecDepth 100000
open Go.RowKit

def n32s (xs : List Nat) : List Value := xs.map (fun n : Nat => Value.int .u32 (n : Int))
theorem n32s_len (xs : List Nat) : (n32s xs).length = xs.length := by simp [n32s]

/-- A slice of numbers of the call's own. -/
def Nums (base : Nat) (w : World) (v : Value) (xs : List Nat) : Prop := w.ownsRow base 34 1 v xs.length (n32s xs)

theorem Nums.none (base : Nat) (w : World) : Nums base w (.slice none 0 0) [] := ⟨by simp [n32s], .inl ⟨rfl, rfl⟩⟩
theorem Nums.form {base : Nat} {w : World} {v : Value} {xs : List Nat} (h : Nums base w v xs) : ∃ a c, v = .slice a xs.length c := by
  rcases h.2 with ⟨rfl, h0⟩ | ⟨g, cap, cur, rfl, _⟩
  · exact ⟨Option.none, 0, by rw [h0]⟩
  · exact ⟨_, _, rfl⟩
theorem Nums.keep {base : Nat} {w w' : World} {v : Value} {xs : List Nat} (h : Nums base w v xs) (hk : ∀ k, v.ownBlock = some k → w'.heap[k]? = w.heap[k]?) : Nums base w' v xs := by
  obtain ⟨h1, h2⟩ := h
  refine ⟨h1, ?_⟩
  rcases h2 with h2 | ⟨g, cap, cur, rfl, hb, hh, rest⟩
  · exact .inl h2
  · exact .inr ⟨g, cap, cur, rfl, hb, by rw [hk g rfl]; exact hh, rest⟩
theorem Nums.lt {base : Nat} {w : World} {v : Value} {xs : List Nat} (h : Nums base w v xs) {k : Nat} (hk : v.ownBlock = some k) : base ≤ k ∧ k < w.heap.size := World.ownsRow.lt h k hk
theorem Nums.stays {base : Nat} {w w' : World} {v : Value} {xs : List Nat} (h : Nums base w v xs) (hb : Below w.heap.size w w') : Nums base w' v xs :=
  h.keep fun k hk => hb.block k (h.lt hk).2
theorem Nums.but {base g : Nat} {w w' : World} {v : Value} {xs : List Nat} (h : Nums base w v xs) (hb : But g w w') (hg : g < base) : Nums base w' v xs :=
  h.keep fun k hk => hb.block k (by have := h.lt hk; omega) (h.lt hk).2
theorem Nums.us {base : Nat} {w : World} {a : Option Addr} {n c : Nat} {xs : List Nat} (h : Nums base w (.slice a n c) xs) (hr : ∀ x ∈ xs, x < 4294967296) : n = xs.length ∧ Us w a xs := by
  have hl : n = xs.length := by
    obtain ⟨a', c', he⟩ := h.form
    simp only [Value.slice.injEq] at he
    exact he.2.1
  refine ⟨hl, hr, ?_⟩
  by_cases h0 : xs = []
  · exact .inl h0
  · rcases h.2 with ⟨he, hz⟩ | ⟨g, cap, cur, he, hg, hh, h1, h2, h3, h4⟩
    · exact .inl (List.eq_nil_of_length_eq_zero hz)
    · simp only [Value.slice.injEq] at he
      obtain ⟨rfl, _, _⟩ := he
      subst hl
      refine .inr ⟨g, 0, rfl, fun i hi => ?_⟩
      have := World.ownsRow.cellAt h i (by omega)
      simp [n32s, hi, List.getD] at this ⊢
      exact this

theorem u32Info : ∃ i, Tryd.prog.info? 34 = some i ∧ i.zero = some (.int .u32 0) ∧ i.size = 1 ∧ i.bytes = 4 := ⟨_, rfl, rfl, rfl, rfl⟩

theorem wpList_append_u32 {w : World} {ops : Array Oper} {rest : List Oper} {o : Oper} {a : Act} {Q : Exit → Act → World → Prop} (hgd : o.guard = none) (s x : Operand)
    (ho : o.op = .call { callee := .builtin .append, args := #[s, x], argTypes := #[169, 169] })
    (base : Nat) (v : Value) (xs : List Nat) (hs : a.eval s = v) (hown : Nums base w v xs)
    (b c : Nat) (y : Nat) (hx : a.eval x = .slice (some ⟨b, 0, none⟩) 1 c) (hB : w.cell? ⟨b, 0, none⟩ = some (.int .u32 (y : Int)))
    (hlen : xs.length ≤ 1000000) (hbase : base ≤ w.heap.size)
    (h : ∀ v' w', Nums base w' v' (xs ++ [y]) → w.grownBy w' v.ownBlock → wpList Tryd.prog ops Q rest (a.put o.dst v') w') : wpList Tryd.prog ops Q (o :: rest) a w := by
  obtain ⟨i, hi, hz, hsize, hby⟩ := u32Info
  refine wpList_append_own _ hgd s x 169 ho base 34 i (.int .u32 0) 1 4 Tryd.underlying169 hi hz hsize hby rfl (by decide) v xs.length (n32s xs) hs hown ⟨b, 0, none⟩ 1 c [.int .u32 (y : Int)] hx (by simp) ?_ (by simp [Value.oneCell']) ?_ ?_ hbase ?_
  · intro j u hj
    cases j with
    | zero =>
      simp at hj
      subst hj
      exact hB
    | succ j => simp at hj
  · unfold maxLen; omega
  · omega
  · intro v' w' h1 h2 _
    refine h v' w' ?_ h2
    unfold Nums
    simpa [n32s] using h1

section
variable {g : Nat} {l : List Bool}

theorem take_bad (p : Option Addr) (k : Int) (hk : k < 0 ∨ 8 < k ∨ p = none) (w : World) : Calls Tryd.prog 103 #[.pointer p, .int .i64 k] w fun e w' => e = .returned (.tuple #[.slice none 0 0, .int .i64 1]) ∧ w' = w := by
  cases p with
  | none =>
    go_enter Tryd.func103, Tryd.ntmps103
    go_wp2
    go_ret2
    exact ⟨rfl, rfl⟩
  | some p =>
    by_cases h0 : k < 0
    · go_enter Tryd.func103, Tryd.ntmps103
      go_wp2
      go_ret2
      exact ⟨rfl, rfl⟩
    · have h8 : 8 < k := by
        rcases hk with h | h | h
        · omega
        · exact h
        · cases h
      clear hk
      go_enter Tryd.func103, Tryd.ntmps103
      go_wp2
      go_ret2
      exact ⟨rfl, rfl⟩

theorem take_full (k : Nat) (h8 : k ≤ 8) (hf : freeN l < k) (w : World) (h : Mp w g l) : Calls Tryd.prog 103 #[.pointer (some ⟨g, 0, none⟩), .int .i64 (k : Int)] w fun e w' => e = .returned (.tuple #[.slice none 0 0, .int .i64 7]) ∧ w' = w := by
  obtain ⟨F, hF⟩ : ∃ F, F = freeN l := ⟨_, rfl⟩
  have HF : Hid (Calls Tryd.prog 30 #[.pointer (some ⟨g, 0, none⟩)] w fun e w' => e = .returned (.int .i64 (F : Int)) ∧ w' = w) := by rw [hF]; exact free_run w h
  rw [← hF] at hf
  clear hF
  go_enter Tryd.func103, Tryd.ntmps103
  go_wp2_with (go_at_call 30; refine HF.out.mono ?_; rintro e w' ⟨rfl, rfl⟩)
  go_ret2
  exact ⟨rfl, rfl⟩

theorem grown_but {w0 w w' : World} {v : Option Nat} (h : But g w0 w) (hg : w.grownBy w' v) (hv : ∀ k, v = some k → w0.heap.size ≤ k) : But g w0 w' :=
  ⟨hg.os.trans h.os, hg.tape.trans h.tape, hg.output.trans h.output, Nat.le_trans h.size hg.size, fun k hk hl => (hg.block k (Nat.lt_of_lt_of_le hl h.size) (fun e => by have := hv k e.symm; omega)).trans (h.block k hk hl)⟩

theorem take_some (k : Nat) (h8 : k ≤ 8) (hf : k ≤ freeN l) (w : World) (h : Mp w g l) : Calls Tryd.prog 103 #[.pointer (some ⟨g, 0, none⟩), .int .i64 (k : Int)] w fun e w' =>
    ∃ v, e = .returned (.tuple #[v, .int .i64 0]) ∧ Nums w.heap.size w' v ((Fr l l.length).take k) ∧ Mp w' g (setAll l ((Fr l l.length).take k)) ∧ But g w w' := by
  obtain ⟨ti, ht0, ht1, ht2, ht3⟩ := u32Info
  have hlo := h.lo
  have hhi := h.hi
  have hgl := h.blk.lt
  obtain ⟨n, hn⟩ : ∃ n, n = l.length := ⟨_, rfl⟩
  obtain ⟨F, hF⟩ : ∃ F, F = freeN l := ⟨_, rfl⟩
  have HF : Hid (Calls Tryd.prog 30 #[.pointer (some ⟨g, 0, none⟩)] w fun e w' => e = .returned (.int .i64 (F : Int)) ∧ w' = w) := by rw [hF]; exact free_run w h
  have HLT : Hid (∀ i, i ≤ n → (Fr l i).length < k → i < n) := fun i hi hk => by
    rcases Nat.lt_or_ge i n with h1 | h1
    · exact h1
    · exfalso
      have : i = l.length := by omega
      rw [this, Fr_all] at hk
      omega
  have HEND : Hid (∀ i, i ≤ n → (Fr l i).length = k → Fr l i = (Fr l l.length).take k) := fun i hi hk => Fr_take l i (by omega) k hk
  have HCL : Hid (∀ i, (Cu l i).length = n) := fun i => by rw [hn]; exact Cu_len l i
  have HCA : Hid (∀ i, i < n → (Cu l i).getD i false = l.getD i false) := fun i hi => Cu_at l i (by omega)
  have hP0 : Mp w g (Cu l 0) := h
  obtain ⟨O, hO⟩ : ∃ O, O = (Fr l l.length).take k := ⟨_, rfl⟩
  have HSA : Hid (∀ i, Fr l i = O → Cu l i = setAll l O) := fun i hi => by unfold Cu; rw [hi]
  rw [← hO] at HEND ⊢
  rw [← hF] at hf
  rw [← hn] at hlo hhi
  clear hn hF hO h
  have hb1 : ti.bytes * k ≤ 281474976710656 := by rw [ht3]; omega
  have hb2 : k ≤ maxLen := by unfold maxLen; omega
  go_enter Tryd.func103, Tryd.ntmps103
  go_wp2_with (first
    | (go_at_call 30; refine HF.out.mono ?_; rintro e w ⟨rfl, rfl⟩)
    | (refine wpList_make_own _ (by rfl) (.const (.int .i64 0)) (.tmp 22) 169 (by rfl) w.heap.size 34 ti (.int .u32 0) 1 Tryd.underlying169 ht0 ht1 ht2 .i64 .i64 (k : Int) k (by rfl) (by rfl) rfl hb1 hb2 (Nat.le_refl _) ?_; intro w1 hN1 hg1))
  have hP1 : Mp w1 g (Cu l 0) := ⟨(hg1.block g hgl (by simp)).trans hP0.blk, hP0.lo, hP0.hi⟩
  have hbut1 : But g w w1 := grown_but (But.refl g w) hg1 (by simp)
  have hn1 : Nums w.heap.size w1 (.slice (some ⟨w.heap.size, 0, none⟩) 0 k) (Fr l 0) := hN1
  clear hP0 hN1 hg1 HF hb1 hb2 ht0 ht1 ht2 ht3
  go_loopw [6, 7] (fun v i wr => ∃ j : Nat, j ≤ n ∧ i = .int .i64 j ∧ (Fr l j).length ≤ k ∧ Nums w.heap.size wr v (Fr l j) ∧ Mp wr g (Cu l j) ∧ But g w wr) (fun _ i _ => n - (intOf i).toNat)
  case atStart => exact ⟨0, by omega, rfl, Nat.zero_le _, hn1, hP1, hbut1⟩
  case round =>
    rename_i hrel
    obtain ⟨j, hj, rfl, hle, hN, hP, hbr⟩ := hrel
    clear hP1 hbut1 hn1
    obtain ⟨av, cv, hv⟩ := hN.form
    rw [hv] at hN ⊢
    clear hv
    obtain ⟨m, hm⟩ : ∃ m, m = (Fr l j).length := ⟨_, rfl⟩
    have HM : Hid (m = (Fr l j).length) := hm
    have HN : Hid (Nums w.heap.size wr (.slice av m cv) (Fr l j)) := by rw [hm]; exact hN
    have HE := HEND.out j hj
    rw [← hm] at hle ⊢
    rw [← hm] at HE
    have HLJ := HLT.out j hj
    rw [← hm] at HLJ
    clear hm hN
    by_cases hlt : m < k
    · have hjn := HLJ hlt
      clear HE HLJ
      have hua := HCA.out j hjn
      have hcl := HCL.out j
      have hU := used_in j wr hP (by rw [hcl]; exact hjn)
      rw [hua] at hU
      by_cases hx : l.getD j false = true
      · rw [hx] at hU
        have HU : Hid (Calls Tryd.prog 143 #[.pointer (some ⟨g, 0, none⟩), .int .i64 (j : Int)] wr fun e w' => e = .returned (.bool true) ∧ Below wr.heap.size wr w') := hU
        have HF1 : Hid (Fr l j = Fr l (j + 1) ∧ Cu l j = Cu l (j + 1)) := ⟨(Fr_used l j hx).symm, Cu_used l j hx⟩
        clear hU hua hcl hx
        go_wp2_with (go_at_call 143; refine HU.out.mono ?_; rintro e w2 ⟨rfl, hb2⟩)
        have hN2 := HN.out.stays hb2
        have hP2 := hP.stays hb2
        have hM2 := HM.out
        rw [HF1.out.1] at hN2 hM2
        rw [HF1.out.2] at hP2
        go_roundw
        case rel => exact ⟨j + 1, by omega, by go_num, by omega, hN2, hP2, hbr.trans (But.of_below hb2)⟩
        case measure => simp [intOf]; omega
      · have hx' : l.getD j false = false := by cases hh : l.getD j false; rfl; exact absurd hh hx
        rw [hx'] at hU
        have HU : Hid (Calls Tryd.prog 143 #[.pointer (some ⟨g, 0, none⟩), .int .i64 (j : Int)] wr fun e w' => e = .returned (.bool false) ∧ Below wr.heap.size wr w') := hU
        have HF1 : Hid (Fr l (j + 1) = Fr l j ++ [j] ∧ (Cu l j).set j true = Cu l (j + 1)) := ⟨Fr_free l j hx', Cu_free l j hx'⟩
        have HUS : Hid (∀ u, Mp u g (Cu l j) → Calls Tryd.prog 140 #[.pointer (some ⟨g, 0, none⟩), .int .i64 (j : Int)] u fun e w' => e = .returned (.tuple #[]) ∧ Mp w' g (Cu l (j + 1)) ∧ But g u w') := fun u hu => by
          have := use_run j u hu (by rw [hcl]; exact hjn)
          rw [HF1.out.2] at this
          exact this.mono fun e w' ⟨h1, h2, h3, _⟩ => ⟨h1, h2, h3⟩
        have HLN : Hid ((Fr l j).length ≤ 1000000) := by have := HM.out; show _ ≤ _; omega
        clear hU hua hcl hx hx'
        have hsz := hbr.size
        go_wp2_with (first
          | (go_at_call 143; refine HU.out.mono ?_; rintro e w2 ⟨rfl, hb2⟩; have hz2 := hb2.size)
          | (go_at_call 140; refine (HUS.out _ (hP.stays hb2)).mono ?_; rintro e w3 ⟨rfl, hP3, hb3⟩; have hz3 := hb3.size; have hN3 := (HN.out.stays hb2).but hb3 hgl)
          | (at_builtin; refine wpList_append_u32 (by rfl) (.tmp 37) (.tmp 40) (by rfl) w.heap.size _ (Fr l j) (by rfl) (hN3.stays ((Below.refl _ _).alloc (Nat.le_refl _) _)) w3.heap.size 1 j (by rfl) (by simp) HLN.out (by simp; omega) ?_; intro v5 w5 hN5 hg5))
        have hNO : ∀ q, (Value.slice av m cv).ownBlock = some q → w.heap.size ≤ q := fun q hq => (hN3.lt hq).1
        have hP4 := hP3.stays ((Below.refl _ _).alloc (Nat.le_refl _) (.cells #[.int .u32 (j : Int)] 34))
        have hP5 : Mp w5 g (Cu l (j + 1)) := ⟨(hg5.block g hP4.blk.lt (fun hq => by have := hNO g hq.symm; omega)).trans hP4.blk, hP4.lo, hP4.hi⟩
        have hb5 : But g w w5 := grown_but ((hbr.trans ((But.of_below hb2).trans hb3)).trans (But.of_below ((Below.refl _ _).alloc (Nat.le_refl _) _))) hg5 hNO
        rw [← HF1.out.1] at hN5
        have hle5 : (Fr l (j + 1)).length ≤ k := by rw [HF1.out.1, List.length_append]; have := HM.out; simp; omega
        go_roundw
        case rel => exact ⟨j + 1, by omega, by go_num, hle5, hN5, hP5, hb5⟩
        case measure => simp [intOf]; omega
    · have hmk : m = k := by omega
      have hfin := HE hmk
      have hN2 := HN.out
      rw [hfin] at hN2
      rw [HSA.out j hfin] at hP
      go_wp2
      go_ret2
      exact ⟨_, rfl, hN2, hP, hbr⟩

theorem take_run (k : Int) (w : World) (h : Mp w g l) : Calls Tryd.prog 103 #[.pointer (some ⟨g, 0, none⟩), .int .i64 k] w fun e w' =>
    ∃ v, e = .returned (.tuple #[v, .int .i64 ((takeL l k).2.2 : Int)]) ∧ Nums w.heap.size w' v (takeL l k).2.1 ∧ Mp w' g (takeL l k).1 ∧ But g w w' := by
  unfold takeL
  by_cases h1 : k < 0 ∨ 8 < k
  · rw [if_pos h1]
    refine (take_bad _ k (by omega) w).mono ?_
    rintro e w' ⟨rfl, rfl⟩
    exact ⟨_, rfl, Nums.none _ _, h, But.refl _ _⟩
  · rw [if_neg h1]
    obtain ⟨m, rfl⟩ : ∃ m : Nat, k = (m : Int) := ⟨k.toNat, by omega⟩
    by_cases h2 : (freeN l : Int) < (m : Int)
    · rw [if_pos h2]
      refine (take_full m (by omega) (by omega) w h).mono ?_
      rintro e w' ⟨rfl, rfl⟩
      exact ⟨_, rfl, Nums.none _ _, h, But.refl _ _⟩
    · rw [if_neg h2]
      exact take_some m (by omega) (by omega) w h
end
end Go.Proofs.YthbldjnpnligpaaDoor
