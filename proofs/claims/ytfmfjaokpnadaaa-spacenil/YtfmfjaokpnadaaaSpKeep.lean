/-
  Package space: Keep and New.
-/
import Derived.Test.YtfmfjaokpnadaaaSpRead
import Derived.Test.YtfmfjaokpnadaaaSpPure
namespace Go.Proofs.Ytfmfjaokpnadaaa
set_option linter.unusedSimpArgs false
set_option linter.unusedVariables false
open Go.RowKit

/-- Numbers behind a slice. -/
structure Us (w : World) (a : Option Addr) (ks : List Nat) : Prop where
  rng : ∀ k ∈ ks, k < 4294967296
  lay : ks = [] ∨ ∃ b off, a = some ⟨b, off, none⟩ ∧ ∀ i, i < ks.length → w.cell? ⟨b, off + i, none⟩ = some (.int .u32 ((ks.getD i 0 : Nat) : Int))

theorem Us.none (w : World) (a : Option Addr) : Us w a [] := ⟨by simp, .inl rfl⟩
theorem Us.stays {w w' : World} {a : Option Addr} {ks : List Nat} (h : Us w a ks) (hb : Below w.heap.size w w') : Us w' a ks := by
  refine ⟨h.rng, ?_⟩
  rcases h.lay with h0 | ⟨b, off, rfl, hc⟩
  · exact .inl h0
  · refine .inr ⟨b, off, rfl, fun i hi => ?_⟩
    rw [hb.cell (World.block_lt_of_cell? w _ (hc i hi))]
    exact hc i hi
theorem Mp.not_u32 {w : World} {g : Nat} {l : List Bool} (h : Mp w g l) (j : Nat) (x : Int) : ¬ w.cell? ⟨g, j, none⟩ = some (.int .u32 x) := by
  intro he
  rw [h.blk.cell j] at he
  have hm := List.mem_of_getElem? he
  simp only [mapV, wordsV, List.mem_cons, List.mem_map] at hm
  rcases hm with hm | ⟨k, _, hm⟩
  · simp at hm
  · simp at hm
theorem Us.but {w w' : World} {a : Option Addr} {ks : List Nat} {g : Nat} {l : List Bool} (h : Us w a ks) (hm : Mp w g l) (hb : But g w w') : Us w' a ks := by
  refine ⟨h.rng, ?_⟩
  rcases h.lay with h0 | ⟨b, off, rfl, hc⟩
  · exact .inl h0
  · refine .inr ⟨b, off, rfl, fun i hi => ?_⟩
    have hci := hc i hi
    have hne : b ≠ g := by
      rintro rfl
      exact hm.not_u32 _ _ hci
    rw [World.cell?_of_block (w := w) (hb.block b hne (World.block_lt_of_cell? w _ hci))]
    exact hci

theorem sizes32 : (Try.prog.info? 32).map (·.size) = some 1 := by kernel_rfl
theorem elem32 : Try.prog.elem 33 = 32 := by kernel_rfl
theorem build_words0 (w : World) : (Instr.build 62 #[]).run Try.prog w = .ok (.agg (List.replicate 8 (Value.int .u64 0)).toArray) w := by kernel_rfl

theorem wordsV_none (n : Nat) : wordsV (lab n 0) = List.replicate 8 (Value.int .u64 0) := by
  unfold wordsV
  simp only [W_none]
  rfl
theorem mapV_none (n : Nat) : mapV (lab n 0) = .int .i64 (n : Int) :: List.replicate 8 (Value.int .u64 0) := by
  rw [mapV, wordsV_none, lab_len]

section
variable {g : Nat} {l : List Bool}

theorem keep_nil (a : Option Addr) (n c : Nat) (w : World) : Calls Try.prog 16 #[.pointer none, .slice a n c] w fun e w' => e = .returned (.tuple #[]) ∧ w' = w := by
  go_enter Try.func16, Try.ntmps16
  go_wp2
  refine bodyPost_ret (results_none rfl _ _ _) rfl ?_
  exact ⟨rfl, rfl⟩

theorem keep_run (a : Option Addr) (c : Nat) (ks : List Nat) (w : World) (h : Mp w g l) (hk : Us w a ks) (hlen : ks.length ≤ 1000000) :
    Calls Try.prog 16 #[.pointer (some ⟨g, 0, none⟩), .slice a ks.length c] w fun e w' => e = .returned (.tuple #[]) ∧ Mp w' g (keepL l.length ks) ∧ But g w w' := by
  have hbl := h.blk
  have hlo := h.lo
  have hhi := h.hi
  obtain ⟨n, hn⟩ : ∃ n, n = l.length := ⟨_, rfl⟩
  obtain ⟨m, hm⟩ : ∃ m, m = ks.length := ⟨_, rfl⟩
  have hvl : (mapV l).length = 9 := mapV_len l
  have HST : Hid (mapV (lab n 0) = (mapV l).take 1 ++ List.replicate 8 (Value.int .u64 0) ++ (mapV l).drop (1 + 8)) := by
    show _ = _
    rw [mapV_none, hn, List.drop_eq_nil_of_le (by omega), List.append_nil]
    simp [mapV]
  have HUS : Hid (∀ u, But g w u → Us u a ks) := fun u hu => hk.but h hu
  have HRN : Hid (∀ j, j < m → ks.getD j 0 < 4294967296) := fun j hj => hk.rng _ (by simp [List.getD, show j < ks.length by omega])
  obtain ⟨vs, hvs⟩ : ∃ vs, vs = mapV l := ⟨_, rfl⟩
  rw [← hvs] at hbl hvl HST
  have hone : ∀ v ∈ List.replicate 8 (Value.int .u64 0), v.oneCell' = true := by intro v hv; rw [List.eq_of_mem_replicate hv]; rfl
  have HM : Hid (m = ks.length) := hm
  rw [← hm] at hlen ⊢
  rw [← hn] at hlo hhi ⊢
  clear hm hn hvs h hk
  go_enter Try.func16, Try.ntmps16
  go_wp2_with (first
    | (refine wpList_build0 (by rfl) 62 (by rfl) _ build_words0 ?_)
    | (refine wpList_store_blk (by rfl) (.tmp 12) (.tmp 10) 62 (by rfl) g 1 8 (by rfl) (List.replicate 8 (Value.int .u64 0)) (by rfl) size_words hbl rfl (by omega) hone (mapV (lab n 0)) HST.out ?_; intro w1 hP1 hbut1 hs1; have hn1 := (Mp.mk hP1 (by rw [lab_len]; exact hlo) (by rw [lab_len]; exact hhi)).len; rw [lab_len] at hn1))
  have hP0 : Mp w1 g (lab n 0) := ⟨hP1, by rw [lab_len]; exact hlo, by rw [lab_len]; exact hhi⟩
  clear hn1 hP1 hbl HST hvl hone hs1
  go_loopw [4, 18] (fun _ i wr => ∃ k : Nat, k ≤ 4 ∧ i = .int .i64 k ∧ Mp wr g (lab n k) ∧ But g w wr) (fun _ i _ => 4 - (intOf i).toNat)
  case atStart => exact ⟨0, by omega, rfl, hP0, hbut1⟩
  case round =>
    rename_i hrel
    obtain ⟨k, hk, rfl, hP, hbr⟩ := hrel
    clear hP0 hbut1
    by_cases hlt : k < 4
    · have HU : Hid (Calls Try.prog 29 #[.pointer (some ⟨g, 0, none⟩), .int .i64 (k : Int)] wr fun e w' => e = .returned (.tuple #[]) ∧ Mp w' g (lab n (k + 1)) ∧ But g w w') := by
        have h1 := use_run k wr hP (by rw [lab_len]; omega)
        rw [lab_next n k (by omega)] at h1
        exact h1.mono fun e w' ⟨h2, h3, h4, _⟩ => ⟨h2, h3, hbr.trans h4⟩
      clear hP hbr
      go_wp2_with (go_at_call 29; refine HU.out.mono ?_; rintro e w2 ⟨rfl, hP2, hb2⟩)
      go_roundw
      case rel => exact ⟨k + 1, by omega, by go_num, hP2, hb2⟩
      case measure => simp [intOf]; omega
    · have hk4 : k = 4 := by omega
      subst hk4
      go_wp2
      go_loopw [6, 27] (fun _ i wr => ∃ j : Nat, j ≤ m ∧ i = .int .i64 j ∧ Mp wr g (addL (lab n 4) (ks.take j)) ∧ But g w wr) (fun _ i _ => m - (intOf i).toNat)
      case atStart => exact ⟨0, by omega, rfl, by simpa [addL] using hP, hbr⟩
      case round =>
        rename_i hrel
        obtain ⟨j, hj, rfl, hP', hbr'⟩ := hrel
        clear hP hbr
        by_cases hlt' : j < m
        · obtain ⟨b, off, ha, hc⟩ : ∃ b off, a = some ⟨b, off, none⟩ ∧ wr.cell? ⟨b, off + j, none⟩ = some (.int .u32 ((ks.getD j 0 : Nat) : Int)) := by
            have hm := HM.out
            rcases (HUS.out wr hbr').lay with h0 | ⟨b, off, h1, h2⟩
            · rw [h0] at hm; simp at hm; omega
            · exact ⟨b, off, h1, h2 j (by omega)⟩
          have hix : ∀ u : World, (Instr.indexAt 33 (.slice a m c) (.int .i64 j)).run Try.prog u = .ok (.pointer (some ⟨b, off + j, none⟩)) u := fun u => by
            rw [ha]; exact index_run 33 32 Try.underlying33 sizes32 elem32 b off m c .i64 j hlt' u
          obtain ⟨q, hq⟩ : ∃ q, q = ks.getD j 0 := ⟨_, rfl⟩
          have hql : q < 4294967296 := by rw [hq]; exact HRN.out j hlt'
          have hnx := addL_next (lab n 4) ks j (by have := HM.out; omega)
          rw [← hq, lab_len] at hnx
          rw [← hq] at hc
          have hl4 : (addL (lab n 4) (ks.take j)).length = n := by rw [addL_len, lab_len]
          clear hq ha
          have HHas := has_run q hql wr hP'
          rw [hl4] at HHas
          have HH : Hid (Calls Try.prog 30 #[.pointer (some ⟨g, 0, none⟩), .int .u32 (q : Int)] wr fun e w' => e = .returned (.bool (decide (q < n))) ∧ w' = wr) := HHas
          clear HHas
          by_cases hin : q < n
          · have HU : Hid (Calls Try.prog 29 #[.pointer (some ⟨g, 0, none⟩), .int .i64 (q : Int)] wr fun e w' => e = .returned (.tuple #[]) ∧ Mp w' g (addL (lab n 4) (ks.take (j + 1))) ∧ But g w w') := by
              have h1 := use_run q wr hP' (by omega)
              rw [hnx, if_pos hin]
              exact h1.mono fun e w' ⟨h2, h3, h4, _⟩ => ⟨h2, h3, hbr'.trans h4⟩
            clear hP' hbr' hnx hl4
            go_wp2_with (first
              | (go_at_call 30; refine HH.out.mono ?_; rintro e w2 ⟨rfl, rfl⟩)
              | (go_at_call 29; refine HU.out.mono ?_; rintro e w2 ⟨rfl, hP2, hb2⟩))
            go_roundw
            case rel => exact ⟨_, .int .i64 ((j + 1 : Nat) : Int), _, _, _, _, _, _, _, _, _, _, _, ⟨j + 1, by omega, rfl, hP2, hb2⟩, by congr 1⟩
            case measure => simp [intOf]; omega
          · have hP2 : Mp wr g (addL (lab n 4) (ks.take (j + 1))) := by rw [hnx, if_neg hin]; exact hP'
            clear hP' hnx hl4
            go_wp2_with (first
              | (go_at_call 30; refine HH.out.mono ?_; rintro e w2 ⟨rfl, rfl⟩))
            go_roundw
            case rel => exact ⟨_, .int .i64 ((j + 1 : Nat) : Int), _, _, _, _, _, _, _, _, _, _, _, ⟨j + 1, by omega, rfl, hP2, hbr'⟩, by congr 1⟩
            case measure => simp [intOf]; omega
        · have hjm : j = m := by omega
          subst hjm
          have hfin : Mp wr g (keepL n ks) := by
            have := HM.out
            rw [List.take_of_length_le (by omega)] at hP'
            exact hP'
          clear hP'
          go_wp2
          go_end0
          exact ⟨rfl, hfin, hbr'⟩

theorem build_map (n : Int) (w : World) : (Instr.build 64 #[(0, .int .i64 n)]).run Try.prog w = .ok (.agg (Value.int .i64 n :: List.replicate 8 (Value.int .u64 0)).toArray) w := by kernel_rfl

theorem new_bad (n : Int) (hn : ¬ (16 ≤ n ∧ n ≤ 512)) (w : World) : Calls Try.prog 8 #[.int .i64 n] w fun e w' => e = .returned (.tuple #[.pointer none, .int .i64 1]) ∧ w' = w := by
  have hd : decide (16 ≤ n ∧ n ≤ 512) = false := decide_eq_false hn
  have HM : Hid (∀ u, Calls Try.prog 28 #[.int .i64 n] u fun e w' => e = .returned (.bool false) ∧ w' = u) := fun u => by rw [← hd]; exact may_run n u
  clear hd hn
  go_enter Try.func8, Try.ntmps8
  go_wp2_with (go_at_call 28; refine (HM.out _).mono ?_; rintro e w' ⟨rfl, rfl⟩)
  go_ret2
  exact ⟨rfl, rfl⟩

theorem new_run (n : Nat) (h1 : 16 ≤ n) (h2 : n ≤ 512) (w : World) : Calls Try.prog 8 #[.int .i64 (n : Int)] w fun e w' => e = .returned (.tuple #[.pointer (some ⟨w.heap.size, 0, none⟩), .int .i64 0]) ∧ Mp w' w.heap.size (lab n 4) ∧ Below w.heap.size w w' := by
  have hd : decide (16 ≤ (n : Int) ∧ (n : Int) ≤ 512) = true := decide_eq_true (by omega)
  have HM : Hid (∀ u, Calls Try.prog 28 #[.int .i64 (n : Int)] u fun e w' => e = .returned (.bool true) ∧ w' = u) := fun u => by rw [← hd]; exact may_run n u
  clear hd
  obtain ⟨zs, hzs⟩ : ∃ zs, zs = Value.int .i64 (n : Int) :: List.replicate 8 (Value.int .u64 0) := ⟨_, rfl⟩
  have HB : Hid (∀ u, (Instr.build 64 #[(0, .int .i64 (n : Int))]).run Try.prog u = .ok (.agg zs.toArray) u) := fun u => by rw [hzs]; exact build_map n u
  have HZ : Hid (zs = mapV (lab n 0)) := by show _ = _; rw [hzs, mapV_none]
  clear hzs
  have HK : Hid (∀ u, Blk 64 u w.heap.size zs → Calls Try.prog 16 #[.pointer (some ⟨w.heap.size, 0, none⟩), .slice none 0 0] u fun e w' => e = .returned (.tuple #[]) ∧ Mp w' w.heap.size (lab n 4) ∧ But w.heap.size u w') := fun u hu => by
    have hm : Mp u w.heap.size (lab n 0) := ⟨by rw [← HZ.out]; exact hu, by rw [lab_len]; exact h1, by rw [lab_len]; exact h2⟩
    have := keep_run none 0 [] u hm (Us.none _ _) (by simp)
    rw [lab_len] at this
    exact this
  go_enter Try.func8, Try.ntmps8
  go_wp2_with (first
    | (go_at_call 28; refine (HM.out _).mono ?_; rintro e w' ⟨rfl, rfl⟩)
    | (refine wpList_build (by rfl) 64 [(0, .tmp 8)] (by rfl) [(0, .int .i64 (n : Int))] (by rfl) _ HB.out ?_)
    | (refine wpList_box0 (by rfl) 64 (.tmp 9) (by rfl) zs (by rfl) ?_; intro w1 hP1 hb1 hs1)
    | (go_at_call 16; refine (HK.out _ hP1).mono ?_; rintro e w2 ⟨rfl, hP2, hb2⟩))
  go_ret2
  exact ⟨rfl, hP2, hb1.trans (hb2.below (Nat.le_refl _) (by omega))⟩
end
end Go.Proofs.Ytfmfjaokpnadaaa
