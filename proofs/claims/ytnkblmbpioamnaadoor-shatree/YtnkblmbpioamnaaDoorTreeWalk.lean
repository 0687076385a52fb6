/-
  The walk over sha.Tree.
-/
import Derived.Test.YtnkblmbpioamnaaDoorTreeLen
import Derived.Test.YtnkblmbpioamnaaDoorTreeSteps
namespace Go.Proofs.YtnkblmbpioamnaaDoor
set_option linter.unusedSimpArgs false
set_option linter.unusedVariables false
open Go.RowKit

def z32 : List Value := (List.replicate 32 (0 : Int)).map (Value.int .u8)
theorem z32_len : z32.length = 32 := rfl
theorem z32_one : ∀ v ∈ z32, v.oneCell' = true := int_oneCell _ _
theorem agg_32 (w : World) : (isAgg 24).run Tryd.prog w = .ok true w := isAgg_array Tryd.underlying24 w
theorem size_32 (w : World) : (sizeOf 24).run Tryd.prog w = .ok 32 w := sizeOf_run (by kernel_rfl) w
theorem alloc_32 (w : World) : (Instr.alloc 24 true (.tuple #[])).run Tryd.prog w = .ok (.pointer (some ⟨w.heap.size, 0, none⟩)) (w.alloc (.cells z32.toArray 24)) := by kernel_rfl
theorem build_32 (w : World) : (Instr.build 24 #[]).run Tryd.prog w = .ok (.agg z32.toArray) w := by kernel_rfl
theorem sizes32 : (Tryd.prog.info? 24).map (·.size) = some 32 := by kernel_rfl
theorem elems32 : Tryd.prog.elem 22 = 24 := by kernel_rfl

theorem len_run (x : Nat) (h : x < 40) (w : World) : Calls Tryd.prog 9 #[.int .u64 (x : Int)] w fun e w' => e = .returned (.int .i64 ((if x = 0 then 0 else Nat.log2 x + 1 : Nat) : Int)) ∧ w' = w := by
  have h6 := len64_run x h
  obtain ⟨L, hL⟩ : ∃ L : Nat, L = (if x = 0 then 0 else Nat.log2 x + 1 : Nat) := ⟨_, rfl⟩
  rw [← hL]
  have h7 : ∀ w, Calls Tryd.prog 14 #[.int .u64 (x : Int)] w fun e w' => e = .returned (.int .i64 (L : Int)) ∧ w' = w := by rw [hL]; exact h6
  clear hL h6
  go_enter Tryd.func9, Tryd.ntmps9
  go_wp2_with (go_at_call 14; go_must (refine (h7 _).mono ?_); rintro e w1 ⟨rfl, rfl⟩)
  go_ret
  exact ⟨rfl, rfl⟩

theorem Hs.first {w : World} {b off c : Nat} {hs : List (List Int)} (h : Hs w (some ⟨b, off, none⟩) c hs) (h1 : hs.length = 1) : ∀ j v, ((hs.getD 0 []).map (Value.int .u8))[j]? = some v → w.cell? ((⟨b, off, none⟩ : Addr).add j) = some v := by
  intro j v hj
  obtain ⟨b1, o1, he, hc⟩ := h.cell (by omega)
  cases he
  match hs, h1 with
  | [x], _ =>
    have hl := (h.ok x (by simp)).1
    simp only [List.getD_cons_zero] at hj hc
    have hjl : j < 32 := by
      rcases Nat.lt_or_ge j 32 with h | h
      · exact h
      · rw [List.getElem?_eq_none (by simp; omega)] at hj; cases hj
    have := hc 0 (by simp) j hjl
    simp only [List.getD_cons_zero, Nat.mul_zero, Nat.add_zero] at this
    have hadd : (⟨b, off, none⟩ : Addr).add j = ⟨b, off + j, none⟩ := by unfold Addr.add; split <;> simp_all
    rw [hadd, this]
    rw [List.getElem?_map] at hj
    simpa [List.getD, List.getElem?_eq_getElem (show j < x.length by omega)] using hj

set_option maxHeartbeats 1000000 in
set_option maxRecDepth 100000 in
theorem tree_small (a : Option Addr) (c n : Nat) (hs : List (List Int)) (w : World) (hn : n = hs.length) (h1 : n ≤ 1) (hH : Hs w a c hs) :
    Calls Tryd.prog 5 #[.slice a n c] w fun e w' => e = .returned (.agg ((treeOf hs).map (Value.int .u8)).toArray) ∧ Below w.heap.size w w' := by
  rcases (by omega : n = 0 ∨ n = 1) with rfl | rfl
  · have HT : Hid (((treeOf hs).map (Value.int .u8)) = z32) := by show _ = _; rw [treeOf_none hn.symm]; rfl
    clear hn hH
    go_enter Tryd.func5, Tryd.ntmps5
    go_wp2_with (first
      | (refine wpList_alloc0 (by rfl) 24 (by rfl) (some 2) (by rfl) z32 alloc_32 ?_; intro w1 hR1 hb1 hs1)
      | (refine wpList_build0 (by rfl) 24 (by rfl) _ build_32 ?_)
      | (refine wpList_store_blk (by rfl) (.tmp 2) (.tmp 10) 24 (by rfl) _ 0 32 (by rfl) _ (by rfl) size_32 hR1 z32_len (by rw [z32_len]; omega) z32_one _ (whole_store z32_len) ?_
         intro w2 hR2 hbut2 hs2))
    refine bodyPost_ret_blk rfl rfl (by rfl) agg_32 size_32 hR2 z32_len ⟨by rw [HT.out], hb1.trans (hbut2.below (Nat.le_refl _) (by omega))⟩
  · obtain ⟨b, off, rfl, _⟩ := hH.cell (by omega)
    have hl := (treeOf_ok hH.ok).1
    have ht : treeOf hs = hs.getD 0 [] := treeOf_one hn.symm
    have hf : ∀ u, Below w.heap.size w u → ∀ j v, ((treeOf hs).map (Value.int .u8))[j]? = some v → u.cell? ((⟨b, off, none⟩ : Addr).add j) = some v := fun u hu => by rw [ht]; exact (hH.stays hu).first hn.symm
    have hix : ∀ u : World, (Instr.indexAt 22 (.slice (some ⟨b, off, none⟩) 1 c) (.int .i64 0)).run Tryd.prog u = .ok (.pointer (some ⟨b, off, none⟩)) u := fun u => by
      have hz := size_32 u
      rw [run_indexAt_slice u 22 _ 1 c .i64 0 (by rw [elems32]; exact Tryd.underlying22), if_pos (by omega), elems32, hz]
      simp [Result.andThen, Addr.add]
    obtain ⟨us, hus⟩ : ∃ us, us = (treeOf hs).map (Value.int .u8) := ⟨_, rfl⟩
    have hul : us.length = 32 := by rw [hus]; simp [hl]
    have hu1 : ∀ v ∈ us, v.oneCell' = true := by rw [hus]; exact int_oneCell _ _
    rw [← hus] at hf ⊢
    clear hus ht hn hH
    go_enter Tryd.func5, Tryd.ntmps5
    go_wp2_with (first
      | (refine wpList_alloc0 (by rfl) 24 (by rfl) (some 2) (by rfl) z32 alloc_32 ?_; intro w1 hR1 hb1 hs1; have hf1 := hf w1 hb1)
      | (refine wpList_load_cells (by rfl) (.tmp 14) 24 (by rfl) _ 32 (by rfl) agg_32 size_32 us hf1 hul ?_)
      | (refine wpList_store_blk (by rfl) (.tmp 2) (.tmp 15) 24 (by rfl) _ 0 32 (by rfl) _ (by rfl) size_32 hR1 hul (by rw [z32_len]; omega) hu1 _ (whole_store z32_len) ?_
         intro w2 hR2 hbut2 hs2))
    refine bodyPost_ret_blk rfl rfl (by rfl) agg_32 size_32 hR2 hul ⟨rfl, hb1.trans (hbut2.below (Nat.le_refl _) (by omega))⟩
end Go.Proofs.YtnkblmbpioamnaaDoor
