/-
  PtrNode: any pointers as a node, and whether it is empty, beside the document's: the statement's walk.
-/
import Derived.Test.YtobfegmkjiggdaaPRRead
namespace Go.Proofs.Ytobfegmkjiggdaa
set_option linter.unusedSimpArgs false
set_option linter.unusedVariables false
open Go.RowKit

set_option maxHeartbeats 3000000 in
set_option maxRecDepth 100000 in
theorem nodelaw_walk (l : List Pt) (hl : ∀ p ∈ l, p.ok) (h4 : l.length = 4) (w : World) :
    Calls Try.prog 5 #[.agg (fourV l).toArray] w fun e w' => e = .returned (.bool true) ∧ Below w.heap.size w w' := by
  have hfl : (fourV l).length = 140 := by rw [fourV_len hl, h4]
  have hnl := nodeL_len hl h4
  have HAV : Hid (∀ u, Calls Try.prog 9 #[] u fun e w' => e = .returned (.bool true) ∧ Below u.heap.size u w') := alive_run
  have HN1 := fun u => node_run l hl h4 u
  have HN2 := fun u => rnode_run l hl h4 u
  have HE1 := fun u => isEmpty_run l hl h4 u
  have HE2 := fun u => risEmpty_run l hl h4 u
  obtain ⟨fv, hfv⟩ : ∃ fv, fv = fourV l := ⟨_, rfl⟩
  obtain ⟨X, hX⟩ : ∃ X, X = nodeL l := ⟨_, rfl⟩
  obtain ⟨m, hm⟩ : ∃ m, m = l.all Pt.hole := ⟨_, rfl⟩
  rw [← hfv] at hfl HN1 HN2 HE1 HE2 ⊢
  rw [← hX] at HN1 HN2 hnl
  rw [← hm] at HE1 HE2
  have GN1 : Hid (∀ u, Calls Try.prog 21 #[.agg fv.toArray] u fun e w' => ∃ a c, e = .returned (.slice a 256 c) ∧ Bs w' a c X ∧ Below u.heap.size u w') := HN1
  have GN2 : Hid (∀ u, Calls Try.prog 22 #[.agg fv.toArray] u fun e w' => ∃ a c, e = .returned (.slice a 256 c) ∧ Bs w' a c X ∧ Below u.heap.size u w') := HN2
  have GE1 : Hid (∀ u, Calls Try.prog 23 #[.agg fv.toArray] u fun e w' => e = .returned (.bool m) ∧ Below u.heap.size u w') := HE1
  have GE2 : Hid (∀ u, Calls Try.prog 24 #[.agg fv.toArray] u fun e w' => e = .returned (.bool m) ∧ Below u.heap.size u w') := HE2
  obtain ⟨Z, hZ⟩ : ∃ Z, Z = strOfNums X := ⟨_, rfl⟩
  have HCN : Hid (∀ a' c' u, slB 256 X (.slice a' 256 c') u → (convert 30 9 (.slice a' 256 c')).run Try.prog u = .ok (.string Z) u) := fun a' c' u hu => by
    obtain ⟨a2, c2, h5, h6⟩ := hu
    cases h5
    rw [hZ]; exact conv_bs h6 hnl.symm
  clear hfv hX hm hZ HN1 HN2 HE1 HE2 hnl
  go_enter Try.func5, Try.ntmps5
  go_wp2_with (first
    | (refine wpList_box0 (by rfl) 36 (.tmp 0) (by rfl) fv (by rfl) ?_; intro w1 hF1 hb1 hs1))
  have HLD : Hid (∀ u : World, Below w1.heap.size w1 u → (Instr.loadAt 36 (.pointer (some ⟨w.heap.size, 0, none⟩))).run Try.prog u = .ok (.agg fv.toArray) u) := fun u hu => run_load_blk agg_four size_four (hF1.stays hu) (whole_load hfl) hfl
  clear hF1 hs1
  refine Up.wp_region_up (Up.tell [(0, isV (.bool true)), (3, slB 256 X), (6, slB 256 X), (12, isV (.bool m)), (14, isV (.bool m))]) (by kernel_rfl) (by kernel_rfl) (Up.tell_steady _ (by
    intro p hp
    simp only [List.mem_cons, List.not_mem_nil, or_false] at hp
    rcases hp with rfl | rfl | rfl | rfl | rfl <;> first | exact isV_steady _ | exact slB_steady _ _)) ?_
  refine Up.wpUp_call _ 9 #[] (by rfl) (by rfl) (fun w1 => by go_simp) (fun w1 hp => calls_isV (HAV.out w1)) ?_
  rintro v ⟨u, _, hf⟩
  obtain rfl := hf 0 v _ rfl rfl
  clear hf
  simp only [Act.put, List.setIfInBounds_toArray, List.set_cons_zero, List.set_cons_succ]
  repeat (first
    | (refine Up.wpUp_pass (by rfl) ?_; simp only [Act.put, List.setIfInBounds_toArray, List.set_cons_zero, List.set_cons_succ])
    | (refine Up.wpUp_pure (.agg fv.toArray) (by rfl) (by rfl) (fun w1 hp => exec_load (t := 36) (x := .tmp 1) (p := ⟨w.heap.size, 0, none⟩) (by rfl) (by rfl) (HLD.out w1 hp.1)) ?_; simp only [Act.put, List.setIfInBounds_toArray, List.set_cons_zero, List.set_cons_succ])
    | (apply Up.wpUp_pure
       case hw => rfl
       case hψ => rfl
       case hv => (intro w1 hp; clear hp; go_simp; try (with_reducible rfl))
       simp only [Act.put, List.setIfInBounds_toArray, List.set_cons_zero, List.set_cons_succ]))
  refine Up.wpUp_call _ 21 #[.agg fv.toArray] (by rfl) (by rfl) (fun w1 => by go_simp) (fun w1 hp => calls_slB (GN1.out w1)) ?_
  rintro v ⟨u, _, hf⟩
  obtain ⟨a3, c3, rfl, _⟩ := hf 3 v _ rfl rfl
  clear hf
  simp only [Act.put, List.setIfInBounds_toArray, List.set_cons_zero, List.set_cons_succ]
  repeat (first
    | (refine Up.wpUp_pass (by rfl) ?_; simp only [Act.put, List.setIfInBounds_toArray, List.set_cons_zero, List.set_cons_succ])
    | (refine Up.wpUp_pure (.agg fv.toArray) (by rfl) (by rfl) (fun w1 hp => exec_load (t := 36) (x := .tmp 1) (p := ⟨w.heap.size, 0, none⟩) (by rfl) (by rfl) (HLD.out w1 hp.1)) ?_; simp only [Act.put, List.setIfInBounds_toArray, List.set_cons_zero, List.set_cons_succ])
    | (apply Up.wpUp_pure
       case hw => rfl
       case hψ => rfl
       case hv => (intro w1 hp; clear hp; go_simp; try (with_reducible rfl))
       simp only [Act.put, List.setIfInBounds_toArray, List.set_cons_zero, List.set_cons_succ])
    | (apply Up.wpUp_pure
       case hw => rfl
       case hψ => rfl
       case hv => (intro w1 hp; have hq3 := HCN.out _ _ _ (hp.2 3 _ _ rfl rfl rfl); clear hp; go_simp; try (with_reducible rfl))
       simp only [Act.put, List.setIfInBounds_toArray, List.set_cons_zero, List.set_cons_succ]))
  refine Up.wpUp_call _ 22 #[.agg fv.toArray] (by rfl) (by rfl) (fun w1 => by go_simp) (fun w1 hp => calls_slB (GN2.out w1)) ?_
  rintro v ⟨u, _, hf⟩
  obtain ⟨a6, c6, rfl, _⟩ := hf 6 v _ rfl rfl
  clear hf
  simp only [Act.put, List.setIfInBounds_toArray, List.set_cons_zero, List.set_cons_succ]
  repeat (first
    | (refine Up.wpUp_pass (by rfl) ?_; simp only [Act.put, List.setIfInBounds_toArray, List.set_cons_zero, List.set_cons_succ])
    | (refine Up.wpUp_pure (.agg fv.toArray) (by rfl) (by rfl) (fun w1 hp => exec_load (t := 36) (x := .tmp 1) (p := ⟨w.heap.size, 0, none⟩) (by rfl) (by rfl) (HLD.out w1 hp.1)) ?_; simp only [Act.put, List.setIfInBounds_toArray, List.set_cons_zero, List.set_cons_succ])
    | (apply Up.wpUp_pure
       case hw => rfl
       case hψ => rfl
       case hv => (intro w1 hp; clear hp; go_simp; try (with_reducible rfl))
       simp only [Act.put, List.setIfInBounds_toArray, List.set_cons_zero, List.set_cons_succ])
    | (apply Up.wpUp_pure
       case hw => rfl
       case hψ => rfl
       case hv => (intro w1 hp; have hq3 := HCN.out _ _ _ (hp.2 6 _ _ rfl rfl rfl); clear hp; go_simp; try (with_reducible rfl))
       simp only [Act.put, List.setIfInBounds_toArray, List.set_cons_zero, List.set_cons_succ]))
  refine Up.wpUp_call _ 23 #[.agg fv.toArray] (by rfl) (by rfl) (fun w1 => by go_simp) (fun w1 hp => calls_isV (GE1.out w1)) ?_
  rintro v ⟨u, _, hf⟩
  obtain rfl := hf 12 v _ rfl rfl
  clear hf
  simp only [Act.put, List.setIfInBounds_toArray, List.set_cons_zero, List.set_cons_succ]
  repeat (first
    | (refine Up.wpUp_pass (by rfl) ?_; simp only [Act.put, List.setIfInBounds_toArray, List.set_cons_zero, List.set_cons_succ])
    | (refine Up.wpUp_pure (.agg fv.toArray) (by rfl) (by rfl) (fun w1 hp => exec_load (t := 36) (x := .tmp 1) (p := ⟨w.heap.size, 0, none⟩) (by rfl) (by rfl) (HLD.out w1 hp.1)) ?_; simp only [Act.put, List.setIfInBounds_toArray, List.set_cons_zero, List.set_cons_succ])
    | (apply Up.wpUp_pure
       case hw => rfl
       case hψ => rfl
       case hv => (intro w1 hp; clear hp; go_simp; try (with_reducible rfl))
       simp only [Act.put, List.setIfInBounds_toArray, List.set_cons_zero, List.set_cons_succ]))
  refine Up.wpUp_call _ 24 #[.agg fv.toArray] (by rfl) (by rfl) (fun w1 => by go_simp) (fun w1 hp => calls_isV (GE2.out w1)) ?_
  rintro v ⟨u, _, hf⟩
  obtain rfl := hf 14 v _ rfl rfl
  clear hf
  simp only [Act.put, List.setIfInBounds_toArray, List.set_cons_zero, List.set_cons_succ]
  repeat (first
    | (refine Up.wpUp_pass (by rfl) ?_; simp only [Act.put, List.setIfInBounds_toArray, List.set_cons_zero, List.set_cons_succ])
    | (refine Up.wpUp_pure (.agg fv.toArray) (by rfl) (by rfl) (fun w1 hp => exec_load (t := 36) (x := .tmp 1) (p := ⟨w.heap.size, 0, none⟩) (by rfl) (by rfl) (HLD.out w1 hp.1)) ?_; simp only [Act.put, List.setIfInBounds_toArray, List.set_cons_zero, List.set_cons_succ])
    | (apply Up.wpUp_pure
       case hw => rfl
       case hψ => rfl
       case hv => (intro w1 hp; clear hp; go_simp; try (with_reducible rfl))
       simp only [Act.put, List.setIfInBounds_toArray, List.set_cons_zero, List.set_cons_succ]))
  refine Up.wpUp_end ?_
  intro w6 hb6 _
  go_wp2
  go_ret
  exact ⟨rfl, hb1.trans (hb6.mono hb1.size)⟩
end Go.Proofs.Ytobfegmkjiggdaa
