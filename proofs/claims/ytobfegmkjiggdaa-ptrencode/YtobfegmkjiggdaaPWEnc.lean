/-
  PtrEncode: any pointer as it is written, and of which kind it is, beside the document's: the statement's walk.
-/
import Derived.Test.YtobfegmkjiggdaaPRRead
namespace Go.Proofs.Ytobfegmkjiggdaa
set_option linter.unusedSimpArgs false
set_option linter.unusedVariables false
open Go.RowKit

set_option maxHeartbeats 3000000 in
set_option maxRecDepth 100000 in
theorem enclaw_walk (p : Pt) (hp : p.ok) (w : World) :
    Calls Try.prog 3 #[.agg p.vs.toArray] w fun e w' => e = .returned (.bool true) ∧ Below w.heap.size w w' := by
  have hvl := Pt.vs_len hp
  have hel := Pt.enc_len hp
  have hz4 : ((List.replicate 44 (0 : Int)).map (Value.int .u8)).length = 44 := rfl
  have hevl : (p.enc.map (Value.int .u8)).length = 44 := by rw [List.length_map]; exact hel
  have her := Pt.enc_rng hp
  have HEN : Hid (∀ u, Calls Try.prog 8 #[.agg p.vs.toArray] u fun e w' => e = .returned (.agg (p.enc.map (Value.int .u8)).toArray) ∧ Below u.heap.size u w') := encode_run p hp
  have HAV : Hid (∀ u, Calls Try.prog 9 #[] u fun e w' => e = .returned (.bool true) ∧ Below u.heap.size u w') := alive_run
  have HRE : Hid (∀ u, Calls Try.prog 10 #[.agg p.vs.toArray] u fun e w' => ∃ a c, e = .returned (.slice a 44 c) ∧ Bs w' a c p.enc ∧ Below u.heap.size u w') := rencode_run p hp
  have HM1 : Hid (∀ u, Calls Try.prog 11 #[.agg p.vs.toArray] u fun e w' => e = .returned (.bool p.may) ∧ Below u.heap.size u w') := may_run p hp
  have HM2 : Hid (∀ u, Calls Try.prog 12 #[.agg p.vs.toArray] u fun e w' => e = .returned (.bool p.may) ∧ Below u.heap.size u w') := rmay_run p hp
  have HH1 : Hid (∀ u, Calls Try.prog 13 #[.agg p.vs.toArray] u fun e w' => e = .returned (.bool p.hole) ∧ Below u.heap.size u w') := isHole_run p hp
  have HH2 : Hid (∀ u, Calls Try.prog 14 #[.agg p.vs.toArray] u fun e w' => e = .returned (.bool p.hole) ∧ Below u.heap.size u w') := risHole_run p hp
  have HA1 : Hid (∀ u, Calls Try.prog 15 #[.agg p.vs.toArray] u fun e w' => e = .returned (.bool p.absent) ∧ Below u.heap.size u w') := isAbsent_run p hp
  have HA2 : Hid (∀ u, Calls Try.prog 16 #[.agg p.vs.toArray] u fun e w' => e = .returned (.bool p.absent) ∧ Below u.heap.size u w') := risAbsent_run p hp
  go_enter Try.func3, Try.ntmps3
  go_wp2_with (first
    | (refine wpList_box0 (by rfl) 26 (.tmp 0) (by rfl) p.vs (by rfl) ?_; intro w1 hP1 hb1 hs1)
    | (refine wpList_load_blk (by rfl) (.tmp 1) 26 (by rfl) _ 0 35 (by rfl) agg_ptr size_ptr hP1 _ (whole_load hvl) hvl ?_)
    | (go_at_call 8; go_must (refine (HEN.out _).mono ?_); rintro e w2 ⟨rfl, hb2⟩; have hP2 := hP1.stays hb2)
    | (refine wpList_alloc0 (by rfl) 27 (by rfl) (some 3) (by rfl) _ alloc_44 ?_; intro w3 hE3 hb3 hs3; have hP3 := hP2.stays hb3)
    | (refine wpList_store_blk (by rfl) (.tmp 3) (.tmp 5) 27 (by rfl) _ 0 44 (by rfl) _ (by rfl) size_44 hE3 hevl (by rw [hz4]; omega) (int_oneCell _ _) _ (whole_store hz4) ?_
       intro w4 hE4 hbut4 hs4; have hP4 := hP3.but hbut4 (by have := hb2.size; omega)))
  have z2 := hb2.size
  have hX4 : Below w.heap.size w w4 := ((below_then hb1 hb2).trans (hb3.mono (by omega))).trans (hbut4.below (by omega) (by omega))
  obtain ⟨G, hG⟩ : ∃ G, G = w2.heap.size := ⟨_, rfl⟩
  rw [← hG] at hE4 ⊢
  obtain ⟨Z, hZ⟩ : ∃ Z, Z = strOfNums p.enc := ⟨_, rfl⟩
  have HCE : Hid (∀ u, Below w4.heap.size w4 u → (convert 30 9 (.slice (some ⟨G, 0, none⟩) 44 44)).run Try.prog u = .ok (.string Z) u) := fun u hu => by
    rw [hZ]
    refine conv_bs (xs := p.enc) ⟨her, by omega, by decide, by simp, .inr ⟨_, 0, rfl, fun i hi => ?_⟩⟩ hel.symm
    rw [(hE4.stays hu).cell]; simp [List.getD, hi]
  have HCN : Hid (∀ a' c' u, slB 44 p.enc (.slice a' 44 c') u → (convert 30 9 (.slice a' 44 c')).run Try.prog u = .ok (.string Z) u) := fun a' c' u hu => by
    obtain ⟨a2, c2, h5, h6⟩ := hu
    cases h5
    rw [hZ]; exact conv_bs h6 hel.symm
  have HLD : Hid (∀ u : World, Below w4.heap.size w4 u → (Instr.loadAt 26 (.pointer (some ⟨w.heap.size, 0, none⟩))).run Try.prog u = .ok (.agg p.vs.toArray) u) := fun u hu => run_load_blk agg_ptr size_ptr (hP4.stays hu) (whole_load hvl) hvl
  obtain ⟨m, hm⟩ : ∃ m, m = p.may := ⟨_, rfl⟩
  obtain ⟨o, ho⟩ : ∃ o, o = p.hole := ⟨_, rfl⟩
  obtain ⟨t, ht⟩ : ∃ t, t = p.absent := ⟨_, rfl⟩
  rw [← hm] at HM1 HM2
  rw [← ho] at HH1 HH2
  rw [← ht] at HA1 HA2
  clear hm ho ht hZ hG hE4 hE3 hP1 hP2 hP3 hP4 hb1 hb2 hb3 hbut4 hs1 hs3 hs4 z2
  refine Up.wp_region_up (Up.tell [(0, isV (.bool true)), (5, slB 44 p.enc), (11, isV (.bool m)), (13, isV (.bool m)), (18, isV (.bool o)), (20, isV (.bool o)), (25, isV (.bool t)), (27, isV (.bool t))]) (by kernel_rfl) (by kernel_rfl) (Up.tell_steady _ (by
    intro p hp
    simp only [List.mem_cons, List.not_mem_nil, or_false] at hp
    rcases hp with rfl | rfl | rfl | rfl | rfl | rfl | rfl | rfl <;> first | exact isV_steady _ | exact slB_steady _ _)) ?_
  refine Up.wpUp_call _ 9 #[] (by rfl) (by rfl) (fun w1 => by go_simp) (fun w1 hp => calls_isV (HAV.out w1)) ?_
  rintro v ⟨u, _, hf⟩
  obtain rfl := hf 0 v _ rfl rfl
  clear hf
  simp only [Act.put, List.setIfInBounds_toArray, List.set_cons_zero, List.set_cons_succ]
  repeat (first
    | (refine Up.wpUp_pass (by rfl) ?_; simp only [Act.put, List.setIfInBounds_toArray, List.set_cons_zero, List.set_cons_succ])
    | (refine Up.wpUp_pure (.agg p.vs.toArray) (by rfl) (by rfl) (fun w1 hp => exec_load (t := 26) (x := .tmp 1) (p := ⟨w.heap.size, 0, none⟩) (by rfl) (by rfl) (HLD.out w1 hp.1)) ?_; simp only [Act.put, List.setIfInBounds_toArray, List.set_cons_zero, List.set_cons_succ])
    | (apply Up.wpUp_pure
       case hw => rfl
       case hψ => rfl
       case hv => (intro w1 hp; have hq1 := HCE.out w1 hp.1; clear hp; go_simp; try (with_reducible rfl))
       simp only [Act.put, List.setIfInBounds_toArray, List.set_cons_zero, List.set_cons_succ]))
  refine Up.wpUp_call _ 10 #[.agg p.vs.toArray] (by rfl) (by rfl) (fun w1 => by go_simp) (fun w1 hp => calls_slB (HRE.out w1)) ?_
  rintro v ⟨u, _, hf⟩
  obtain ⟨a', c', rfl, _⟩ := hf 5 v _ rfl rfl
  clear hf
  simp only [Act.put, List.setIfInBounds_toArray, List.set_cons_zero, List.set_cons_succ]
  repeat (first
    | (refine Up.wpUp_pass (by rfl) ?_; simp only [Act.put, List.setIfInBounds_toArray, List.set_cons_zero, List.set_cons_succ])
    | (refine Up.wpUp_pure (.agg p.vs.toArray) (by rfl) (by rfl) (fun w1 hp => exec_load (t := 26) (x := .tmp 1) (p := ⟨w.heap.size, 0, none⟩) (by rfl) (by rfl) (HLD.out w1 hp.1)) ?_; simp only [Act.put, List.setIfInBounds_toArray, List.set_cons_zero, List.set_cons_succ])
    | (apply Up.wpUp_pure
       case hw => rfl
       case hψ => rfl
       case hv => (intro w1 hp; clear hp; go_simp; try (with_reducible rfl))
       simp only [Act.put, List.setIfInBounds_toArray, List.set_cons_zero, List.set_cons_succ])
    | (apply Up.wpUp_pure
       case hw => rfl
       case hψ => rfl
       case hv => (intro w1 hp; have hq3 := HCN.out _ _ _ (hp.2 5 _ _ rfl rfl rfl); clear hp; go_simp; try (with_reducible rfl))
       simp only [Act.put, List.setIfInBounds_toArray, List.set_cons_zero, List.set_cons_succ]))
  refine Up.wpUp_call _ 11 #[.agg p.vs.toArray] (by rfl) (by rfl) (fun w1 => by go_simp) (fun w1 hp => calls_isV (HM1.out w1)) ?_
  rintro v ⟨u, _, hf⟩
  obtain rfl := hf 11 v _ rfl rfl
  clear hf
  simp only [Act.put, List.setIfInBounds_toArray, List.set_cons_zero, List.set_cons_succ]
  repeat (first
    | (refine Up.wpUp_pass (by rfl) ?_; simp only [Act.put, List.setIfInBounds_toArray, List.set_cons_zero, List.set_cons_succ])
    | (refine Up.wpUp_pure (.agg p.vs.toArray) (by rfl) (by rfl) (fun w1 hp => exec_load (t := 26) (x := .tmp 1) (p := ⟨w.heap.size, 0, none⟩) (by rfl) (by rfl) (HLD.out w1 hp.1)) ?_; simp only [Act.put, List.setIfInBounds_toArray, List.set_cons_zero, List.set_cons_succ])
    | (apply Up.wpUp_pure
       case hw => rfl
       case hψ => rfl
       case hv => (intro w1 hp; clear hp; go_simp; try (with_reducible rfl))
       simp only [Act.put, List.setIfInBounds_toArray, List.set_cons_zero, List.set_cons_succ]))
  refine Up.wpUp_call _ 12 #[.agg p.vs.toArray] (by rfl) (by rfl) (fun w1 => by go_simp) (fun w1 hp => calls_isV (HM2.out w1)) ?_
  rintro v ⟨u, _, hf⟩
  obtain rfl := hf 13 v _ rfl rfl
  clear hf
  simp only [Act.put, List.setIfInBounds_toArray, List.set_cons_zero, List.set_cons_succ]
  repeat (first
    | (refine Up.wpUp_pass (by rfl) ?_; simp only [Act.put, List.setIfInBounds_toArray, List.set_cons_zero, List.set_cons_succ])
    | (refine Up.wpUp_pure (.agg p.vs.toArray) (by rfl) (by rfl) (fun w1 hp => exec_load (t := 26) (x := .tmp 1) (p := ⟨w.heap.size, 0, none⟩) (by rfl) (by rfl) (HLD.out w1 hp.1)) ?_; simp only [Act.put, List.setIfInBounds_toArray, List.set_cons_zero, List.set_cons_succ])
    | (apply Up.wpUp_pure
       case hw => rfl
       case hψ => rfl
       case hv => (intro w1 hp; clear hp; go_simp; try (with_reducible rfl))
       simp only [Act.put, List.setIfInBounds_toArray, List.set_cons_zero, List.set_cons_succ]))
  refine Up.wpUp_call _ 13 #[.agg p.vs.toArray] (by rfl) (by rfl) (fun w1 => by go_simp) (fun w1 hp => calls_isV (HH1.out w1)) ?_
  rintro v ⟨u, _, hf⟩
  obtain rfl := hf 18 v _ rfl rfl
  clear hf
  simp only [Act.put, List.setIfInBounds_toArray, List.set_cons_zero, List.set_cons_succ]
  repeat (first
    | (refine Up.wpUp_pass (by rfl) ?_; simp only [Act.put, List.setIfInBounds_toArray, List.set_cons_zero, List.set_cons_succ])
    | (refine Up.wpUp_pure (.agg p.vs.toArray) (by rfl) (by rfl) (fun w1 hp => exec_load (t := 26) (x := .tmp 1) (p := ⟨w.heap.size, 0, none⟩) (by rfl) (by rfl) (HLD.out w1 hp.1)) ?_; simp only [Act.put, List.setIfInBounds_toArray, List.set_cons_zero, List.set_cons_succ])
    | (apply Up.wpUp_pure
       case hw => rfl
       case hψ => rfl
       case hv => (intro w1 hp; clear hp; go_simp; try (with_reducible rfl))
       simp only [Act.put, List.setIfInBounds_toArray, List.set_cons_zero, List.set_cons_succ]))
  refine Up.wpUp_call _ 14 #[.agg p.vs.toArray] (by rfl) (by rfl) (fun w1 => by go_simp) (fun w1 hp => calls_isV (HH2.out w1)) ?_
  rintro v ⟨u, _, hf⟩
  obtain rfl := hf 20 v _ rfl rfl
  clear hf
  simp only [Act.put, List.setIfInBounds_toArray, List.set_cons_zero, List.set_cons_succ]
  repeat (first
    | (refine Up.wpUp_pass (by rfl) ?_; simp only [Act.put, List.setIfInBounds_toArray, List.set_cons_zero, List.set_cons_succ])
    | (refine Up.wpUp_pure (.agg p.vs.toArray) (by rfl) (by rfl) (fun w1 hp => exec_load (t := 26) (x := .tmp 1) (p := ⟨w.heap.size, 0, none⟩) (by rfl) (by rfl) (HLD.out w1 hp.1)) ?_; simp only [Act.put, List.setIfInBounds_toArray, List.set_cons_zero, List.set_cons_succ])
    | (apply Up.wpUp_pure
       case hw => rfl
       case hψ => rfl
       case hv => (intro w1 hp; clear hp; go_simp; try (with_reducible rfl))
       simp only [Act.put, List.setIfInBounds_toArray, List.set_cons_zero, List.set_cons_succ]))
  refine Up.wpUp_call _ 15 #[.agg p.vs.toArray] (by rfl) (by rfl) (fun w1 => by go_simp) (fun w1 hp => calls_isV (HA1.out w1)) ?_
  rintro v ⟨u, _, hf⟩
  obtain rfl := hf 25 v _ rfl rfl
  clear hf
  simp only [Act.put, List.setIfInBounds_toArray, List.set_cons_zero, List.set_cons_succ]
  repeat (first
    | (refine Up.wpUp_pass (by rfl) ?_; simp only [Act.put, List.setIfInBounds_toArray, List.set_cons_zero, List.set_cons_succ])
    | (refine Up.wpUp_pure (.agg p.vs.toArray) (by rfl) (by rfl) (fun w1 hp => exec_load (t := 26) (x := .tmp 1) (p := ⟨w.heap.size, 0, none⟩) (by rfl) (by rfl) (HLD.out w1 hp.1)) ?_; simp only [Act.put, List.setIfInBounds_toArray, List.set_cons_zero, List.set_cons_succ])
    | (apply Up.wpUp_pure
       case hw => rfl
       case hψ => rfl
       case hv => (intro w1 hp; clear hp; go_simp; try (with_reducible rfl))
       simp only [Act.put, List.setIfInBounds_toArray, List.set_cons_zero, List.set_cons_succ]))
  refine Up.wpUp_call _ 16 #[.agg p.vs.toArray] (by rfl) (by rfl) (fun w1 => by go_simp) (fun w1 hp => calls_isV (HA2.out w1)) ?_
  rintro v ⟨u, _, hf⟩
  obtain rfl := hf 27 v _ rfl rfl
  clear hf
  simp only [Act.put, List.setIfInBounds_toArray, List.set_cons_zero, List.set_cons_succ]
  repeat (first
    | (refine Up.wpUp_pass (by rfl) ?_; simp only [Act.put, List.setIfInBounds_toArray, List.set_cons_zero, List.set_cons_succ])
    | (refine Up.wpUp_pure (.agg p.vs.toArray) (by rfl) (by rfl) (fun w1 hp => exec_load (t := 26) (x := .tmp 1) (p := ⟨w.heap.size, 0, none⟩) (by rfl) (by rfl) (HLD.out w1 hp.1)) ?_; simp only [Act.put, List.setIfInBounds_toArray, List.set_cons_zero, List.set_cons_succ])
    | (apply Up.wpUp_pure
       case hw => rfl
       case hψ => rfl
       case hv => (intro w1 hp; clear hp; go_simp; try (with_reducible rfl))
       simp only [Act.put, List.setIfInBounds_toArray, List.set_cons_zero, List.set_cons_succ]))
  refine Up.wpUp_end ?_
  intro w6 hb6 _
  go_wp2
  go_ret
  exact ⟨rfl, hX4.trans (hb6.mono hX4.size)⟩
end Go.Proofs.Ytobfegmkjiggdaa
