/-
  The walk of the law LabelEncode.
-/
import Derived.Test.YteocmmmnfbabaaaDoorLbWDec
namespace Go.Proofs.YteocmmmnfbabaaaDoor
set_option linter.unusedSimpArgs false
set_option linter.unusedVariables false
set_option maxRecDepth 100000
open Go.RowKit

set_option maxHeartbeats 80000000 in
theorem enc_walk (l : Lb) (hl : l.ok) (a : Option Addr) (c : Nat) (w : World) (hB : Bs w a c l.m) (hV : Vars w) :
    Calls Tryd.prog 3 #[.agg (l.vs a c).toArray] w fun e w' => e = .returned (.bool true) ∧ Below w.heap.size w w' := by
  obtain ⟨i0, hi, hz0, hz1, hz2⟩ := info_parts Tryd.info5
  have hvl := Lb.vs_len hl.p a c
  have henc : ∀ u, Bs u a c l.m → Vars u → _ := fun u h1 h2 => lencode_run l hl a c u h1 h2
  have hrenc : ∀ u, Bs u a c l.m → _ := fun u h1 => lrencode_run l hl a c u h1
  have hpl := places_run l.t hl.t
  have hrpl := rplaces_run l.t hl.t
  have hEr := encL_rng hl
  have hEl : (encL l).1.length ≤ 256 := by
    unfold encL
    split
    · rename_i h; rw [Lb.bytes_len hl.p (Lb.may_parts h).2]; omega
    · simp
  have HT : Hid ((l.vs a c)[0]? = some (.int .u32 (l.t : Int))) := Lb.vs_txg l a c
  have HM : Hid ((l.vs a c)[36]? = some (.slice a l.m.length c)) := Lb.vs_map hl.p a c
  obtain ⟨n, hn⟩ : ∃ n, n = l.m.length := ⟨_, rfl⟩
  have HN : Hid (n = l.m.length) := hn
  have hnl : n ≤ 9223372036854775807 := by have h1 := hB.cap; have h2 := hB.capm; unfold maxLen at h2; omega
  obtain ⟨vs, hvs⟩ : ∃ vs, vs = l.vs a c := ⟨_, rfl⟩
  rw [← hvs] at hvl henc hrenc HT HM ⊢
  rw [← hn] at HM
  obtain ⟨xs, hxs⟩ : ∃ xs, xs = (encL l).1 := ⟨_, rfl⟩
  obtain ⟨E, hE⟩ : ∃ E, E = (encL l).2 := ⟨_, rfl⟩
  rw [← hxs, ← hE] at henc hrenc
  rw [← hxs] at hEr hEl
  obtain ⟨pv, hpv⟩ : ∃ pv, pv = placesV l.t := ⟨_, rfl⟩
  have heq2 : ∀ u, (Op.equalIn 10000 34 (.agg pv.toArray) (.agg pv.toArray)).run Tryd.prog u = .ok true u := fun u => by
    rw [hpv]
    unfold placesV
    exact equal_same (P := Tryd.prog) Tryd.underlying34 Tryd.underlying3 (by kernel_rfl) [((plc l.t : Nat) : Int), ((plc l.t + 1 : Nat) : Int)] rfl u
  rw [← hpv] at hpl hrpl
  obtain ⟨X, hX⟩ : ∃ X, X = xs.length := ⟨_, rfl⟩
  rw [← hX] at henc hrenc
  have HX : Hid (X = xs.length) := hX
  have hX256 : X ≤ 256 := by omega
  clear hvs hn hxs hE hpv hX
  by_cases hbig : 300 < n
  · have hd : decide ((300 : Int) < (n : Int)) = true := by simp; omega
    clear heq2 hpl hrpl henc hrenc
    go_enter Tryd.func3, Tryd.ntmps3
    go_wp2_with (first
      | ((with_reducible show wpList _ _ _ (Oper.mk _ (Op.box _ _) _ _ _ _ :: _) _ _); refine wpList_box0 (by rfl) 29 (.tmp 0) (by rfl) vs (by rfl) ?_; intro w1 hL1 hb1 hs1
         have hc36 : w1.cell? ⟨w.heap.size, 36, none⟩ = some (.slice a n c) := (hL1.cell 36).trans HM.out
         have hal := lalive_run w1 (hV.stays hb1))
      | (go_at_call 8; go_must (refine hal.mono ?_); rintro e w2 ⟨rfl, hb2⟩))
    go_ret
    exact ⟨rfl, below_then hb1 hb2⟩
  · have hd : decide ((300 : Int) < (n : Int)) = false := by simp; omega
    have HLEN : Hid (¬ 300 < n) := hbig
    clear hbig
    go_enter Tryd.func3, Tryd.ntmps3
    go_wp2_with (first
      | ((with_reducible show wpList _ _ _ (Oper.mk _ (Op.box _ _) _ _ _ _ :: _) _ _); refine wpList_box0 (by rfl) 29 (.tmp 0) (by rfl) vs (by rfl) ?_; intro w1 hL1 hb1 hs1
         clear hs1
         have hc36 : w1.cell? ⟨w.heap.size, 36, none⟩ = some (.slice a n c) := (hL1.cell 36).trans HM.out
         have hc36' : ∀ o, (w1.alloc o).cell? ⟨w.heap.size, 36, none⟩ = some (.slice a n c) := fun o => ((hL1.alloc o).cell 36).trans HM.out)
      | (at_builtin; (refine wpList_append_bytes (w0 := w1) (by rfl) (.tmp 13) (.tmp 15) 27 (by rfl) w1.heap.size 5 i0 Tryd.underlying27 hi hz0 hz1 hz2 _ [] (by rfl) (World.ownsRow_made w1 #[] 0 (Nat.le_refl _) (by decide) rfl) a n c l.m (by rfl) HN.out ((hB.stays hb1).stays ((Below.refl _ _).alloc (Nat.le_refl _) _)) (by have := HN.out; have := HLEN.out; simp only [List.length_nil]; omega) (by simp) ((Below.refl _ _).alloc (Nat.le_refl _) _) ?_)
         rw [List.nil_append]
         intro v2 w2 hown2 hb2
         obtain ⟨ao, co, rfl, hBo2⟩ := Bs.of_owns hown2 hl.m
         rw [← HN.out]
         have hL2 := hL1.stays hb2
         have hb2' := below_then hb1 hb2
         have he2 := henc w2 (hB.stays hb2') (hV.stays hb2'))
      | ((with_reducible show wpList _ _ _ (Oper.mk _ (Op.load _ _) _ _ _ _ :: _) _ _); refine wpList_load_blk (by rfl) (.tmp 1) 29 (by rfl) _ 0 37 (by rfl) agg_label size_label hL2 _ (whole_load hvl) hvl ?_)
      | (go_at_call 9; go_must (refine he2.mono ?_); rintro e w3 ⟨a3, c3, rfl, hO3, hb3⟩
         have hL3 := hL2.stays hb3
         have hB3 := (Out.bs hO3 hEr).2.1
         have hb3' := below_then hb2' hb3
         have hr3 := hrenc w3 (hB.stays hb3'))
      | ((with_reducible show wpList _ _ _ (Oper.mk _ (Op.load _ _) _ _ _ _ :: _) _ _); refine wpList_load_blk (by rfl) (.tmp 1) 29 (by rfl) _ 0 37 (by rfl) agg_label size_label hL3 _ (whole_load hvl) hvl ?_)
      | (go_at_call 10; go_must (refine hr3.mono ?_); rintro e w4 ⟨a4, c4, rfl, hO4, hb4⟩
         have hL4 := hL3.stays hb4
         have hB4 := (Out.bs hO4 hEr).2.1
         have hb4' := below_then hb3' hb4))
    have hal : ∀ u, Below w4.heap.size w4 u → Calls Tryd.prog 8 #[] u fun e w' => e = .returned (.bool true) ∧ Below u.heap.size u w' := fun u hu => lalive_run u (hV.stays (below_then hb4' hu))
    have HV1 : Hid (∀ u, Below w4.heap.size w4 u → (convert 27 9 (.slice a3 X c3)).run Tryd.prog u = .ok (.string (strOfNums xs)) u) := fun u hu => ((hB3.stays hb4).stays hu).conv (P := Tryd.prog) X HX.out 27 5 Tryd.underlying27 Tryd.underlying5 9 Tryd.underlying9
    have HV2 : Hid (∀ u, Below w4.heap.size w4 u → (convert 27 9 (.slice a4 X c4)).run Tryd.prog u = .ok (.string (strOfNums xs)) u) := fun u hu => (hB4.stays hu).conv (P := Tryd.prog) X HX.out 27 5 Tryd.underlying27 Tryd.underlying5 9 Tryd.underlying9
    have HV3 : Hid (∀ u, Below w4.heap.size w4 u → (convert 27 9 (.slice ao n co)).run Tryd.prog u = .ok (.string (strOfNums l.m)) u) := fun u hu => (((hBo2.stays hb3).stays hb4).stays hu).conv (P := Tryd.prog) n HN.out 27 5 Tryd.underlying27 Tryd.underlying5 9 Tryd.underlying9
    have HV4 : Hid (∀ u, Below w4.heap.size w4 u → (convert 27 9 (.slice a n c)).run Tryd.prog u = .ok (.string (strOfNums l.m)) u) := fun u hu => (hB.stays (below_then hb4' hu)).conv (P := Tryd.prog) n HN.out 27 5 Tryd.underlying27 Tryd.underlying5 9 Tryd.underlying9
    have HC0 : Hid (∀ u, Below w4.heap.size w4 u → u.cell? ⟨w.heap.size, 0, none⟩ = some (.int .u32 (l.t : Int))) := fun u hu => ((hL4.stays hu).cell 0).trans HT.out
    have HC36 : Hid (∀ u, Below w4.heap.size w4 u → u.cell? ⟨w.heap.size, 36, none⟩ = some (.slice a n c)) := fun u hu => ((hL4.stays hu).cell 36).trans HM.out
    have HEQ : Hid (∀ u, Below w4.heap.size w4 u → (Op.equalIn 10000 34 (.agg pv.toArray) (.agg pv.toArray)).run Tryd.prog u = .ok true u) := fun u _ => heq2 u
    clear hL1 hL2 hL3 hL4 hc36 hc36' he2 hr3 hO3 hO4 hB3 hB4 hown2 heq2
    refine UpT.wp_region_tail 30 (UpT.tell [(0, isV (.bool true)), (16, isV (.agg pv.toArray)), (19, isV (.agg pv.toArray))]) (fun _ => false) (by kernel_rfl) (by kernel_rfl) (UpT.tell_steady _ (by
      intro p hp
      simp only [List.mem_cons, List.not_mem_nil, or_false] at hp
      rcases hp with rfl | rfl | rfl <;> first | exact isV_steady _ | exact slB_steady _ _)) ?_
    simp only [List.take_succ_cons, List.take_zero]
    refine UpT.wpUp_call _ 8 #[] (by rfl) (by rfl) (by rfl) (fun wz => by go_simp) (fun wz hp => calls_isV (hal wz hp.1)) ?_
    rintro v ⟨u, _, hf⟩
    obtain rfl := hf.of 0 v _ rfl rfl
    clear hf
    simp only [Act.put, List.setIfInBounds_toArray, List.set_cons_zero, List.set_cons_succ]
    apply UpT.wpUp_pure
    case hw => rfl
    case hψ => rfl
    case hv => (intro wz hp; clear hp; go_simp; try (with_reducible rfl))
    simp only [Act.put, List.setIfInBounds_toArray, List.set_cons_zero, List.set_cons_succ]
    apply UpT.wpUp_pure
    case hw => rfl
    case hψ => rfl
    case hv => (intro wz hp; clear hp; go_simp; try (with_reducible rfl))
    simp only [Act.put, List.setIfInBounds_toArray, List.set_cons_zero, List.set_cons_succ]
    apply UpT.wpUp_pure
    case hw => rfl
    case hψ => rfl
    case hv => (intro wz hp; have hcc := HV1.out wz hp.1; clear hp; go_simp; try (with_reducible rfl))
    simp only [Act.put, List.setIfInBounds_toArray, List.set_cons_zero, List.set_cons_succ]
    apply UpT.wpUp_pure
    case hw => rfl
    case hψ => rfl
    case hv => (intro wz hp; clear hp; go_simp; try (with_reducible rfl))
    simp only [Act.put, List.setIfInBounds_toArray, List.set_cons_zero, List.set_cons_succ]
    apply UpT.wpUp_pure
    case hw => rfl
    case hψ => rfl
    case hv => (intro wz hp; have hcc := HV2.out wz hp.1; clear hp; go_simp; try (with_reducible rfl))
    simp only [Act.put, List.setIfInBounds_toArray, List.set_cons_zero, List.set_cons_succ]
    apply UpT.wpUp_pure
    case hw => rfl
    case hψ => rfl
    case hv => (intro wz hp; clear hp; go_simp; try (with_reducible rfl))
    simp only [Act.put, List.setIfInBounds_toArray, List.set_cons_zero, List.set_cons_succ]
    apply UpT.wpUp_pure
    case hw => rfl
    case hψ => rfl
    case hv => (intro wz hp; clear hp; go_simp; try (with_reducible rfl))
    simp only [Act.put, List.setIfInBounds_toArray, List.set_cons_zero, List.set_cons_succ]
    apply UpT.wpUp_pure
    case hw => rfl
    case hψ => rfl
    case hv => (intro wz hp; clear hp; go_simp; try (with_reducible rfl))
    simp only [Act.put, List.setIfInBounds_toArray, List.set_cons_zero, List.set_cons_succ]
    apply UpT.wpUp_pure
    case hw => rfl
    case hψ => rfl
    case hv => (intro wz hp; clear hp; go_simp; try (with_reducible rfl))
    simp only [Act.put, List.setIfInBounds_toArray, List.set_cons_zero, List.set_cons_succ]
    apply UpT.wpUp_pure
    case hw => rfl
    case hψ => rfl
    case hv => (intro wz hp; clear hp; go_simp; try (with_reducible rfl))
    simp only [Act.put, List.setIfInBounds_toArray, List.set_cons_zero, List.set_cons_succ]
    apply UpT.wpUp_pure
    case hw => rfl
    case hψ => rfl
    case hv => (intro wz hp; clear hp; go_simp; try (with_reducible rfl))
    simp only [Act.put, List.setIfInBounds_toArray, List.set_cons_zero, List.set_cons_succ]
    apply UpT.wpUp_pure
    case hw => rfl
    case hψ => rfl
    case hv => (intro wz hp; clear hp; go_simp; try (with_reducible rfl))
    simp only [Act.put, List.setIfInBounds_toArray, List.set_cons_zero, List.set_cons_succ]
    apply UpT.wpUp_pure
    case hw => rfl
    case hψ => rfl
    case hv => (intro wz hp; clear hp; go_simp; try (with_reducible rfl))
    simp only [Act.put, List.setIfInBounds_toArray, List.set_cons_zero, List.set_cons_succ]
    apply UpT.wpUp_pure
    case hw => rfl
    case hψ => rfl
    case hv => (intro wz hp; clear hp; go_simp; try (with_reducible rfl))
    simp only [Act.put, List.setIfInBounds_toArray, List.set_cons_zero, List.set_cons_succ]
    apply UpT.wpUp_pure
    case hw => rfl
    case hψ => rfl
    case hv => (intro wz hp; have hcc := HC0.out wz hp.1; clear hp; go_simp; try (with_reducible rfl))
    simp only [Act.put, List.setIfInBounds_toArray, List.set_cons_zero, List.set_cons_succ]
    refine UpT.wpUp_call _ 11 #[.int .u32 (l.t : Int)] (by rfl) (by rfl) (by rfl) (fun wz => by go_simp) (fun wz hp => calls_isV (hpl wz)) ?_
    rintro v ⟨u, _, hf⟩
    obtain rfl := hf.of 16 v _ rfl rfl
    clear hf
    simp only [Act.put, List.setIfInBounds_toArray, List.set_cons_zero, List.set_cons_succ]
    apply UpT.wpUp_pure
    case hw => rfl
    case hψ => rfl
    case hv => (intro wz hp; clear hp; go_simp; try (with_reducible rfl))
    simp only [Act.put, List.setIfInBounds_toArray, List.set_cons_zero, List.set_cons_succ]
    apply UpT.wpUp_pure
    case hw => rfl
    case hψ => rfl
    case hv => (intro wz hp; have hcc := HC0.out wz hp.1; clear hp; go_simp; try (with_reducible rfl))
    simp only [Act.put, List.setIfInBounds_toArray, List.set_cons_zero, List.set_cons_succ]
    refine UpT.wpUp_call _ 12 #[.int .u32 (l.t : Int)] (by rfl) (by rfl) (by rfl) (fun wz => by go_simp) (fun wz hp => calls_isV (hrpl wz)) ?_
    rintro v ⟨u, _, hf⟩
    obtain rfl := hf.of 19 v _ rfl rfl
    clear hf
    simp only [Act.put, List.setIfInBounds_toArray, List.set_cons_zero, List.set_cons_succ]
    apply UpT.wpUp_pure
    case hw => rfl
    case hψ => rfl
    case hv => (intro wz hp; have hcc := HEQ.out wz hp.1; clear hp; go_simp; try (with_reducible rfl))
    simp only [Act.put, List.setIfInBounds_toArray, List.set_cons_zero, List.set_cons_succ]
    apply UpT.wpUp_pure
    case hw => rfl
    case hψ => rfl
    case hv => (intro wz hp; clear hp; go_simp; try (with_reducible rfl))
    simp only [Act.put, List.setIfInBounds_toArray, List.set_cons_zero, List.set_cons_succ]
    apply UpT.wpUp_pure
    case hw => rfl
    case hψ => rfl
    case hv => (intro wz hp; clear hp; go_simp; try (with_reducible rfl))
    simp only [Act.put, List.setIfInBounds_toArray, List.set_cons_zero, List.set_cons_succ]
    apply UpT.wpUp_pure
    case hw => rfl
    case hψ => rfl
    case hv => (intro wz hp; clear hp; go_simp; try (with_reducible rfl))
    simp only [Act.put, List.setIfInBounds_toArray, List.set_cons_zero, List.set_cons_succ]
    apply UpT.wpUp_pure
    case hw => rfl
    case hψ => rfl
    case hv => (intro wz hp; have hcc := HV3.out wz hp.1; clear hp; go_simp; try (with_reducible rfl))
    simp only [Act.put, List.setIfInBounds_toArray, List.set_cons_zero, List.set_cons_succ]
    apply UpT.wpUp_pure
    case hw => rfl
    case hψ => rfl
    case hv => (intro wz hp; clear hp; go_simp; try (with_reducible rfl))
    simp only [Act.put, List.setIfInBounds_toArray, List.set_cons_zero, List.set_cons_succ]
    apply UpT.wpUp_pure
    case hw => rfl
    case hψ => rfl
    case hv => (intro wz hp; have hcc := HC36.out wz hp.1; clear hp; go_simp; try (with_reducible rfl))
    simp only [Act.put, List.setIfInBounds_toArray, List.set_cons_zero, List.set_cons_succ]
    apply UpT.wpUp_pure
    case hw => rfl
    case hψ => rfl
    case hv => (intro wz hp; have hcc := HV4.out wz hp.1; clear hp; go_simp; try (with_reducible rfl))
    simp only [Act.put, List.setIfInBounds_toArray, List.set_cons_zero, List.set_cons_succ]
    apply UpT.wpUp_pure
    case hw => rfl
    case hψ => rfl
    case hv => (intro wz hp; clear hp; go_simp; try (with_reducible rfl))
    simp only [Act.put, List.setIfInBounds_toArray, List.set_cons_zero, List.set_cons_succ]
    apply UpT.wpUp_pure
    case hw => rfl
    case hψ => rfl
    case hv => (intro wz hp; clear hp; go_simp; try (with_reducible rfl))
    simp only [Act.put, List.setIfInBounds_toArray, List.set_cons_zero, List.set_cons_succ]
    refine UpT.wpUp_end ?_
    intro w5 hb5 hf
    clear hf
    simp only [List.drop_succ_cons, List.drop_zero]
    go_wp2
    go_ret
    exact ⟨by simp, below_then hb4' hb5⟩

end Go.Proofs.YteocmmmnfbabaaaDoor
