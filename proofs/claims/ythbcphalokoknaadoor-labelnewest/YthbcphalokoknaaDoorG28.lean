/-
  The walk of the law LabelEncode.
-/
import Derived.Test.YthbcphalokoknaaDoorG27
import Derived.Test.YthbcphalokoknaaDoorG21
namespace Go.Proofs.YthbcphalokoknaaDoor
set_option linter.unusedSimpArgs false
set_option linter.unusedVariables false
set_option maxRecDepth 100000
open Go.RowKit

set_option maxHeartbeats 80000000 in
theorem enc_walk (l : Lb) (hl : l.ok) (a : Option Addr) (c : Nat) (w : World) (hB : Bs w a c l.m) (hV : Vars w) :
    Calls Tryd.prog 3 #[.agg (l.vs a c).toArray] w fun e w' => e = .returned (.bool true) ∧ Below w.heap.size w w' := by
  obtain ⟨i0, hi, hz0, hz1, hz2⟩ := info_parts Tryd.info5
  have hvl := Lb.vs_len hl.p a c
  have henc : ∀ u, Bs u a c l.m → Vars u → _ := fun u h1 h2 => lencode_run l hl a c u h1 h2
  have hrenc : ∀ u, Bs u a c l.m → _ := fun u h1 => lrencode_run l hl a c u h1
  have hpl := places_run l.t hl.t
  have hrpl := rplaces_run l.t hl.t
  have hEr := encL_rng hl
  have hEl : (encL l).1.length ≤ 256 := by
    unfold encL
    split
    · rename_i h; rw [Lb.bytes_len hl.p (Lb.may_parts h).2]; omega
    · simp
  have HT : Hid ((l.vs a c)[0]? = some (.int .u32 (l.t : Int))) := Lb.vs_txg l a c
  have HM : Hid ((l.vs a c)[36]? = some (.slice a l.m.length c)) := Lb.vs_map hl.p a c
  obtain ⟨n, hn⟩ : ∃ n, n = l.m.length := ⟨_, rfl⟩
  have HN : Hid (n = l.m.length) := hn
  have hnl : n ≤ 9223372036854775807 := by have h1 := hB.cap; have h2 := hB.capm; unfold maxLen at h2; omega
  obtain ⟨vs, hvs⟩ : ∃ vs, vs = l.vs a c := ⟨_, rfl⟩
  rw [← hvs] at hvl henc hrenc HT HM ⊢
  rw [← hn] at HM
  obtain ⟨xs, hxs⟩ : ∃ xs, xs = (encL l).1 := ⟨_, rfl⟩
  obtain ⟨E, hE⟩ : ∃ E, E = (encL l).2 := ⟨_, rfl⟩
  rw [← hxs, ← hE] at henc hrenc
  rw [← hxs] at hEr hEl
  obtain ⟨pv, hpv⟩ : ∃ pv, pv = placesV l.t := ⟨_, rfl⟩
  have heq2 : ∀ u, (Op.equalIn 10000 34 (.agg pv.toArray) (.agg pv.toArray)).run Tryd.prog u = .ok true u := fun u => by
    rw [hpv]
    unfold placesV
    exact equal_same (P := Tryd.prog) Tryd.underlying34 Tryd.underlying3 (by kernel_rfl) [((plc l.t : Nat) : Int), ((plc l.t + 1 : Nat) : Int)] rfl u
  rw [← hpv] at hpl hrpl
  obtain ⟨X, hX⟩ : ∃ X, X = xs.length := ⟨_, rfl⟩
  rw [← hX] at henc hrenc
  have HX : Hid (X = xs.length) := hX
  have hX256 : X ≤ 256 := by omega
  clear hvs hn hxs hE hpv hX
  by_cases hbig : 300 < n
  · have hd : decide ((300 : Int) < (n : Int)) = true := by simp; omega
    clear heq2 hpl hrpl henc hrenc
    go_enter Tryd.func3, Tryd.ntmps3
    go_wp2_with (first
      | ((with_reducible show wpList _ _ _ (Oper.mk _ (Op.box _ _) _ _ _ _ :: _) _ _); refine wpList_box0 (by rfl) 29 (.tmp 0) (by rfl) vs (by rfl) ?_; intro w1 hL1 hb1 hs1
         have hc36 : w1.cell? ⟨w.heap.size, 36, none⟩ = some (.slice a n c) := (hL1.cell 36).trans HM.out
         have hal := lalive_run w1 (hV.stays hb1))
      | (go_at_call 8; go_must (refine hal.mono ?_); rintro e w2 ⟨rfl, hb2⟩))
    go_ret
    exact ⟨rfl, below_then hb1 hb2⟩
  · have hd : decide ((300 : Int) < (n : Int)) = false := by simp; omega
    have HLEN : Hid (¬ 300 < n) := hbig
    clear hbig
    go_enter Tryd.func3, Tryd.ntmps3
    go_wp2_with (first
      | ((with_reducible show wpList _ _ _ (Oper.mk _ (Op.box _ _) _ _ _ _ :: _) _ _); refine wpList_box0 (by rfl) 29 (.tmp 0) (by rfl) vs (by rfl) ?_; intro w1 hL1 hb1 hs1
         clear hs1
         have hc36 : w1.cell? ⟨w.heap.size, 36, none⟩ = some (.slice a n c) := (hL1.cell 36).trans HM.out
         have hc36' : ∀ o, (w1.alloc o).cell? ⟨w.heap.size, 36, none⟩ = some (.slice a n c) := fun o => ((hL1.alloc o).cell 36).trans HM.out)
      | (at_builtin; (refine wpList_append_bytes (w0 := w1) (by rfl) (.tmp 13) (.tmp 15) 27 (by rfl) w1.heap.size 5 i0 Tryd.underlying27 hi hz0 hz1 hz2 _ [] (by rfl) (World.ownsRow_made w1 #[] 0 (Nat.le_refl _) (by decide) rfl) a n c l.m (by rfl) HN.out ((hB.stays hb1).stays ((Below.refl _ _).alloc (Nat.le_refl _) _)) (by have := HN.out; have := HLEN.out; simp only [List.length_nil]; omega) (by simp) ((Below.refl _ _).alloc (Nat.le_refl _) _) ?_)
         rw [List.nil_append]
         intro v2 w2 hown2 hb2
         obtain ⟨ao, co, rfl, hBo2⟩ := Bs.of_owns hown2 hl.m
         rw [← HN.out]
         have hL2 := hL1.stays hb2
         have hb2' := below_then hb1 hb2
         have he2 := henc w2 (hB.stays hb2') (hV.stays hb2'))
      | ((with_reducible show wpList _ _ _ (Oper.mk _ (Op.load _ _) _ _ _ _ :: _) _ _); refine wpList_load_blk (by rfl) (.tmp 1) 29 (by rfl) _ 0 37 (by rfl) agg_label size_label hL2 _ (whole_load hvl) hvl ?_)
      | (go_at_call 9; go_must (refine he2.mono ?_); rintro e w3 ⟨a3, c3, rfl, hO3, hb3⟩
         have hL3 := hL2.stays hb3
         have hB3 := (Out.bs hO3 hEr).2.1
         have hb3' := below_then hb2' hb3
         have hr3 := hrenc w3 (hB.stays hb3'))
      | ((with_reducible show wpList _ _ _ (Oper.mk _ (Op.load _ _) _ _ _ _ :: _) _ _); refine wpList_load_blk (by rfl) (.tmp 1) 29 (by rfl) _ 0 37 (by rfl) agg_label size_label hL3 _ (whole_load hvl) hvl ?_)
      | (go_at_call 10; go_must (refine hr3.mono ?_); rintro e w4 ⟨a4, c4, rfl, hO4, hb4⟩
         have hL4 := hL3.stays hb4
         have hB4 := (Out.bs hO4 hEr).2.1
         have hb4' := below_then hb3' hb4))
    have hal : ∀ u, Below w4.heap.size w4 u → Calls Tryd.prog 8 #[] u fun e w' => e = .returned (.bool true) ∧ Below u.heap.size u w' := fun u hu => lalive_run u (hV.stays (below_then hb4' hu))
    have HV1 : Hid (∀ u, Below w4.heap.size w4 u → (convert 27 9 (.slice a3 X c3)).run Tryd.prog u = .ok (.string (strOfNums xs)) u) := fun u hu => ((hB3.stays hb4).stays hu).conv (P := Tryd.prog) X HX.out 27 5 Tryd.underlying27 Tryd.underlying5 9 Tryd.underlying9
    have HV2 : Hid (∀ u, Below w4.heap.size w4 u → (convert 27 9 (.slice a4 X c4)).run Tryd.prog u = .ok (.string (strOfNums xs)) u) := fun u hu => (hB4.stays hu).conv (P := Tryd.prog) X HX.out 27 5 Tryd.underlying27 Tryd.underlying5 9 Tryd.underlying9
    have HV3 : Hid (∀ u, Below w4.heap.size w4 u → (convert 27 9 (.slice ao n co)).run Tryd.prog u = .ok (.string (strOfNums l.m)) u) := fun u hu => (((hBo2.stays hb3).stays hb4).stays hu).conv (P := Tryd.prog) n HN.out 27 5 Tryd.underlying27 Tryd.underlying5 9 Tryd.underlying9
    have HV4 : Hid (∀ u, Below w4.heap.size w4 u → (convert 27 9 (.slice a n c)).run Tryd.prog u = .ok (.string (strOfNums l.m)) u) := fun u hu => (hB.stays (below_then hb4' hu)).conv (P := Tryd.prog) n HN.out 27 5 Tryd.underlying27 Tryd.underlying5 9 Tryd.underlying9
    have HC0 : Hid (∀ u, Below w4.heap.size w4 u → u.cell? ⟨w.heap.size, 0, none⟩ = some (.int .u32 (l.t : Int))) := fun u hu => ((hL4.stays hu).cell 0).trans HT.out
    have HC36 : Hid (∀ u, Below w4.heap.size w4 u → u.cell? ⟨w.heap.size, 36, none⟩ = some (.slice a n c)) := fun u hu => ((hL4.stays hu).cell 36).trans HM.out
    have HEQ : Hid (∀ u, Below w4.heap.size w4 u → (Op.equalIn 10000 34 (.agg pv.toArray) (.agg pv.toArray)).run Tryd.prog u = .ok true u) := fun u _ => heq2 u
    clear hL1 hL2 hL3 hL4 hc36 hc36' he2 hr3 hO3 hO4 hB3 hB4 hown2 heq2
    refine UpT.wp_region_tail 30 (UpT.tell [(0, isV (.bool true)), (16, isV (.agg pv.toArray)), (19, isV (.agg pv.toArray))]) (fun _ => false) (by kernel_rfl) (by kernel_rfl) (UpT.tell_steady _ (by
      intro p hp
      simp only [List.mem_cons, List.not_mem_nil, or_false] at hp
      rcases hp with rfl | rfl | rfl <;> first | exact isV_steady _ | exact slB_steady _ _)) ?_
    simp only [List.take_succ_cons, List.take_zero]
    refine UpT.wpUp_call _ 8 #[] (by rfl) (by rfl) (by rfl) (fun wz => by go_simp) (fun wz hp => calls_isV (hal wz hp.1)) ?_
    rintro v ⟨u, _, hf⟩
    obtain rfl := hf.of 0 v _ rfl rfl
    clear hf
    simp only [Act.put, List.setIfInBounds_toArray, List.set_cons_zero, List.set_cons_succ]
    apply UpT.wpUp_pure
    case hw => rfl
    case hψ => rfl
    case hv => (intro wz hp; clear hp; go_simp; try (with_reducible rfl))
    simp only [Act.put, List.setIfInBounds_toArray, List.set_cons_zero, List.set_cons_succ]
    apply UpT.wpUp_pure
    case hw => rfl
    case hψ => rfl
    case hv => (intro wz hp; clear hp; go_simp; try (with_reducible rfl))
    simp only [Act.put, List.setIfInBounds_toArray, List.set_cons_zero, List.set_cons_succ]
    apply UpT.wpUp_pure
    case hw => rfl
    case hψ => rfl
    case hv => (intro wz hp; have hcc := HV1.out wz hp.1; clear hp; go_simp; try (with_reducible rfl))
    simp only [Act.put, List.setIfInBounds_toArray, List.set_cons_zero, List.set_cons_succ]
    apply UpT.wpUp_pure
    case hw => rfl
    case hψ => rfl
    case hv => (intro wz hp; clear hp; go_simp; try (with_reducible rfl))
    simp only [Act.put, List.setIfInBounds_toArray, List.set_cons_zero, List.set_cons_succ]
    apply UpT.wpUp_pure
    case hw => rfl
    case hψ => rfl
    case hv => (intro wz hp; have hcc := HV2.out wz hp.1; clear hp; go_simp; try (with_reducible rfl))
    simp only [Act.put, List.setIfInBounds_toArray, List.set_cons_zero, List.set_cons_succ]
    apply UpT.wpUp_pure
    case hw => rfl
    case hψ => rfl
    case hv => (intro wz hp; clear hp; go_simp; try (with_reducible rfl))
    simp only [Act.put, List.setIfInBounds_toArray, List.set_cons_zero, List.set_cons_succ]
    apply UpT.wpUp_pure
    case hw => rfl
    case hψ => rfl
    case hv => (intro wz hp; clear hp; go_simp; try (with_reducible rfl))
    simp only [Act.put, List.setIfInBounds_toArray, List.set_cons_zero, List.set_cons_succ]
    apply UpT.wpUp_pure
    case hw => rfl
    case hψ => rfl
    case hv => (intro wz hp; clear hp; go_simp; try (with_reducible rfl))
    simp only [Act.put, List.setIfInBounds_toArray, List.set_cons_zero, List.set_cons_succ]
    apply UpT.wpUp_pure
    case hw => rfl
    case hψ => rfl
    case hv => (intro wz hp; clear hp; go_simp; try (with_reducible rfl))
    simp only [Act.put, List.setIfInBounds_toArray, List.set_cons_zero, List.set_cons_succ]
    apply UpT.wpUp_pure
    case hw => rfl
    case hψ => rfl
    case hv => (intro wz hp; clear hp; go_simp; try (with_reducible rfl))
    simp only [Act.put, List.setIfInBounds_toArray, List.set_cons_zero, List.set_cons_succ]
    apply UpT.wpUp_pure
    case hw => rfl
    case hψ => rfl
    case hv => (intro wz hp; clear hp; go_simp; try (with_reducible rfl))
    simp only [Act.put, List.setIfInBounds_toArray, List.set_cons_zero, List.set_cons_succ]
    apply UpT.wpUp_pure
    case hw => rfl
    case hψ => rfl
    case hv => (intro wz hp; clear hp; go_simp; try (with_reducible rfl))
    simp only [Act.put, List.setIfInBounds_toArray, List.set_cons_zero, List.set_cons_succ]
    apply UpT.wpUp_pure
    case hw => rfl
    case hψ => rfl
    case hv => (intro wz hp; clear hp; go_simp; try (with_reducible rfl))
    simp only [Act.put, List.setIfInBounds_toArray, List.set_cons_zero, List.set_cons_succ]
    apply UpT.wpUp_pure
    case hw => rfl
    case hψ => rfl
    case hv => (intro wz hp; clear hp; go_simp; try (with_reducible rfl))
    simp only [Act.put, List.setIfInBounds_toArray, List.set_cons_zero, List.set_cons_succ]
    apply UpT.wpUp_pure
    case hw => rfl
    case hψ => rfl
    case hv => (intro wz hp; have hcc := HC0.out wz hp.1; clear hp; go_simp; try (with_reducible rfl))
    simp only [Act.put, List.setIfInBounds_toArray, List.set_cons_zero, List.set_cons_succ]
    refine UpT.wpUp_call _ 11 #[.int .u32 (l.t : Int)] (by rfl) (by rfl) (by rfl) (fun wz => by go_simp) (fun wz hp => calls_isV (hpl wz)) ?_
    rintro v ⟨u, _, hf⟩
    obtain rfl := hf.of 16 v _ rfl rfl
    clear hf
    simp only [Act.put, List.setIfInBounds_toArray, List.set_cons_zero, List.set_cons_succ]
    apply UpT.wpUp_pure
    case hw => rfl
    case hψ => rfl
    case hv => (intro wz hp; clear hp; go_simp; try (with_reducible rfl))
    simp only [Act.put, List.setIfInBounds_toArray, List.set_cons_zero, List.set_cons_succ]
    apply UpT.wpUp_pure
    case hw => rfl
    case hψ => rfl
    case hv => (intro wz hp; have hcc := HC0.out wz hp.1; clear hp; go_simp; try (with_reducible rfl))
    simp only [Act.put, List.setIfInBounds_toArray, List.set_cons_zero, List.set_cons_succ]
    refine UpT.wpUp_call _ 12 #[.int .u32 (l.t : Int)] (by rfl) (by rfl) (by rfl) (fun wz => by go_simp) (fun wz hp => calls_isV (hrpl wz)) ?_
    rintro v ⟨u, _, hf⟩
    obtain rfl := hf.of 19 v _ rfl rfl
    clear hf
    simp only [Act.put, List.setIfInBounds_toArray, List.set_cons_zero, List.set_cons_succ]
    apply UpT.wpUp_pure
    case hw => rfl
    case hψ => rfl
    case hv => (intro wz hp; have hcc := HEQ.out wz hp.1; clear hp; go_simp; try (with_reducible rfl))
    simp only [Act.put, List.setIfInBounds_toArray, List.set_cons_zero, List.set_cons_succ]
    apply UpT.wpUp_pure
    case hw => rfl
    case hψ => rfl
    case hv => (intro wz hp; clear hp; go_simp; try (with_reducible rfl))
    simp only [Act.put, List.setIfInBounds_toArray, List.set_cons_zero, List.set_cons_succ]
    apply UpT.wpUp_pure
    case hw => rfl
    case hψ => rfl
    case hv => (intro wz hp; clear hp; go_simp; try (with_reducible rfl))
    simp only [Act.put, List.setIfInBounds_toArray, List.set_cons_zero, List.set_cons_succ]
    apply UpT.wpUp_pure
    case hw => rfl
    case hψ => rfl
    case hv => (intro wz hp; clear hp; go_simp; try (with_reducible rfl))
    simp only [Act.put, List.setIfInBounds_toArray, List.set_cons_zero, List.set_cons_succ]
    apply UpT.wpUp_pure
    case hw => rfl
    case hψ => rfl
    case hv => (intro wz hp; have hcc := HV3.out wz hp.1; clear hp; go_simp; try (with_reducible rfl))
    simp only [Act.put, List.setIfInBounds_toArray, List.set_cons_zero, List.set_cons_succ]
    apply UpT.wpUp_pure
    case hw => rfl
    case hψ => rfl
    case hv => (intro wz hp; clear hp; go_simp; try (with_reducible rfl))
    simp only [Act.put, List.setIfInBounds_toArray, List.set_cons_zero, List.set_cons_succ]
    apply UpT.wpUp_pure
    case hw => rfl
    case hψ => rfl
    case hv => (intro wz hp; have hcc := HC36.out wz hp.1; clear hp; go_simp; try (with_reducible rfl))
    simp only [Act.put, List.setIfInBounds_toArray, List.set_cons_zero, List.set_cons_succ]
    apply UpT.wpUp_pure
    case hw => rfl
    case hψ => rfl
    case hv => (intro wz hp; have hcc := HV4.out wz hp.1; clear hp; go_simp; try (with_reducible rfl))
    simp only [Act.put, List.setIfInBounds_toArray, List.set_cons_zero, List.set_cons_succ]
    apply UpT.wpUp_pure
    case hw => rfl
    case hψ => rfl
    case hv => (intro wz hp; clear hp; go_simp; try (with_reducible rfl))
    simp only [Act.put, List.setIfInBounds_toArray, List.set_cons_zero, List.set_cons_succ]
    apply UpT.wpUp_pure
    case hw => rfl
    case hψ => rfl
    case hv => (intro wz hp; clear hp; go_simp; try (with_reducible rfl))
    simp only [Act.put, List.setIfInBounds_toArray, List.set_cons_zero, List.set_cons_succ]
    refine UpT.wpUp_end ?_
    intro w5 hb5 hf
    clear hf
    simp only [List.drop_succ_cons, List.drop_zero]
    go_wp2
    go_ret
    exact ⟨by simp, below_then hb4' hb5⟩

end Go.Proofs.YthbcphalokoknaaDoor

/-
  The document's Read: its bytes are new.
-/

namespace Go.Proofs.YthbcphalokoknaaDoor
set_option linter.unusedSimpArgs false
set_option linter.unusedVariables false
open Go.RowKit

section
variable {G : Nat → Prop} {S : DS} {sa : Option Addr} {sc : Nat} {wa : Option Addr} {wc n : Nat}

set_option maxRecDepth 100000 in
set_option maxHeartbeats 600000 in
theorem rread_go_new (s : Nat) (sn wn : Nat) (HSN : Hid (sn = n)) (HWN : Hid (wn = S.ws.length)) (fused : Bool) (left : Nat) (w : World) (hok : S.Ok n) (hsn : s < n) (hs : SsAt w G sa (secStrs S.laid n)) (hW : WsAt w G wa wc S.ws) (hlen : S.ws.length ≤ 900000) :
    Calls Tryd.prog 60 #[.agg #[.slice sa sn sc, .slice wa wn wc, .bool fused, .int .i64 (left : Int), .bool false], .int .i64 (s : Int)] w fun e w' =>
      ∃ a c, e = .returned (.tuple #[.slice a 256 c, .int .i64 0]) ∧ (Bs w' a c (readW S.laid S.ws s) ∧ ∀ x, a = some x → w.heap.size ≤ x.block) ∧ Below w.heap.size w w' := by
  have h1' : ¬ ((s : Int) < 0) := by omega
  have hsn2 := HSN.out
  have hwn2 := HWN.out
  have h2' : ¬ ((sn : Int) ≤ (s : Int)) := by omega
  have h2'' : (s : Int) < (sn : Int) := by omega
  have hX : Blk 48 (w.alloc (.cells #[.slice sa sn sc, .slice wa wn wc, .bool fused, .int .i64 (left : Int), .bool false] 48)) w.heap.size [.slice sa sn sc, .slice wa wn wc, .bool fused, .int .i64 (left : Int), .bool false] := Blk.newAt rfl rfl
  obtain ⟨W, hWe⟩ : ∃ W, W = w.alloc (.cells #[.slice sa sn sc, .slice wa wn wc, .bool fused, .int .i64 (left : Int), .bool false] 48) := ⟨_, rfl⟩
  have hbW : Below w.heap.size w W := by rw [hWe]; exact (Below.refl _ _).alloc (Nat.le_refl _) _
  rw [← hWe] at hX
  obtain ⟨z0, z1, z2, z3, z4⟩ := box_cells hX
  obtain ⟨sb, so, rfl, _, hcs⟩ := hs.keep (w' := W) (G' := G) (by rw [secStrs_length]; omega) (fun k hg hl => ⟨hbW.block k hl, hg⟩)
  have hc := hcs s (by rw [secStrs_length]; exact hsn)
  have hgd : (secStrs S.laid n).getD s .empty = strOfNums (readW S.laid (S.ws.take 0) s) := by
    simp [secStrs, List.getD, hsn, readW]
  rw [hgd] at hc
  have HWE : Hid (W = _) := hWe
  have hWW := hW.keep (w' := W) (G' := G) (fun k hg hl => ⟨hbW.block k hl, hg⟩)
  have hall : ∀ k, k ≤ S.ws.length → (readW S.laid (S.ws.take k) s).length = 256 ∧ ∀ x ∈ readW S.laid (S.ws.take k) s, 0 ≤ x ∧ x ≤ 255 := fun k hk =>
    readW_ok (S := { S with ws := S.ws.take k }) (n := n) ⟨hok.len, hok.lo, hok.hi, hok.rng, fun q hq => hok.ws q (List.mem_of_mem_take hq), hok.left⟩ hsn
  clear hWe hcs hgd hsn2 hwn2
  rw [HWE.out] at z0 z1 z2 z3 z4 hc
  go_enter Tryd.func60, Tryd.ntmps60
  go_wp2
  go_loopw [6, 7] (fun v x wr => ∃ k : Nat, x = .int .i64 k ∧ k ≤ S.ws.length ∧ v = .string (strOfNums (readW S.laid (S.ws.take k) s)) ∧ wr = W) (fun _ x _ => S.ws.length - (intOf x).toNat)
  case atStart => exact ⟨0, rfl, Nat.zero_le _, rfl, HWE.out.symm⟩
  case round =>
    rename_i hrel
    rw [← HWE.out] at z0 z1 z2 z3 z4 hc
    obtain ⟨k, rfl, hk, rfl, rfl⟩ := hrel
    by_cases hlt : k < S.ws.length
    · have hlt' : (k : Int) < (wn : Int) := by have := HWN.out; omega
      obtain ⟨b, off, rfl, hc0, hc1⟩ := hWW.at hlt
      have hru := readW_upto S.laid (S.ws.take k) (S.ws.getD k (0, [])) s
      rw [← take_succ_getD hlt] at hru
      obtain ⟨t, hte⟩ : ∃ t, t = (S.ws.getD k (0, [])).1 := ⟨_, rfl⟩
      obtain ⟨y, hye⟩ : ∃ y, y = (S.ws.getD k (0, [])).2 := ⟨_, rfl⟩
      rw [← hte] at hc0 hru
      rw [← hye] at hc1 hru
      have e2 : off + 2 * k = off + k * 2 := by omega
      rw [e2] at hc0 hc1
      have HRU : Hid (readW S.laid (S.ws.take (k + 1)) s = if t = s then y else readW S.laid (S.ws.take k) s) := hru
      clear hte hye e2 hru
      by_cases hts : t = s
      · have hts' : ((t : Int) = (s : Int)) = True := eq_true (by omega)
        go_wp2
        go_roundw
        case rel => exact ⟨k + 1, by go_num, by omega, by rw [HRU.out, if_pos hts], trivial⟩
        case measure => simp [intOf]; omega
      · have hts' : ((t : Int) = (s : Int)) = False := eq_false (by omega)
        go_wp2
        go_roundw
        case rel => exact ⟨k + 1, by go_num, by omega, by rw [HRU.out, if_neg hts], trivial⟩
        case measure => simp [intOf]; omega
    · have hlt' : ¬ ((k : Int) < (wn : Int)) := by have := HWN.out; omega
      have hkk : k = S.ws.length := by omega
      obtain ⟨hl, hr⟩ := hall k hk
      obtain ⟨c, w', hrun, hB, hb, _⟩ := conv_bs _ hr (by omega) wr
      rw [hl] at hrun
      have hfin : (Bs w' (some ⟨wr.heap.size, 0, none⟩) c (readW S.laid S.ws s) ∧ ∀ x, some (⟨wr.heap.size, 0, none⟩ : Addr) = some x → w.heap.size ≤ x.block) ∧ Below w.heap.size w w' := by
        refine ⟨⟨?_, fun x hx => by cases hx; exact hbW.size⟩, hbW.trans (hb.mono hbW.size)⟩
        rw [hkk, List.take_length] at hB
        exact hB
      generalize readW S.laid (S.ws.take k) s = R at *
      clear hkk
      go_wp2
      refine bodyPost_ret (results_tmp2 rfl _ _ _) rfl ?_
      exact ⟨_, _, rfl, hfin⟩

theorem rread_new {w : World} {cs : List Value} (h : Rf w G cs S) (i : Int) (hl : S.ws.length ≤ 900000) :
    Calls Tryd.prog 60 #[.agg cs.toArray, .int .i64 i] w fun e w' => ∃ a c, e = .returned (.tuple #[.slice a (S.read i).1.length c, .int .i64 (S.read i).2]) ∧ (Bs w' a c (S.read i).1 ∧ ∀ x, a = some x → w.heap.size ≤ x.block) ∧ Below w.heap.size w w' := by
  obtain ⟨n, sa, sc, wa, wc, hok, rfl, hs, hw⟩ := h
  have hn : S.laid.length / 256 = n := by rw [hok.len]; omega
  have hhas : S.has i ↔ (0 ≤ i ∧ i < (n : Int)) := by unfold DS.has; rw [hn]
  unfold DS.read
  by_cases h1 : S.off = true
  · rw [if_pos h1]
    unfold rcells
    refine (rread_err (sa := sa) (sc := sc) (wa := wa) (wc := wc) i n S.ws.length S.fused S.off S.left w (.inl h1)).mono ?_
    rintro e w' ⟨rfl, hb⟩
    rw [if_pos h1]
    exact ⟨none, 0, rfl, ⟨Bs.empty _, fun x hx => by cases hx⟩, hb⟩
  · rw [if_neg h1]
    have hoff : S.off = false := by simpa using h1
    by_cases h2 : S.has i
    · rw [if_neg (by simpa using h2)]
      obtain ⟨hi0, hi1⟩ := hhas.1 h2
      obtain ⟨s, rfl⟩ : ∃ s : Nat, i = (s : Int) := ⟨i.toNat, by omega⟩
      have hr := readW_ok hok (s := s) (by omega)
      unfold rcells
      rw [hoff]
      refine (rread_go_new (G := G) (S := S) (n := n) (sa := sa) (sc := sc) (wa := wa) (wc := wc) s n S.ws.length rfl rfl S.fused S.left w hok (by omega) hs hw hl).mono ?_
      rintro e w' ⟨a, c, rfl, hB, hb⟩
      simp only [Int.toNat_natCast]
      rw [hr.1]
      exact ⟨a, c, rfl, hB, hb⟩
    · rw [if_pos (by simpa using h2)]
      unfold rcells
      refine (rread_err (sa := sa) (sc := sc) (wa := wa) (wc := wc) i n S.ws.length S.fused S.off S.left w (.inr ⟨hoff, by rw [hhas] at h2; exact h2⟩)).mono ?_
      rintro e w' ⟨rfl, hb⟩
      rw [if_neg h1]
      exact ⟨none, 0, rfl, ⟨Bs.empty _, fun x hx => by cases hx⟩, hb⟩

end

end Go.Proofs.YthbcphalokoknaaDoor
