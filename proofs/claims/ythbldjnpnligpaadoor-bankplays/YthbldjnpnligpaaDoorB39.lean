/-
 The document's bank: Read.
-/
import Derived.Test.YthbldjnpnligpaaDoorB06
import Derived.Test.YthbldjnpnligpaaDoorB38
import Derived.Test.YthbldjnpnligpaaDoorB29
import Derived.Test.YthbldjnpnligpaaDoorB33
import Derived.Test.YthbldjnpnligpaaDoorB37
namespace Go.Proofs.YthbldjnpnligpaaDoor
set_option linter.unusedSimpArgs false
set_option linter.unusedVariables false
set_option maxRecDepth 100000
open Go.RowKit
section
variable {w w' : World} {G G' : Nat → Prop} {cs cs' : List Value} {S S' : DS} {l l' : List Bool} {t : Nat}
set_option maxHeartbeats 4000000 in
theorem rrd_off (h : RB w G cs S l t) (q : Pt) (hq : q.ok) (hoff : S.off = true) : Calls Tryd.prog 59 #[.agg cs.toArray, .agg q.vs.toArray] w fun e w' => e = .returned (.tuple #[.slice none 0 0, .int .i64 8]) ∧ Below w.heap.size w w' := by
 have h7 := h.len.1
 have hvl := Pt.vs_len hq
 have HO : Hid (cs[4]? = some (.bool true)) := by rw [← hoff]; exact h.off
 have hmy := rmay_run q hq
 have hho := risHole_run q hq
 obtain ⟨vs, hvs⟩ : ∃ vs, vs = q.vs := ⟨_, rfl⟩
 rw [← hvs] at hvl hmy hho ⊢
 clear hvs
 go_enter Tryd.func59, Tryd.ntmps59
 go_wp2_with (first
  | ((with_reducible show wpList _ _ _ (Oper.mk _ (Op.box 36 _) _ _ _ _ :: _) _ _); refine wpList_box0 (by rfl) 36 (.tmp 0) (by rfl) cs (by rfl) ?_; intro w1 hK1 hb1 hs1; clear hs1)
  | ((with_reducible show wpList _ _ _ (Oper.mk _ (Op.box 42 _) _ _ _ _ :: _) _ _); refine wpList_box0 (by rfl) 42 (.tmp 1) (by rfl) vs (by rfl) ?_; intro w2 hP2 hb2 hs2; clear hs2
     have hK2 := hK1.stays hb2
     have hb2' := below_then hb1 hb2
     have hc4 : w2.cell? ⟨w.heap.size, 4, none⟩ = some (.bool true) := (hK2.cell 4).trans HO.out))
 go_ret2
 exact ⟨rfl, hb2'⟩
set_option maxHeartbeats 4000000 in
theorem rrd_may (h : RB w G cs S l t) (q : Pt) (hq : q.ok) (hoff : S.off = false) (hm : q.may = false) : Calls Tryd.prog 59 #[.agg cs.toArray, .agg q.vs.toArray] w fun e w' => e = .returned (.tuple #[.slice none 0 0, .int .i64 1]) ∧ Below w.heap.size w w' := by
 have h7 := h.len.1
 have hvl := Pt.vs_len hq
 have HO : Hid (cs[4]? = some (.bool false)) := by rw [← hoff]; exact h.off
 have hmy := rmay_run q hq
 have hho := risHole_run q hq
 obtain ⟨vs, hvs⟩ : ∃ vs, vs = q.vs := ⟨_, rfl⟩
 rw [← hvs] at hvl hmy hho ⊢
 rw [hm] at hmy
 clear hvs
 go_enter Tryd.func59, Tryd.ntmps59
 go_wp2_with (first
  | ((with_reducible show wpList _ _ _ (Oper.mk _ (Op.box 36 _) _ _ _ _ :: _) _ _); refine wpList_box0 (by rfl) 36 (.tmp 0) (by rfl) cs (by rfl) ?_; intro w1 hK1 hb1 hs1; clear hs1)
  | ((with_reducible show wpList _ _ _ (Oper.mk _ (Op.box 42 _) _ _ _ _ :: _) _ _); refine wpList_box0 (by rfl) 42 (.tmp 1) (by rfl) vs (by rfl) ?_; intro w2 hP2 hb2 hs2; clear hs2
     have hK2 := hK1.stays hb2
     have hb2' := below_then hb1 hb2
     have hc4 : w2.cell? ⟨w.heap.size, 4, none⟩ = some (.bool false) := (hK2.cell 4).trans HO.out)
  | ((with_reducible show wpList _ _ _ (Oper.mk _ (Op.load 42 _) _ _ _ _ :: _) _ _); refine wpList_load_blk (by rfl) (.tmp 3) 42 (by rfl) _ 0 35 (by rfl) agg_ptr size_ptr hP2 _ (whole_load hvl) hvl ?_)
  | (go_at_call 112; go_must (refine (hmy _).mono ?_); rintro e w3 ⟨rfl, hb3⟩))
 go_ret2
 exact ⟨rfl, below_then hb2' hb3⟩
set_option maxHeartbeats 4000000 in
theorem rrd_hole (h : RB w G cs S l t) (q : Pt) (hq : q.ok) (hoff : S.off = false) (hm : q.may = true) (hh : q.hole = true) : Calls Tryd.prog 59 #[.agg cs.toArray, .agg q.vs.toArray] w fun e w' => ∃ a c, e = .returned (.tuple #[.slice a 256 c, .int .i64 0]) ∧ NewB w.heap.size w' a c zeros256 ∧ Below w.heap.size w w' := by
 have h7 := h.len.1
 have hvl := Pt.vs_len hq
 have HO : Hid (cs[4]? = some (.bool false)) := by rw [← hoff]; exact h.off
 have hmy := rmay_run q hq
 have hho := risHole_run q hq
 obtain ⟨vs, hvs⟩ : ∃ vs, vs = q.vs := ⟨_, rfl⟩
 rw [← hvs] at hvl hmy hho ⊢
 rw [hm] at hmy
 rw [hh] at hho
 have hi : (Tryd.prog.info? 5).map (fun i => (i.zero, i.size, i.bytes)) = some (some (.int .u8 0), 1, 1) := by kernel_rfl
 obtain ⟨i0, hi0, hz0, hz1, hz2⟩ := info_parts hi
 have HZ : Hid (zeros256 = List.replicate 256 0) := rfl
 clear hvs
 go_enter Tryd.func59, Tryd.ntmps59
 go_wp2_with (first
  | ((with_reducible show wpList _ _ _ (Oper.mk _ (Op.box 36 _) _ _ _ _ :: _) _ _); refine wpList_box0 (by rfl) 36 (.tmp 0) (by rfl) cs (by rfl) ?_; intro w1 hK1 hb1 hs1; clear hs1)
  | ((with_reducible show wpList _ _ _ (Oper.mk _ (Op.box 42 _) _ _ _ _ :: _) _ _); refine wpList_box0 (by rfl) 42 (.tmp 1) (by rfl) vs (by rfl) ?_; intro w2 hP2 hb2 hs2; clear hs2
     have hK2 := hK1.stays hb2
     have hb2' := below_then hb1 hb2
     have hc4 : w2.cell? ⟨w.heap.size, 4, none⟩ = some (.bool false) := (hK2.cell 4).trans HO.out)
  | ((with_reducible show wpList _ _ _ (Oper.mk _ (Op.load 42 _) _ _ _ _ :: _) _ _); refine wpList_load_blk (by rfl) (.tmp 3) 42 (by rfl) _ 0 35 (by rfl) agg_ptr size_ptr hP2 _ (whole_load hvl) hvl ?_)
  | ((with_reducible show wpList _ _ _ (Oper.mk _ (Op.load 42 _) _ _ _ _ :: _) _ _); refine wpList_load_blk (by rfl) (.tmp 3) 42 (by rfl) _ 0 35 (by rfl) agg_ptr size_ptr hP3 _ (whole_load hvl) hvl ?_)
  | (go_at_call 112; go_must (refine (hmy _).mono ?_); rintro e w3 ⟨rfl, hb3⟩
     have hP3 := hP2.stays hb3)
  | (go_at_call 113; go_must (refine (hho _).mono ?_); rintro e w4 ⟨rfl, hb4⟩
     have hb4' := below_then (below_then hb2' hb3) hb4)
  | (refine wpList_make_bytes (w0 := w4) (by rfl) (.const (.int .i64 256)) (.const (.int .i64 256)) 43 (by rfl) w4.heap.size 5 i0 Tryd.underlying43 hi0 hz0 hz1 hz2 .i64 .i64 256 256 256 (by rfl) (by rfl) (by omega) (by omega) (by omega) (Nat.le_refl _) (Below.refl _ _) ?_; intro w5 hrow5 hb5
     rw [← HZ.out] at hrow5))
 go_ret2
 have hB5 := hrow5.bs zeros256_rng (by rw [zeros256_len]; decide)
 rw [zeros256_len] at hB5
 exact ⟨_, _, rfl, ⟨hB5, fun x hx => by cases hx; exact hb4'.size⟩, below_then hb4' hb5⟩
set_option maxHeartbeats 16000000 in
theorem rrd_go (h : RB w G cs S l t) (hln : S.ws.length ≤ 900000) (q : Pt) (hq : q.ok) (hoff : S.off = false) (hm : q.may = true) (hh : q.hole = false) (R : List Int) (E : Int) (n : Nat)
 (H1 : Hid (rightL S q.x q.h = true → R = readW S.laid S.ws q.x ∧ E = 0 ∧ n = 256)) (H2 : Hid (rightL S q.x q.h = false → rightL S q.y q.h = true → R = readW S.laid S.ws q.y ∧ E = 0 ∧ n = 256)) (H3 : Hid (rightL S q.x q.h = false → rightL S q.y q.h = false → R = [] ∧ E = 9 ∧ n = 0)) :
 Calls Tryd.prog 59 #[.agg cs.toArray, .agg q.vs.toArray] w fun e w' => ∃ a c, e = .returned (.tuple #[.slice a n c, .int .i64 E]) ∧ NewB w.heap.size w' a c R ∧ Below w.heap.size w w' := by
 have hrt0 : ∀ u (x : Nat), Below w.heap.size w u → x < 4294967296 → Calls Tryd.prog 114 #[.agg cs.toArray, .int .u32 (x : Int), .agg (q.h.map (Value.int .u8)).toArray] u fun e w' => ∃ a c n, e = .returned (.tuple #[.slice a n c, .bool (rightL S x q.h)]) ∧ (rightL S x q.h = true → n = 256 ∧ NewB u.heap.size w' a c (readW S.laid S.ws x)) ∧ Below u.heap.size u w' := fun u x hu hx => rright_run (h.stays hu) hln hoff x hx q.h hq.len
 have hrt : ∀ {v : World} u (x : Nat) (b : Bool), Below w.heap.size w v → Below v.heap.size v u → x < 4294967296 → rightL S x q.h = b → Calls Tryd.prog 114 #[.agg cs.toArray, .int .u32 (x : Int), .agg (q.h.map (Value.int .u8)).toArray] u fun e w' => ∃ z, e = .returned z ∧ Below u.heap.size u w' ∧ rrB w.heap.size b (readW S.laid S.ws x) z w' := fun {v} u x b hv hu hx hb => by
  have hu2 := below_then hv hu
  refine (hrt0 u x hu2 hx).mono ?_
  rw [hb]
  rintro e w' ⟨a, c, n, rfl, hN, hb3⟩
  exact ⟨_, rfl, hb3, a, c, n, rfl, fun hb4 => ⟨(hN hb4).1, (hN hb4).2.mono hu2.size⟩⟩
 have h7 := h.len.1
 have hvl := Pt.vs_len hq
 have HO : Hid (cs[4]? = some (.bool false)) := by rw [← hoff]; exact h.off
 have hmy := rmay_run q hq
 have hho := risHole_run q hq
 obtain ⟨vs, hvs⟩ : ∃ vs, vs = q.vs := ⟨_, rfl⟩
 rw [← hvs] at hvl hmy hho ⊢
 have HXC : Hid (vs[33]? = some (.int .u32 (q.x : Int)) ∧ vs[34]? = some (.int .u32 (q.y : Int))) := by rw [hvs]; exact ⟨Pt.vs_x hq, Pt.vs_y hq⟩
 have HH : Hid (q.h.map (Value.int .u8) = (vs.drop 0).take 32) := by rw [hvs]; exact Pt.vs_hash hq
 obtain ⟨hs, hhs⟩ : ∃ hs, hs = q.h.map (Value.int .u8) := ⟨_, rfl⟩
 have hhl : hs.length = 32 := by rw [hhs, List.length_map, hq.len]
 rw [← hhs] at HH hrt
 have hi0 := rix_at0
 have hi1 := rix_at1
 rw [hm] at hmy
 rw [hh] at hho
 clear hvs hhs hrt0 hoff hm hh
 go_enter Tryd.func59, Tryd.ntmps59
 go_wp2_with (first
  | ((with_reducible show wpList _ _ _ (Oper.mk _ (Op.box 36 _) _ _ _ _ :: _) _ _); refine wpList_box0 (by rfl) 36 (.tmp 0) (by rfl) cs (by rfl) ?_; intro w1 hK1 hb1 hs1; clear hs1)
  | ((with_reducible show wpList _ _ _ (Oper.mk _ (Op.box 42 _) _ _ _ _ :: _) _ _); refine wpList_box0 (by rfl) 42 (.tmp 1) (by rfl) vs (by rfl) ?_; intro w2 hP2 hb2 hs2; clear hs2
     have hK2 := hK1.stays hb2
     have hb2' := below_then hb1 hb2
     have hc4 : w2.cell? ⟨w.heap.size, 4, none⟩ = some (.bool false) := (hK2.cell 4).trans HO.out)
  | ((with_reducible show wpList _ _ _ (Oper.mk _ (Op.load 42 _) _ _ _ _ :: _) _ _); refine wpList_load_blk (by rfl) (.tmp 3) 42 (by rfl) _ 0 35 (by rfl) agg_ptr size_ptr hP2 _ (whole_load hvl) hvl ?_)
  | ((with_reducible show wpList _ _ _ (Oper.mk _ (Op.load 42 _) _ _ _ _ :: _) _ _); refine wpList_load_blk (by rfl) (.tmp 3) 42 (by rfl) _ 0 35 (by rfl) agg_ptr size_ptr hP3 _ (whole_load hvl) hvl ?_)
  | (go_at_call 112; go_must (refine (hmy _).mono ?_); rintro e w3 ⟨rfl, hb3⟩
     have hP3 := hP2.stays hb3)
  | (go_at_call 113; go_must (refine (hho _).mono ?_); rintro e w4 ⟨rfl, hb4⟩
     have hb4' := below_then (below_then hb2' hb3) hb4))
 have hK4 := (hK2.stays hb3).stays hb4
 have hP4 := hP3.stays hb4
 clear hK1 hK2 hP2 hP3 hmy hho hb3 hb4 hb2' hc4 hb1 hb2
 go_loopw [6] (fun i wr => Blk 36 wr w.heap.size cs ∧ Blk 42 wr w1.heap.size vs ∧ Below w.heap.size w wr ∧ (i = .int .i64 0 ∨ (i = .int .i64 1 ∧ rightL S q.x q.h = false) ∨ (i = .int .i64 2 ∧ rightL S q.x q.h = false ∧ rightL S q.y q.h = false))) (fun i _ => 2 - (intOf i).toNat)
 case atStart => exact ⟨hK4, hP4, hb4', .inl rfl⟩
 case round =>
  rename_i wr hrel
  obtain ⟨hKr, hPr, hbr, hcase⟩ := hrel
  clear hK4 hP4
  have hldK : ∀ u, Below wr.heap.size wr u → (Instr.loadAt 36 (.pointer (some ⟨w.heap.size, 0, none⟩))).run Tryd.prog u = .ok (.agg cs.toArray) u := fun u hu => run_load_blk agg_rbank size_rbank (hKr.stays hu) (whole_load h7) h7
  have hldH : ∀ u, Below wr.heap.size wr u → (Instr.loadAt 39 (.pointer (some ⟨w1.heap.size, 0, none⟩))).run Tryd.prog u = .ok (.agg hs.toArray) u := fun u hu => run_load_blk agg_hsh size_hash (hPr.stays hu) HH.out hhl
  have hldx : ∀ u, Below wr.heap.size wr u → u.cell? ⟨w1.heap.size, 33, none⟩ = some (.int .u32 (q.x : Int)) := fun u hu => ((hPr.stays hu).cell 33).trans HXC.out.1
  have hldy : ∀ u, Below wr.heap.size wr u → u.cell? ⟨w1.heap.size, 34, none⟩ = some (.int .u32 (q.y : Int)) := fun u hu => ((hPr.stays hu).cell 34).trans HXC.out.2
  rcases hcase with rfl | ⟨rfl, hr0⟩ | ⟨rfl, hr0, hr1⟩
  · clear hi1 hldy
    cases hr : rightL S q.x q.h
    · have hcl := fun u hu => hrt u q.x false hbr hu hq.x hr
      go_wp2
      refine UpT.wp_region_tail 12 (UpT.tell [(7, rrB w.heap.size false (readW S.laid S.ws q.x))]) (fun _ => false) (by kernel_rfl) (by kernel_rfl) (UpT.tell_steady _ (by
       intro p hp
       simp only [List.mem_cons, List.not_mem_nil, or_false] at hp
       rcases hp with rfl <;> first | exact isV_steady _ | exact slB_steady _ _ | exact rrB_steady _ _ _)) ?_
      simp only [List.take_succ_cons, List.take_zero]
      refine UpT.wpUp_pure (.agg cs.toArray) (by rfl) (by rfl) (fun wz hp => exec_load (by rfl) (by rfl) (hldK wz hp.1)) ?_
      simp only [Act.put, sTA, sT0, sT1]
      iterate 3 (refine UpT.wpUp_pu ?_; simp only [Act.put, sTA, sT0, sT1])
      apply UpT.wpUp_pure
      case hw => rfl
      case hψ => rfl
      case hv => (intro wz hp; have hcc := hldx wz hp.1; clear hp; go_simp; try (with_reducible rfl))
      simp only [Act.put, sTA, sT0, sT1]
      refine UpT.wpUp_pu ?_
      simp only [Act.put, sTA, sT0, sT1]
      refine UpT.wpUp_pure (.agg hs.toArray) (by rfl) (by rfl) (fun wz hp => exec_load (by rfl) (by rfl) (hldH wz hp.1)) ?_
      simp only [Act.put, sTA, sT0, sT1]
      refine UpT.wpUp_call _ 114 #[.agg cs.toArray, .int .u32 (q.x : Int), .agg hs.toArray] (by rfl) (by rfl) (by rfl) (fun wz => by go_simp) (fun wz hp => hcl wz hp.1) ?_
      rintro v ⟨u, _, hf⟩
      obtain ⟨a5, c5, n5, rfl, _⟩ := hf.of 7 v _ rfl rfl
      clear hf
      simp only [Act.put, sTA, sT0, sT1]
      iterate 4 (refine UpT.wpUp_pu ?_; simp only [Act.put, sTA, sT0, sT1])
      refine UpT.wpUp_end ?_
      intro w5 hb5 hf
      clear hf
      simp only [List.drop_succ_cons, List.drop_zero]
      go_wp2
      exact ⟨⟨hKr.stays hb5, hPr.stays hb5, below_then hbr hb5, .inr (.inl ⟨rfl, by first | exact hr | trivial⟩)⟩, by decide⟩
    · have hcl := fun u hu => hrt u q.x true hbr hu hq.x hr
      go_wp2
      refine UpT.wp_region_tail 12 (UpT.tell [(7, rrB w.heap.size true (readW S.laid S.ws q.x))]) (fun _ => false) (by kernel_rfl) (by kernel_rfl) (UpT.tell_steady _ (by
       intro p hp
       simp only [List.mem_cons, List.not_mem_nil, or_false] at hp
       rcases hp with rfl <;> first | exact isV_steady _ | exact slB_steady _ _ | exact rrB_steady _ _ _)) ?_
      simp only [List.take_succ_cons, List.take_zero]
      refine UpT.wpUp_pure (.agg cs.toArray) (by rfl) (by rfl) (fun wz hp => exec_load (by rfl) (by rfl) (hldK wz hp.1)) ?_
      simp only [Act.put, sTA, sT0, sT1]
      iterate 3 (refine UpT.wpUp_pu ?_; simp only [Act.put, sTA, sT0, sT1])
      apply UpT.wpUp_pure
      case hw => rfl
      case hψ => rfl
      case hv => (intro wz hp; have hcc := hldx wz hp.1; clear hp; go_simp; try (with_reducible rfl))
      simp only [Act.put, sTA, sT0, sT1]
      refine UpT.wpUp_pu ?_
      simp only [Act.put, sTA, sT0, sT1]
      refine UpT.wpUp_pure (.agg hs.toArray) (by rfl) (by rfl) (fun wz hp => exec_load (by rfl) (by rfl) (hldH wz hp.1)) ?_
      simp only [Act.put, sTA, sT0, sT1]
      refine UpT.wpUp_call _ 114 #[.agg cs.toArray, .int .u32 (q.x : Int), .agg hs.toArray] (by rfl) (by rfl) (by rfl) (fun wz => by go_simp) (fun wz hp => hcl wz hp.1) ?_
      rintro v ⟨u, _, hf⟩
      obtain ⟨a5, c5, n5, rfl, _⟩ := hf.of 7 v _ rfl rfl
      clear hf
      simp only [Act.put, sTA, sT0, sT1]
      iterate 4 (refine UpT.wpUp_pu ?_; simp only [Act.put, sTA, sT0, sT1])
      refine UpT.wpUp_end ?_
      intro w5 hb5 hf
      obtain ⟨a6, c6, n6, hE6, hN6⟩ := hf.of 7 _ _ rfl rfl
      cases hE6
      clear hf
      obtain ⟨rfl, hN7⟩ := hN6 rfl
      clear hN6
      simp only [List.drop_succ_cons, List.drop_zero]
      go_wp2
      go_ret2
      obtain ⟨e1, e2, e3⟩ := H1.out hr
      rw [e1, e2, e3]
      exact ⟨a5, c5, rfl, hN7, below_then hbr hb5⟩
  · clear hi0 hldx
    cases hr : rightL S q.y q.h
    · have hcl := fun u hu => hrt u q.y false hbr hu hq.y hr
      go_wp2
      refine UpT.wp_region_tail 12 (UpT.tell [(7, rrB w.heap.size false (readW S.laid S.ws q.y))]) (fun _ => false) (by kernel_rfl) (by kernel_rfl) (UpT.tell_steady _ (by
       intro p hp
       simp only [List.mem_cons, List.not_mem_nil, or_false] at hp
       rcases hp with rfl <;> first | exact isV_steady _ | exact slB_steady _ _ | exact rrB_steady _ _ _)) ?_
      simp only [List.take_succ_cons, List.take_zero]
      refine UpT.wpUp_pure (.agg cs.toArray) (by rfl) (by rfl) (fun wz hp => exec_load (by rfl) (by rfl) (hldK wz hp.1)) ?_
      simp only [Act.put, sTA, sT0, sT1]
      iterate 3 (refine UpT.wpUp_pu ?_; simp only [Act.put, sTA, sT0, sT1])
      apply UpT.wpUp_pure
      case hw => rfl
      case hψ => rfl
      case hv => (intro wz hp; have hcc := hldy wz hp.1; clear hp; go_simp; try (with_reducible rfl))
      simp only [Act.put, sTA, sT0, sT1]
      refine UpT.wpUp_pu ?_
      simp only [Act.put, sTA, sT0, sT1]
      refine UpT.wpUp_pure (.agg hs.toArray) (by rfl) (by rfl) (fun wz hp => exec_load (by rfl) (by rfl) (hldH wz hp.1)) ?_
      simp only [Act.put, sTA, sT0, sT1]
      refine UpT.wpUp_call _ 114 #[.agg cs.toArray, .int .u32 (q.y : Int), .agg hs.toArray] (by rfl) (by rfl) (by rfl) (fun wz => by go_simp) (fun wz hp => hcl wz hp.1) ?_
      rintro v ⟨u, _, hf⟩
      obtain ⟨a5, c5, n5, rfl, _⟩ := hf.of 7 v _ rfl rfl
      clear hf
      simp only [Act.put, sTA, sT0, sT1]
      iterate 4 (refine UpT.wpUp_pu ?_; simp only [Act.put, sTA, sT0, sT1])
      refine UpT.wpUp_end ?_
      intro w5 hb5 hf
      clear hf
      simp only [List.drop_succ_cons, List.drop_zero]
      go_wp2
      exact ⟨⟨hKr.stays hb5, hPr.stays hb5, below_then hbr hb5, .inr (.inr ⟨rfl, by first | exact hr0 | trivial, by first | exact hr | trivial⟩)⟩, by decide⟩
    · have hcl := fun u hu => hrt u q.y true hbr hu hq.y hr
      go_wp2
      refine UpT.wp_region_tail 12 (UpT.tell [(7, rrB w.heap.size true (readW S.laid S.ws q.y))]) (fun _ => false) (by kernel_rfl) (by kernel_rfl) (UpT.tell_steady _ (by
       intro p hp
       simp only [List.mem_cons, List.not_mem_nil, or_false] at hp
       rcases hp with rfl <;> first | exact isV_steady _ | exact slB_steady _ _ | exact rrB_steady _ _ _)) ?_
      simp only [List.take_succ_cons, List.take_zero]
      refine UpT.wpUp_pure (.agg cs.toArray) (by rfl) (by rfl) (fun wz hp => exec_load (by rfl) (by rfl) (hldK wz hp.1)) ?_
      simp only [Act.put, sTA, sT0, sT1]
      iterate 3 (refine UpT.wpUp_pu ?_; simp only [Act.put, sTA, sT0, sT1])
      apply UpT.wpUp_pure
      case hw => rfl
      case hψ => rfl
      case hv => (intro wz hp; have hcc := hldy wz hp.1; clear hp; go_simp; try (with_reducible rfl))
      simp only [Act.put, sTA, sT0, sT1]
      refine UpT.wpUp_pu ?_
      simp only [Act.put, sTA, sT0, sT1]
      refine UpT.wpUp_pure (.agg hs.toArray) (by rfl) (by rfl) (fun wz hp => exec_load (by rfl) (by rfl) (hldH wz hp.1)) ?_
      simp only [Act.put, sTA, sT0, sT1]
      refine UpT.wpUp_call _ 114 #[.agg cs.toArray, .int .u32 (q.y : Int), .agg hs.toArray] (by rfl) (by rfl) (by rfl) (fun wz => by go_simp) (fun wz hp => hcl wz hp.1) ?_
      rintro v ⟨u, _, hf⟩
      obtain ⟨a5, c5, n5, rfl, _⟩ := hf.of 7 v _ rfl rfl
      clear hf
      simp only [Act.put, sTA, sT0, sT1]
      iterate 4 (refine UpT.wpUp_pu ?_; simp only [Act.put, sTA, sT0, sT1])
      refine UpT.wpUp_end ?_
      intro w5 hb5 hf
      obtain ⟨a6, c6, n6, hE6, hN6⟩ := hf.of 7 _ _ rfl rfl
      cases hE6
      clear hf
      obtain ⟨rfl, hN7⟩ := hN6 rfl
      clear hN6
      simp only [List.drop_succ_cons, List.drop_zero]
      go_wp2
      go_ret2
      obtain ⟨e1, e2, e3⟩ := H2.out hr0 hr
      rw [e1, e2, e3]
      exact ⟨a5, c5, rfl, hN7, below_then hbr hb5⟩
  · go_wp2
    go_ret2
    obtain ⟨e1, e2, e3⟩ := H3.out hr0 hr1
    rw [e1, e2, e3]
    exact ⟨none, 0, rfl, NewB.none _ _, hbr⟩
theorem rrd_run (h : RB w G cs S l t) (hln : S.ws.length ≤ 900000) (q : Pt) (hq : q.ok) :
 Calls Tryd.prog 59 #[.agg cs.toArray, .agg q.vs.toArray] w fun e w' => ∃ a c, e = .returned (.tuple #[.slice a (readK S q).1.length c, .int .i64 (readK S q).2]) ∧ NewB w.heap.size w' a c (readK S q).1 ∧ Below w.heap.size w w' := by
 obtain ⟨n, hok⟩ := h.ok
 by_cases h0 : S.off = true
 · have : readK S q = ([], 8) := by unfold readK okK; rw [if_pos h0]; rfl
   rw [this]
   refine (rrd_off h q hq h0).mono ?_
   rintro e w' ⟨rfl, hb⟩
   exact ⟨none, 0, rfl, NewB.none _ _, hb⟩
 have h0' : S.off = false := by simpa using h0
 by_cases h1 : q.may = false
 · have : readK S q = ([], 1) := by unfold readK okK; rw [h0', h1]; rfl
   rw [this]
   refine (rrd_may h q hq h0' h1).mono ?_
   rintro e w' ⟨rfl, hb⟩
   exact ⟨none, 0, rfl, NewB.none _ _, hb⟩
 have h1' : q.may = true := by simpa using h1
 have hk0 : okK S q = 0 := by unfold okK; rw [h0', h1']; rfl
 cases h2 : q.hole
 · refine rrd_go h hln q hq h0' h1' h2 _ _ _ ?_ ?_ ?_
   · intro hr
     have : readK S q = (readW S.laid S.ws q.x, 0) := by unfold readK; rw [if_neg (by simp [hk0]), h2, if_neg (by decide), if_pos hr]
     rw [this]; exact ⟨rfl, rfl, (readW_ok hok (rightL_lt hok hr).1).1⟩
   · intro hr0 hr
     have : readK S q = (readW S.laid S.ws q.y, 0) := by unfold readK; rw [if_neg (by simp [hk0]), h2, if_neg (by decide), hr0, if_neg (by decide), if_pos hr]
     rw [this]; exact ⟨rfl, rfl, (readW_ok hok (rightL_lt hok hr).1).1⟩
   · intro hr0 hr
     have : readK S q = ([], 9) := by unfold readK; rw [if_neg (by simp [hk0]), h2, if_neg (by decide), hr0, if_neg (by decide), hr, if_neg (by decide)]
     rw [this]; exact ⟨rfl, rfl, rfl⟩
 · have : readK S q = (zeros256, 0) := by unfold readK; rw [if_neg (by simp [hk0]), if_pos h2]
   rw [this]
   exact rrd_hole h q hq h0' h1' h2
end
end Go.Proofs.YthbldjnpnligpaaDoor

/-
 The document's bank: Look.
-/

namespace Go.Proofs.YthbldjnpnligpaaDoor
set_option linter.unusedSimpArgs false
set_option linter.unusedVariables false
set_option maxRecDepth 100000
open Go.RowKit
section
variable {w w' : World} {G G' : Nat → Prop} {cs cs' : List Value} {S S' : DS} {l l' : List Bool} {t : Nat}
set_option maxHeartbeats 8000000 in
theorem rlk_off (h : RB w G cs S l t) (q : Pt) (hq : q.ok) (hoff : S.off = true) : Calls Tryd.prog 60 #[.agg cs.toArray, .agg q.vs.toArray] w fun e w' => e = .returned (.tuple #[.agg (twoB false false).toArray, .int .i64 8]) ∧ Below w.heap.size w w' := by
 have h7 := h.len.1
 have hvl := Pt.vs_len hq
 have HO : Hid (cs[4]? = some (.bool true)) := by rw [← hoff]; exact h.off
 have hmy := rmay_run q hq
 have hho := risHole_run q hq
 obtain ⟨vs, hvs⟩ : ∃ vs, vs = q.vs := ⟨_, rfl⟩
 rw [← hvs] at hvl hmy hho ⊢
 have HAL : Hid (∀ w : World, (Instr.alloc 46 true (.tuple #[])).run Tryd.prog w = .ok (.pointer (some ⟨w.heap.size, 0, none⟩)) (w.alloc (.cells (twoB false false).toArray 46))) := alloc_bools
 have HBU : Hid (∀ w : World, (Instr.build 46 #[]).run Tryd.prog w = .ok (.agg (twoB false false).toArray) w) := fun w => by kernel_rfl
 have hzl : (twoB false false).length = 2 := rfl
 obtain ⟨zb, hzb⟩ : ∃ zb, zb = twoB false false := ⟨_, rfl⟩
 have HZB : Hid (zb = twoB false false) := hzb
 rw [← hzb] at HAL HBU hzl
 clear hzb
 clear hvs
 go_enter Tryd.func60, Tryd.ntmps60
 go_wp2_with (first
  | ((with_reducible show wpList _ _ _ (Oper.mk _ (Op.box 36 _) _ _ _ _ :: _) _ _); refine wpList_box0 (by rfl) 36 (.tmp 0) (by rfl) cs (by rfl) ?_; intro w1 hK1 hb1 hs1; clear hs1)
  | ((with_reducible show wpList _ _ _ (Oper.mk _ (Op.box 42 _) _ _ _ _ :: _) _ _); refine wpList_box0 (by rfl) 42 (.tmp 1) (by rfl) vs (by rfl) ?_; intro w2 hP2 hb2 hs2; clear hs2)
  | ((with_reducible show wpList _ _ _ (Oper.mk (some 4) (Op.alloc _) _ _ _ _ :: _) _ _); refine wpList_alloc0 (by rfl) 46 (by rfl) (some 4) (by rfl) _ HAL.out ?_; intro w3 hR3 hb3 hs3; clear hs3)
  | ((with_reducible show wpList _ _ _ (Oper.mk _ (Op.build _ _) _ _ _ _ :: _) _ _); refine wpList_build0 (by rfl) 46 (by rfl) _ HBU.out ?_)
  | ((with_reducible show wpList _ _ _ (Oper.mk (some 6) (Op.alloc _) _ _ _ _ :: _) _ _); refine wpList_alloc0 (by rfl) 46 (by rfl) (some 6) (by rfl) _ HAL.out ?_; intro w4 hG4 hb4 hs4; clear hs4)
  | ((with_reducible show wpList _ _ _ (Oper.mk _ (Op.store 46 (.tmp 6) _) _ _ _ _ :: _) _ _); refine wpList_store_blk (by rfl) (.tmp 6) (.tmp 10) 46 (by rfl) _ 0 2 (by rfl) zb (by rfl) size_bools hG4 hzl (by omega) (by rw [HZB.out]; exact twoB_one _ _) _ (whole_store hzl) ?_
     intro w5 hG5 hbut5 hs5
     have HNE : Hid (w3.heap.size ≠ w.heap.size ∧ w3.heap.size ≠ w1.heap.size ∧ w3.heap.size ≠ w2.heap.size ∧ w2.heap.size ≠ w.heap.size ∧ w2.heap.size ≠ w1.heap.size ∧ w.heap.size ≤ w3.heap.size ∧ w.heap.size ≤ w2.heap.size) := by
      show _ ∧ _ ∧ _ ∧ _ ∧ _ ∧ _ ∧ _
      have e1 := hK1.lt
      have e2 := hP2.lt
      have e3 := hR3.lt
      have e4 := hb2.size
      omega
     have hb24 := below_then (below_then (below_then hb1 hb2) hb3) hb4
     have hb25 : Below w.heap.size w w5 := hb24.trans (hbut5.below HNE.out.2.2.2.2.2.1 hb24.size)
     have hK5 := (((hK1.stays hb2).stays hb3).stays hb4).but hbut5 (Ne.symm HNE.out.1)
     have hP5 := ((hP2.stays hb3).stays hb4).but hbut5 (Ne.symm HNE.out.2.1)
     have hR5 := (hR3.stays hb4).but hbut5 (Ne.symm HNE.out.2.2.1)
     have hc4 : w5.cell? ⟨w.heap.size, 4, none⟩ = some (.bool true) := (hK5.cell 4).trans HO.out
     clear hs5 hb24 hK1 hb1 hP2 hb2 hR3 hb3 hG4 hb4 hbut5)
  | ((with_reducible show wpList _ _ _ (Oper.mk _ (Op.load 46 _) _ _ _ _ :: _) _ _); refine wpList_load_blk (by rfl) (.tmp 6) 46 (by rfl) _ 0 2 (by rfl) agg_bools size_bools hG5 _ (whole_load hzl) hzl ?_)
  | ((with_reducible show wpList _ _ _ (Oper.mk _ (Op.store 46 (.tmp 4) _) _ _ _ _ :: _) _ _); refine wpList_store_blk (by rfl) (.tmp 4) (.tmp 14) 46 (by rfl) _ 0 2 (by rfl) zb (by rfl) size_bools hR5 hzl (by omega) (by rw [HZB.out]; exact twoB_one _ _) _ (whole_store hzl) ?_
     intro w6 hRz hbutz hsz))
 exact bodyPost_ret_blk2 rfl rfl (by rfl) (by rfl) agg_bools size_bools hRz hzl ⟨by rw [HZB.out]; rfl, hb25.trans (hbutz.below HNE.out.2.2.2.2.2.2 hb25.size)⟩
set_option maxHeartbeats 8000000 in
theorem rlk_may (h : RB w G cs S l t) (q : Pt) (hq : q.ok) (hoff : S.off = false) (hm : q.may = false) : Calls Tryd.prog 60 #[.agg cs.toArray, .agg q.vs.toArray] w fun e w' => e = .returned (.tuple #[.agg (twoB false false).toArray, .int .i64 1]) ∧ Below w.heap.size w w' := by
 have h7 := h.len.1
 have hvl := Pt.vs_len hq
 have HO : Hid (cs[4]? = some (.bool false)) := by rw [← hoff]; exact h.off
 have hmy := rmay_run q hq
 have hho := risHole_run q hq
 obtain ⟨vs, hvs⟩ : ∃ vs, vs = q.vs := ⟨_, rfl⟩
 rw [← hvs] at hvl hmy hho ⊢
 have HAL : Hid (∀ w : World, (Instr.alloc 46 true (.tuple #[])).run Tryd.prog w = .ok (.pointer (some ⟨w.heap.size, 0, none⟩)) (w.alloc (.cells (twoB false false).toArray 46))) := alloc_bools
 have HBU : Hid (∀ w : World, (Instr.build 46 #[]).run Tryd.prog w = .ok (.agg (twoB false false).toArray) w) := fun w => by kernel_rfl
 have hzl : (twoB false false).length = 2 := rfl
 obtain ⟨zb, hzb⟩ : ∃ zb, zb = twoB false false := ⟨_, rfl⟩
 have HZB : Hid (zb = twoB false false) := hzb
 rw [← hzb] at HAL HBU hzl
 clear hzb
 rw [hm] at hmy
 clear hvs
 go_enter Tryd.func60, Tryd.ntmps60
 go_wp2_with (first
  | ((with_reducible show wpList _ _ _ (Oper.mk _ (Op.box 36 _) _ _ _ _ :: _) _ _); refine wpList_box0 (by rfl) 36 (.tmp 0) (by rfl) cs (by rfl) ?_; intro w1 hK1 hb1 hs1; clear hs1)
  | ((with_reducible show wpList _ _ _ (Oper.mk _ (Op.box 42 _) _ _ _ _ :: _) _ _); refine wpList_box0 (by rfl) 42 (.tmp 1) (by rfl) vs (by rfl) ?_; intro w2 hP2 hb2 hs2; clear hs2)
  | ((with_reducible show wpList _ _ _ (Oper.mk (some 4) (Op.alloc _) _ _ _ _ :: _) _ _); refine wpList_alloc0 (by rfl) 46 (by rfl) (some 4) (by rfl) _ HAL.out ?_; intro w3 hR3 hb3 hs3; clear hs3)
  | ((with_reducible show wpList _ _ _ (Oper.mk _ (Op.build _ _) _ _ _ _ :: _) _ _); refine wpList_build0 (by rfl) 46 (by rfl) _ HBU.out ?_)
  | ((with_reducible show wpList _ _ _ (Oper.mk (some 6) (Op.alloc _) _ _ _ _ :: _) _ _); refine wpList_alloc0 (by rfl) 46 (by rfl) (some 6) (by rfl) _ HAL.out ?_; intro w4 hG4 hb4 hs4; clear hs4)
  | ((with_reducible show wpList _ _ _ (Oper.mk _ (Op.store 46 (.tmp 6) _) _ _ _ _ :: _) _ _); refine wpList_store_blk (by rfl) (.tmp 6) (.tmp 10) 46 (by rfl) _ 0 2 (by rfl) zb (by rfl) size_bools hG4 hzl (by omega) (by rw [HZB.out]; exact twoB_one _ _) _ (whole_store hzl) ?_
     intro w5 hG5 hbut5 hs5
     have HNE : Hid (w3.heap.size ≠ w.heap.size ∧ w3.heap.size ≠ w1.heap.size ∧ w3.heap.size ≠ w2.heap.size ∧ w2.heap.size ≠ w.heap.size ∧ w2.heap.size ≠ w1.heap.size ∧ w.heap.size ≤ w3.heap.size ∧ w.heap.size ≤ w2.heap.size) := by
      show _ ∧ _ ∧ _ ∧ _ ∧ _ ∧ _ ∧ _
      have e1 := hK1.lt
      have e2 := hP2.lt
      have e3 := hR3.lt
      have e4 := hb2.size
      omega
     have hb24 := below_then (below_then (below_then hb1 hb2) hb3) hb4
     have hb25 : Below w.heap.size w w5 := hb24.trans (hbut5.below HNE.out.2.2.2.2.2.1 hb24.size)
     have hK5 := (((hK1.stays hb2).stays hb3).stays hb4).but hbut5 (Ne.symm HNE.out.1)
     have hP5 := ((hP2.stays hb3).stays hb4).but hbut5 (Ne.symm HNE.out.2.1)
     have hR5 := (hR3.stays hb4).but hbut5 (Ne.symm HNE.out.2.2.1)
     have hc4 : w5.cell? ⟨w.heap.size, 4, none⟩ = some (.bool false) := (hK5.cell 4).trans HO.out
     clear hs5 hb24 hK1 hb1 hP2 hb2 hR3 hb3 hG4 hb4 hbut5)
  | ((with_reducible show wpList _ _ _ (Oper.mk _ (Op.load 42 _) _ _ _ _ :: _) _ _); refine wpList_load_blk (by rfl) (.tmp 3) 42 (by rfl) _ 0 35 (by rfl) agg_ptr size_ptr hP5 _ (whole_load hvl) hvl ?_)
  | (go_at_call 112; go_must (refine (hmy _).mono ?_); rintro e w6 ⟨rfl, hb6⟩
     have hG6 := hG5.stays hb6
     have hR6 := hR5.stays hb6)
  | ((with_reducible show wpList _ _ _ (Oper.mk _ (Op.load 46 _) _ _ _ _ :: _) _ _); refine wpList_load_blk (by rfl) (.tmp 6) 46 (by rfl) _ 0 2 (by rfl) agg_bools size_bools hG6 _ (whole_load hzl) hzl ?_)
  | ((with_reducible show wpList _ _ _ (Oper.mk _ (Op.store 46 (.tmp 4) _) _ _ _ _ :: _) _ _); refine wpList_store_blk (by rfl) (.tmp 4) (.tmp 18) 46 (by rfl) _ 0 2 (by rfl) zb (by rfl) size_bools hR6 hzl (by omega) (by rw [HZB.out]; exact twoB_one _ _) _ (whole_store hzl) ?_
     intro w7 hRz hbutz hsz))
 have hb26 := below_then hb25 hb6
 exact bodyPost_ret_blk2 rfl rfl (by rfl) (by rfl) agg_bools size_bools hRz hzl ⟨by rw [HZB.out]; rfl, hb26.trans (hbutz.below HNE.out.2.2.2.2.2.2 hb26.size)⟩
set_option maxHeartbeats 16000000 in
theorem rlk_go (h : RB w G cs S l t) (hln : S.ws.length ≤ 900000) (q : Pt) (hq : q.ok) (hoff : S.off = false) (hm : q.may = true) :
 Calls Tryd.prog 60 #[.agg cs.toArray, .agg q.vs.toArray] w fun e w' => e = .returned (.tuple #[.agg (twoB (rightL S q.x q.h) (rightL S q.y q.h)).toArray, .int .i64 0]) ∧ Below w.heap.size w w' := by
 have hrt0 : ∀ u (x : Nat), Below w.heap.size w u → x < 4294967296 → Calls Tryd.prog 114 #[.agg cs.toArray, .int .u32 (x : Int), .agg (q.h.map (Value.int .u8)).toArray] u fun e w' => ∃ a c n, e = .returned (.tuple #[.slice a n c, .bool (rightL S x q.h)]) ∧ (rightL S x q.h = true → n = 256 ∧ NewB u.heap.size w' a c (readW S.laid S.ws x)) ∧ Below u.heap.size u w' := fun u x hu hx => rright_run (h.stays hu) hln hoff x hx q.h hq.len
 have hrt : ∀ {v : World} u (x : Nat) (b : Bool), Below w.heap.size w v → Below v.heap.size v u → x < 4294967296 → rightL S x q.h = b → Calls Tryd.prog 114 #[.agg cs.toArray, .int .u32 (x : Int), .agg (q.h.map (Value.int .u8)).toArray] u fun e w' => ∃ z, e = .returned z ∧ Below u.heap.size u w' ∧ rrB w.heap.size b (readW S.laid S.ws x) z w' := fun {v} u x b hv hu hx hb => by
  have hu2 := below_then hv hu
  refine (hrt0 u x hu2 hx).mono ?_
  rw [hb]
  rintro e w' ⟨a, c, n, rfl, hN, hb3⟩
  exact ⟨_, rfl, hb3, a, c, n, rfl, fun hb4 => ⟨(hN hb4).1, (hN hb4).2.mono hu2.size⟩⟩
 have hhx : q.hole = true → rightL S q.x q.h = false ∧ rightL S q.y q.h = false := fun e => by
  have e2 := Pt.same_iff.1 e
  rw [e2]
  exact ⟨rightL_zero _ _, rightL_zero _ _⟩
 have h7 := h.len.1
 have hvl := Pt.vs_len hq
 have HO : Hid (cs[4]? = some (.bool false)) := by rw [← hoff]; exact h.off
 have hmy := rmay_run q hq
 have hho := risHole_run q hq
 obtain ⟨vs, hvs⟩ : ∃ vs, vs = q.vs := ⟨_, rfl⟩
 rw [← hvs] at hvl hmy hho ⊢
 have HAL : Hid (∀ w : World, (Instr.alloc 46 true (.tuple #[])).run Tryd.prog w = .ok (.pointer (some ⟨w.heap.size, 0, none⟩)) (w.alloc (.cells (twoB false false).toArray 46))) := alloc_bools
 have HBU : Hid (∀ w : World, (Instr.build 46 #[]).run Tryd.prog w = .ok (.agg (twoB false false).toArray) w) := fun w => by kernel_rfl
 have hzl : (twoB false false).length = 2 := rfl
 obtain ⟨zb, hzb⟩ : ∃ zb, zb = twoB false false := ⟨_, rfl⟩
 have HZB : Hid (zb = twoB false false) := hzb
 rw [← hzb] at HAL HBU hzl
 clear hzb
 have HXC : Hid (vs[33]? = some (.int .u32 (q.x : Int)) ∧ vs[34]? = some (.int .u32 (q.y : Int))) := by rw [hvs]; exact ⟨Pt.vs_x hq, Pt.vs_y hq⟩
 have HH : Hid (q.h.map (Value.int .u8) = (vs.drop 0).take 32) := by rw [hvs]; exact Pt.vs_hash hq
 obtain ⟨hs, hhs⟩ : ∃ hs, hs = q.h.map (Value.int .u8) := ⟨_, rfl⟩
 have hhl : hs.length = 32 := by rw [hhs, List.length_map, hq.len]
 rw [← hhs] at HH hrt
 have hi0 := rix_at0
 have hi1 := rix_at1
 have hib0 : ∀ (g' : Nat) (u : World), (Instr.indexAt 46 (.pointer (some ⟨g', 0, none⟩)) (.int .i64 0)).run Tryd.prog u = .ok (.pointer (some ⟨g', 0, none⟩)) u := fun g' u => index_bools g' 0 (by omega) u
 have hib1 : ∀ (g' : Nat) (u : World), (Instr.indexAt 46 (.pointer (some ⟨g', 0, none⟩)) (.int .i64 1)).run Tryd.prog u = .ok (.pointer (some ⟨g', 1, none⟩)) u := fun g' u => index_bools g' 1 (by omega) u
 obtain ⟨X, hX⟩ : ∃ X, X = rightL S q.x q.h := ⟨_, rfl⟩
 obtain ⟨Y, hY⟩ : ∃ Y, Y = rightL S q.y q.h := ⟨_, rfl⟩
 have hcx := fun (v u : World) (hv : Below w.heap.size w v) (hu : Below v.heap.size v u) => hrt u q.x X hv hu hq.x hX.symm
 have hcy := fun (v u : World) (hv : Below w.heap.size w v) (hu : Below v.heap.size v u) => hrt u q.y Y hv hu hq.y hY.symm
 obtain ⟨RX, hRX⟩ : ∃ RX, RX = readW S.laid S.ws q.x := ⟨_, rfl⟩
 obtain ⟨RY, hRY⟩ : ∃ RY, RY = readW S.laid S.ws q.y := ⟨_, rfl⟩
 rw [← hRX] at hcx
 rw [← hRY] at hcy
 rw [← hX, ← hY] at hhx ⊢
 have HHX : Hid (q.hole = true → X = false ∧ Y = false) := hhx
 obtain ⟨O, hO⟩ : ∃ O, O = q.hole := ⟨_, rfl⟩
 rw [← hO] at hho HHX
 rw [hm] at hmy
 clear hvs hhs hrt0 hrt hoff hm hX hY hRX hRY hhx hO
 go_enter Tryd.func60, Tryd.ntmps60
 go_wp2_with (first
  | ((with_reducible show wpList _ _ _ (Oper.mk _ (Op.box 36 _) _ _ _ _ :: _) _ _); refine wpList_box0 (by rfl) 36 (.tmp 0) (by rfl) cs (by rfl) ?_; intro w1 hK1 hb1 hs1; clear hs1)
  | ((with_reducible show wpList _ _ _ (Oper.mk _ (Op.box 42 _) _ _ _ _ :: _) _ _); refine wpList_box0 (by rfl) 42 (.tmp 1) (by rfl) vs (by rfl) ?_; intro w2 hP2 hb2 hs2; clear hs2)
  | ((with_reducible show wpList _ _ _ (Oper.mk (some 4) (Op.alloc _) _ _ _ _ :: _) _ _); refine wpList_alloc0 (by rfl) 46 (by rfl) (some 4) (by rfl) _ HAL.out ?_; intro w3 hR3 hb3 hs3; clear hs3)
  | ((with_reducible show wpList _ _ _ (Oper.mk _ (Op.build _ _) _ _ _ _ :: _) _ _); refine wpList_build0 (by rfl) 46 (by rfl) _ HBU.out ?_)
  | ((with_reducible show wpList _ _ _ (Oper.mk (some 6) (Op.alloc _) _ _ _ _ :: _) _ _); refine wpList_alloc0 (by rfl) 46 (by rfl) (some 6) (by rfl) _ HAL.out ?_; intro w4 hG4 hb4 hs4; clear hs4)
  | ((with_reducible show wpList _ _ _ (Oper.mk _ (Op.store 46 (.tmp 6) _) _ _ _ _ :: _) _ _); refine wpList_store_blk (by rfl) (.tmp 6) (.tmp 10) 46 (by rfl) _ 0 2 (by rfl) zb (by rfl) size_bools hG4 hzl (by omega) (by rw [HZB.out]; exact twoB_one _ _) _ (whole_store hzl) ?_
     intro w5 hG5 hbut5 hs5
     have HNE : Hid (w3.heap.size ≠ w.heap.size ∧ w3.heap.size ≠ w1.heap.size ∧ w3.heap.size ≠ w2.heap.size ∧ w2.heap.size ≠ w.heap.size ∧ w2.heap.size ≠ w1.heap.size ∧ w.heap.size ≤ w3.heap.size ∧ w.heap.size ≤ w2.heap.size) := by
      show _ ∧ _ ∧ _ ∧ _ ∧ _ ∧ _ ∧ _
      have e1 := hK1.lt
      have e2 := hP2.lt
      have e3 := hR3.lt
      have e4 := hb2.size
      omega
     have hb24 := below_then (below_then (below_then hb1 hb2) hb3) hb4
     have hb25 : Below w.heap.size w w5 := hb24.trans (hbut5.below HNE.out.2.2.2.2.2.1 hb24.size)
     have hK5 := (((hK1.stays hb2).stays hb3).stays hb4).but hbut5 (Ne.symm HNE.out.1)
     have hP5 := ((hP2.stays hb3).stays hb4).but hbut5 (Ne.symm HNE.out.2.1)
     have hR5 := (hR3.stays hb4).but hbut5 (Ne.symm HNE.out.2.2.1)
     have hc4 : w5.cell? ⟨w.heap.size, 4, none⟩ = some (.bool false) := (hK5.cell 4).trans HO.out
     clear hs5 hb24 hK1 hb1 hP2 hb2 hR3 hb3 hG4 hb4 hbut5)
  | ((with_reducible show wpList _ _ _ (Oper.mk _ (Op.load 42 _) _ _ _ _ :: _) _ _); refine wpList_load_blk (by rfl) (.tmp 3) 42 (by rfl) _ 0 35 (by rfl) agg_ptr size_ptr hP5 _ (whole_load hvl) hvl ?_)
  | (go_at_call 112; go_must (refine (hmy _).mono ?_); rintro e w6 ⟨rfl, hb6⟩
     have hG6 := hG5.stays hb6
     have hR6 := hR5.stays hb6
     have hK6 := hK5.stays hb6
     have hP6 := hP5.stays hb6
     have hb26 := below_then hb25 hb6))
 clear hK5 hP5 hR5 hG5 hb25 hb6 hmy hc4
 rw [HZB.out] at hG6 hR6
 go_loopw [7] (fun i wr => Blk 36 wr w.heap.size cs ∧ Blk 42 wr w1.heap.size vs ∧ Below w.heap.size w wr ∧ Blk 46 wr w2.heap.size (twoB false false) ∧ ((i = .int .i64 0 ∧ Blk 46 wr w3.heap.size (twoB false false)) ∨ (O = false ∧ i = .int .i64 1 ∧ Blk 46 wr w3.heap.size (twoB X false)) ∨ (i = .int .i64 2 ∧ Blk 46 wr w3.heap.size (twoB X Y)))) (fun i _ => 2 - (intOf i).toNat)
 case atStart => exact ⟨hK6, hP6, hb26, hR6, .inl ⟨rfl, hG6⟩⟩
 case round =>
  rename_i wr hrel
  obtain ⟨hKr, hPr, hbr, hRr, hcase⟩ := hrel
  clear hK6 hP6 hR6 hG6 hb26
  rcases hcase with ⟨rfl, hGr⟩ | ⟨rfl, rfl, hGr⟩ | ⟨rfl, hGr⟩
  · cases hOc : O
    · rw [hOc] at hho
      go_wp2_with (first
          | ((with_reducible show wpList _ _ _ (Oper.mk _ (Op.load 42 _) _ _ _ _ :: _) _ _); refine wpList_load_guard7 (.tmp 3) 42 (by rfl) (by kernel_rfl) _ 0 35 (by rfl) agg_ptr size_ptr hPr _ (whole_load hvl) hvl ?_)
          | (go_at_call 113; go_must (refine (hho _).mono ?_); rintro e w6 ⟨rfl, hb6⟩
             have hKr := hKr.stays hb6
             have hPr := hPr.stays hb6
             have hGr := hGr.stays hb6
             have hRr := hRr.stays hb6
             have hbr := below_then hbr hb6))
      have hcl := fun u hu => hcx w6 u hbr hu
      have hldK : ∀ u, Below w6.heap.size w6 u → (Instr.loadAt 36 (.pointer (some ⟨w.heap.size, 0, none⟩))).run Tryd.prog u = .ok (.agg cs.toArray) u := fun u hu => run_load_blk agg_rbank size_rbank (hKr.stays hu) (whole_load h7) h7
      have hldH : ∀ u, Below w6.heap.size w6 u → (Instr.loadAt 39 (.pointer (some ⟨w1.heap.size, 0, none⟩))).run Tryd.prog u = .ok (.agg hs.toArray) u := fun u hu => run_load_blk agg_hsh size_hash (hPr.stays hu) HH.out hhl
      have hldx : ∀ u, Below w6.heap.size w6 u → u.cell? ⟨w1.heap.size, 33, none⟩ = some (.int .u32 (q.x : Int)) := fun u hu => ((hPr.stays hu).cell 33).trans HXC.out.1
      have hldy : ∀ u, Below w6.heap.size w6 u → u.cell? ⟨w1.heap.size, 34, none⟩ = some (.int .u32 (q.y : Int)) := fun u hu => ((hPr.stays hu).cell 34).trans HXC.out.2
      refine UpT.wp_region_tail 12 (UpT.tell [(7, rrB w.heap.size X (RX))]) (fun _ => false) (by kernel_rfl) (by kernel_rfl) (UpT.tell_steady _ (by
       intro p hp
       simp only [List.mem_cons, List.not_mem_nil, or_false] at hp
       rcases hp with rfl <;> first | exact isV_steady _ | exact slB_steady _ _ | exact rrB_steady _ _ _)) ?_
      simp only [List.take_succ_cons, List.take_zero]
      refine UpT.wpUp_pure (.agg cs.toArray) (by rfl) (by rfl) (fun wz hp => exec_load (by rfl) (by rfl) (hldK wz hp.1)) ?_
      simp only [Act.put, sTA, sT0, sT1]
      iterate 3 (refine UpT.wpUp_pu ?_; simp only [Act.put, sTA, sT0, sT1])
      apply UpT.wpUp_pure
      case hw => rfl
      case hψ => rfl
      case hv => (intro wz hp; have hcc := hldx wz hp.1; clear hp; go_simp; try (with_reducible rfl))
      simp only [Act.put, sTA, sT0, sT1]
      refine UpT.wpUp_pu ?_
      simp only [Act.put, sTA, sT0, sT1]
      refine UpT.wpUp_pure (.agg hs.toArray) (by rfl) (by rfl) (fun wz hp => exec_load (by rfl) (by rfl) (hldH wz hp.1)) ?_
      simp only [Act.put, sTA, sT0, sT1]
      refine UpT.wpUp_call _ 114 #[.agg cs.toArray, .int .u32 (q.x : Int), .agg hs.toArray] (by rfl) (by rfl) (by rfl) (fun wz => by go_simp) (fun wz hp => hcl wz hp.1) ?_
      rintro v ⟨u, _, hf⟩
      obtain ⟨a5, c5, n5, rfl, _⟩ := hf.of 7 v _ rfl rfl
      clear hf
      simp only [Act.put, sTA, sT0, sT1]
      iterate 4 (refine UpT.wpUp_pu ?_; simp only [Act.put, sTA, sT0, sT1])
      refine UpT.wpUp_end ?_
      intro w7 hb7 hf
      clear hf
      simp only [List.drop_succ_cons, List.drop_zero]
      have hG7 := hGr.stays hb7
      go_wp2_with (first
       | ((with_reducible show wpList _ _ _ (Oper.mk _ (Op.store _ _ _) _ _ _ _ :: _) _ _); refine wpList_store_one (by rfl) (.tmp 41) (.tmp 40) 4 (by rfl) _ 0 (by rfl) (.bool X) (by rfl) rfl rfl size_bool1 hG7 (by decide) ?_
          intro w8 hG8 hbut8 hs8))
      have hb7' := below_then hbr hb7
      exact ⟨⟨(hKr.stays hb7).but hbut8 (Ne.symm HNE.out.1), (hPr.stays hb7).but hbut8 (Ne.symm HNE.out.2.1), hb7'.trans (hbut8.below (B := w.heap.size) HNE.out.2.2.2.2.2.1 hb7'.size), (hRr.stays hb7).but hbut8 (Ne.symm HNE.out.2.2.1), .inr (.inl ⟨by first | rfl | trivial, rfl, hG8⟩)⟩, by decide⟩
    · rw [hOc] at hho HHX
      obtain ⟨rfl, rfl⟩ := HHX.out rfl
      go_wp2_with (first
          | ((with_reducible show wpList _ _ _ (Oper.mk _ (Op.load 42 _) _ _ _ _ :: _) _ _); refine wpList_load_guard7 (.tmp 3) 42 (by rfl) (by kernel_rfl) _ 0 35 (by rfl) agg_ptr size_ptr hPr _ (whole_load hvl) hvl ?_)
          | (go_at_call 113; go_must (refine (hho _).mono ?_); rintro e w6 ⟨rfl, hb6⟩
             have hGr := hGr.stays hb6
             have hRr := hRr.stays hb6
             have hbr := below_then hbr hb6)
          | ((with_reducible show wpList _ _ _ (Oper.mk _ (Op.load 46 _) _ _ _ _ :: _) _ _); refine wpList_load_blk (by rfl) (.tmp 6) 46 (by rfl) _ 0 2 (by rfl) agg_bools size_bools hGr _ (whole_load rfl) rfl ?_)
          | ((with_reducible show wpList _ _ _ (Oper.mk _ (Op.store _ _ _) _ _ _ _ :: _) _ _); refine wpList_store_blk (by rfl) (.tmp 4) (.tmp 42) 46 (by rfl) _ 0 2 (by rfl) (twoB false false) (by rfl) size_bools hRr rfl (by decide) (twoB_one _ _) _ (whole_store rfl) ?_
             intro w9 hR9 hbut9 hs9))
      exact bodyPost_ret_blk2 rfl rfl (by rfl) (by rfl) agg_bools size_bools hR9 rfl ⟨rfl, hbr.trans (hbut9.below (B := w.heap.size) HNE.out.2.2.2.2.2.2 hbr.size)⟩
  · go_wp2_with (first
     | ((with_reducible show wpList _ _ _ (Oper.mk _ (Op.load 42 _) _ _ _ _ :: _) _ _); refine wpList_load_guard7 (.tmp 3) 42 (by rfl) (by kernel_rfl) _ 0 35 (by rfl) agg_ptr size_ptr hPr _ (whole_load hvl) hvl ?_)
     | (go_at_call 113; go_must (refine (hho _).mono ?_); rintro e w6 ⟨rfl, hb6⟩
        have hKr := hKr.stays hb6
        have hPr := hPr.stays hb6
        have hGr := hGr.stays hb6
        have hRr := hRr.stays hb6
        have hbr := below_then hbr hb6))
    have hcl := fun u hu => hcy w6 u hbr hu
    have hldK : ∀ u, Below w6.heap.size w6 u → (Instr.loadAt 36 (.pointer (some ⟨w.heap.size, 0, none⟩))).run Tryd.prog u = .ok (.agg cs.toArray) u := fun u hu => run_load_blk agg_rbank size_rbank (hKr.stays hu) (whole_load h7) h7
    have hldH : ∀ u, Below w6.heap.size w6 u → (Instr.loadAt 39 (.pointer (some ⟨w1.heap.size, 0, none⟩))).run Tryd.prog u = .ok (.agg hs.toArray) u := fun u hu => run_load_blk agg_hsh size_hash (hPr.stays hu) HH.out hhl
    have hldx : ∀ u, Below w6.heap.size w6 u → u.cell? ⟨w1.heap.size, 33, none⟩ = some (.int .u32 (q.x : Int)) := fun u hu => ((hPr.stays hu).cell 33).trans HXC.out.1
    have hldy : ∀ u, Below w6.heap.size w6 u → u.cell? ⟨w1.heap.size, 34, none⟩ = some (.int .u32 (q.y : Int)) := fun u hu => ((hPr.stays hu).cell 34).trans HXC.out.2
    refine UpT.wp_region_tail 12 (UpT.tell [(7, rrB w.heap.size Y (RY))]) (fun _ => false) (by kernel_rfl) (by kernel_rfl) (UpT.tell_steady _ (by
        intro p hp
        simp only [List.mem_cons, List.not_mem_nil, or_false] at hp
        rcases hp with rfl <;> first | exact isV_steady _ | exact slB_steady _ _ | exact rrB_steady _ _ _)) ?_
    simp only [List.take_succ_cons, List.take_zero]
    refine UpT.wpUp_pure (.agg cs.toArray) (by rfl) (by rfl) (fun wz hp => exec_load (by rfl) (by rfl) (hldK wz hp.1)) ?_
    simp only [Act.put, sTA, sT0, sT1]
    iterate 3 (refine UpT.wpUp_pu ?_; simp only [Act.put, sTA, sT0, sT1])
    apply UpT.wpUp_pure
    case hw => rfl
    case hψ => rfl
    case hv => (intro wz hp; have hcc := hldy wz hp.1; clear hp; go_simp; try (with_reducible rfl))
    simp only [Act.put, sTA, sT0, sT1]
    refine UpT.wpUp_pu ?_
    simp only [Act.put, sTA, sT0, sT1]
    refine UpT.wpUp_pure (.agg hs.toArray) (by rfl) (by rfl) (fun wz hp => exec_load (by rfl) (by rfl) (hldH wz hp.1)) ?_
    simp only [Act.put, sTA, sT0, sT1]
    refine UpT.wpUp_call _ 114 #[.agg cs.toArray, .int .u32 (q.y : Int), .agg hs.toArray] (by rfl) (by rfl) (by rfl) (fun wz => by go_simp) (fun wz hp => hcl wz hp.1) ?_
    rintro v ⟨u, _, hf⟩
    obtain ⟨a5, c5, n5, rfl, _⟩ := hf.of 7 v _ rfl rfl
    clear hf
    simp only [Act.put, sTA, sT0, sT1]
    iterate 4 (refine UpT.wpUp_pu ?_; simp only [Act.put, sTA, sT0, sT1])
    refine UpT.wpUp_end ?_
    intro w7 hb7 hf
    clear hf
    simp only [List.drop_succ_cons, List.drop_zero]
    have hG7 := hGr.stays hb7
    go_wp2_with (first
        | ((with_reducible show wpList _ _ _ (Oper.mk _ (Op.store _ _ _) _ _ _ _ :: _) _ _); refine wpList_store_one (by rfl) (.tmp 41) (.tmp 40) 4 (by rfl) _ 1 (by rfl) (.bool Y) (by rfl) rfl rfl size_bool1 hG7 (Nat.lt_add_one 1) ?_
           intro w8 hG8 hbut8 hs8))
    have hb7' := below_then hbr hb7
    exact ⟨⟨(hKr.stays hb7).but hbut8 (Ne.symm HNE.out.1), (hPr.stays hb7).but hbut8 (Ne.symm HNE.out.2.1), hb7'.trans (hbut8.below (B := w.heap.size) HNE.out.2.2.2.2.2.1 hb7'.size), (hRr.stays hb7).but hbut8 (Ne.symm HNE.out.2.2.1), .inr (.inr ⟨rfl, hG8⟩)⟩, by decide⟩
  · go_wp2_with (first
        | ((with_reducible show wpList _ _ _ (Oper.mk _ (Op.load 46 _) _ _ _ _ :: _) _ _); refine wpList_load_blk (by rfl) (.tmp 6) 46 (by rfl) _ 0 2 (by rfl) agg_bools size_bools hGr _ (whole_load rfl) rfl ?_)
        | ((with_reducible show wpList _ _ _ (Oper.mk _ (Op.store _ _ _) _ _ _ _ :: _) _ _); refine wpList_store_blk (by rfl) (.tmp 4) (.tmp 42) 46 (by rfl) _ 0 2 (by rfl) (twoB X Y) (by rfl) size_bools hRr rfl (by decide) (twoB_one _ _) _ (whole_store rfl) ?_
           intro w9 hR9 hbut9 hs9))
    exact bodyPost_ret_blk2 rfl rfl (by rfl) (by rfl) agg_bools size_bools hR9 rfl ⟨rfl, hbr.trans (hbut9.below (B := w.heap.size) HNE.out.2.2.2.2.2.2 hbr.size)⟩
theorem rlk_run (h : RB w G cs S l t) (hln : S.ws.length ≤ 900000) (q : Pt) (hq : q.ok) :
 Calls Tryd.prog 60 #[.agg cs.toArray, .agg q.vs.toArray] w fun e w' => e = .returned (.tuple #[.agg (twoB (lookK S q).1.1 (lookK S q).1.2).toArray, .int .i64 (lookK S q).2]) ∧ Below w.heap.size w w' := by
 by_cases h0 : S.off = true
 · have : lookK S q = ((false, false), 8) := by unfold lookK okK; rw [if_pos h0]; rfl
   rw [this]
   exact rlk_off h q hq h0
 have h0' : S.off = false := by simpa using h0
 by_cases h1 : q.may = false
 · have : lookK S q = ((false, false), 1) := by unfold lookK okK; rw [h0', h1]; rfl
   rw [this]
   exact rlk_may h q hq h0' h1
 have h1' : q.may = true := by simpa using h1
 have : lookK S q = ((rightL S q.x q.h, rightL S q.y q.h), 0) := by unfold lookK okK; rw [h0', h1']; rfl
 rw [this]
 exact rlk_go h hln q hq h0' h1'
end
end Go.Proofs.YthbldjnpnligpaaDoor
