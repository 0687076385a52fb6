/-
  The walk over the laws' live question.
-/
import Derived.Test.YtobfegmkjiggdaaPtrRead
namespace Go.Proofs.Ytobfegmkjiggdaa
set_option linter.unusedSimpArgs false
set_option linter.unusedVariables false
open Go.RowKit

/-- A value that is built of parts. -/
theorem wpList_build {P : Program} {w : World} {ops : Array Oper} {rest : List Oper} {o : Oper} {a : Act} {Q : Exit → Act → World → Prop} (hw : Region.wanted o (yielded ops a.tmps) = true) (t : TypeId) (ps : List (Nat × Operand)) (ho : o.op = Op.build t ps.toArray) (qs : List (Nat × Value)) (hq : ps.map (fun q => (q.1, a.eval q.2)) = qs) (V : Value) (hr : ∀ w, (Instr.build t qs.toArray).run P w = .ok V w)
    (h : wpList P ops Q rest (a.put o.dst V) w) : wpList P ops Q (o :: rest) a w := by
  refine wpList_step fun K hK => ?_
  rw [if_pos hw]
  have e : ps.toArray.map (fun (i, x) => (i, a.eval x)) = qs.toArray := by rw [List.map_toArray, ← hq]
  unfold Oper.wp execOp
  simp only [ho, Sem.run_bind, Sem.run_pure, Result.andThen_ok, e, hr]
  exact hK _ _ h

/-- The pointer that is asked about. -/
def alv : Pt := ⟨1 :: List.replicate 31 0, 2, 3, 0⟩
theorem alv_ok : alv.ok := ⟨by decide, by decide, by decide, by decide, by decide⟩
theorem alv_build1 (w : World) : (Instr.build 22 #[(0, .int .u8 1)]).run Try.prog w = .ok (.agg (alv.h.map (Value.int .u8)).toArray) w := by kernel_rfl
theorem alv_build2 (w : World) : (Instr.build 24 #[(0, .int .u32 3), (1, .int .u32 0)]).run Try.prog w = .ok (.agg #[.int .u32 3, .int .u32 0]) w := by kernel_rfl
theorem alv_build3 (w : World) : (Instr.build 26 #[(0, .agg (alv.h.map (Value.int .u8)).toArray), (1, .int .u32 2), (2, .agg #[.int .u32 3, .int .u32 0])]).run Try.prog w = .ok (.agg alv.vs.toArray) w := by kernel_rfl
theorem alv_dec : decodeL alv.enc = (alv, 0) := by rw [decodeL_enc alv_ok]; rfl

set_option maxHeartbeats 2000000 in
set_option maxRecDepth 100000 in
theorem alive_run (w : World) : Calls Try.prog 9 #[] w fun e w' => e = .returned (.bool true) ∧ Below w.heap.size w w' := by
  have hpz : Pt.zero.vs.length = 35 := Pt.vs_len Pt.zero_ok
  have hz4 : ((List.replicate 44 (0 : Int)).map (Value.int .u8)).length = 44 := rfl
  have hok := alv_ok
  have hvl := Pt.vs_len hok
  have hel := Pt.enc_len hok
  have hevl : (alv.enc.map (Value.int .u8)).length = 44 := by rw [List.length_map]; exact hel
  have her := Pt.enc_rng hok
  have hen := encode_run alv hok
  have hc32 : (alv.enc.map (Value.int .u8))[32]? = some (.int .u8 2) := rfl
  have hc36 : (alv.enc.map (Value.int .u8))[36]? = some (.int .u8 3) := rfl
  have heq : ∀ u, (Op.equalIn 10000 26 (.agg alv.vs.toArray) (.agg alv.vs.toArray)).run Try.prog u = .ok true u := fun u => by
    rw [equal_ptr hok hok 9997 u, Pt.same_self]
  have hnd := node_run zeros4 zeros4_ok rfl
  have hho : ∀ u, Calls Try.prog 13 #[.agg Pt.zero.vs.toArray] u fun e w' => e = .returned (.bool true) ∧ Below u.heap.size u w' := isHole_run Pt.zero Pt.zero_ok
  obtain ⟨p, hp⟩ : ∃ p, p = alv := ⟨_, rfl⟩
  obtain ⟨zs, hzs⟩ : ∃ zs, zs = fourV zeros4 := ⟨_, rfl⟩
  have HB1 : Hid (∀ w : World, (Instr.build 22 #[(0, .int .u8 1)]).run Try.prog w = .ok (.agg (p.h.map (Value.int .u8)).toArray) w) := by rw [hp]; exact alv_build1
  have HB2 : Hid (∀ w : World, (Instr.build 24 #[(0, .int .u32 3), (1, .int .u32 0)]).run Try.prog w = .ok (.agg #[.int .u32 3, .int .u32 0]) w) := alv_build2
  have HB3 : Hid (∀ w : World, (Instr.build 26 #[(0, .agg (p.h.map (Value.int .u8)).toArray), (1, .int .u32 2), (2, .agg #[.int .u32 3, .int .u32 0])]).run Try.prog w = .ok (.agg p.vs.toArray) w) := by rw [hp]; exact alv_build3
  have HBU : Hid (∀ w : World, (Instr.build 36 #[]).run Try.prog w = .ok (.agg zs.toArray) w) := by rw [hzs]; exact build_four0
  have HBZ : Hid (∀ w : World, (Instr.build 26 #[]).run Try.prog w = .ok (.agg Pt.zero.vs.toArray) w) := build_ptr0
  have HDE : Hid (∀ u g, Bs u (some ⟨g, 0, none⟩) 44 p.enc → Calls Try.prog 17 #[.slice (some ⟨g, 0, none⟩) 44 44] u fun e w' => e = .returned (.tuple #[.agg p.vs.toArray, .int .i64 0]) ∧ Below u.heap.size u w') := fun u g hB => by
    have := decode_run (some ⟨g, 0, none⟩) 44 44 p.enc u (by rw [hp]; exact hel.symm) hB
    rw [hp] at this ⊢
    rw [alv_dec] at this
    exact this
  rw [← hp] at hok hvl hel hevl her hen hc32 hc36 heq
  rw [← hzs] at hnd
  have HEN : Hid (∀ u, Calls Try.prog 8 #[.agg p.vs.toArray] u fun e w' => e = .returned (.agg (p.enc.map (Value.int .u8)).toArray) ∧ Below u.heap.size u w') := hen
  have HND : Hid (∀ u, Calls Try.prog 21 #[.agg zs.toArray] u fun e w' => ∃ a c, e = .returned (.slice a 256 c) ∧ Bs w' a c (nodeL zeros4) ∧ Below u.heap.size u w') := hnd
  have HHO : Hid (∀ u, Calls Try.prog 13 #[.agg Pt.zero.vs.toArray] u fun e w' => e = .returned (.bool true) ∧ Below u.heap.size u w') := hho
  clear hp hzs hen hnd hho
  go_enter Try.func9, Try.ntmps9
  go_wp2_with (first
    | (refine wpList_build (by rfl) 22 [(0, .const (.int .u8 1))] (by rfl) _ (by rfl) _ HB1.out ?_)
    | (refine wpList_build (by rfl) 24 [(0, .const (.int .u32 3)), (1, .const (.int .u32 0))] (by rfl) _ (by rfl) _ HB2.out ?_)
    | (refine wpList_build (by rfl) 26 [(0, .tmp 5), (1, .const (.int .u32 2)), (2, .tmp 6)] (by rfl) _ (by rfl) _ HB3.out ?_)
    | (refine wpList_alloc0 (by rfl) 26 (by rfl) (some 1) (by rfl) Pt.zero.vs alloc_ptr0 ?_; intro w1 hP1 hb1 hs1)
    | (refine wpList_store_blk (by rfl) (.tmp 1) (.tmp 7) 26 (by rfl) _ 0 35 (by rfl) _ (by rfl) size_ptr hP1 hvl (by omega) (Pt.vs_one _) _ (whole_store hpz) ?_
       intro w2 hP2 hbut2 hs2)
    | (refine wpList_load_blk (by rfl) (.tmp 1) 26 (by rfl) _ 0 35 (by rfl) agg_ptr size_ptr hP2 _ (whole_load hvl) hvl ?_)
    | (go_at_call 8; go_must (refine (HEN.out _).mono ?_); rintro e w3 ⟨rfl, hb3⟩; have hP3 := hP2.stays hb3)
    | (refine wpList_alloc0 (by rfl) 27 (by rfl) (some 2) (by rfl) _ alloc_44 ?_; intro w4 hE4 hb4 hs4; have hP4 := hP3.stays hb4)
    | (refine wpList_store_blk (by rfl) (.tmp 2) (.tmp 9) 27 (by rfl) _ 0 44 (by rfl) _ (by rfl) size_44 hE4 hevl (by rw [hz4]; omega) (int_oneCell _ _) _ (whole_store hz4) ?_
       intro w5 hE5 hbut5 hs5; have hP5 := hP4.but hbut5 (by have := hb3.size; omega)
       have hD5 := HDE.out w5 _ ⟨her, by omega, by decide, by simp, .inr ⟨_, 0, rfl, fun i hi => by rw [hE5.cell]; simp [List.getD, hi]⟩⟩)
    | (go_at_call 17; go_must (refine hD5.mono ?_); rintro e w6 ⟨rfl, hb6⟩; have hP6 := hP5.stays hb6; have hE6 := hE5.stays hb6)
    | (refine wpList_alloc0 (by rfl) 26 (by rfl) (some 3) (by rfl) Pt.zero.vs alloc_ptr0 ?_; intro w7 hQ7 hb7 hs7; have hP7 := hP6.stays hb7; have hE7 := hE6.stays hb7)
    | (refine wpList_store_blk (by rfl) (.tmp 3) (.tmp 13) 26 (by rfl) _ 0 35 (by rfl) _ (by rfl) size_ptr hQ7 hvl (by omega) (Pt.vs_one _) _ (whole_store hpz) ?_
       intro w8 hQ8 hbut8 hs8; have hP8 := hP7.but hbut8 (by have := hb3.size; have := hb6.size; omega); have hE8 := hE7.but hbut8 (by have := hb3.size; have := hb6.size; omega)
       have hk32 := (hE8.cell 32).trans hc32; have hk36 := (hE8.cell 36).trans hc36)
    | (refine wpList_load_blk_guard (by rfl) (.tmp 3) 26 (by rfl) _ 0 35 (by rfl) agg_ptr size_ptr hQ8 _ (whole_load hvl) hvl ?_)
    | (refine wpList_load_blk_guard (by rfl) (.tmp 1) 26 (by rfl) _ 0 35 (by rfl) agg_ptr size_ptr hP8 _ (whole_load hvl) hvl ?_)
    | (refine wpList_build0 (by rfl) 36 (by rfl) _ HBU.out ?_)
    | (go_at_call 21; go_must (refine (HND.out _).mono ?_); rintro e w9 ⟨a9, c9, rfl, hB9, hb9⟩)
    | (refine wpList_build0 (by rfl) 26 (by rfl) _ HBZ.out ?_)
    | (go_at_call 13; go_must (refine (HHO.out _).mono ?_); rintro e wA ⟨rfl, hbA⟩))
  go_ret
  refine ⟨rfl, ?_⟩
  have z3 := hb3.size
  have z6 := hb6.size
  have z9 := hb9.size
  have k2 := hb1.trans (hbut2.below (Nat.le_refl _) (by omega))
  have k4 := (k2.trans (hb3.mono (by omega))).trans (hb4.mono (by omega))
  have k5 := k4.trans (hbut5.below (by omega) (by omega))
  have k7 := (k5.trans (hb6.mono (by omega))).trans (hb7.mono (by omega))
  have k8 := k7.trans (hbut8.below (by omega) (by omega))
  exact (k8.trans (hb9.mono (by omega))).trans (hbA.mono (by omega))
end Go.Proofs.Ytobfegmkjiggdaa
