/-
 Arrays of integers, compared.
-/
import Derived.Test.YthbldjnpnligpaaDoorB03
import Derived.Test.YthbldjnpnligpaaDoorB01
import Derived.Laws.StructEq
namespace Go.Proofs.YthbldjnpnligpaaDoor
set_option linter.unusedSimpArgs false
set_option linter.unusedVariables false
set_option maxRecDepth 100000
open Go.RowKit
theorem all_range_ints : ∀ (xs ys : List Int), xs.length = ys.length → ((List.range xs.length).all fun i => xs.getD i 0 == ys.getD i 0) = (xs == ys)
 | [], [], _ => by simp
 | x :: xs, y :: ys, h => by
   have ih := all_range_ints xs ys (by simpa using h)
   rw [List.length_cons, List.range_succ_eq_map, List.all_cons, List.all_map]
   simp only [List.getD_cons_zero, Function.comp_def, List.getD_cons_succ]
   rw [ih]
   simp [List.cons_beq_cons]
 | [], _ :: _, h => by simp at h
 | _ :: _, [], h => by simp at h
theorem equal_ints {P : Program} {t e : TypeId} {n : Nat} {K : IntKind} (ht : P.underlying t = some (.array n e)) (he : P.underlying e = some (.int K)) (hs : (P.info? e).map (·.size) = some 1) (d : Nat)
 (xs ys : List Int) (hx : xs.length = n) (hy : ys.length = n) (w : World) :
 (Op.equalIn (d + 2) t (.agg (xs.map (Value.int K)).toArray) (.agg (ys.map (Value.int K)).toArray)).run P w = .ok (xs == ys) w := by
 have hsz := sizeOf_run hs
 rw [← all_range_ints xs ys (hx.trans hy.symm), hx, List.range_eq_range', Op.equalIn]
 simp only [Sem.run_bind, run_underlying ht, Result.andThen_ok, hsz, Std.Legacy.Range.forIn_eq_forIn_range', Std.Legacy.Range.size, Nat.sub_zero, Nat.add_sub_cancel, Nat.div_one]
 have hl : ∀ i ∈ List.range' 0 n 1, i < n := fun i hi => by simpa using (List.mem_range'_1.1 hi).2
 generalize List.range' 0 n 1 = l at hl ⊢
 induction l with
 | nil => simp
 | cons i l ih =>
   have hi : i < n := hl i (by simp)
   have px : (part e (xs.map (Value.int K)).toArray (i * 1)).run P w = .ok (.int K (xs.getD i 0)) w := by
    simp [part, isAgg, run_underlying he, List.getD, List.getElem?_eq_getElem (show i < xs.length by omega)]
   have py : (part e (ys.map (Value.int K)).toArray (i * 1)).run P w = .ok (.int K (ys.getD i 0)) w := by
    simp [part, isAgg, run_underlying he, List.getD, List.getElem?_eq_getElem (show i < ys.length by omega)]
   have pe : (Op.equalIn (d + 1) e (.int K (xs.getD i 0)) (.int K (ys.getD i 0))).run P w = .ok (xs.getD i 0 == ys.getD i 0) w := by
    rw [run_equalIn_int w d e K K _ _ he]
   simp only [List.forIn_cons, Sem.run_bind, px, py, pe, Result.andThen_ok, List.all_cons]
   cases hb : (xs.getD i 0 == ys.getD i 0)
   · simp
   · simp only [Bool.not_true, Bool.false_eq_true, if_false, Sem.run_pure, Result.andThen_ok, Bool.true_and]
     exact ih fun j hj => hl j (by simp [hj])
end Go.Proofs.YthbldjnpnligpaaDoor

/-
 Pointers, and four of them, compared.
-/

namespace Go.Proofs.YthbldjnpnligpaaDoor
set_option linter.unusedSimpArgs false
set_option linter.unusedVariables false
set_option maxRecDepth 100000
open Go.RowKit
theorem part_agg {P : Program} {t : TypeId} {n off : Nat} {w : World} {cs us : List Value} (hA : ∀ w, (isAgg t).run P w = .ok true w) (hZ : ∀ w, (sizeOf t).run P w = .ok n w) (hu : us = (cs.drop off).take n) : (part t cs.toArray off).run P w = .ok (.agg us.toArray) w := by
 subst hu
 simp [part, hA, hZ, Sem.run_bind]
theorem part_one {P : Program} {t : TypeId} {off : Nat} {w : World} {cs : List Value} {v : Value} {K : IntKind} (hI : P.underlying t = some (.int K)) (hv : cs[off]? = some v) : (part t cs.toArray off).run P w = .ok v w := by
 simp [part, isAgg, run_underlying hI, hv, Sem.run_bind]
theorem fields_ptr : Tryd.prog.underlying 42 = some (.struct (Tryd.prog.fieldsOf 42)) := by kernel_rfl
theorem fields_list : (Tryd.prog.fieldsOf 42).toList.map (fun f => (f.name == "_", f.type, f.offset)) = [(false, 39, 0), (false, 34, 32), (false, 40, 33)] := by kernel_rfl
theorem stood_ptr : Tryd.prog.stoodInHeld 42 = false := by kernel_rfl
theorem agg_hsh (w : World) : (isAgg 39).run Tryd.prog w = .ok true w := isAgg_array Tryd.underlying39 w
theorem size_hash (w : World) : (sizeOf 39).run Tryd.prog w = .ok 32 w := sizeOf_run (by kernel_rfl) w
theorem agg_at (w : World) : (isAgg 40).run Tryd.prog w = .ok true w := isAgg_array Tryd.underlying40 w
theorem size_at (w : World) : (sizeOf 40).run Tryd.prog w = .ok 2 w := sizeOf_run (by kernel_rfl) w
theorem agg_ptr (w : World) : (isAgg 42).run Tryd.prog w = .ok true w := isAgg_struct fields_ptr w
theorem size_ptr (w : World) : (sizeOf 42).run Tryd.prog w = .ok 35 w := sizeOf_run (by kernel_rfl) w
theorem sizes5 : (Tryd.prog.info? 5).map (·.size) = some 1 := by kernel_rfl
theorem sizes23 : (Tryd.prog.info? 34).map (·.size) = some 1 := by kernel_rfl
theorem natbeq (a b : Nat) : ((a : Int) == (b : Int)) = (a == b) := by
 rw [Bool.eq_iff_iff]; simp; omega
theorem Pt.vs_hash {p : Pt} (h : p.ok) : p.h.map (Value.int .u8) = (p.vs.drop 0).take 32 := by
 have : (p.h.map (Value.int .u8)).length = 32 := by simp [h.len]
 rw [List.drop_zero, Pt.vs, ← this, List.take_left]
theorem Pt.vs_tail {p : Pt} (h : p.ok) : p.vs.drop 32 = [.int .u32 p.b, .int .u32 p.x, .int .u32 p.y] := by
 have : (p.h.map (Value.int .u8)).length = 32 := by simp [h.len]
 rw [Pt.vs, ← this, List.drop_left]
theorem Pt.vs_birth {p : Pt} (h : p.ok) : p.vs[32]? = some (.int .u32 p.b) := by
 have := congrArg (·[0]?) (Pt.vs_tail h)
 simpa [List.getElem?_drop] using this
theorem Pt.vs_x {p : Pt} (h : p.ok) : p.vs[33]? = some (.int .u32 p.x) := by
 have := congrArg (·[1]?) (Pt.vs_tail h)
 simpa [List.getElem?_drop] using this
theorem Pt.vs_y {p : Pt} (h : p.ok) : p.vs[34]? = some (.int .u32 p.y) := by
 have := congrArg (·[2]?) (Pt.vs_tail h)
 simpa [List.getElem?_drop] using this
theorem Pt.vs_at {p : Pt} (h : p.ok) : ([(p.x : Int), (p.y : Int)].map (Value.int .u32)) = (p.vs.drop 33).take 2 := by
 rw [show 33 = 32 + 1 from rfl, ← List.drop_drop, Pt.vs_tail h]; rfl
theorem wpList_load_blk_guard {P : Program} {w : World} {ops : Array Oper} {rest : List Oper} {o : Oper} {a : Act} {Q : Exit → Act → World → Prop} (hw : Region.wanted o (yielded ops a.tmps) = true) (x : Operand) (t : TypeId) (ho : o.op = Op.load t x)
 (g off n : Nat) (hx : a.eval x = .pointer (some ⟨g, off, none⟩)) (hA : ∀ w, (isAgg t).run P w = .ok true w) (hZ : ∀ w, (sizeOf t).run P w = .ok n w) {e : TypeId} {vs : List Value} (hb : Blk e w g vs)
 (us : List Value) (hu : us = (vs.drop off).take n) (hl : us.length = n) (h : wpList P ops Q rest (a.put o.dst (.agg us.toArray)) w) : wpList P ops Q (o :: rest) a w := by
 refine wpList_step fun K hK => ?_
 rw [if_pos hw]
 exact step_load_blk x t ho g off n hx hA hZ hb us hu hl (hK _ _ h)
theorem fields3 {l : List Field} {t1 t2 t3 o1 o2 o3 : Nat} (h : l.map (fun f => (f.name == "_", f.type, f.offset)) = [(false, t1, o1), (false, t2, o2), (false, t3, o3)]) :
 ∃ f1 f2 f3 : Field, l = [f1, f2, f3] ∧ (f1.name == "_") = false ∧ f1.type = t1 ∧ f1.offset = o1 ∧ (f2.name == "_") = false ∧ f2.type = t2 ∧ f2.offset = o2 ∧ (f3.name == "_") = false ∧ f3.type = t3 ∧ f3.offset = o3 := by
 rcases l with _ | ⟨f1, _ | ⟨f2, _ | ⟨f3, _ | ⟨f4, l⟩⟩⟩⟩
 · simp at h
 · simp at h
 · simp at h
 · simp only [List.map_cons, List.map_nil, List.cons.injEq, Prod.mk.injEq, and_true] at h
   exact ⟨f1, f2, f3, rfl, h.1.1, h.1.2.1, h.1.2.2, h.2.1.1, h.2.1.2.1, h.2.1.2.2, h.2.2.1, h.2.2.2.1, h.2.2.2.2⟩
 · simp at h
theorem equal_ptr_in {P : Program} {t tH tB tA e : TypeId} (ht : P.underlying t = some (.struct (P.fieldsOf t))) (hs : P.stoodInHeld t = false)
 (hf : (P.fieldsOf t).toList.map (fun f => (f.name == "_", f.type, f.offset)) = [(false, tH, 0), (false, tB, 32), (false, tA, 33)])
 (uH : P.underlying tH = some (.array 32 e)) (uB : P.underlying tB = some (.int .u32)) (uA : P.underlying tA = some (.array 2 tB)) (ue : P.underlying e = some (.int .u8))
 (sH : (P.info? tH).map (·.size) = some 32) (sB : (P.info? tB).map (·.size) = some 1) (sA : (P.info? tA).map (·.size) = some 2) (se : (P.info? e).map (·.size) = some 1)
 {p q : Pt} (hp : p.ok) (hq : q.ok) (d : Nat) (w : World) : (Op.equalIn (d + 3) t (.agg p.vs.toArray) (.agg q.vs.toArray)).run P w = .ok (p.same q) w := by
 rw [run_equalIn_struct w (d + 2) _ _ _ ht hs]
 obtain ⟨f1, f2, f3, hl, n1, t1, o1, n2, t2, o2, n3, t3, o3⟩ := fields3 hf
 rw [hl]
 have g1 : f1.name ≠ "_" := by intro h; simp [h] at n1
 have g2 : f2.name ≠ "_" := by intro h; simp [h] at n2
 have g3 : f3.name ≠ "_" := by intro h; simp [h] at n3
 have pa1 := fun {p : Pt} (h : p.ok) => part_agg (P := P) (w := w) (off := 0) (isAgg_array uH) (sizeOf_run sH) (Pt.vs_hash h)
 have pa2 := fun {p : Pt} (h : p.ok) => part_one (P := P) (w := w) uB (Pt.vs_birth h)
 have pa3 := fun {p : Pt} (h : p.ok) => part_agg (P := P) (w := w) (off := 33) (isAgg_array uA) (sizeOf_run sA) (Pt.vs_at h)
 have e1 := equal_ints (P := P) uH ue se d p.h q.h hp.len hq.len w
 have e2 : (Op.equalIn (d + 2) tB (.int .u32 (p.b : Int)) (.int .u32 (q.b : Int))).run P w = .ok ((p.b : Int) == (q.b : Int)) w := run_equalIn_int w (d + 1) _ _ _ _ _ uB
 have e3 := equal_ints (P := P) uA uB sB d [(p.x : Int), (p.y : Int)] [(q.x : Int), (q.y : Int)] rfl rfl w
 simp only [Op.eqFields, g1, g2, g3, t1, t2, t3, o1, o2, o3, ne_eq, not_false_eq_true, if_true, Sem.run_bind, pa1 hp, pa1 hq, pa2 hp, pa2 hq, pa3 hp, pa3 hq, e1, e2, e3, Result.andThen_ok, natbeq, Sem.run_ite, Sem.run_pure]
 have hcons : ([(p.x : Int), (p.y : Int)] == [(q.x : Int), (q.y : Int)]) = (p.x == q.x && p.y == q.y) := by
  rw [← natbeq p.x, ← natbeq p.y]; simp [List.cons_beq_cons]
 unfold Pt.same
 rw [hcons]
 cases p.h == q.h <;> cases p.b == q.b <;> cases p.x == q.x <;> cases p.y == q.y <;> simp
theorem equal_ptr {p q : Pt} (hp : p.ok) (hq : q.ok) (d : Nat) (w : World) : (Op.equalIn (d + 3) 42 (.agg p.vs.toArray) (.agg q.vs.toArray)).run Tryd.prog w = .ok (p.same q) w :=
 equal_ptr_in fields_ptr stood_ptr fields_list Tryd.underlying39 Tryd.underlying34 Tryd.underlying40 Tryd.underlying5 (by kernel_rfl) sizes23 (by kernel_rfl) sizes5 hp hq d w
end Go.Proofs.YthbldjnpnligpaaDoor

/-
 Pointers that came in, as the walks take them.
-/

namespace Go.Proofs.YthbldjnpnligpaaDoor
set_option linter.unusedSimpArgs false
set_option linter.unusedVariables false
set_option maxRecDepth 100000
open Go.RowKit Go.ChangeShapes Go.WideShapes
theorem wf_u32 {n : Int} (h : (Lit.int .u32 n).wf = true) : ∃ k : Nat, n = k ∧ k < 4294967296 := by
 simp [Lit.wf, IntKind.min, IntKind.max, IntKind.bits, IntKind.signed] at h
 exact ⟨n.toNat, by omega, by omega⟩
section
variable {H : Type} {enc : TypeId × Value → H} {W : World} {base : Nat}
theorem open_ptr_cs {fuel : Nat} {held : Bool} {cs : List Value} {x : DataW H × List MemPlace} (h : DataW.trod enc Tryd.prog W base (fun _ => true) held fuel 42 cs = some x) : ∃ p : Pt, cs = p.vs ∧ p.ok := by
 have hH : Tryd.prog.cellsOf 39 = 32 := by kernel_rfl
 have hU : Tryd.prog.cellsOf 34 = 1 := by kernel_rfl
 have hT : Tryd.prog.cellsOf 40 = 2 := by kernel_rfl
 have hB : Tryd.prog.cellsOf 5 = 1 := by kernel_rfl
 have hP : Tryd.prog.cellsOf 42 = 35 := by kernel_rfl
 cases fuel with
 | zero => simp [DataW.trod] at h
 | succ fuel =>
   simp only [DataW.trod, Tryd.underlying42, hP] at h
   split at h
   · rename_i hl
     obtain ⟨xs, hm, hx⟩ := Option.map_eq_some_iff.1 h
     obtain ⟨_, _, h0⟩ := Lib.mapM_at hm 0 _ rfl
     obtain ⟨_, _, h1⟩ := Lib.mapM_at hm 1 _ rfl
     obtain ⟨_, _, h2⟩ := Lib.mapM_at hm 2 _ rfl
     simp only [hH, hU, hT] at h0 h1 h2
     obtain ⟨zs, e0, l0, r0⟩ := open_array Tryd.underlying39 Tryd.underlying5 hB hH h0
     obtain ⟨n1, e1, _, w1⟩ := DataW.trod_int Tryd.underlying34 h1
     obtain ⟨ys, e2, l2, r2⟩ := open_array Tryd.underlying40 Tryd.underlying34 hU hT h2
     obtain ⟨b, rfl, hb⟩ := wf_u32 w1
     match ys, l2, e2, r2 with
     | [y0, y1], _, e2, r2 =>
       obtain ⟨a0, rfl, ha0⟩ := wf_u32 (r2 y0 (by simp))
       obtain ⟨a1, rfl, ha1⟩ := wf_u32 (r2 y1 (by simp))
       refine ⟨⟨zs, b, a0, a1⟩, ?_, ⟨l0, fun z hz => wf_u8 (r0 z hz), hb, ha0, ha1⟩⟩
       unfold Pt.vs
       simp only
       have c1 : cs = cs.take 32 ++ cs.drop 32 := (List.take_append_drop _ _).symm
       have c2 : cs.drop 32 = (cs.drop 32).take 1 ++ cs.drop 33 := by rw [show 33 = 32 + 1 from rfl, ← List.drop_drop]; exact (List.take_append_drop _ _).symm
       have c3 : (cs.drop 33).take 2 = cs.drop 33 := List.take_of_length_le (by simp; omega)
       rw [List.drop_zero] at e0
       rw [c1, c2, ← c3, e0, e1, e2]
       rfl
   · cases h
end
end Go.Proofs.YthbldjnpnligpaaDoor
