/-
  Values of many cells as one list: built of nothing, laid in memory, loaded, stored.
-/
import Derived.Test.YtnkblmbpioamnaaDoorArr2
namespace Go.Proofs.YtnkblmbpioamnaaDoor
set_option linter.unusedSimpArgs false
set_option linter.unusedVariables false
open Go.RowKit

/-- A value that is built of nothing. -/
theorem wpList_build0 {P : Program} {w : World} {ops : Array Oper} {rest : List Oper} {o : Oper} {a : Act} {Q : Exit → Act → World → Prop} (hw : Region.wanted o (yielded ops a.tmps) = true) (t : TypeId) (ho : o.op = Op.build t #[]) (V : Value) (hr : ∀ w, (Instr.build t #[]).run P w = .ok V w)
    (h : wpList P ops Q rest (a.put o.dst V) w) : wpList P ops Q (o :: rest) a w := by
  refine wpList_step fun K hK => ?_
  rw [if_pos hw]
  have e : (#[] : Array (Nat × Operand)).map (fun (i, x) => (i, a.eval x)) = #[] := by simp
  unfold Oper.wp execOp
  simp only [ho, Sem.run_bind, Sem.run_pure, Result.andThen_ok, e, hr]
  exact hK _ _ h

/-- A variable in a new block. -/
theorem wpList_alloc0 {P : Program} {w : World} {ops : Array Oper} {rest : List Oper} {o : Oper} {a : Act} {Q : Exit → Act → World → Prop} (hgd : o.guard = none) (t : TypeId) (ho : o.op = Op.alloc t) (d : Option Tmp) (hd : o.dst = d) (vs : List Value)
    (hr : ∀ w, (Instr.alloc t true (.tuple #[])).run P w = .ok (.pointer (some ⟨w.heap.size, 0, none⟩)) (w.alloc (.cells vs.toArray t)))
    (h : ∀ w', Blk t w' w.heap.size vs → Below w.heap.size w w' → w'.heap.size = w.heap.size + 1 → wpList P ops Q rest (a.put d (.pointer (some ⟨w.heap.size, 0, none⟩))) w') : wpList P ops Q (o :: rest) a w := by
  subst hd
  refine wpList_plain hgd fun K hK => ?_
  unfold Oper.wp execOp
  simp only [ho, Sem.run_bind, Sem.run_pure, Result.andThen_ok, hr]
  exact hK _ _ (h _ (Blk.newAt rfl rfl) ((Below.refl _ _).alloc (Nat.le_refl _) _) (by simp))

/-- A parameter in a new block. -/
theorem wpList_box0 {P : Program} {w : World} {ops : Array Oper} {rest : List Oper} {o : Oper} {a : Act} {Q : Exit → Act → World → Prop} (hgd : o.guard = none) (t : TypeId) (x : Operand) (ho : o.op = Op.box t x) (vs : List Value) (hx : a.eval x = .agg vs.toArray)
    (h : ∀ w', Blk t w' w.heap.size vs → Below w.heap.size w w' → w'.heap.size = w.heap.size + 1 → wpList P ops Q rest (a.put o.dst (.pointer (some ⟨w.heap.size, 0, none⟩))) w') : wpList P ops Q (o :: rest) a w := by
  refine wpList_plain hgd fun K hK => ?_
  have hr : (Instr.box t (.agg vs.toArray)).run P w = .ok (.pointer (some ⟨w.heap.size, 0, none⟩)) (w.alloc (.cells vs.toArray t)) := by
    simp [Instr.box, newVar, go_sem, Value.cells]
  unfold Oper.wp execOp
  simp only [ho, hx, Sem.run_bind, Sem.run_pure, Result.andThen_ok, hr]
  exact hK _ _ (h _ (Blk.newAt rfl rfl) ((Below.refl _ _).alloc (Nat.le_refl _) _) (by simp))

/-- Two results, of which the first one lives in a block. -/
theorem bodyPost_ret_blk2 {P : Program} {fn : Func} {R : Ending → World → Prop} {a : Act} {w : World} {p q : Tmp} {t e : TypeId} {g n : Nat} {us : List Value} {v : Value} (hf : fn.results = #[.cell p t, .tmp q]) (hd : a.defers = [])
    (hp : a.tmps.getD p undef = .pointer (some ⟨g, 0, none⟩)) (hq : a.tmps.getD q undef = v) (hA : ∀ w, (isAgg t).run P w = .ok true w) (hZ : ∀ w, (sizeOf t).run P w = .ok n w) (hb : Blk e w g us) (hl : us.length = n)
    (hR : R (.returned (.tuple #[.agg us.toArray, v])) w) : bodyPost P fn R .ret a w := by
  refine bodyPost_ret_by (v := .tuple #[.agg us.toArray, v]) ?_ hd hR
  have hr := run_load_blk (P := P) (w := w) (off := 0) hA hZ hb (us := us) (by rw [List.drop_zero, List.take_of_length_le (by omega)]) hl
  simp only [Instr.loadAt, Instr.sureAddr, Sem.run_bind, Sem.run_pure, Result.andThen_ok] at hr
  rw [Array.getD_eq_getD_getElem?] at hp hq
  simp [results, hf, hp, hq, asAddr, Sem.run_bind, hr]

theorem whole_load {vs : List Value} {n : Nat} (h : vs.length = n) : vs = (vs.drop 0).take n := by
  rw [List.drop_zero, List.take_of_length_le (by omega)]
theorem whole_store {us vs : List Value} {n : Nat} (h : vs.length = n) : us = vs.take 0 ++ us ++ vs.drop (0 + n) := by
  rw [List.take_zero, List.nil_append, List.drop_eq_nil_of_le (by omega), List.append_nil]

theorem run_load_cells {P : Program} {w : World} {t : TypeId} {n : Nat} {p : Addr} {us : List Value} (hA : ∀ w, (isAgg t).run P w = .ok true w) (hZ : ∀ w, (sizeOf t).run P w = .ok n w)
    (hc : ∀ j v, us[j]? = some v → w.cell? (p.add j) = some v) (hl : us.length = n) : (Instr.loadAt t (.pointer (some p))).run P w = .ok (.agg us.toArray) w := by
  have h := run_loadCells_list (P := P) w p us hc
  rw [hl] at h
  simp [Instr.loadAt, Instr.sureAddr, loadVar, hA, hZ, h, Sem.run_bind]

theorem wpList_load_cells {P : Program} {w : World} {ops : Array Oper} {rest : List Oper} {o : Oper} {a : Act} {Q : Exit → Act → World → Prop} (hgd : o.guard = none) (x : Operand) (t : TypeId) (ho : o.op = Op.load t x)
    (p : Addr) (n : Nat) (hx : a.eval x = .pointer (some p)) (hA : ∀ w, (isAgg t).run P w = .ok true w) (hZ : ∀ w, (sizeOf t).run P w = .ok n w)
    (us : List Value) (hc : ∀ j v, us[j]? = some v → w.cell? (p.add j) = some v) (hl : us.length = n) (h : wpList P ops Q rest (a.put o.dst (.agg us.toArray)) w) : wpList P ops Q (o :: rest) a w := by
  refine wpList_plain hgd fun K hK => ?_
  have hr := run_load_cells (P := P) (w := w) hA hZ hc hl
  unfold Oper.wp execOp
  simp only [ho, hx, Sem.run_bind, Sem.run_pure, Result.andThen_ok, hr]
  exact hK _ _ h
end Go.Proofs.YtnkblmbpioamnaaDoor
