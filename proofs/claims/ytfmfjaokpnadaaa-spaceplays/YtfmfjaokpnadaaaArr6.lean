/-
  General laws: whole values built, boxed, laid, loaded and stored; calls in regions that draw; what holds behind a region.
-/
import Derived.Test.YtfmfjaokpnadaaaArr2
namespace Go.Proofs.Ytfmfjaokpnadaaa
set_option linter.unusedSimpArgs false
set_option linter.unusedVariables false
open Go.RowKit

theorem below_then {w w1 w2 : World} (h1 : Below w.heap.size w w1) (h2 : Below w1.heap.size w1 w2) : Below w.heap.size w w2 := h1.trans (h2.mono h1.size)

/-- A load of a whole value that a guard lets through. -/
theorem wpList_load_blk_guard {P : Program} {w : World} {ops : Array Oper} {rest : List Oper} {o : Oper} {a : Act} {Q : Exit → Act → World → Prop} (hw : Region.wanted o (yielded ops a.tmps) = true) (x : Operand) (t : TypeId) (ho : o.op = Op.load t x)
    (g off n : Nat) (hx : a.eval x = .pointer (some ⟨g, off, none⟩)) (hA : ∀ w, (isAgg t).run P w = .ok true w) (hZ : ∀ w, (sizeOf t).run P w = .ok n w) {e : TypeId} {vs : List Value} (hb : Blk e w g vs)
    (us : List Value) (hu : us = (vs.drop off).take n) (hl : us.length = n) (h : wpList P ops Q rest (a.put o.dst (.agg us.toArray)) w) : wpList P ops Q (o :: rest) a w := by
  refine wpList_step fun K hK => ?_
  rw [if_pos hw]
  exact step_load_blk x t ho g off n hx hA hZ hb us hu hl (hK _ _ h)

/-- A value that is built of nothing. -/
theorem wpList_build0 {P : Program} {w : World} {ops : Array Oper} {rest : List Oper} {o : Oper} {a : Act} {Q : Exit → Act → World → Prop} (hw : Region.wanted o (yielded ops a.tmps) = true) (t : TypeId) (ho : o.op = Op.build t #[]) (V : Value) (hr : ∀ w, (Instr.build t #[]).run P w = .ok V w)
    (h : wpList P ops Q rest (a.put o.dst V) w) : wpList P ops Q (o :: rest) a w := by
  refine wpList_step fun K hK => ?_
  rw [if_pos hw]
  have e : (#[] : Array (Nat × Operand)).map (fun (i, x) => (i, a.eval x)) = #[] := by simp
  unfold Oper.wp execOp
  simp only [ho, Sem.run_bind, Sem.run_pure, Result.andThen_ok, e, hr]
  exact hK _ _ h

/-- A variable in a new block. -/
theorem wpList_alloc0 {P : Program} {w : World} {ops : Array Oper} {rest : List Oper} {o : Oper} {a : Act} {Q : Exit → Act → World → Prop} (hgd : o.guard = none) (t : TypeId) (ho : o.op = Op.alloc t) (d : Option Tmp) (hd : o.dst = d) (vs : List Value)
    (hr : ∀ w, (Instr.alloc t true (.tuple #[])).run P w = .ok (.pointer (some ⟨w.heap.size, 0, none⟩)) (w.alloc (.cells vs.toArray t)))
    (h : ∀ w', Blk t w' w.heap.size vs → Below w.heap.size w w' → w'.heap.size = w.heap.size + 1 → wpList P ops Q rest (a.put d (.pointer (some ⟨w.heap.size, 0, none⟩))) w') : wpList P ops Q (o :: rest) a w := by
  subst hd
  refine wpList_plain hgd fun K hK => ?_
  unfold Oper.wp execOp
  simp only [ho, Sem.run_bind, Sem.run_pure, Result.andThen_ok, hr]
  exact hK _ _ (h _ (Blk.newAt rfl rfl) ((Below.refl _ _).alloc (Nat.le_refl _) _) (by simp))

/-- A parameter in a new block. -/
theorem wpList_box0 {P : Program} {w : World} {ops : Array Oper} {rest : List Oper} {o : Oper} {a : Act} {Q : Exit → Act → World → Prop} (hgd : o.guard = none) (t : TypeId) (x : Operand) (ho : o.op = Op.box t x) (vs : List Value) (hx : a.eval x = .agg vs.toArray)
    (h : ∀ w', Blk t w' w.heap.size vs → Below w.heap.size w w' → w'.heap.size = w.heap.size + 1 → wpList P ops Q rest (a.put o.dst (.pointer (some ⟨w.heap.size, 0, none⟩))) w') : wpList P ops Q (o :: rest) a w := by
  refine wpList_plain hgd fun K hK => ?_
  have hr : (Instr.box t (.agg vs.toArray)).run P w = .ok (.pointer (some ⟨w.heap.size, 0, none⟩)) (w.alloc (.cells vs.toArray t)) := by
    simp [Instr.box, newVar, go_sem, Value.cells]
  unfold Oper.wp execOp
  simp only [ho, hx, Sem.run_bind, Sem.run_pure, Result.andThen_ok, hr]
  exact hK _ _ (h _ (Blk.newAt rfl rfl) ((Below.refl _ _).alloc (Nat.le_refl _) _) (by simp))

theorem run_store_int {P : Program} {w : World} {t e : TypeId} {g off : Nat} {vs : List Value} {K : IntKind} {n : Int} (hZ : ∀ w, (sizeOf t).run P w = .ok 1 w) (hb : Blk e w g vs) (hle : off < vs.length) :
    (Instr.storeAt t (.pointer (some ⟨g, off, none⟩)) (.int K n)).run P w = .ok () (w.setRow g (vs.set off (.int K n)).toArray) := by
  have h := run_storeCells_at (P := P) g off e [.int K n] 0 vs.toArray w hb (by simp; omega) (by simp; rfl)
  simp only [Nat.add_zero, List.length_singleton] at h
  have hs : vs.take off ++ [Value.int K n] ++ vs.drop (off + 1) = vs.set off (.int K n) := by rw [List.set_eq_take_append_cons_drop, if_pos hle]; simp
  simp only [List.toList_toArray, hs] at h
  simp [Instr.storeAt, Instr.sureAddr, storeVar, hZ, h, Sem.run_bind, Value.cells]

/-- A number, stored in a block. -/
theorem wpList_store_int {P : Program} {w : World} {ops : Array Oper} {rest : List Oper} {o : Oper} {a : Act} {Q : Exit → Act → World → Prop} (hgd : o.guard = none) (x y : Operand) (t : TypeId) (ho : o.op = Op.store t x y)
    (g off : Nat) (hx : a.eval x = .pointer (some ⟨g, off, none⟩)) (K : IntKind) (n : Int) (hy : a.eval y = .int K n) (hZ : ∀ w, (sizeOf t).run P w = .ok 1 w) {e : TypeId} {vs : List Value} (hb : Blk e w g vs) (hle : off < vs.length)
    (h : ∀ w', Blk e w' g (vs.set off (.int K n)) → But g w w' → w'.heap.size = w.heap.size → wpList P ops Q rest (a.put o.dst undef) w') : wpList P ops Q (o :: rest) a w := by
  refine wpList_plain hgd fun K' hK => ?_
  have hr := run_store_int (P := P) (w := w) (K := K) (n := n) hZ hb hle
  unfold Oper.wp execOp
  simp only [ho, hx, hy, Sem.run_bind, Sem.run_pure, Result.andThen_ok, hr]
  exact hK _ _ (h _ (setRow_heap w g _ _ e _ hb) ((But.refl g w).setRow _) (by simp [World.setRow]))

theorem Bs.lt {w : World} {a : Option Addr} {c : Nat} {xs : List Int} (h : Bs w a c xs) (hne : xs ≠ []) {b : Addr} (ha : a = some b) : b.block < w.heap.size := by
  rcases h.lay with h0 | ⟨b', off, rfl, hc⟩
  · exact absurd h0 hne
  · cases ha
    exact World.block_lt_of_cell? w _ (hc 0 (List.length_pos_iff.2 hne))

/-- Two results, of which the first one lives in a block. -/
theorem bodyPost_ret_blk2 {P : Program} {fn : Func} {R : Ending → World → Prop} {a : Act} {w : World} {p q : Tmp} {t e : TypeId} {g n : Nat} {us : List Value} {v : Value} (hf : fn.results = #[.cell p t, .tmp q]) (hd : a.defers = [])
    (hp : a.tmps.getD p undef = .pointer (some ⟨g, 0, none⟩)) (hq : a.tmps.getD q undef = v) (hA : ∀ w, (isAgg t).run P w = .ok true w) (hZ : ∀ w, (sizeOf t).run P w = .ok n w) (hb : Blk e w g us) (hl : us.length = n)
    (hR : R (.returned (.tuple #[.agg us.toArray, v])) w) : bodyPost P fn R .ret a w := by
  refine bodyPost_ret_by (v := .tuple #[.agg us.toArray, v]) ?_ hd hR
  have hr := run_load_blk (P := P) (w := w) (off := 0) hA hZ hb (us := us) (by rw [List.drop_zero, List.take_of_length_le (by omega)]) hl
  simp only [Instr.loadAt, Instr.sureAddr, Sem.run_bind, Sem.run_pure, Result.andThen_ok] at hr
  rw [Array.getD_eq_getD_getElem?] at hp hq
  simp [results, hf, hp, hq, asAddr, Sem.run_bind, hr]

theorem whole_load {vs : List Value} {n : Nat} (h : vs.length = n) : vs = (vs.drop 0).take n := by
  rw [List.drop_zero, List.take_of_length_le (by omega)]

theorem whole_store {us vs : List Value} {n : Nat} (h : vs.length = n) : us = vs.take 0 ++ us ++ vs.drop (0 + n) := by
  rw [List.take_zero, List.nil_append, List.drop_eq_nil_of_le (by omega), List.append_nil]

theorem index_ptr {P : Program} {t e : TypeId} {n m g off : Nat} {K : IntKind} {j : Nat} (ht : P.underlying t = some (.array n e)) (hs : (P.info? e).map (·.size) = some m) (hj : j < n) (w : World) :
    (Instr.indexAt t (.pointer (some ⟨g, off, none⟩)) (.int K (j : Int))).run P w = .ok (.pointer (some ⟨g, off + j * m, none⟩)) w := by
  have hz := sizeOf_run hs w
  have hb : (0 : Int) ≤ (j : Int) ∧ (j : Int) < (n : Int) := by omega
  have hadd : (⟨g, off, none⟩ : Addr).add (j * m) = ⟨g, off + j * m, none⟩ := by unfold Addr.add; split <;> simp_all
  simp [Instr.indexAt, asIntOf, run_underlying ht, hz, hb, hadd, Sem.run_bind, Instr.sureAddr]
  omega

/-- A value that is built of parts. -/
theorem wpList_build {P : Program} {w : World} {ops : Array Oper} {rest : List Oper} {o : Oper} {a : Act} {Q : Exit → Act → World → Prop} (hw : Region.wanted o (yielded ops a.tmps) = true) (t : TypeId) (ps : List (Nat × Operand)) (ho : o.op = Op.build t ps.toArray) (qs : List (Nat × Value)) (hq : ps.map (fun q => (q.1, a.eval q.2)) = qs) (V : Value) (hr : ∀ w, (Instr.build t qs.toArray).run P w = .ok V w)
    (h : wpList P ops Q rest (a.put o.dst V) w) : wpList P ops Q (o :: rest) a w := by
  refine wpList_step fun K hK => ?_
  rw [if_pos hw]
  have e : ps.toArray.map (fun (i, x) => (i, a.eval x)) = qs.toArray := by rw [List.map_toArray, ← hq]
  unfold Oper.wp execOp
  simp only [ho, Sem.run_bind, Sem.run_pure, Result.andThen_ok, e, hr]
  exact hK _ _ h

theorem step_call {P : Program} {ops : Array Oper} {o : Oper} {a : Act} {w : World} {K : Act → World → Prop} {Q : Exit → Act → World → Prop} {E : Prop} (hgd : o.guard = none) (f : FuncId) (args : Array Value)
    (hv : (execOp a.eval o).run P w = .ok (.enter f args) w) {R : Ending → World → Prop} (hc : Calls P f args w R) (h : ∀ e w', R e w' → ∃ v, e = .returned v ∧ K (a.put o.dst v) w') :
    if Region.wanted o (yielded ops a.tmps) = true then Oper.wp P o a w K Q else E := by
  have hw : Region.wanted o (yielded ops a.tmps) = true := by simp [Region.wanted, hgd]
  rw [if_pos hw]
  unfold Oper.wp
  rw [hv, Oper.upon_enter]
  refine hc.mono fun e w' hR => ?_
  obtain ⟨v, rfl, hw⟩ := h e w' hR
  exact hw

theorem exec_load {P : Program} {a : Act} {o : Oper} {w : World} {t : TypeId} {x : Operand} {p : Addr} {v : Value} (ho : o.op = Op.load t x) (hx : a.eval x = .pointer (some p)) (hr : (Instr.loadAt t (.pointer (some p))).run P w = .ok v w) :
    (execOp a.eval o).run P w = .ok (.value v) w := by
  unfold execOp
  simp only [ho, hx, Sem.run_bind, Sem.run_pure, Result.andThen_ok, hr]

theorem exec_build0 {P : Program} {a : Act} {o : Oper} {w : World} {t : TypeId} {V : Value} (ho : o.op = Op.build t #[]) (hr : (Instr.build t #[]).run P w = .ok V w) : (execOp a.eval o).run P w = .ok (.value V) w := by
  have e : (#[] : Array (Nat × Operand)).map (fun (i, x) => (i, a.eval x)) = #[] := by simp
  unfold execOp
  simp only [ho, Sem.run_bind, Sem.run_pure, Result.andThen_ok, e, hr]

theorem slice_mid {P : Program} {t e : TypeId} {b off n c i m : Nat} (ht : P.underlying t = some (.slice e)) (he : P.elem t = e) (hs : (P.info? e).map (·.size) = some 1) (hc : i + m ≤ c) (hm : 0 < m) (K K' : IntKind) (w : World) :
    (Instr.slice t (.slice (some ⟨b, off, none⟩) n c) (some (.int K (i : Int))) (some (.int K' ((i + m : Nat) : Int))) none).run P w = .ok (.slice (some ⟨b, off + i, none⟩) m (c - i)) w := by
  have hz := sizeOf_run hs w
  have hadd : (⟨b, off, none⟩ : Addr).add i = ⟨b, off + i, none⟩ := by unfold Addr.add; split <;> simp_all
  have hne : ¬ c = i := by omega
  rw [run_slice_lh w t (some ⟨b, off, none⟩) n c (by rw [he]; exact ht) K K' i ((i + m : Nat) : Int) (by omega) (by omega) (by omega), he, hz]
  simp [Result.andThen, sliced, hne, hadd]
  omega

theorem Bs.mid {w : World} {b off c : Nat} {xs : List Int} (h : Bs w (some ⟨b, off, none⟩) c xs) (q m : Nat) (hq : q + m ≤ xs.length) (hm0 : 0 < m) : Bs w (some ⟨b, off + q, none⟩) (c - q) ((xs.drop q).take m) := by
  have hl : ((xs.drop q).take m).length = m := by simp; omega
  have hc := h.cap
  have hm := h.capm
  refine ⟨fun x hx => h.rng x (List.mem_of_mem_drop (List.mem_of_mem_take hx)), by omega, by omega, (fun h => by cases h), .inr ⟨b, off + q, rfl, fun i hi => ?_⟩⟩
  rw [hl] at hi
  obtain ⟨b1, o1, he, hc1⟩ := h.cell (by omega)
  cases he
  rw [Nat.add_assoc, hc1 (q + i) (by omega)]
  simp [List.getD, List.getElem?_take, List.getElem?_drop, hi]

/-- What holds behind a region, and nowhere else. -/
def midQ (Mid : Act → World → Prop) : Exit → Act → World → Prop
  | .normal, a, w => Mid a w
  | _, _, _ => False
theorem wp_mid {P : Program} {c : Code} {Q : Exit → Act → World → Prop} {a : Act} {w : World} (Mid : Act → Act → World → Prop) (h : c.wp P (midQ (Mid a)) a w) (hq : ∀ a' w', Mid a a' w' → Q .normal a' w') : c.wp P Q a w :=
  Code.wp_mono (fun e a' w' hh => by
    cases e with
    | normal => exact hq a' w' hh
    | _ => exact False.elim hh) h


/-- An element of a slice. -/
theorem index_slice {P : Program} (t e : TypeId) (m : Nat) (ht : P.underlying t = some (.slice e)) (hs : (P.info? e).map (·.size) = some m) (he : P.elem t = e) (b off n c : Nat) (K : IntKind) (k : Nat) (hk : k < n) (w : World) :
    (Instr.indexAt t (.slice (some ⟨b, off, none⟩) n c) (.int K (k : Int))).run P w = .ok (.pointer (some ⟨b, off + k * m, none⟩)) w := by
  have hz := sizeOf_run hs w
  have hb : (0 : Int) ≤ (k : Int) ∧ (k : Int) < (n : Int) := by omega
  have hadd : (⟨b, off, none⟩ : Addr).add (k * m) = ⟨b, off + k * m, none⟩ := by unfold Addr.add; split <;> simp_all
  simp [Instr.indexAt, asIntOf, run_underlying ht, hz, hb, hadd, Sem.run_bind, Instr.sureAddr]
  omega
end Go.Proofs.Ytfmfjaokpnadaaa
