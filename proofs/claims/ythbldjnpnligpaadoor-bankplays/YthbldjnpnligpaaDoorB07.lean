/-
 Whole noughts: built and laid in memory; the whole number at the beginning.
-/
import Derived.Test.YthbldjnpnligpaaDoorB06
namespace Go.Proofs.YthbldjnpnligpaaDoor
set_option linter.unusedSimpArgs false
set_option linter.unusedVariables false
set_option maxRecDepth 100000
open Go.RowKit
theorem build_ptr0 (w : World) : (Instr.build 42 #[]).run Tryd.prog w = .ok (.agg Pt.zero.vs.toArray) w := by kernel_rfl
theorem alloc_ptr0 (w : World) : (Instr.alloc 42 true (.tuple #[])).run Tryd.prog w = .ok (.pointer (some ⟨w.heap.size, 0, none⟩)) (w.alloc (.cells Pt.zero.vs.toArray 42)) := by kernel_rfl
theorem wpList_build0 {P : Program} {w : World} {ops : Array Oper} {rest : List Oper} {o : Oper} {a : Act} {Q : Exit → Act → World → Prop} (hw : Region.wanted o (yielded ops a.tmps) = true) (t : TypeId) (ho : o.op = Op.build t #[]) (V : Value) (hr : ∀ w, (Instr.build t #[]).run P w = .ok V w)
 (h : wpList P ops Q rest (a.put o.dst V) w) : wpList P ops Q (o :: rest) a w := by
 refine wpList_step fun K hK => ?_
 rw [if_pos hw]
 have e : (#[] : Array (Nat × Operand)).map (fun (i, x) => (i, a.eval x)) = #[] := by simp
 unfold Oper.wp execOp
 simp only [ho, Sem.run_bind, Sem.run_pure, Result.andThen_ok, e, hr]
 exact hK _ _ h
theorem wpList_alloc0 {P : Program} {w : World} {ops : Array Oper} {rest : List Oper} {o : Oper} {a : Act} {Q : Exit → Act → World → Prop} (hgd : o.guard = none) (t : TypeId) (ho : o.op = Op.alloc t) (d : Option Tmp) (hd : o.dst = d) (vs : List Value)
 (hr : ∀ w, (Instr.alloc t true (.tuple #[])).run P w = .ok (.pointer (some ⟨w.heap.size, 0, none⟩)) (w.alloc (.cells vs.toArray t)))
 (h : ∀ w', Blk t w' w.heap.size vs → Below w.heap.size w w' → w'.heap.size = w.heap.size + 1 → wpList P ops Q rest (a.put d (.pointer (some ⟨w.heap.size, 0, none⟩))) w') : wpList P ops Q (o :: rest) a w := by
 subst hd
 refine wpList_plain hgd fun K hK => ?_
 unfold Oper.wp execOp
 simp only [ho, Sem.run_bind, Sem.run_pure, Result.andThen_ok, hr]
 exact hK _ _ (h _ (Blk.newAt rfl rfl) ((Below.refl _ _).alloc (Nat.le_refl _) _) (by simp))
theorem wpList_box0 {P : Program} {w : World} {ops : Array Oper} {rest : List Oper} {o : Oper} {a : Act} {Q : Exit → Act → World → Prop} (hgd : o.guard = none) (t : TypeId) (x : Operand) (ho : o.op = Op.box t x) (vs : List Value) (hx : a.eval x = .agg vs.toArray)
 (h : ∀ w', Blk t w' w.heap.size vs → Below w.heap.size w w' → w'.heap.size = w.heap.size + 1 → wpList P ops Q rest (a.put o.dst (.pointer (some ⟨w.heap.size, 0, none⟩))) w') : wpList P ops Q (o :: rest) a w := by
 refine wpList_plain hgd fun K hK => ?_
 have hr : (Instr.box t (.agg vs.toArray)).run P w = .ok (.pointer (some ⟨w.heap.size, 0, none⟩)) (w.alloc (.cells vs.toArray t)) := by
  simp [Instr.box, newVar, go_sem, Value.cells]
 unfold Oper.wp execOp
 simp only [ho, hx, Sem.run_bind, Sem.run_pure, Result.andThen_ok, hr]
 exact hK _ _ (h _ (Blk.newAt rfl rfl) ((Below.refl _ _).alloc (Nat.le_refl _) _) (by simp))
theorem run_store_int {P : Program} {w : World} {t e : TypeId} {g off : Nat} {vs : List Value} {K : IntKind} {n : Int} (hZ : ∀ w, (sizeOf t).run P w = .ok 1 w) (hb : Blk e w g vs) (hle : off < vs.length) :
 (Instr.storeAt t (.pointer (some ⟨g, off, none⟩)) (.int K n)).run P w = .ok () (w.setRow g (vs.set off (.int K n)).toArray) := by
 have h := run_storeCells_at (P := P) g off e [.int K n] 0 vs.toArray w hb (by simp; omega) (by simp; rfl)
 simp only [Nat.add_zero, List.length_singleton] at h
 have hs : vs.take off ++ [Value.int K n] ++ vs.drop (off + 1) = vs.set off (.int K n) := by rw [List.set_eq_take_append_cons_drop, if_pos hle]; simp
 simp only [List.toList_toArray, hs] at h
 simp [Instr.storeAt, Instr.sureAddr, storeVar, hZ, h, Sem.run_bind, Value.cells]
theorem wpList_store_int {P : Program} {w : World} {ops : Array Oper} {rest : List Oper} {o : Oper} {a : Act} {Q : Exit → Act → World → Prop} (hgd : o.guard = none) (x y : Operand) (t : TypeId) (ho : o.op = Op.store t x y)
 (g off : Nat) (hx : a.eval x = .pointer (some ⟨g, off, none⟩)) (K : IntKind) (n : Int) (hy : a.eval y = .int K n) (hZ : ∀ w, (sizeOf t).run P w = .ok 1 w) {e : TypeId} {vs : List Value} (hb : Blk e w g vs) (hle : off < vs.length)
 (h : ∀ w', Blk e w' g (vs.set off (.int K n)) → But g w w' → w'.heap.size = w.heap.size → wpList P ops Q rest (a.put o.dst undef) w') : wpList P ops Q (o :: rest) a w := by
 refine wpList_plain hgd fun K' hK => ?_
 have hr := run_store_int (P := P) (w := w) (K := K) (n := n) hZ hb hle
 unfold Oper.wp execOp
 simp only [ho, hx, hy, Sem.run_bind, Sem.run_pure, Result.andThen_ok, hr]
 exact hK _ _ (h _ (setRow_heap w g _ _ e _ hb) ((But.refl g w).setRow _) (by simp [World.setRow]))
theorem Bs.lt {w : World} {a : Option Addr} {c : Nat} {xs : List Int} (h : Bs w a c xs) (hne : xs ≠ []) {b : Addr} (ha : a = some b) : b.block < w.heap.size := by
 rcases h.lay with h0 | ⟨b', off, rfl, hc⟩
 · exact absurd h0 hne
 · cases ha
   exact World.block_lt_of_cell? w _ (hc 0 (List.length_pos_iff.2 hne))
theorem bodyPost_ret_blk2 {P : Program} {fn : Func} {R : Ending → World → Prop} {a : Act} {w : World} {p q : Tmp} {t e : TypeId} {g n : Nat} {us : List Value} {v : Value} (hf : fn.results = #[.cell p t, .tmp q]) (hd : a.defers = [])
 (hp : a.tmps.getD p undef = .pointer (some ⟨g, 0, none⟩)) (hq : a.tmps.getD q undef = v) (hA : ∀ w, (isAgg t).run P w = .ok true w) (hZ : ∀ w, (sizeOf t).run P w = .ok n w) (hb : Blk e w g us) (hl : us.length = n)
 (hR : R (.returned (.tuple #[.agg us.toArray, v])) w) : bodyPost P fn R .ret a w := by
 refine bodyPost_ret_by (v := .tuple #[.agg us.toArray, v]) ?_ hd hR
 have hr := run_load_blk (P := P) (w := w) (off := 0) hA hZ hb (us := us) (by rw [List.drop_zero, List.take_of_length_le (by omega)]) hl
 simp only [Instr.loadAt, Instr.sureAddr, Sem.run_bind, Sem.run_pure, Result.andThen_ok] at hr
 rw [Array.getD_eq_getD_getElem?] at hp hq
 simp [results, hf, hp, hq, asAddr, Sem.run_bind, hr]
theorem whole_load {vs : List Value} {n : Nat} (h : vs.length = n) : vs = (vs.drop 0).take n := by
 rw [List.drop_zero, List.take_of_length_le (by omega)]
theorem whole_store {us vs : List Value} {n : Nat} (h : vs.length = n) : us = vs.take 0 ++ us ++ vs.drop (0 + n) := by
 rw [List.take_zero, List.nil_append, List.drop_eq_nil_of_le (by omega), List.append_nil]
theorem Pt.vs_setx {h : List Int} (hl : h.length = 32) (b x y n : Nat) : (Pt.vs ⟨h, b, x, y⟩).set 33 (.int .u32 (n : Int)) = Pt.vs ⟨h, b, n, y⟩ := by
 unfold Pt.vs; rw [List.set_append_right _ _ (by simp [hl])]; simp [hl]
theorem Pt.vs_sety {h : List Int} (hl : h.length = 32) (b x y n : Nat) : (Pt.vs ⟨h, b, x, y⟩).set 34 (.int .u32 (n : Int)) = Pt.vs ⟨h, b, x, n⟩ := by
 unfold Pt.vs; rw [List.set_append_right _ _ (by simp [hl])]; simp [hl]
theorem Pt.vs_one (p : Pt) : ∀ v ∈ p.vs, v.oneCell' = true := by
 intro v hv
 simp only [Pt.vs, List.mem_append, List.mem_map, List.mem_cons, List.not_mem_nil, or_false] at hv
 rcases hv with ⟨x, _, rfl⟩ | rfl | rfl | rfl <;> rfl
end Go.Proofs.YthbldjnpnligpaaDoor

/-
 The walks over ptr.written and ptr.Decode.
-/

namespace Go.Proofs.YthbldjnpnligpaaDoor
set_option linter.unusedSimpArgs false
set_option linter.unusedVariables false
set_option maxRecDepth 100000
open Go.RowKit
end Go.Proofs.YthbldjnpnligpaaDoor

/-
 Parts of bytes; elements of arrays.
-/

namespace Go.Proofs.YthbldjnpnligpaaDoor
set_option linter.unusedSimpArgs false
set_option linter.unusedVariables false
set_option maxRecDepth 100000
open Go.RowKit
theorem index_ptr {P : Program} {t e : TypeId} {n m g off : Nat} {K : IntKind} {j : Nat} (ht : P.underlying t = some (.array n e)) (hs : (P.info? e).map (·.size) = some m) (hj : j < n) (w : World) :
 (Instr.indexAt t (.pointer (some ⟨g, off, none⟩)) (.int K (j : Int))).run P w = .ok (.pointer (some ⟨g, off + j * m, none⟩)) w := by
 have hz := sizeOf_run hs w
 have hb : (0 : Int) ≤ (j : Int) ∧ (j : Int) < (n : Int) := by omega
 have hadd : (⟨g, off, none⟩ : Addr).add (j * m) = ⟨g, off + j * m, none⟩ := by unfold Addr.add; split <;> simp_all
 simp [Instr.indexAt, asIntOf, run_underlying ht, hz, hb, hadd, Sem.run_bind, Instr.sureAddr]
 omega
end Go.Proofs.YthbldjnpnligpaaDoor
