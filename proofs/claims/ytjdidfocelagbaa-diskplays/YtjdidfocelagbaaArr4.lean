/-
  A number, stored in a block.
-/
import Derived.Test.YtjdidfocelagbaaArr2
namespace Go.Proofs.Ytjdidfocelagbaa
set_option linter.unusedSimpArgs false
set_option linter.unusedVariables false
open Go.RowKit

theorem run_store_int {P : Program} {w : World} {t e : TypeId} {g off : Nat} {vs : List Value} {K : IntKind} {n : Int} (hZ : ∀ w, (sizeOf t).run P w = .ok 1 w) (hb : Blk e w g vs) (hle : off < vs.length) :
    (Instr.storeAt t (.pointer (some ⟨g, off, none⟩)) (.int K n)).run P w = .ok () (w.setRow g (vs.set off (.int K n)).toArray) := by
  have h := run_storeCells_at (P := P) g off e [.int K n] 0 vs.toArray w hb (by simp; omega) (by simp; rfl)
  simp only [Nat.add_zero, List.length_singleton] at h
  have hs : vs.take off ++ [Value.int K n] ++ vs.drop (off + 1) = vs.set off (.int K n) := by rw [List.set_eq_take_append_cons_drop, if_pos hle]; simp
  simp only [List.toList_toArray, hs] at h
  simp [Instr.storeAt, Instr.sureAddr, storeVar, hZ, h, Sem.run_bind, Value.cells]

/-- A number, stored in a block. -/
theorem wpList_store_int {P : Program} {w : World} {ops : Array Oper} {rest : List Oper} {o : Oper} {a : Act} {Q : Exit → Act → World → Prop} (hgd : o.guard = none) (x y : Operand) (t : TypeId) (ho : o.op = Op.store t x y)
    (g off : Nat) (hx : a.eval x = .pointer (some ⟨g, off, none⟩)) (K : IntKind) (n : Int) (hy : a.eval y = .int K n) (hZ : ∀ w, (sizeOf t).run P w = .ok 1 w) {e : TypeId} {vs : List Value} (hb : Blk e w g vs) (hle : off < vs.length)
    (h : ∀ w', Blk e w' g (vs.set off (.int K n)) → But g w w' → w'.heap.size = w.heap.size → wpList P ops Q rest (a.put o.dst undef) w') : wpList P ops Q (o :: rest) a w := by
  refine wpList_plain hgd fun K' hK => ?_
  have hr := run_store_int (P := P) (w := w) (K := K) (n := n) hZ hb hle
  unfold Oper.wp execOp
  simp only [ho, hx, hy, Sem.run_bind, Sem.run_pure, Result.andThen_ok, hr]
  exact hK _ _ (h _ (setRow_heap w g _ _ e _ hb) ((But.refl g w).setRow _) (by simp [World.setRow]))
end Go.Proofs.Ytjdidfocelagbaa
