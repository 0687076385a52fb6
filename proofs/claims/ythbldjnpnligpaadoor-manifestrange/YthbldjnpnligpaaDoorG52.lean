/-
  math/bits.Len of numbers from 1 to 39.
-/
import Derived.Test.YthbldjnpnligpaaDoorG51
import Derived.Test.YthbldjnpnligpaaDoorG03
import Derived.Test.YthbldjnpnligpaaDoorG06
import Derived.Test.YthbldjnpnligpaaDoorG27
import Derived.Test.YthbldjnpnligpaaDoorG10
namespace Go.Proofs.YthbldjnpnligpaaDoor
set_option linter.unusedSimpArgs false
set_option linter.unusedVariables false
set_option maxRecDepth 100000
open Go.RowKit

set_option maxRecDepth 100000 in
set_option maxHeartbeats 4000000 in
theorem len64_run (x : Nat) (h : x < 40) (w : World) : Calls Tryd.prog 164 #[.int .u64 (x : Int)] w fun e w' => e = .returned (.int .i64 ((if x = 0 then 0 else Nat.log2 x + 1 : Nat) : Int)) ∧ w' = w := by
  rcases (by omega : x = 0 ∨ x = 1 ∨ x = 2 ∨ x = 3 ∨ x = 4 ∨ x = 5 ∨ x = 6 ∨ x = 7 ∨ x = 8 ∨ x = 9 ∨ x = 10 ∨ x = 11 ∨ x = 12 ∨ x = 13 ∨ x = 14 ∨ x = 15 ∨ x = 16 ∨ x = 17 ∨ x = 18 ∨ x = 19 ∨ x = 20 ∨ x = 21 ∨ x = 22 ∨ x = 23 ∨ x = 24 ∨ x = 25 ∨ x = 26 ∨ x = 27 ∨ x = 28 ∨ x = 29 ∨ x = 30 ∨ x = 31 ∨ x = 32 ∨ x = 33 ∨ x = 34 ∨ x = 35 ∨ x = 36 ∨ x = 37 ∨ x = 38 ∨ x = 39) with rfl | rfl | rfl | rfl | rfl | rfl | rfl | rfl | rfl | rfl | rfl | rfl | rfl | rfl | rfl | rfl | rfl | rfl | rfl | rfl | rfl | rfl | rfl | rfl | rfl | rfl | rfl | rfl | rfl | rfl | rfl | rfl | rfl | rfl | rfl | rfl | rfl | rfl | rfl | rfl
  all_goals
    go_enter Tryd.func164, Tryd.ntmps164
    go_wp2
    go_ret
    exact ⟨by kernel_rfl, rfl⟩
end Go.Proofs.YthbldjnpnligpaaDoor

/-
  Values of many cells as one list: most stand in the texts of ptr and bank already.
-/

namespace Go.Proofs.YthbldjnpnligpaaDoor
set_option linter.unusedSimpArgs false
set_option linter.unusedVariables false
set_option maxRecDepth 100000
open Go.RowKit

theorem run_load_cellsA {P : Program} {w : World} {t : TypeId} {n : Nat} {p : Addr} {us : List Value} (hA : ∀ w, (isAgg t).run P w = .ok true w) (hZ : ∀ w, (sizeOf t).run P w = .ok n w)
    (hc : ∀ j v, us[j]? = some v → w.cell? (p.add j) = some v) (hl : us.length = n) : (Instr.loadAt t (.pointer (some p))).run P w = .ok (.agg us.toArray) w := by
  have h := run_loadCells_list (P := P) w p us hc
  rw [hl] at h
  simp [Instr.loadAt, Instr.sureAddr, loadVar, hA, hZ, h, Sem.run_bind]

theorem wpList_load_cellsA {P : Program} {w : World} {ops : Array Oper} {rest : List Oper} {o : Oper} {a : Act} {Q : Exit → Act → World → Prop} (hgd : o.guard = none) (x : Operand) (t : TypeId) (ho : o.op = Op.load t x)
    (p : Addr) (n : Nat) (hx : a.eval x = .pointer (some p)) (hA : ∀ w, (isAgg t).run P w = .ok true w) (hZ : ∀ w, (sizeOf t).run P w = .ok n w)
    (us : List Value) (hc : ∀ j v, us[j]? = some v → w.cell? (p.add j) = some v) (hl : us.length = n) (h : wpList P ops Q rest (a.put o.dst (.agg us.toArray)) w) : wpList P ops Q (o :: rest) a w := by
  refine wpList_plain hgd fun K hK => ?_
  have hr := run_load_cellsA (P := P) (w := w) hA hZ hc hl
  unfold Oper.wp execOp
  simp only [ho, hx, Sem.run_bind, Sem.run_pure, Result.andThen_ok, hr]
  exact hK _ _ h
end Go.Proofs.YthbldjnpnligpaaDoor

/-
  A walk cut in the middle: it stands in Arr6.
-/
