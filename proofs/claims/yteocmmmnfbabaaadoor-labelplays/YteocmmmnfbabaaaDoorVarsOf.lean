/-
  From what a row lists to what the walks ask: the two tables of package sha; a world that has them.
-/
import Derived.Test.YteocmmmnfbabaaaDoorHSum
import Derived.Lib.LaidTab
import Derived.LaidHandle
import Derived.LaidLaws
import Derived.Stop.LaidErr
namespace Go.Proofs.YteocmmmnfbabaaaDoor
set_option linter.unusedSimpArgs false
set_option linter.unusedVariables false
set_option maxRecDepth 100000
open Go.RowKit

theorem stepsData : (Rows.laid_cautery_sha_steps : DataW Unit) = Lib.tabData .u32 (ints stepNums) := rfl
theorem firstsData : (Rows.laid_cautery_sha_firsts : DataW Unit) = Lib.tabData .u32 (ints firsts8.list) := rfl
theorem stepsAt : Tryd.prog.globalNamed "cautery/sha.steps" = some 1 := by kernel_rfl
theorem firstsAt : Tryd.prog.globalNamed "cautery/sha.firsts" = some 0 := by kernel_rfl
theorem stepsType : (Tryd.prog.globals[1]?).map (·.type) = some 130 := by kernel_rfl
theorem firstsType : (Tryd.prog.globals[0]?).map (·.type) = some 107 := by kernel_rfl

theorem vars_of_laid {W : World} (h : laidMet Tryd.prog [("cautery/sha.steps", Rows.laid_cautery_sha_steps), ("cautery/sha.firsts", Rows.laid_cautery_sha_firsts)] W) : Vars W := by
  rw [stepsData, firstsData] at h
  have h1 := Lib.tabIs_of_head stepsAt stepsType Tryd.underlying130 Tryd.underlying22 (by kernel_rfl) (by kernel_rfl) h
  have h2 := Lib.tabIs_of_head firstsAt firstsType Tryd.underlying107 Tryd.underlying22 (by kernel_rfl) (by kernel_rfl) h.tail
  exact ⟨fun i hi => h1.cell stepsAt i hi, fun i hi => h2.cell firstsAt i hi⟩

noncomputable def laidWorld (os : Os) : World :=
  let w0 := World.holding Tryd.prog os ⟨#[], #[], []⟩
  { w0 with heap := (w0.heap.modify 1 fun
      | .cells _ t frozen => .cells ((ints stepNums).map (Value.int .u32)).toArray t frozen
      | o => o).modify 0 fun
      | .cells _ t frozen => .cells ((ints firsts8.list).map (Value.int .u32)).toArray t frozen
      | o => o }

theorem laid_met (os : Os) (args : Array Value) : laidMet Tryd.prog [("cautery/sha.steps", Rows.laid_cautery_sha_steps), ("cautery/sha.firsts", Rows.laid_cautery_sha_firsts)] ((laidWorld os).forCall (fun _ _ => 0) ⟨#[], args, []⟩).memory :=
  laidMet_of_run' 8 (by kernel_rfl) (by kernel_rfl)
end Go.Proofs.YteocmmmnfbabaaaDoor
