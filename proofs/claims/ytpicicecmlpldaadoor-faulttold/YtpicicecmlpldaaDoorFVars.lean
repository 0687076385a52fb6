/-
  From what a row lists to what the walks ask: the names, and errors' own variable; a world that has them.
-/
import Derived.Test.YtpicicecmlpldaaDoorName
import Derived.Test.YtpicicecmlpldaaDoorLaidStrs
import Derived.Test.YtpicicecmlpldaaDoorRows
namespace Go.Proofs.YtpicicecmlpldaaDoor
set_option linter.unusedSimpArgs false
set_option linter.unusedVariables false
open Go.RowKit

theorem namesData : (Rows.laid_cautery_fault_names : DataW Unit) = strTab namesL := rfl
theorem namesAt : Tryd.prog.globalNamed "cautery/fault.names" = some 0 := by kernel_rfl
theorem namesType : (Tryd.prog.globals[0]?).map (·.type) = some 52 := by kernel_rfl
theorem errAt : Tryd.prog.globalNamed "errors.errorType" = some 1 := by kernel_rfl
theorem errRow : (Tryd.prog.cutTypes.find? (·.1 == "internal/reflectlite.rtype")).map (·.2) = some 74 := by kernel_rfl
theorem errOne : ((List.range (217 - 100)).filter fun t => Tryd.prog.rowNamed t [101, 114, 114, 111, 114]) = [48] := by kernel_rfl
theorem errSize : Tryd.prog.types.size = 217 - 100 := by kernel_rfl

/-- What the walks ask of the package variables. -/
structure Vars (w : World) : Prop where
  err : ErrT w
  names : NamesT w

abbrev laidL : List (String × DataW Unit) := [("errors.errorType", Rows.laid_errors_errorType), ("cautery/fault.names", Rows.laid_cautery_fault_names)]

theorem vars_of_laid {W : World} (h : laidMetH Tryd.prog laidL W) : Vars W := by
  have h' : laidMet Tryd.prog [("cautery/fault.names", Rows.laid_cautery_fault_names)] W ∧ handlesMet Tryd.prog [("errors.errorType", Rows.laid_errors_errorType)] W := h
  refine ⟨?_, ?_⟩
  · obtain ⟨name, u, ty, e1, e2, e3, e4, e5⟩ := h'.2 _ (List.mem_singleton.2 rfl)
    have en : name = [101, 114, 114, 111, 114] := (Option.some.inj e1).symm
    subst en
    obtain rfl := Option.some.inj (errRow.symm.trans e2)
    have hm : ty ∈ (List.range (217 - 100)).filter fun t => Tryd.prog.rowNamed t [101, 114, 114, 111, 114] := List.mem_filter.2 ⟨List.mem_range.2 (by rw [← errSize]; exact e3), e4⟩
    rw [errOne] at hm
    obtain rfl := List.mem_singleton.1 hm
    have hh : typeHandle Tryd.prog 48 = .pointer (some ⟨2, 48, none⟩) := by kernel_rfl
    rw [hh] at e5
    have := World.var?_cell errAt e5 0
    simpa [ErrT] using this
  · have h1 := h'.1
    rw [namesData] at h1
    exact fun i hi => strs_of_head namesAt namesType Tryd.underlying52 Tryd.underlying9 (by kernel_rfl) (by kernel_rfl) h1 i hi

noncomputable def laidWorld (os : Os) : World :=
  let w0 := World.holding Tryd.prog os ⟨#[], #[], []⟩
  { w0 with heap := (w0.heap.modify 1 fun
      | .cells _ t frozen => .cells #[rt 48] t frozen
      | o => o).modify 0 fun
      | .cells _ t frozen => .cells (namesL.map fun z => Value.string ⟨z.toArray⟩).toArray t frozen
      | o => o }

theorem laid_met (os : Os) (args : Array Value) : laidMetH Tryd.prog laidL ((laidWorld os).forCall (fun _ _ => 0) ⟨#[], args, []⟩).memory :=
  laidMetH_of_parts (laidMet_of_run' 8 (by kernel_rfl) (by kernel_rfl)) (by kernel_rfl)
end Go.Proofs.YtpicicecmlpldaaDoor
