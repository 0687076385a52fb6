/-
  tree.Walk: all pointers of a volume.
-/
import Derived.Test.YthbldjnpnligpaaDoorG37
import Derived.Test.YthbldjnpnligpaaDoorG39
import Derived.Test.YthbldjnpnligpaaDoorG25
namespace Go.Proofs.YthbldjnpnligpaaDoor
set_option linter.unusedSimpArgs false
set_option linter.unusedVariables false
set_option maxRecDepth 100000
open Go.RowKit

section
variable {w0 w : World} {M : Nat → Prop} {k p g : Nat} {S : DS} {l : List Bool} {n kk : Nat}

end

end Go.Proofs.YthbldjnpnligpaaDoor

/-
  How many pointers a walk tells.
-/

namespace Go.Proofs.YthbldjnpnligpaaDoor
set_option linter.unusedSimpArgs false
set_option linter.unusedVariables false
set_option maxRecDepth 100000
open Go.RowKit

def e1 (pl : List (List Int)) (i : Nat) : Nat := if pl.getD i [] = [] then 0 else 1
def e4 (pl : List (List Int)) (i : Nat) : Nat := if i % 4 = 3 ∧ ¬ (pl.getD i [] = [] ∧ pl.getD (i - 1) [] = [] ∧ pl.getD (i - 2) [] = [] ∧ pl.getD (i - 3) [] = []) then 1 else 0
section
variable {S : DS} {k n : Nat} {q : Pt} {ns : List Pt} {cs : Nat → List Pt} {pl : List (List Int)}
end

end Go.Proofs.YthbldjnpnligpaaDoor

/-
  Cells as strings: empty ones, joined ones.
-/

namespace Go.Proofs.YthbldjnpnligpaaDoor
set_option linter.unusedSimpArgs false
set_option linter.unusedVariables false
set_option maxRecDepth 100000
open Go.RowKit

theorem plV_at {pl : List (List Int)} (h : pl.length = 16) {i : Nat} (hi : i < 16) : (plV pl)[i]? = some (.string (strOfNums (pl.getD i []))) := by
  unfold plV
  rw [List.getElem?_map, List.getD_eq_getElem?_getD, List.getElem?_eq_getElem (by omega)]
  rfl
end Go.Proofs.YthbldjnpnligpaaDoor
