/-
  No cell of these rows narrows 'for every input' (looked for: loops, veiled, ifaces, maps, wideKeys, modest, calm, conditions, laid).
  DERIVED. THE GIVEN ROWS OF THIS SEAT. 5 by the template 'for every input the law returns true; each argument reads behind the call as it read before'; 0 by the template 'total and deterministic' (their statements: YtfmfjaokpnadaaaTotals.lean).
  GIVEN WITH THE SEED: the statements are not yours to turn. If you find one false, say at which input.
  Laid BY PROGRAM, IN A SANDBOX (cutbox-rows.mjs): the forced cells as the released guide's own fill.sh prints them over the translation c674f29fe9723c41… (all of the seat's roots in one cut). By AI agents, Wed Nov 11 2026. No macro, syntax, notation, axiom, sorry.
-/
import Derived.Test.YtfmfjaokpnadaaaChecked
import GoSem.Claim
import GoSem.ClaimJoined
import GoSem.ClaimMapViews
import Derived.JoinedTies
import Derived.KernelRfl
namespace Go.Proofs.Ytfmfjaokpnadaaa
/- THE CELL 'sum', in the pinned program and in every row, IS THE sha256 OF THE DUMP (.gsa) THAT YtfmfjaokpnadaaaProg.lean LOADS. Nothing in Lean hashes anything: it is a label: what it is worth is what the hold of that sum in a sandbox is worth. -/
noncomputable def Try.pinned : Pinned := { name := "ytfmfjaokpnadaaa", sum := "c674f29fe9723c4143365723bb63ace625d396a8ea7af14c5cd38f6b758db82f", checked := Try.checked }
namespace Rows
def none {H : Type} : Left H := { results := [], args := [] }

/-- 'cauterylaw06.SpacePlays': WHATEVER THE INPUT: true; the input reads as it did. -/
def spacePlaysSpec : ChangeSpec := { name := "spacePlays", fn := fun _ => fun
  | [d1, d2] => { results := [.lit (.bool true)], args := [d1, d2] }
  | _ => none }
def spacePlaysRow : OpenClaim := { program := "ytfmfjaokpnadaaa", sum := "c674f29fe9723c4143365723bb63ace625d396a8ea7af14c5cd38f6b758db82f", func := "cautery/cauterylaw06.SpacePlays", spec := "spacePlays", apart := false }
def SpacePlaysSaid : Prop := spacePlaysRow.holds Try.pinned (OpenSpec.ofChange spacePlaysSpec)

/-- ITS FALSE NEIGHBOUR: 'it returns false'. Refute it at one input. -/
def spacePlaysWrong : ChangeSpec := { name := "spacePlays", fn := fun _ => fun
  | [d1, d2] => { results := [.lit (.bool false)], args := [d1, d2] }
  | _ => none }
def SpacePlaysWrongFalsely : Prop := spacePlaysRow.holds Try.pinned (OpenSpec.ofChange spacePlaysWrong)

/-- 'cauterylaw06.SpaceLoad': WHATEVER THE INPUT: true; the input reads as it did. -/
def spaceLoadSpec : ChangeSpec := { name := "spaceLoad", fn := fun _ => fun
  | [d1, d2] => { results := [.lit (.bool true)], args := [d1, d2] }
  | _ => none }
def spaceLoadRow : OpenClaim := { program := "ytfmfjaokpnadaaa", sum := "c674f29fe9723c4143365723bb63ace625d396a8ea7af14c5cd38f6b758db82f", func := "cautery/cauterylaw06.SpaceLoad", spec := "spaceLoad", apart := false }
def SpaceLoadSaid : Prop := spaceLoadRow.holds Try.pinned (OpenSpec.ofChange spaceLoadSpec)

/-- ITS FALSE NEIGHBOUR: 'it returns false'. Refute it at one input. -/
def spaceLoadWrong : ChangeSpec := { name := "spaceLoad", fn := fun _ => fun
  | [d1, d2] => { results := [.lit (.bool false)], args := [d1, d2] }
  | _ => none }
def SpaceLoadWrongFalsely : Prop := spaceLoadRow.holds Try.pinned (OpenSpec.ofChange spaceLoadWrong)

/-- 'cauterylaw06.SpaceBack': WHATEVER THE INPUT: true; the input reads as it did. -/
def spaceBackSpec : ChangeSpec := { name := "spaceBack", fn := fun _ => fun
  | [d1, d2, d3] => { results := [.lit (.bool true)], args := [d1, d2, d3] }
  | _ => none }
def spaceBackRow : OpenClaim := { program := "ytfmfjaokpnadaaa", sum := "c674f29fe9723c4143365723bb63ace625d396a8ea7af14c5cd38f6b758db82f", func := "cautery/cauterylaw06.SpaceBack", spec := "spaceBack", apart := false }
def SpaceBackSaid : Prop := spaceBackRow.holds Try.pinned (OpenSpec.ofChange spaceBackSpec)

/-- ITS FALSE NEIGHBOUR: 'it returns false'. Refute it at one input. -/
def spaceBackWrong : ChangeSpec := { name := "spaceBack", fn := fun _ => fun
  | [d1, d2, d3] => { results := [.lit (.bool false)], args := [d1, d2, d3] }
  | _ => none }
def SpaceBackWrongFalsely : Prop := spaceBackRow.holds Try.pinned (OpenSpec.ofChange spaceBackWrong)

/-- 'cauterylaw06.SpaceTaken': WHATEVER THE INPUT: true; the input reads as it did. -/
def spaceTakenSpec : ChangeSpec := { name := "spaceTaken", fn := fun _ => fun
  | [d1, d2] => { results := [.lit (.bool true)], args := [d1, d2] }
  | _ => none }
def spaceTakenRow : OpenClaim := { program := "ytfmfjaokpnadaaa", sum := "c674f29fe9723c4143365723bb63ace625d396a8ea7af14c5cd38f6b758db82f", func := "cautery/cauterylaw06.SpaceTaken", spec := "spaceTaken", apart := false }
def SpaceTakenSaid : Prop := spaceTakenRow.holds Try.pinned (OpenSpec.ofChange spaceTakenSpec)

/-- ITS FALSE NEIGHBOUR: 'it returns false'. Refute it at one input. -/
def spaceTakenWrong : ChangeSpec := { name := "spaceTaken", fn := fun _ => fun
  | [d1, d2] => { results := [.lit (.bool false)], args := [d1, d2] }
  | _ => none }
def SpaceTakenWrongFalsely : Prop := spaceTakenRow.holds Try.pinned (OpenSpec.ofChange spaceTakenWrong)

/-- 'cauterylaw06.SpaceNil': WHATEVER THE INPUT: true; the input reads as it did. -/
def spaceNilSpec : ChangeSpec := { name := "spaceNil", fn := fun _ => fun
  | [d1, d2] => { results := [.lit (.bool true)], args := [d1, d2] }
  | _ => none }
def spaceNilRow : OpenClaim := { program := "ytfmfjaokpnadaaa", sum := "c674f29fe9723c4143365723bb63ace625d396a8ea7af14c5cd38f6b758db82f", func := "cautery/cauterylaw06.SpaceNil", spec := "spaceNil", apart := false }
def SpaceNilSaid : Prop := spaceNilRow.holds Try.pinned (OpenSpec.ofChange spaceNilSpec)

/-- ITS FALSE NEIGHBOUR: 'it returns false'. Refute it at one input. -/
def spaceNilWrong : ChangeSpec := { name := "spaceNil", fn := fun _ => fun
  | [d1, d2] => { results := [.lit (.bool false)], args := [d1, d2] }
  | _ => none }
def SpaceNilWrongFalsely : Prop := spaceNilRow.holds Try.pinned (OpenSpec.ofChange spaceNilWrong)

/- THE SECOND FORM. 'bulk': how many values and letters a reading holds, each counted each time it is reached (what is shared counts as often as it is met; a slice's spare places count too). A statement '..UptoSaid' is the law's where the arguments, and the package variables that the reading takes, are together of bulk at most 1048576: NARROWER than '..Said'. Prove '..Said' where nothing that the law and all that it calls make is longer than what came in: it says more and counts as full. Else prove '..UptoSaid'. A law counts once. -/
mutual
def uptoBulk {H : Type} : DataW H → Nat
  | .lit (.string bytes) => bytes.length + 1
  | .lit _ => 1
  | .nil => 1
  | .ptr d => uptoBulk d + 1
  | .slice elems spare => uptoBulkAll elems + uptoBulkAll spare + 1
  | .agg parts => uptoBulkAll parts + 1
  | .iface _ d => uptoBulk d + 1
  | .map entries => uptoBulkEntries entries + 1
  | .held _ => 1
def uptoBulkAll {H : Type} : List (DataW H) → Nat
  | [] => 0
  | d :: r => uptoBulk d + uptoBulkAll r
def uptoBulkEntries {H : Type} : List (Lit × DataW H) → Nat
  | [] => 0
  | x :: r => uptoBulkEntry x + uptoBulkEntries r
def uptoBulkEntry {H : Type} : Lit × DataW H → Nat
  | (.string bytes, d) => bytes.length + uptoBulk d + 1
  | (_, d) => uptoBulk d + 1
 end
def uptoSmall : (H : Type) → List (DataW H) → Bool := fun _ ds => decide (uptoBulkAll ds ≤ 1048576)
def OpenSpec.upto (s : _root_.Go.ChangeSpec) : _root_.Go.OpenSpec := { _root_.Go.OpenSpec.ofChange s with cond := some uptoSmall }

/-- 'cauterylaw06.SpacePlays', WHERE WHAT IT READS IS OF BULK AT MOST 1048576: true; the input reads as it did. -/
def spacePlaysUptoRow : OpenClaim := { program := "ytfmfjaokpnadaaa", sum := "c674f29fe9723c4143365723bb63ace625d396a8ea7af14c5cd38f6b758db82f", func := "cautery/cauterylaw06.SpacePlays", spec := "spacePlays", apart := false, narrowed := true }
def SpacePlaysUptoSaid : Prop := spacePlaysUptoRow.holds Try.pinned (OpenSpec.upto spacePlaysSpec)

/-- 'cauterylaw06.SpaceLoad', WHERE WHAT IT READS IS OF BULK AT MOST 1048576: true; the input reads as it did. -/
def spaceLoadUptoRow : OpenClaim := { program := "ytfmfjaokpnadaaa", sum := "c674f29fe9723c4143365723bb63ace625d396a8ea7af14c5cd38f6b758db82f", func := "cautery/cauterylaw06.SpaceLoad", spec := "spaceLoad", apart := false, narrowed := true }
def SpaceLoadUptoSaid : Prop := spaceLoadUptoRow.holds Try.pinned (OpenSpec.upto spaceLoadSpec)

/-- 'cauterylaw06.SpaceBack', WHERE WHAT IT READS IS OF BULK AT MOST 1048576: true; the input reads as it did. -/
def spaceBackUptoRow : OpenClaim := { program := "ytfmfjaokpnadaaa", sum := "c674f29fe9723c4143365723bb63ace625d396a8ea7af14c5cd38f6b758db82f", func := "cautery/cauterylaw06.SpaceBack", spec := "spaceBack", apart := false, narrowed := true }
def SpaceBackUptoSaid : Prop := spaceBackUptoRow.holds Try.pinned (OpenSpec.upto spaceBackSpec)

/-- 'cauterylaw06.SpaceTaken', WHERE WHAT IT READS IS OF BULK AT MOST 1048576: true; the input reads as it did. -/
def spaceTakenUptoRow : OpenClaim := { program := "ytfmfjaokpnadaaa", sum := "c674f29fe9723c4143365723bb63ace625d396a8ea7af14c5cd38f6b758db82f", func := "cautery/cauterylaw06.SpaceTaken", spec := "spaceTaken", apart := false, narrowed := true }
def SpaceTakenUptoSaid : Prop := spaceTakenUptoRow.holds Try.pinned (OpenSpec.upto spaceTakenSpec)

/-- 'cauterylaw06.SpaceNil', WHERE WHAT IT READS IS OF BULK AT MOST 1048576: true; the input reads as it did. -/
def spaceNilUptoRow : OpenClaim := { program := "ytfmfjaokpnadaaa", sum := "c674f29fe9723c4143365723bb63ace625d396a8ea7af14c5cd38f6b758db82f", func := "cautery/cauterylaw06.SpaceNil", spec := "spaceNil", apart := false, narrowed := true }
def SpaceNilUptoSaid : Prop := spaceNilUptoRow.holds Try.pinned (OpenSpec.upto spaceNilSpec)

end Rows
end Go.Proofs.Ytfmfjaokpnadaaa
