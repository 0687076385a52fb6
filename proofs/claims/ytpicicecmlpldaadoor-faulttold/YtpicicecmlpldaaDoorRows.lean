/-
  NARROWER THAN 'FOR EVERY INPUT', by the rows' own cells (each row's printed sentence says how): FaultTold: laid · FaultHas: laid · FaultWrapped: laid.
  DERIVED. THE GIVEN ROWS OF THIS SEAT. 3 by the template 'for every input the law returns true; each argument reads behind the call as it read before'; 0 by the template 'total and deterministic' (their statements: YtpicicecmlpldaaDoorTotals.lean).
  GIVEN WITH THE SEED: the statements are not yours to turn. If you find one false, say at which input.
  Laid BY PROGRAM, IN A SANDBOX (cutbox-rows.mjs): the forced cells as the released guide's own fill.sh prints them over the translation 16135f93be3c9e6f… (all of the seat's roots in one cut). By AI agents, Wed Nov 11 2026. No macro, syntax, notation, axiom, sorry.
-/
import Derived.Test.YtpicicecmlpldaaDoorChecked
import GoSem.Claim
import GoSem.ClaimJoined
import GoSem.ClaimMapViews
import Derived.JoinedTies
import Derived.KernelRfl
namespace Go.Proofs.YtpicicecmlpldaaDoor
/- THE CELL 'sum', in the pinned program and in every row, IS THE sha256 OF THE DUMP (.gsa) THAT YtpicicecmlpldaaDoorProg.lean LOADS. Nothing in Lean hashes anything: it is a label: what it is worth is what the hold of that sum in a sandbox is worth. -/
noncomputable def Tryd.pinned : Pinned := { name := "ytpicicecmlpldaadoor", sum := "16135f93be3c9e6fc2ad44306e0a14b15de5f6b0dfcd0a9feb9cbb5b7dc49dd7", checked := Tryd.checked }
namespace Rows
def none {H : Type} : Left H := { results := [], args := [] }

/- WHAT THE LISTED PACKAGE-LEVEL VARIABLES READ AS WHEN THE CALL BEGINS. Each datum BY PROGRAM (the guide's laid-datum.mjs) off the statement by which the dump's own 'gosem.cut.vars' lays the variable. In a bare row this is a premise. The card (YtpicicecmlpldaaDoorCards.lean) ties it to the program's text. -/
def laid_errors_errorType {H : Type} : DataW H := .iface "internal/reflectlite.rtype" (.agg [.ptr (.lit (.string [101, 114, 114, 111, 114]))])
def laid_cautery_fault_names {H : Type} : DataW H := .agg [.lit (.string [111, 107]), .lit (.string [97, 114, 103, 117, 109, 101, 110, 116]), .lit (.string [115, 104, 111, 114, 116]), .lit (.string [102, 111, 114, 109]), .lit (.string [108, 97, 114, 103, 101]), .lit (.string [110, 111, 110, 101]), .lit (.string [101, 120, 105, 115, 116, 115]), .lit (.string [102, 117, 108, 108]), .lit (.string [100, 111, 119, 110]), .lit (.string [100, 97, 109, 97, 103, 101, 100]), .lit (.string [98, 97, 100]), .lit (.string [104, 101, 108, 100]), .lit (.string [115, 116, 97, 108, 101]), .lit (.string [98, 117, 115, 121]), .lit (.string [115, 117, 109]), .lit (.string [112, 111, 111, 108])]

/-- 'cauterylaw03.FaultTold': WHATEVER THE INPUT: true; the input reads as it did. -/
def faultToldSpec : ChangeSpec := { name := "faultTold", fn := fun _ => fun
  | [d1, d2, d3] => { results := [.lit (.bool true)], args := [d1, d2, d3] }
  | _ => none }
def faultToldRow : OpenClaim := { program := "ytpicicecmlpldaadoor", sum := "16135f93be3c9e6fc2ad44306e0a14b15de5f6b0dfcd0a9feb9cbb5b7dc49dd7", func := "cautery/cauterylaw03.FaultTold", spec := "faultTold", inPlace := ["internal/abi.NoEscape", "internal/reflectlite.ValueOf", "(internal/reflectlite.Value).Type", "(internal/reflectlite.Value).IsNil", "internal/reflectlite.TypeOf", "(internal/reflectlite.Value).Elem", "(internal/reflectlite.Value).Set"], unfollowed := true, recurses := true, named := ["errors.errorType", "cautery/fault.names"], apart := false, laid := [("errors.errorType", laid_errors_errorType), ("cautery/fault.names", laid_cautery_fault_names)] }
def FaultToldSaid : Prop := faultToldRow.holds Tryd.pinned (OpenSpec.ofChange faultToldSpec)

/-- ITS FALSE NEIGHBOUR: 'it returns false'. Refute it at one input. -/
def faultToldWrong : ChangeSpec := { name := "faultTold", fn := fun _ => fun
  | [d1, d2, d3] => { results := [.lit (.bool false)], args := [d1, d2, d3] }
  | _ => none }
def FaultToldWrongFalsely : Prop := faultToldRow.holds Tryd.pinned (OpenSpec.ofChange faultToldWrong)

/-- 'cauterylaw03.FaultHas': WHATEVER THE INPUT: true; the input reads as it did. -/
def faultHasSpec : ChangeSpec := { name := "faultHas", fn := fun _ => fun
  | [d1, d2, d3] => { results := [.lit (.bool true)], args := [d1, d2, d3] }
  | _ => none }
def faultHasRow : OpenClaim := { program := "ytpicicecmlpldaadoor", sum := "16135f93be3c9e6fc2ad44306e0a14b15de5f6b0dfcd0a9feb9cbb5b7dc49dd7", func := "cautery/cauterylaw03.FaultHas", spec := "faultHas", inPlace := ["internal/abi.NoEscape", "internal/reflectlite.ValueOf", "(internal/reflectlite.Value).Type", "(internal/reflectlite.Value).IsNil", "internal/reflectlite.TypeOf", "(internal/reflectlite.Value).Elem", "(internal/reflectlite.Value).Set"], unfollowed := true, recurses := true, named := ["errors.errorType", "cautery/fault.names"], apart := false, laid := [("errors.errorType", laid_errors_errorType), ("cautery/fault.names", laid_cautery_fault_names)] }
def FaultHasSaid : Prop := faultHasRow.holds Tryd.pinned (OpenSpec.ofChange faultHasSpec)

/-- ITS FALSE NEIGHBOUR: 'it returns false'. Refute it at one input. -/
def faultHasWrong : ChangeSpec := { name := "faultHas", fn := fun _ => fun
  | [d1, d2, d3] => { results := [.lit (.bool false)], args := [d1, d2, d3] }
  | _ => none }
def FaultHasWrongFalsely : Prop := faultHasRow.holds Tryd.pinned (OpenSpec.ofChange faultHasWrong)

/-- 'cauterylaw03.FaultWrapped': WHATEVER THE INPUT: true; the input reads as it did. -/
def faultWrappedSpec : ChangeSpec := { name := "faultWrapped", fn := fun _ => fun
  | [d1, d2, d3] => { results := [.lit (.bool true)], args := [d1, d2, d3] }
  | _ => none }
def faultWrappedRow : OpenClaim := { program := "ytpicicecmlpldaadoor", sum := "16135f93be3c9e6fc2ad44306e0a14b15de5f6b0dfcd0a9feb9cbb5b7dc49dd7", func := "cautery/cauterylaw03.FaultWrapped", spec := "faultWrapped", inPlace := ["internal/abi.NoEscape", "internal/reflectlite.ValueOf", "(internal/reflectlite.Value).Type", "(internal/reflectlite.Value).IsNil", "internal/reflectlite.TypeOf", "(internal/reflectlite.Value).Elem", "(internal/reflectlite.Value).Set"], unfollowed := true, recurses := true, named := ["errors.errorType", "cautery/fault.names"], apart := false, laid := [("errors.errorType", laid_errors_errorType), ("cautery/fault.names", laid_cautery_fault_names)] }
def FaultWrappedSaid : Prop := faultWrappedRow.holds Tryd.pinned (OpenSpec.ofChange faultWrappedSpec)

/-- ITS FALSE NEIGHBOUR: 'it returns false'. Refute it at one input. -/
def faultWrappedWrong : ChangeSpec := { name := "faultWrapped", fn := fun _ => fun
  | [d1, d2, d3] => { results := [.lit (.bool false)], args := [d1, d2, d3] }
  | _ => none }
def FaultWrappedWrongFalsely : Prop := faultWrappedRow.holds Tryd.pinned (OpenSpec.ofChange faultWrappedWrong)

/- THE SECOND FORM. 'bulk': how many values and letters a reading holds, each counted each time it is reached (what is shared counts as often as it is met; a slice's spare places count too). A statement '..UptoSaid' is the law's where the arguments, and the package variables that the reading takes, are together of bulk at most 1048576: NARROWER than '..Said'. Prove '..Said' where nothing that the law and all that it calls make is longer than what came in: it says more and counts as full. Else prove '..UptoSaid'. A law counts once. -/
mutual
def uptoBulk {H : Type} : DataW H → Nat
  | .lit (.string bytes) => bytes.length + 1
  | .lit _ => 1
  | .nil => 1
  | .ptr d => uptoBulk d + 1
  | .slice elems spare => uptoBulkAll elems + uptoBulkAll spare + 1
  | .agg parts => uptoBulkAll parts + 1
  | .iface _ d => uptoBulk d + 1
  | .map entries => uptoBulkEntries entries + 1
  | .held _ => 1
def uptoBulkAll {H : Type} : List (DataW H) → Nat
  | [] => 0
  | d :: r => uptoBulk d + uptoBulkAll r
def uptoBulkEntries {H : Type} : List (Lit × DataW H) → Nat
  | [] => 0
  | x :: r => uptoBulkEntry x + uptoBulkEntries r
def uptoBulkEntry {H : Type} : Lit × DataW H → Nat
  | (.string bytes, d) => bytes.length + uptoBulk d + 1
  | (_, d) => uptoBulk d + 1
 end
def uptoSmall : (H : Type) → List (DataW H) → Bool := fun _ ds => decide (uptoBulkAll ds ≤ 1048576)
def OpenSpec.upto (s : _root_.Go.ChangeSpec) : _root_.Go.OpenSpec := { _root_.Go.OpenSpec.ofChange s with cond := some uptoSmall }

/-- 'cauterylaw03.FaultTold', WHERE WHAT IT READS IS OF BULK AT MOST 1048576: true; the input reads as it did. -/
def faultToldUptoRow : OpenClaim := { program := "ytpicicecmlpldaadoor", sum := "16135f93be3c9e6fc2ad44306e0a14b15de5f6b0dfcd0a9feb9cbb5b7dc49dd7", func := "cautery/cauterylaw03.FaultTold", spec := "faultTold", inPlace := ["internal/abi.NoEscape", "internal/reflectlite.ValueOf", "(internal/reflectlite.Value).Type", "(internal/reflectlite.Value).IsNil", "internal/reflectlite.TypeOf", "(internal/reflectlite.Value).Elem", "(internal/reflectlite.Value).Set"], unfollowed := true, recurses := true, named := ["errors.errorType", "cautery/fault.names"], apart := false, laid := [("errors.errorType", laid_errors_errorType), ("cautery/fault.names", laid_cautery_fault_names)], narrowed := true }
def FaultToldUptoSaid : Prop := faultToldUptoRow.holds Tryd.pinned (OpenSpec.upto faultToldSpec)

/-- 'cauterylaw03.FaultHas', WHERE WHAT IT READS IS OF BULK AT MOST 1048576: true; the input reads as it did. -/
def faultHasUptoRow : OpenClaim := { program := "ytpicicecmlpldaadoor", sum := "16135f93be3c9e6fc2ad44306e0a14b15de5f6b0dfcd0a9feb9cbb5b7dc49dd7", func := "cautery/cauterylaw03.FaultHas", spec := "faultHas", inPlace := ["internal/abi.NoEscape", "internal/reflectlite.ValueOf", "(internal/reflectlite.Value).Type", "(internal/reflectlite.Value).IsNil", "internal/reflectlite.TypeOf", "(internal/reflectlite.Value).Elem", "(internal/reflectlite.Value).Set"], unfollowed := true, recurses := true, named := ["errors.errorType", "cautery/fault.names"], apart := false, laid := [("errors.errorType", laid_errors_errorType), ("cautery/fault.names", laid_cautery_fault_names)], narrowed := true }
def FaultHasUptoSaid : Prop := faultHasUptoRow.holds Tryd.pinned (OpenSpec.upto faultHasSpec)

/-- 'cauterylaw03.FaultWrapped', WHERE WHAT IT READS IS OF BULK AT MOST 1048576: true; the input reads as it did. -/
def faultWrappedUptoRow : OpenClaim := { program := "ytpicicecmlpldaadoor", sum := "16135f93be3c9e6fc2ad44306e0a14b15de5f6b0dfcd0a9feb9cbb5b7dc49dd7", func := "cautery/cauterylaw03.FaultWrapped", spec := "faultWrapped", inPlace := ["internal/abi.NoEscape", "internal/reflectlite.ValueOf", "(internal/reflectlite.Value).Type", "(internal/reflectlite.Value).IsNil", "internal/reflectlite.TypeOf", "(internal/reflectlite.Value).Elem", "(internal/reflectlite.Value).Set"], unfollowed := true, recurses := true, named := ["errors.errorType", "cautery/fault.names"], apart := false, laid := [("errors.errorType", laid_errors_errorType), ("cautery/fault.names", laid_cautery_fault_names)], narrowed := true }
def FaultWrappedUptoSaid : Prop := faultWrappedUptoRow.holds Tryd.pinned (OpenSpec.upto faultWrappedSpec)

end Rows
end Go.Proofs.YtpicicecmlpldaaDoor
