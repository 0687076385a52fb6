/-
  NARROWER THAN 'FOR EVERY INPUT', by the rows' own cells (each row's printed sentence says how): BankPlays: laid · TreeDiff: laid · BlobNeed: laid · BlobBack: laid · BlobTwice: laid · ManifestBytes: laid · ManifestRange: laid.
  DERIVED. THE GIVEN ROWS OF THIS SEAT. 7 by the template 'for every input the law returns true; each argument reads behind the call as it read before'; 0 by the template 'total and deterministic' (their statements: YthbldjnpnligpaaDoorTotals.lean).
  GIVEN WITH THE SEED: the statements are not yours to turn. If you find one false, say at which input.
  Laid BY PROGRAM, IN A SANDBOX (cutbox-rows.mjs): the forced cells as the released guide's own fill.sh prints them over the translation 2d168eae9b221508… (all of the seat's roots in one cut). By AI agents, Wed Nov 11 2026. No macro, syntax, notation, axiom, sorry.
-/
import Derived.Test.YthbldjnpnligpaaDoorChecked
import GoSem.Claim
import GoSem.ClaimJoined
import GoSem.ClaimMapViews
import Derived.JoinedTies
import Derived.KernelRfl
namespace Go.Proofs.YthbldjnpnligpaaDoor
/- THE CELL 'sum', in the pinned program and in every row, IS THE sha256 OF THE DUMP (.gsa) THAT YthbldjnpnligpaaDoorProg.lean LOADS. Nothing in Lean hashes anything: it is a label: what it is worth is what the hold of that sum in a sandbox is worth. -/
noncomputable def Tryd.pinned : Pinned := { name := "ythbldjnpnligpaadoor", sum := "2d168eae9b22150875e16f4bf1fd1d74861fa1ac6606abe641a9c484c44c68a8", checked := Tryd.checked }
namespace Rows
def none {H : Type} : Left H := { results := [], args := [] }

/- WHAT THE LISTED PACKAGE-LEVEL VARIABLES READ AS WHEN THE CALL BEGINS. Each datum BY PROGRAM (the guide's laid-datum.mjs) off the statement by which the dump's own 'gosem.cut.vars' lays the variable. In a bare row this is a premise. The card (YthbldjnpnligpaaDoorCards.lean) ties it to the program's text. -/
def laid_cautery_sha_steps {H : Type} : DataW H := .agg [.lit (.int .u32 1116352408), .lit (.int .u32 1899447441), .lit (.int .u32 3049323471), .lit (.int .u32 3921009573), .lit (.int .u32 961987163), .lit (.int .u32 1508970993), .lit (.int .u32 2453635748), .lit (.int .u32 2870763221), .lit (.int .u32 3624381080), .lit (.int .u32 310598401), .lit (.int .u32 607225278), .lit (.int .u32 1426881987), .lit (.int .u32 1925078388), .lit (.int .u32 2162078206), .lit (.int .u32 2614888103), .lit (.int .u32 3248222580), .lit (.int .u32 3835390401), .lit (.int .u32 4022224774), .lit (.int .u32 264347078), .lit (.int .u32 604807628), .lit (.int .u32 770255983), .lit (.int .u32 1249150122), .lit (.int .u32 1555081692), .lit (.int .u32 1996064986), .lit (.int .u32 2554220882), .lit (.int .u32 2821834349), .lit (.int .u32 2952996808), .lit (.int .u32 3210313671), .lit (.int .u32 3336571891), .lit (.int .u32 3584528711), .lit (.int .u32 113926993), .lit (.int .u32 338241895), .lit (.int .u32 666307205), .lit (.int .u32 773529912), .lit (.int .u32 1294757372), .lit (.int .u32 1396182291), .lit (.int .u32 1695183700), .lit (.int .u32 1986661051), .lit (.int .u32 2177026350), .lit (.int .u32 2456956037), .lit (.int .u32 2730485921), .lit (.int .u32 2820302411), .lit (.int .u32 3259730800), .lit (.int .u32 3345764771), .lit (.int .u32 3516065817), .lit (.int .u32 3600352804), .lit (.int .u32 4094571909), .lit (.int .u32 275423344), .lit (.int .u32 430227734), .lit (.int .u32 506948616), .lit (.int .u32 659060556), .lit (.int .u32 883997877), .lit (.int .u32 958139571), .lit (.int .u32 1322822218), .lit (.int .u32 1537002063), .lit (.int .u32 1747873779), .lit (.int .u32 1955562222), .lit (.int .u32 2024104815), .lit (.int .u32 2227730452), .lit (.int .u32 2361852424), .lit (.int .u32 2428436474), .lit (.int .u32 2756734187), .lit (.int .u32 3204031479), .lit (.int .u32 3329325298)]
def laid_cautery_sha_firsts {H : Type} : DataW H := .agg [.lit (.int .u32 1779033703), .lit (.int .u32 3144134277), .lit (.int .u32 1013904242), .lit (.int .u32 2773480762), .lit (.int .u32 1359893119), .lit (.int .u32 2600822924), .lit (.int .u32 528734635), .lit (.int .u32 1541459225)]

/-- 'cauterylaw08.BankPlays': WHATEVER THE INPUT: true; the input reads as it did. -/
def bankPlaysSpec : ChangeSpec := { name := "bankPlays", fn := fun _ => fun
  | [d1, d2] => { results := [.lit (.bool true)], args := [d1, d2] }
  | _ => none }
def bankPlaysRow : OpenClaim := { program := "ythbldjnpnligpaadoor", sum := "2d168eae9b22150875e16f4bf1fd1d74861fa1ac6606abe641a9c484c44c68a8", func := "cautery/cauterylaw08.BankPlays", spec := "bankPlays", unfollowed := true, recurses := true, named := ["cautery/sha.firsts", "cautery/sha.steps"], apart := false, laid := [("cautery/sha.steps", laid_cautery_sha_steps), ("cautery/sha.firsts", laid_cautery_sha_firsts)] }
def BankPlaysSaid : Prop := bankPlaysRow.holds Tryd.pinned (OpenSpec.ofChange bankPlaysSpec)

/-- ITS FALSE NEIGHBOUR: 'it returns false'. Refute it at one input. -/
def bankPlaysWrong : ChangeSpec := { name := "bankPlays", fn := fun _ => fun
  | [d1, d2] => { results := [.lit (.bool false)], args := [d1, d2] }
  | _ => none }
def BankPlaysWrongFalsely : Prop := bankPlaysRow.holds Tryd.pinned (OpenSpec.ofChange bankPlaysWrong)

/-- 'cauterylaw09.TreeDiff': WHATEVER THE INPUT: true; the input reads as it did. -/
def treeDiffSpec : ChangeSpec := { name := "treeDiff", fn := fun _ => fun
  | [d1, d2] => { results := [.lit (.bool true)], args := [d1, d2] }
  | _ => none }
def treeDiffRow : OpenClaim := { program := "ythbldjnpnligpaadoor", sum := "2d168eae9b22150875e16f4bf1fd1d74861fa1ac6606abe641a9c484c44c68a8", func := "cautery/cauterylaw09.TreeDiff", spec := "treeDiff", unfollowed := true, recurses := true, named := ["cautery/sha.firsts", "cautery/sha.steps"], apart := false, laid := [("cautery/sha.steps", laid_cautery_sha_steps), ("cautery/sha.firsts", laid_cautery_sha_firsts)] }
def TreeDiffSaid : Prop := treeDiffRow.holds Tryd.pinned (OpenSpec.ofChange treeDiffSpec)

/-- ITS FALSE NEIGHBOUR: 'it returns false'. Refute it at one input. -/
def treeDiffWrong : ChangeSpec := { name := "treeDiff", fn := fun _ => fun
  | [d1, d2] => { results := [.lit (.bool false)], args := [d1, d2] }
  | _ => none }
def TreeDiffWrongFalsely : Prop := treeDiffRow.holds Tryd.pinned (OpenSpec.ofChange treeDiffWrong)

/-- 'cauterylaw10.BlobNeed': WHATEVER THE INPUT: true; the input reads as it did. -/
def blobNeedSpec : ChangeSpec := { name := "blobNeed", fn := fun _ => fun
  | [d] => { results := [.lit (.bool true)], args := [d] }
  | _ => none }
def blobNeedRow : OpenClaim := { program := "ythbldjnpnligpaadoor", sum := "2d168eae9b22150875e16f4bf1fd1d74861fa1ac6606abe641a9c484c44c68a8", func := "cautery/cauterylaw10.BlobNeed", spec := "blobNeed", unfollowed := true, recurses := true, named := ["cautery/sha.firsts", "cautery/sha.steps"], apart := false, laid := [("cautery/sha.steps", laid_cautery_sha_steps), ("cautery/sha.firsts", laid_cautery_sha_firsts)] }
def BlobNeedSaid : Prop := blobNeedRow.holds Tryd.pinned (OpenSpec.ofChange blobNeedSpec)

/-- ITS FALSE NEIGHBOUR: 'it returns false'. Refute it at one input. -/
def blobNeedWrong : ChangeSpec := { name := "blobNeed", fn := fun _ => fun
  | [d] => { results := [.lit (.bool false)], args := [d] }
  | _ => none }
def BlobNeedWrongFalsely : Prop := blobNeedRow.holds Tryd.pinned (OpenSpec.ofChange blobNeedWrong)

/-- 'cauterylaw10.BlobBack': WHATEVER THE INPUT: true; the input reads as it did. -/
def blobBackSpec : ChangeSpec := { name := "blobBack", fn := fun _ => fun
  | [d1, d2] => { results := [.lit (.bool true)], args := [d1, d2] }
  | _ => none }
def blobBackRow : OpenClaim := { program := "ythbldjnpnligpaadoor", sum := "2d168eae9b22150875e16f4bf1fd1d74861fa1ac6606abe641a9c484c44c68a8", func := "cautery/cauterylaw10.BlobBack", spec := "blobBack", unfollowed := true, recurses := true, named := ["cautery/sha.firsts", "cautery/sha.steps"], apart := false, laid := [("cautery/sha.steps", laid_cautery_sha_steps), ("cautery/sha.firsts", laid_cautery_sha_firsts)] }
def BlobBackSaid : Prop := blobBackRow.holds Tryd.pinned (OpenSpec.ofChange blobBackSpec)

/-- ITS FALSE NEIGHBOUR: 'it returns false'. Refute it at one input. -/
def blobBackWrong : ChangeSpec := { name := "blobBack", fn := fun _ => fun
  | [d1, d2] => { results := [.lit (.bool false)], args := [d1, d2] }
  | _ => none }
def BlobBackWrongFalsely : Prop := blobBackRow.holds Tryd.pinned (OpenSpec.ofChange blobBackWrong)

/-- 'cauterylaw10.BlobTwice': WHATEVER THE INPUT: true; the input reads as it did. -/
def blobTwiceSpec : ChangeSpec := { name := "blobTwice", fn := fun _ => fun
  | [d1, d2, d3] => { results := [.lit (.bool true)], args := [d1, d2, d3] }
  | _ => none }
def blobTwiceRow : OpenClaim := { program := "ythbldjnpnligpaadoor", sum := "2d168eae9b22150875e16f4bf1fd1d74861fa1ac6606abe641a9c484c44c68a8", func := "cautery/cauterylaw10.BlobTwice", spec := "blobTwice", unfollowed := true, recurses := true, named := ["cautery/sha.firsts", "cautery/sha.steps"], apart := false, laid := [("cautery/sha.steps", laid_cautery_sha_steps), ("cautery/sha.firsts", laid_cautery_sha_firsts)] }
def BlobTwiceSaid : Prop := blobTwiceRow.holds Tryd.pinned (OpenSpec.ofChange blobTwiceSpec)

/-- ITS FALSE NEIGHBOUR: 'it returns false'. Refute it at one input. -/
def blobTwiceWrong : ChangeSpec := { name := "blobTwice", fn := fun _ => fun
  | [d1, d2, d3] => { results := [.lit (.bool false)], args := [d1, d2, d3] }
  | _ => none }
def BlobTwiceWrongFalsely : Prop := blobTwiceRow.holds Tryd.pinned (OpenSpec.ofChange blobTwiceWrong)

/-- 'cauterylaw11.ManifestBytes': WHATEVER THE INPUT: true; the input reads as it did. -/
def manifestBytesSpec : ChangeSpec := { name := "manifestBytes", fn := fun _ => fun
  | [d1, d2] => { results := [.lit (.bool true)], args := [d1, d2] }
  | _ => none }
def manifestBytesRow : OpenClaim := { program := "ythbldjnpnligpaadoor", sum := "2d168eae9b22150875e16f4bf1fd1d74861fa1ac6606abe641a9c484c44c68a8", func := "cautery/cauterylaw11.ManifestBytes", spec := "manifestBytes", unfollowed := true, recurses := true, named := ["cautery/sha.firsts", "cautery/sha.steps"], apart := false, laid := [("cautery/sha.steps", laid_cautery_sha_steps), ("cautery/sha.firsts", laid_cautery_sha_firsts)] }
def ManifestBytesSaid : Prop := manifestBytesRow.holds Tryd.pinned (OpenSpec.ofChange manifestBytesSpec)

/-- ITS FALSE NEIGHBOUR: 'it returns false'. Refute it at one input. -/
def manifestBytesWrong : ChangeSpec := { name := "manifestBytes", fn := fun _ => fun
  | [d1, d2] => { results := [.lit (.bool false)], args := [d1, d2] }
  | _ => none }
def ManifestBytesWrongFalsely : Prop := manifestBytesRow.holds Tryd.pinned (OpenSpec.ofChange manifestBytesWrong)

/-- 'cauterylaw11.ManifestRange': WHATEVER THE INPUT: true; the input reads as it did. -/
def manifestRangeSpec : ChangeSpec := { name := "manifestRange", fn := fun _ => fun
  | [d1, d2, d3] => { results := [.lit (.bool true)], args := [d1, d2, d3] }
  | _ => none }
def manifestRangeRow : OpenClaim := { program := "ythbldjnpnligpaadoor", sum := "2d168eae9b22150875e16f4bf1fd1d74861fa1ac6606abe641a9c484c44c68a8", func := "cautery/cauterylaw11.ManifestRange", spec := "manifestRange", unfollowed := true, recurses := true, named := ["cautery/sha.firsts", "cautery/sha.steps"], apart := false, laid := [("cautery/sha.steps", laid_cautery_sha_steps), ("cautery/sha.firsts", laid_cautery_sha_firsts)] }
def ManifestRangeSaid : Prop := manifestRangeRow.holds Tryd.pinned (OpenSpec.ofChange manifestRangeSpec)

/-- ITS FALSE NEIGHBOUR: 'it returns false'. Refute it at one input. -/
def manifestRangeWrong : ChangeSpec := { name := "manifestRange", fn := fun _ => fun
  | [d1, d2, d3] => { results := [.lit (.bool false)], args := [d1, d2, d3] }
  | _ => none }
def ManifestRangeWrongFalsely : Prop := manifestRangeRow.holds Tryd.pinned (OpenSpec.ofChange manifestRangeWrong)

/- THE SECOND FORM. 'bulk': how many values and letters a reading holds, each counted each time it is reached (what is shared counts as often as it is met; a slice's spare places count too). A statement '..UptoSaid' is the law's where the arguments, and the package variables that the reading takes, are together of bulk at most 1048576: NARROWER than '..Said'. Prove '..Said' where nothing that the law and all that it calls make is longer than what came in: it says more and counts as full. Else prove '..UptoSaid'. A law counts once. -/
mutual
def uptoBulk {H : Type} : DataW H → Nat
  | .lit (.string bytes) => bytes.length + 1
  | .lit _ => 1
  | .nil => 1
  | .ptr d => uptoBulk d + 1
  | .slice elems spare => uptoBulkAll elems + uptoBulkAll spare + 1
  | .agg parts => uptoBulkAll parts + 1
  | .iface _ d => uptoBulk d + 1
  | .map entries => uptoBulkEntries entries + 1
  | .held _ => 1
def uptoBulkAll {H : Type} : List (DataW H) → Nat
  | [] => 0
  | d :: r => uptoBulk d + uptoBulkAll r
def uptoBulkEntries {H : Type} : List (Lit × DataW H) → Nat
  | [] => 0
  | x :: r => uptoBulkEntry x + uptoBulkEntries r
def uptoBulkEntry {H : Type} : Lit × DataW H → Nat
  | (.string bytes, d) => bytes.length + uptoBulk d + 1
  | (_, d) => uptoBulk d + 1
 end
def uptoSmall : (H : Type) → List (DataW H) → Bool := fun _ ds => decide (uptoBulkAll ds ≤ 1048576)
def OpenSpec.upto (s : _root_.Go.ChangeSpec) : _root_.Go.OpenSpec := { _root_.Go.OpenSpec.ofChange s with cond := some uptoSmall }

/-- 'cauterylaw08.BankPlays', WHERE WHAT IT READS IS OF BULK AT MOST 1048576: true; the input reads as it did. -/
def bankPlaysUptoRow : OpenClaim := { program := "ythbldjnpnligpaadoor", sum := "2d168eae9b22150875e16f4bf1fd1d74861fa1ac6606abe641a9c484c44c68a8", func := "cautery/cauterylaw08.BankPlays", spec := "bankPlays", unfollowed := true, recurses := true, named := ["cautery/sha.firsts", "cautery/sha.steps"], apart := false, laid := [("cautery/sha.steps", laid_cautery_sha_steps), ("cautery/sha.firsts", laid_cautery_sha_firsts)], narrowed := true }
def BankPlaysUptoSaid : Prop := bankPlaysUptoRow.holds Tryd.pinned (OpenSpec.upto bankPlaysSpec)

/-- 'cauterylaw09.TreeDiff', WHERE WHAT IT READS IS OF BULK AT MOST 1048576: true; the input reads as it did. -/
def treeDiffUptoRow : OpenClaim := { program := "ythbldjnpnligpaadoor", sum := "2d168eae9b22150875e16f4bf1fd1d74861fa1ac6606abe641a9c484c44c68a8", func := "cautery/cauterylaw09.TreeDiff", spec := "treeDiff", unfollowed := true, recurses := true, named := ["cautery/sha.firsts", "cautery/sha.steps"], apart := false, laid := [("cautery/sha.steps", laid_cautery_sha_steps), ("cautery/sha.firsts", laid_cautery_sha_firsts)], narrowed := true }
def TreeDiffUptoSaid : Prop := treeDiffUptoRow.holds Tryd.pinned (OpenSpec.upto treeDiffSpec)

/-- 'cauterylaw10.BlobNeed', WHERE WHAT IT READS IS OF BULK AT MOST 1048576: true; the input reads as it did. -/
def blobNeedUptoRow : OpenClaim := { program := "ythbldjnpnligpaadoor", sum := "2d168eae9b22150875e16f4bf1fd1d74861fa1ac6606abe641a9c484c44c68a8", func := "cautery/cauterylaw10.BlobNeed", spec := "blobNeed", unfollowed := true, recurses := true, named := ["cautery/sha.firsts", "cautery/sha.steps"], apart := false, laid := [("cautery/sha.steps", laid_cautery_sha_steps), ("cautery/sha.firsts", laid_cautery_sha_firsts)], narrowed := true }
def BlobNeedUptoSaid : Prop := blobNeedUptoRow.holds Tryd.pinned (OpenSpec.upto blobNeedSpec)

/-- 'cauterylaw10.BlobBack', WHERE WHAT IT READS IS OF BULK AT MOST 1048576: true; the input reads as it did. -/
def blobBackUptoRow : OpenClaim := { program := "ythbldjnpnligpaadoor", sum := "2d168eae9b22150875e16f4bf1fd1d74861fa1ac6606abe641a9c484c44c68a8", func := "cautery/cauterylaw10.BlobBack", spec := "blobBack", unfollowed := true, recurses := true, named := ["cautery/sha.firsts", "cautery/sha.steps"], apart := false, laid := [("cautery/sha.steps", laid_cautery_sha_steps), ("cautery/sha.firsts", laid_cautery_sha_firsts)], narrowed := true }
def BlobBackUptoSaid : Prop := blobBackUptoRow.holds Tryd.pinned (OpenSpec.upto blobBackSpec)

/-- 'cauterylaw10.BlobTwice', WHERE WHAT IT READS IS OF BULK AT MOST 1048576: true; the input reads as it did. -/
def blobTwiceUptoRow : OpenClaim := { program := "ythbldjnpnligpaadoor", sum := "2d168eae9b22150875e16f4bf1fd1d74861fa1ac6606abe641a9c484c44c68a8", func := "cautery/cauterylaw10.BlobTwice", spec := "blobTwice", unfollowed := true, recurses := true, named := ["cautery/sha.firsts", "cautery/sha.steps"], apart := false, laid := [("cautery/sha.steps", laid_cautery_sha_steps), ("cautery/sha.firsts", laid_cautery_sha_firsts)], narrowed := true }
def BlobTwiceUptoSaid : Prop := blobTwiceUptoRow.holds Tryd.pinned (OpenSpec.upto blobTwiceSpec)

/-- 'cauterylaw11.ManifestBytes', WHERE WHAT IT READS IS OF BULK AT MOST 1048576: true; the input reads as it did. -/
def manifestBytesUptoRow : OpenClaim := { program := "ythbldjnpnligpaadoor", sum := "2d168eae9b22150875e16f4bf1fd1d74861fa1ac6606abe641a9c484c44c68a8", func := "cautery/cauterylaw11.ManifestBytes", spec := "manifestBytes", unfollowed := true, recurses := true, named := ["cautery/sha.firsts", "cautery/sha.steps"], apart := false, laid := [("cautery/sha.steps", laid_cautery_sha_steps), ("cautery/sha.firsts", laid_cautery_sha_firsts)], narrowed := true }
def ManifestBytesUptoSaid : Prop := manifestBytesUptoRow.holds Tryd.pinned (OpenSpec.upto manifestBytesSpec)

/-- 'cauterylaw11.ManifestRange', WHERE WHAT IT READS IS OF BULK AT MOST 1048576: true; the input reads as it did. -/
def manifestRangeUptoRow : OpenClaim := { program := "ythbldjnpnligpaadoor", sum := "2d168eae9b22150875e16f4bf1fd1d74861fa1ac6606abe641a9c484c44c68a8", func := "cautery/cauterylaw11.ManifestRange", spec := "manifestRange", unfollowed := true, recurses := true, named := ["cautery/sha.firsts", "cautery/sha.steps"], apart := false, laid := [("cautery/sha.steps", laid_cautery_sha_steps), ("cautery/sha.firsts", laid_cautery_sha_firsts)], narrowed := true }
def ManifestRangeUptoSaid : Prop := manifestRangeUptoRow.holds Tryd.pinned (OpenSpec.upto manifestRangeSpec)

end Rows
end Go.Proofs.YthbldjnpnligpaaDoor
