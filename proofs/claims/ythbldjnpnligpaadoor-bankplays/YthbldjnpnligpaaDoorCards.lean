/-
  DERIVED. GIVEN WITH THE SEED: THE CARDS: each row of YthbldjnpnligpaaDoorRows.lean that lists a variable, with what it lists TIED to the program's text (the seventh form; the later family's looks); each row that meets fmt, with fmt's text TOLD by the authors' own Lean function (tested against real Go, not proved from fmt's source: count such statements apart). THE CARD IS WHAT COUNTS. Prove the row's statement (the work); the ties are given (YthbldjnpnligpaaDoorTie.lean); close each card by the builder's one call (the guide's Derived/Test/ToyasCard.lean, 'card_holds'). Laid BY PROGRAM, IN A SANDBOX (cutbox-door.mjs). By AI agents, Wed Nov 11 2026. No macro, syntax, notation, axiom, sorry.
-/
import Derived.Test.YthbldjnpnligpaaDoorRows
import GoSem.ClaimSeven
namespace Go.Proofs.YthbldjnpnligpaaDoor
namespace Rows

/-- THE TIED CARD OF 'cauterylaw08.BankPlays'. -/
def bankPlaysCard : Claim7 := { stood := { row := bankPlaysRow, standIns := [], harness := (true, "42e37fea051b4eb4d122db3e50d3074b26d9162713c98b6dd03f93c5237fd507"), looks := false }, kinds := [], alts := [], laidByText := true, laidKinds := [.data, .data], laidTests := true, laidLooks := .later }
def BankPlaysCardSaid : Prop := Claim7.holds Tryd.pinned (.plain (OpenSpec.ofChange bankPlaysSpec)) bankPlaysCard

/-- THE TIED CARD OF 'cauterylaw09.TreeDiff'. -/
def treeDiffCard : Claim7 := { stood := { row := treeDiffRow, standIns := [], harness := (true, "42e37fea051b4eb4d122db3e50d3074b26d9162713c98b6dd03f93c5237fd507"), looks := false }, kinds := [], alts := [], laidByText := true, laidKinds := [.data, .data], laidTests := true, laidLooks := .later }
def TreeDiffCardSaid : Prop := Claim7.holds Tryd.pinned (.plain (OpenSpec.ofChange treeDiffSpec)) treeDiffCard

/-- THE TIED CARD OF 'cauterylaw10.BlobNeed'. -/
def blobNeedCard : Claim7 := { stood := { row := blobNeedRow, standIns := [], harness := (true, "42e37fea051b4eb4d122db3e50d3074b26d9162713c98b6dd03f93c5237fd507"), looks := false }, kinds := [], alts := [], laidByText := true, laidKinds := [.data, .data], laidTests := true, laidLooks := .later }
def BlobNeedCardSaid : Prop := Claim7.holds Tryd.pinned (.plain (OpenSpec.ofChange blobNeedSpec)) blobNeedCard

/-- THE TIED CARD OF 'cauterylaw10.BlobBack'. -/
def blobBackCard : Claim7 := { stood := { row := blobBackRow, standIns := [], harness := (true, "42e37fea051b4eb4d122db3e50d3074b26d9162713c98b6dd03f93c5237fd507"), looks := false }, kinds := [], alts := [], laidByText := true, laidKinds := [.data, .data], laidTests := true, laidLooks := .later }
def BlobBackCardSaid : Prop := Claim7.holds Tryd.pinned (.plain (OpenSpec.ofChange blobBackSpec)) blobBackCard

/-- THE TIED CARD OF 'cauterylaw10.BlobTwice'. -/
def blobTwiceCard : Claim7 := { stood := { row := blobTwiceRow, standIns := [], harness := (true, "42e37fea051b4eb4d122db3e50d3074b26d9162713c98b6dd03f93c5237fd507"), looks := false }, kinds := [], alts := [], laidByText := true, laidKinds := [.data, .data], laidTests := true, laidLooks := .later }
def BlobTwiceCardSaid : Prop := Claim7.holds Tryd.pinned (.plain (OpenSpec.ofChange blobTwiceSpec)) blobTwiceCard

/-- THE TIED CARD OF 'cauterylaw11.ManifestBytes'. -/
def manifestBytesCard : Claim7 := { stood := { row := manifestBytesRow, standIns := [], harness := (true, "42e37fea051b4eb4d122db3e50d3074b26d9162713c98b6dd03f93c5237fd507"), looks := false }, kinds := [], alts := [], laidByText := true, laidKinds := [.data, .data], laidTests := true, laidLooks := .later }
def ManifestBytesCardSaid : Prop := Claim7.holds Tryd.pinned (.plain (OpenSpec.ofChange manifestBytesSpec)) manifestBytesCard

/-- THE TIED CARD OF 'cauterylaw11.ManifestRange'. -/
def manifestRangeCard : Claim7 := { stood := { row := manifestRangeRow, standIns := [], harness := (true, "42e37fea051b4eb4d122db3e50d3074b26d9162713c98b6dd03f93c5237fd507"), looks := false }, kinds := [], alts := [], laidByText := true, laidKinds := [.data, .data], laidTests := true, laidLooks := .later }
def ManifestRangeCardSaid : Prop := Claim7.holds Tryd.pinned (.plain (OpenSpec.ofChange manifestRangeSpec)) manifestRangeCard

/-- THE SECOND FORM's CARD OF 'cauterylaw08.BankPlays'. -/
def bankPlaysUptoCard : Claim7 := { stood := { row := bankPlaysUptoRow, standIns := [], harness := (true, "42e37fea051b4eb4d122db3e50d3074b26d9162713c98b6dd03f93c5237fd507"), looks := false }, kinds := [], alts := [], laidByText := true, laidKinds := [.data, .data], laidTests := true, laidLooks := .later }
def BankPlaysUptoCardSaid : Prop := Claim7.holds Tryd.pinned (.plain (OpenSpec.upto bankPlaysSpec)) bankPlaysUptoCard

/-- THE SECOND FORM's CARD OF 'cauterylaw09.TreeDiff'. -/
def treeDiffUptoCard : Claim7 := { stood := { row := treeDiffUptoRow, standIns := [], harness := (true, "42e37fea051b4eb4d122db3e50d3074b26d9162713c98b6dd03f93c5237fd507"), looks := false }, kinds := [], alts := [], laidByText := true, laidKinds := [.data, .data], laidTests := true, laidLooks := .later }
def TreeDiffUptoCardSaid : Prop := Claim7.holds Tryd.pinned (.plain (OpenSpec.upto treeDiffSpec)) treeDiffUptoCard

/-- THE SECOND FORM's CARD OF 'cauterylaw10.BlobNeed'. -/
def blobNeedUptoCard : Claim7 := { stood := { row := blobNeedUptoRow, standIns := [], harness := (true, "42e37fea051b4eb4d122db3e50d3074b26d9162713c98b6dd03f93c5237fd507"), looks := false }, kinds := [], alts := [], laidByText := true, laidKinds := [.data, .data], laidTests := true, laidLooks := .later }
def BlobNeedUptoCardSaid : Prop := Claim7.holds Tryd.pinned (.plain (OpenSpec.upto blobNeedSpec)) blobNeedUptoCard

/-- THE SECOND FORM's CARD OF 'cauterylaw10.BlobBack'. -/
def blobBackUptoCard : Claim7 := { stood := { row := blobBackUptoRow, standIns := [], harness := (true, "42e37fea051b4eb4d122db3e50d3074b26d9162713c98b6dd03f93c5237fd507"), looks := false }, kinds := [], alts := [], laidByText := true, laidKinds := [.data, .data], laidTests := true, laidLooks := .later }
def BlobBackUptoCardSaid : Prop := Claim7.holds Tryd.pinned (.plain (OpenSpec.upto blobBackSpec)) blobBackUptoCard

/-- THE SECOND FORM's CARD OF 'cauterylaw10.BlobTwice'. -/
def blobTwiceUptoCard : Claim7 := { stood := { row := blobTwiceUptoRow, standIns := [], harness := (true, "42e37fea051b4eb4d122db3e50d3074b26d9162713c98b6dd03f93c5237fd507"), looks := false }, kinds := [], alts := [], laidByText := true, laidKinds := [.data, .data], laidTests := true, laidLooks := .later }
def BlobTwiceUptoCardSaid : Prop := Claim7.holds Tryd.pinned (.plain (OpenSpec.upto blobTwiceSpec)) blobTwiceUptoCard

/-- THE SECOND FORM's CARD OF 'cauterylaw11.ManifestBytes'. -/
def manifestBytesUptoCard : Claim7 := { stood := { row := manifestBytesUptoRow, standIns := [], harness := (true, "42e37fea051b4eb4d122db3e50d3074b26d9162713c98b6dd03f93c5237fd507"), looks := false }, kinds := [], alts := [], laidByText := true, laidKinds := [.data, .data], laidTests := true, laidLooks := .later }
def ManifestBytesUptoCardSaid : Prop := Claim7.holds Tryd.pinned (.plain (OpenSpec.upto manifestBytesSpec)) manifestBytesUptoCard

/-- THE SECOND FORM's CARD OF 'cauterylaw11.ManifestRange'. -/
def manifestRangeUptoCard : Claim7 := { stood := { row := manifestRangeUptoRow, standIns := [], harness := (true, "42e37fea051b4eb4d122db3e50d3074b26d9162713c98b6dd03f93c5237fd507"), looks := false }, kinds := [], alts := [], laidByText := true, laidKinds := [.data, .data], laidTests := true, laidLooks := .later }
def ManifestRangeUptoCardSaid : Prop := Claim7.holds Tryd.pinned (.plain (OpenSpec.upto manifestRangeSpec)) manifestRangeUptoCard
end Rows
end Go.Proofs.YthbldjnpnligpaaDoor
