/-
  DERIVED. GIVEN WITH THE SEED: THE CARDS: each row of YtcfjkkjjcljaoaaDoorRows.lean that lists a variable, with what it lists TIED to the program's text (the seventh form; the later family's looks); each row that meets fmt, with fmt's text TOLD by the authors' own Lean function (tested against real Go, not proved from fmt's source: count such statements apart). THE CARD IS WHAT COUNTS. Prove the row's statement (the work); the ties are given (YtcfjkkjjcljaoaaDoorTie.lean); close each card by the builder's one call (the guide's Derived/Test/ToyasCard.lean, 'card_holds'). Laid BY PROGRAM, IN A SANDBOX (cutbox-door.mjs). By AI agents, Wed Nov 11 2026. No macro, syntax, notation, axiom, sorry.
-/
import Derived.Test.YtcfjkkjjcljaoaaDoorRows
import GoSem.ClaimSeven
namespace Go.Proofs.YtcfjkkjjcljaoaaDoor
namespace Rows

/-- THE TIED CARD OF 'cauterylaw08.BankPlays'. -/
def bankPlaysCard : Claim7 := { stood := { row := bankPlaysRow, standIns := [], harness := (true, "854525c3033836a0ae064a4f04a9c28ce96bdc078532b3607cb501869c9e89b2"), looks := false }, kinds := [], alts := [], laidByText := true, laidKinds := [.data, .data], laidTests := true, laidLooks := .later }
def BankPlaysCardSaid : Prop := Claim7.holds Tryd.pinned (.plain (OpenSpec.ofChange bankPlaysSpec)) bankPlaysCard

/-- THE TIED CARD OF 'cauterylaw09.TreeVolume'. -/
def treeVolumeCard : Claim7 := { stood := { row := treeVolumeRow, standIns := [], harness := (true, "854525c3033836a0ae064a4f04a9c28ce96bdc078532b3607cb501869c9e89b2"), looks := false }, kinds := [], alts := [], laidByText := true, laidKinds := [.data, .data], laidTests := true, laidLooks := .later }
def TreeVolumeCardSaid : Prop := Claim7.holds Tryd.pinned (.plain (OpenSpec.ofChange treeVolumeSpec)) treeVolumeCard

/-- THE TIED CARD OF 'cauterylaw09.TreeDiff'. -/
def treeDiffCard : Claim7 := { stood := { row := treeDiffRow, standIns := [], harness := (true, "854525c3033836a0ae064a4f04a9c28ce96bdc078532b3607cb501869c9e89b2"), looks := false }, kinds := [], alts := [], laidByText := true, laidKinds := [.data, .data], laidTests := true, laidLooks := .later }
def TreeDiffCardSaid : Prop := Claim7.holds Tryd.pinned (.plain (OpenSpec.ofChange treeDiffSpec)) treeDiffCard

/-- THE TIED CARD OF 'cauterylaw09.TreeWalk'. -/
def treeWalkCard : Claim7 := { stood := { row := treeWalkRow, standIns := [], harness := (true, "854525c3033836a0ae064a4f04a9c28ce96bdc078532b3607cb501869c9e89b2"), looks := false }, kinds := [], alts := [], laidByText := true, laidKinds := [.data, .data], laidTests := true, laidLooks := .later }
def TreeWalkCardSaid : Prop := Claim7.holds Tryd.pinned (.plain (OpenSpec.ofChange treeWalkSpec)) treeWalkCard

/-- THE SECOND FORM's CARD OF 'cauterylaw08.BankPlays'. -/
def bankPlaysUptoCard : Claim7 := { stood := { row := bankPlaysUptoRow, standIns := [], harness := (true, "854525c3033836a0ae064a4f04a9c28ce96bdc078532b3607cb501869c9e89b2"), looks := false }, kinds := [], alts := [], laidByText := true, laidKinds := [.data, .data], laidTests := true, laidLooks := .later }
def BankPlaysUptoCardSaid : Prop := Claim7.holds Tryd.pinned (.plain (OpenSpec.upto bankPlaysSpec)) bankPlaysUptoCard

/-- THE SECOND FORM's CARD OF 'cauterylaw09.TreeVolume'. -/
def treeVolumeUptoCard : Claim7 := { stood := { row := treeVolumeUptoRow, standIns := [], harness := (true, "854525c3033836a0ae064a4f04a9c28ce96bdc078532b3607cb501869c9e89b2"), looks := false }, kinds := [], alts := [], laidByText := true, laidKinds := [.data, .data], laidTests := true, laidLooks := .later }
def TreeVolumeUptoCardSaid : Prop := Claim7.holds Tryd.pinned (.plain (OpenSpec.upto treeVolumeSpec)) treeVolumeUptoCard

/-- THE SECOND FORM's CARD OF 'cauterylaw09.TreeDiff'. -/
def treeDiffUptoCard : Claim7 := { stood := { row := treeDiffUptoRow, standIns := [], harness := (true, "854525c3033836a0ae064a4f04a9c28ce96bdc078532b3607cb501869c9e89b2"), looks := false }, kinds := [], alts := [], laidByText := true, laidKinds := [.data, .data], laidTests := true, laidLooks := .later }
def TreeDiffUptoCardSaid : Prop := Claim7.holds Tryd.pinned (.plain (OpenSpec.upto treeDiffSpec)) treeDiffUptoCard

/-- THE SECOND FORM's CARD OF 'cauterylaw09.TreeWalk'. -/
def treeWalkUptoCard : Claim7 := { stood := { row := treeWalkUptoRow, standIns := [], harness := (true, "854525c3033836a0ae064a4f04a9c28ce96bdc078532b3607cb501869c9e89b2"), looks := false }, kinds := [], alts := [], laidByText := true, laidKinds := [.data, .data], laidTests := true, laidLooks := .later }
def TreeWalkUptoCardSaid : Prop := Claim7.holds Tryd.pinned (.plain (OpenSpec.upto treeWalkSpec)) treeWalkUptoCard
end Rows
end Go.Proofs.YtcfjkkjjcljaoaaDoor
