/-
  DERIVED. GIVEN WITH THE SEED: THE CARDS: each row of YtolgbmljjikooaaDoorRows.lean that lists a variable, with what it lists TIED to the program's text (the seventh form; the later family's looks); each row that meets fmt, with fmt's text TOLD by the authors' own Lean function (tested against real Go, not proved from fmt's source: count such statements apart). THE CARD IS WHAT COUNTS. Prove the row's statement (the work); the ties are given (YtolgbmljjikooaaDoorTie.lean); close each card by the builder's one call (the guide's Derived/Test/ToyasCard.lean, 'card_holds'). Laid BY PROGRAM, IN A SANDBOX (cutbox-door.mjs). By AI agents, Wed Nov 11 2026. No macro, syntax, notation, axiom, sorry.
-/
import Derived.Test.YtolgbmljjikooaaDoorRows
import GoSem.ClaimSeven
namespace Go.Proofs.YtolgbmljjikooaaDoor
namespace Rows

/-- THE TIED CARD OF 'cauterylaw02.ShaSum'. -/
def shaSumCard : Claim7 := { stood := { row := shaSumRow, standIns := [], harness := (true, "ee0802a7359af609d09065cf2602f082e68db677b53ae39b586ccf71845f163a"), looks := false }, kinds := [], alts := [], laidByText := true, laidKinds := [.data, .data], laidTests := true, laidLooks := .later }
def ShaSumCardSaid : Prop := Claim7.holds Tryd.pinned (.plain (OpenSpec.ofChange shaSumSpec)) shaSumCard

/-- THE TIED CARD OF 'cauterylaw02.ShaTree'. -/
def shaTreeCard : Claim7 := { stood := { row := shaTreeRow, standIns := [], harness := (true, "ee0802a7359af609d09065cf2602f082e68db677b53ae39b586ccf71845f163a"), looks := false }, kinds := [], alts := [], laidByText := true, laidKinds := [.data, .data], laidTests := true, laidLooks := .later }
def ShaTreeCardSaid : Prop := Claim7.holds Tryd.pinned (.plain (OpenSpec.ofChange shaTreeSpec)) shaTreeCard

/-- THE TIED CARD OF 'cauterylaw02.ShaRoots'. -/
def shaRootsCard : Claim7 := { stood := { row := shaRootsRow, standIns := [], harness := (true, "ee0802a7359af609d09065cf2602f082e68db677b53ae39b586ccf71845f163a"), looks := false }, kinds := [], alts := [], laidByText := true, laidKinds := [.data, .data], laidTests := true, laidLooks := .later }
def ShaRootsCardSaid : Prop := Claim7.holds Tryd.pinned (.plain (OpenSpec.ofChange shaRootsSpec)) shaRootsCard

/-- THE SECOND FORM's CARD OF 'cauterylaw02.ShaSum'. -/
def shaSumUptoCard : Claim7 := { stood := { row := shaSumUptoRow, standIns := [], harness := (true, "ee0802a7359af609d09065cf2602f082e68db677b53ae39b586ccf71845f163a"), looks := false }, kinds := [], alts := [], laidByText := true, laidKinds := [.data, .data], laidTests := true, laidLooks := .later }
def ShaSumUptoCardSaid : Prop := Claim7.holds Tryd.pinned (.plain (OpenSpec.upto shaSumSpec)) shaSumUptoCard

/-- THE SECOND FORM's CARD OF 'cauterylaw02.ShaTree'. -/
def shaTreeUptoCard : Claim7 := { stood := { row := shaTreeUptoRow, standIns := [], harness := (true, "ee0802a7359af609d09065cf2602f082e68db677b53ae39b586ccf71845f163a"), looks := false }, kinds := [], alts := [], laidByText := true, laidKinds := [.data, .data], laidTests := true, laidLooks := .later }
def ShaTreeUptoCardSaid : Prop := Claim7.holds Tryd.pinned (.plain (OpenSpec.upto shaTreeSpec)) shaTreeUptoCard

/-- THE SECOND FORM's CARD OF 'cauterylaw02.ShaRoots'. -/
def shaRootsUptoCard : Claim7 := { stood := { row := shaRootsUptoRow, standIns := [], harness := (true, "ee0802a7359af609d09065cf2602f082e68db677b53ae39b586ccf71845f163a"), looks := false }, kinds := [], alts := [], laidByText := true, laidKinds := [.data, .data], laidTests := true, laidLooks := .later }
def ShaRootsUptoCardSaid : Prop := Claim7.holds Tryd.pinned (.plain (OpenSpec.upto shaRootsSpec)) shaRootsUptoCard
end Rows
end Go.Proofs.YtolgbmljjikooaaDoor
