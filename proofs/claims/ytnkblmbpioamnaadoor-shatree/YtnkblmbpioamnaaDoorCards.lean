/-
  DERIVED. GIVEN WITH THE SEED: THE CARDS: each row of YtnkblmbpioamnaaDoorRows.lean that lists a variable, with what it lists TIED to the program's text (the seventh form; the later family's looks); each row that meets fmt, with fmt's text TOLD by the authors' own Lean function (tested against real Go, not proved from fmt's source: count such statements apart). THE CARD IS WHAT COUNTS. Prove the row's statement (the work); the ties are given (YtnkblmbpioamnaaDoorTie.lean); close each card by the builder's one call (the guide's Derived/Test/ToyasCard.lean, 'card_holds'). Laid BY PROGRAM, IN A SANDBOX (cutbox-door.mjs). By AI agents, Wed Nov 11 2026. No macro, syntax, notation, axiom, sorry.
-/
import Derived.Test.YtnkblmbpioamnaaDoorRows
import GoSem.ClaimSeven
namespace Go.Proofs.YtnkblmbpioamnaaDoor
namespace Rows

/-- THE TIED CARD OF 'cauterylaw02.ShaTree'. -/
def shaTreeCard : Claim7 := { stood := { row := shaTreeRow, standIns := [], harness := (true, "b0480e739cc0010d92a74fb8a2cb9f017660ef6664d0139f83fdb28df85ab4cd"), looks := false }, kinds := [], alts := [], laidByText := true, laidKinds := [.data, .data], laidTests := true, laidLooks := .later }
def ShaTreeCardSaid : Prop := Claim7.holds Tryd.pinned (.plain (OpenSpec.ofChange shaTreeSpec)) shaTreeCard

/-- THE SECOND FORM's CARD OF 'cauterylaw02.ShaTree'. -/
def shaTreeUptoCard : Claim7 := { stood := { row := shaTreeUptoRow, standIns := [], harness := (true, "b0480e739cc0010d92a74fb8a2cb9f017660ef6664d0139f83fdb28df85ab4cd"), looks := false }, kinds := [], alts := [], laidByText := true, laidKinds := [.data, .data], laidTests := true, laidLooks := .later }
def ShaTreeUptoCardSaid : Prop := Claim7.holds Tryd.pinned (.plain (OpenSpec.upto shaTreeSpec)) shaTreeUptoCard
end Rows
end Go.Proofs.YtnkblmbpioamnaaDoor
