/-
  DERIVED. GIVEN WITH THE SEED: THE CARDS: each row of YtjfoidilecognaaDoorRows.lean that lists a variable, with what it lists TIED to the program's text (the seventh form; the later family's looks); each row that meets fmt, with fmt's text TOLD by the authors' own Lean function (tested against real Go, not proved from fmt's source: count such statements apart). THE CARD IS WHAT COUNTS. Prove the row's statement (the work); the ties are given (YtjfoidilecognaaDoorTie.lean); close each card by the builder's one call (the guide's Derived/Test/ToyasCard.lean, 'card_holds'). Laid BY PROGRAM, IN A SANDBOX (cutbox-door.mjs). By AI agents, Wed Nov 11 2026. No macro, syntax, notation, axiom, sorry.
-/
import Derived.Test.YtjfoidilecognaaDoorRows
import GoSem.ClaimSeven
namespace Go.Proofs.YtjfoidilecognaaDoor
namespace Rows

/-- THE TIED CARD OF 'cauterylaw08.BankPlays'. -/
def bankPlaysCard : Claim7 := { stood := { row := bankPlaysRow, standIns := [], harness := (true, "970ce58d1b81c43db6ccf37b807e8bbdef0cb0318285c757799e3f5a7f8e178e"), looks := false }, kinds := [], alts := [], laidByText := true, laidKinds := [.data, .data], laidTests := true, laidLooks := .later }
def BankPlaysCardSaid : Prop := Claim7.holds Tryd.pinned (.plain (OpenSpec.ofChange bankPlaysSpec)) bankPlaysCard

/-- THE TIED CARD OF 'cauterylaw08.BankNever'. -/
def bankNeverCard : Claim7 := { stood := { row := bankNeverRow, standIns := [], harness := (true, "970ce58d1b81c43db6ccf37b807e8bbdef0cb0318285c757799e3f5a7f8e178e"), looks := false }, kinds := [], alts := [], laidByText := true, laidKinds := [.data, .data], laidTests := true, laidLooks := .later }
def BankNeverCardSaid : Prop := Claim7.holds Tryd.pinned (.plain (OpenSpec.ofChange bankNeverSpec)) bankNeverCard

/-- THE SECOND FORM's CARD OF 'cauterylaw08.BankPlays'. -/
def bankPlaysUptoCard : Claim7 := { stood := { row := bankPlaysUptoRow, standIns := [], harness := (true, "970ce58d1b81c43db6ccf37b807e8bbdef0cb0318285c757799e3f5a7f8e178e"), looks := false }, kinds := [], alts := [], laidByText := true, laidKinds := [.data, .data], laidTests := true, laidLooks := .later }
def BankPlaysUptoCardSaid : Prop := Claim7.holds Tryd.pinned (.plain (OpenSpec.upto bankPlaysSpec)) bankPlaysUptoCard

/-- THE SECOND FORM's CARD OF 'cauterylaw08.BankNever'. -/
def bankNeverUptoCard : Claim7 := { stood := { row := bankNeverUptoRow, standIns := [], harness := (true, "970ce58d1b81c43db6ccf37b807e8bbdef0cb0318285c757799e3f5a7f8e178e"), looks := false }, kinds := [], alts := [], laidByText := true, laidKinds := [.data, .data], laidTests := true, laidLooks := .later }
def BankNeverUptoCardSaid : Prop := Claim7.holds Tryd.pinned (.plain (OpenSpec.upto bankNeverSpec)) bankNeverUptoCard
end Rows
end Go.Proofs.YtjfoidilecognaaDoor
