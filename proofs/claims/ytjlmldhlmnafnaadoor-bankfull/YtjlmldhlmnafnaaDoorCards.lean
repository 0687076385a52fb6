/-
  DERIVED. GIVEN WITH THE SEED: THE CARDS: each row of YtjlmldhlmnafnaaDoorRows.lean that lists a variable, with what it lists TIED to the program's text (the seventh form; the later family's looks); each row that meets fmt, with fmt's text TOLD by the authors' own Lean function (tested against real Go, not proved from fmt's source: count such statements apart). THE CARD IS WHAT COUNTS. Prove the row's statement (the work); the ties are given (YtjlmldhlmnafnaaDoorTie.lean); close each card by the builder's one call (the guide's Derived/Test/ToyasCard.lean, 'card_holds'). Laid BY PROGRAM, IN A SANDBOX (cutbox-door.mjs). By AI agents, Wed Nov 11 2026. No macro, syntax, notation, axiom, sorry.
-/
import Derived.Test.YtjlmldhlmnafnaaDoorRows
import GoSem.ClaimSeven
namespace Go.Proofs.YtjlmldhlmnafnaaDoor
namespace Rows

/-- THE TIED CARD OF 'cauterylaw08.BankPlays'. -/
def bankPlaysCard : Claim7 := { stood := { row := bankPlaysRow, standIns := [], harness := (true, "979d1c59c61fe672329170d58ae44ec4b5742cbc596bd590e967ce73be7d67aa"), looks := false }, kinds := [], alts := [], laidByText := true, laidKinds := [.data, .data], laidTests := true, laidLooks := .later }
def BankPlaysCardSaid : Prop := Claim7.holds Tryd.pinned (.plain (OpenSpec.ofChange bankPlaysSpec)) bankPlaysCard

/-- THE TIED CARD OF 'cauterylaw08.BankNever'. -/
def bankNeverCard : Claim7 := { stood := { row := bankNeverRow, standIns := [], harness := (true, "979d1c59c61fe672329170d58ae44ec4b5742cbc596bd590e967ce73be7d67aa"), looks := false }, kinds := [], alts := [], laidByText := true, laidKinds := [.data, .data], laidTests := true, laidLooks := .later }
def BankNeverCardSaid : Prop := Claim7.holds Tryd.pinned (.plain (OpenSpec.ofChange bankNeverSpec)) bankNeverCard

/-- THE TIED CARD OF 'cauterylaw08.BankHealed'. -/
def bankHealedCard : Claim7 := { stood := { row := bankHealedRow, standIns := [], harness := (true, "979d1c59c61fe672329170d58ae44ec4b5742cbc596bd590e967ce73be7d67aa"), looks := false }, kinds := [], alts := [], laidByText := true, laidKinds := [.data, .data], laidTests := true, laidLooks := .later }
def BankHealedCardSaid : Prop := Claim7.holds Tryd.pinned (.plain (OpenSpec.ofChange bankHealedSpec)) bankHealedCard

/-- THE TIED CARD OF 'cauterylaw08.BankFull'. -/
def bankFullCard : Claim7 := { stood := { row := bankFullRow, standIns := [], harness := (true, "979d1c59c61fe672329170d58ae44ec4b5742cbc596bd590e967ce73be7d67aa"), looks := false }, kinds := [], alts := [], laidByText := true, laidKinds := [.data, .data], laidTests := true, laidLooks := .later }
def BankFullCardSaid : Prop := Claim7.holds Tryd.pinned (.plain (OpenSpec.ofChange bankFullSpec)) bankFullCard

/-- THE SECOND FORM's CARD OF 'cauterylaw08.BankPlays'. -/
def bankPlaysUptoCard : Claim7 := { stood := { row := bankPlaysUptoRow, standIns := [], harness := (true, "979d1c59c61fe672329170d58ae44ec4b5742cbc596bd590e967ce73be7d67aa"), looks := false }, kinds := [], alts := [], laidByText := true, laidKinds := [.data, .data], laidTests := true, laidLooks := .later }
def BankPlaysUptoCardSaid : Prop := Claim7.holds Tryd.pinned (.plain (OpenSpec.upto bankPlaysSpec)) bankPlaysUptoCard

/-- THE SECOND FORM's CARD OF 'cauterylaw08.BankNever'. -/
def bankNeverUptoCard : Claim7 := { stood := { row := bankNeverUptoRow, standIns := [], harness := (true, "979d1c59c61fe672329170d58ae44ec4b5742cbc596bd590e967ce73be7d67aa"), looks := false }, kinds := [], alts := [], laidByText := true, laidKinds := [.data, .data], laidTests := true, laidLooks := .later }
def BankNeverUptoCardSaid : Prop := Claim7.holds Tryd.pinned (.plain (OpenSpec.upto bankNeverSpec)) bankNeverUptoCard

/-- THE SECOND FORM's CARD OF 'cauterylaw08.BankHealed'. -/
def bankHealedUptoCard : Claim7 := { stood := { row := bankHealedUptoRow, standIns := [], harness := (true, "979d1c59c61fe672329170d58ae44ec4b5742cbc596bd590e967ce73be7d67aa"), looks := false }, kinds := [], alts := [], laidByText := true, laidKinds := [.data, .data], laidTests := true, laidLooks := .later }
def BankHealedUptoCardSaid : Prop := Claim7.holds Tryd.pinned (.plain (OpenSpec.upto bankHealedSpec)) bankHealedUptoCard

/-- THE SECOND FORM's CARD OF 'cauterylaw08.BankFull'. -/
def bankFullUptoCard : Claim7 := { stood := { row := bankFullUptoRow, standIns := [], harness := (true, "979d1c59c61fe672329170d58ae44ec4b5742cbc596bd590e967ce73be7d67aa"), looks := false }, kinds := [], alts := [], laidByText := true, laidKinds := [.data, .data], laidTests := true, laidLooks := .later }
def BankFullUptoCardSaid : Prop := Claim7.holds Tryd.pinned (.plain (OpenSpec.upto bankFullSpec)) bankFullUptoCard
end Rows
end Go.Proofs.YtjlmldhlmnafnaaDoor
