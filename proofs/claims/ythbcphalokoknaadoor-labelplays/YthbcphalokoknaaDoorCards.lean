/-
  DERIVED. GIVEN WITH THE SEED: THE CARDS: each row of YthbcphalokoknaaDoorRows.lean that lists a variable, with what it lists TIED to the program's text (the seventh form; the later family's looks); each row that meets fmt, with fmt's text TOLD by the authors' own Lean function (tested against real Go, not proved from fmt's source: count such statements apart). THE CARD IS WHAT COUNTS. Prove the row's statement (the work); the ties are given (YthbcphalokoknaaDoorTie.lean); close each card by the builder's one call (the guide's Derived/Test/ToyasCard.lean, 'card_holds'). Laid BY PROGRAM, IN A SANDBOX (cutbox-door.mjs). By AI agents, Wed Nov 11 2026. No macro, syntax, notation, axiom, sorry.
-/
import Derived.Test.YthbcphalokoknaaDoorRows
import GoSem.ClaimSeven
namespace Go.Proofs.YthbcphalokoknaaDoor
namespace Rows

/-- THE TIED CARD OF 'cauterylaw07.LabelEncode'. -/
def labelEncodeCard : Claim7 := { stood := { row := labelEncodeRow, standIns := [], harness := (true, "1160a784ccd5b3b33845cd618f49a07ea4f5b1dd72640f823252e0ad7dd1503f"), looks := false }, kinds := [], alts := [], laidByText := true, laidKinds := [.data, .data], laidTests := true, laidLooks := .later }
def LabelEncodeCardSaid : Prop := Claim7.holds Tryd.pinned (.plain (OpenSpec.ofChange labelEncodeSpec)) labelEncodeCard

/-- THE TIED CARD OF 'cauterylaw07.LabelDecode'. -/
def labelDecodeCard : Claim7 := { stood := { row := labelDecodeRow, standIns := [], harness := (true, "1160a784ccd5b3b33845cd618f49a07ea4f5b1dd72640f823252e0ad7dd1503f"), looks := false }, kinds := [], alts := [], laidByText := true, laidKinds := [.data, .data], laidTests := true, laidLooks := .later }
def LabelDecodeCardSaid : Prop := Claim7.holds Tryd.pinned (.plain (OpenSpec.ofChange labelDecodeSpec)) labelDecodeCard

/-- THE TIED CARD OF 'cauterylaw07.LabelPlays'. -/
def labelPlaysCard : Claim7 := { stood := { row := labelPlaysRow, standIns := [], harness := (true, "1160a784ccd5b3b33845cd618f49a07ea4f5b1dd72640f823252e0ad7dd1503f"), looks := false }, kinds := [], alts := [], laidByText := true, laidKinds := [.data, .data], laidTests := true, laidLooks := .later }
def LabelPlaysCardSaid : Prop := Claim7.holds Tryd.pinned (.plain (OpenSpec.ofChange labelPlaysSpec)) labelPlaysCard

/-- THE TIED CARD OF 'cauterylaw07.LabelBack'. -/
def labelBackCard : Claim7 := { stood := { row := labelBackRow, standIns := [], harness := (true, "1160a784ccd5b3b33845cd618f49a07ea4f5b1dd72640f823252e0ad7dd1503f"), looks := false }, kinds := [], alts := [], laidByText := true, laidKinds := [.data, .data], laidTests := true, laidLooks := .later }
def LabelBackCardSaid : Prop := Claim7.holds Tryd.pinned (.plain (OpenSpec.ofChange labelBackSpec)) labelBackCard

/-- THE TIED CARD OF 'cauterylaw07.LabelNewest'. -/
def labelNewestCard : Claim7 := { stood := { row := labelNewestRow, standIns := [], harness := (true, "1160a784ccd5b3b33845cd618f49a07ea4f5b1dd72640f823252e0ad7dd1503f"), looks := false }, kinds := [], alts := [], laidByText := true, laidKinds := [.data, .data], laidTests := true, laidLooks := .later }
def LabelNewestCardSaid : Prop := Claim7.holds Tryd.pinned (.plain (OpenSpec.ofChange labelNewestSpec)) labelNewestCard

/-- THE SECOND FORM's CARD OF 'cauterylaw07.LabelEncode'. -/
def labelEncodeUptoCard : Claim7 := { stood := { row := labelEncodeUptoRow, standIns := [], harness := (true, "1160a784ccd5b3b33845cd618f49a07ea4f5b1dd72640f823252e0ad7dd1503f"), looks := false }, kinds := [], alts := [], laidByText := true, laidKinds := [.data, .data], laidTests := true, laidLooks := .later }
def LabelEncodeUptoCardSaid : Prop := Claim7.holds Tryd.pinned (.plain (OpenSpec.upto labelEncodeSpec)) labelEncodeUptoCard

/-- THE SECOND FORM's CARD OF 'cauterylaw07.LabelDecode'. -/
def labelDecodeUptoCard : Claim7 := { stood := { row := labelDecodeUptoRow, standIns := [], harness := (true, "1160a784ccd5b3b33845cd618f49a07ea4f5b1dd72640f823252e0ad7dd1503f"), looks := false }, kinds := [], alts := [], laidByText := true, laidKinds := [.data, .data], laidTests := true, laidLooks := .later }
def LabelDecodeUptoCardSaid : Prop := Claim7.holds Tryd.pinned (.plain (OpenSpec.upto labelDecodeSpec)) labelDecodeUptoCard

/-- THE SECOND FORM's CARD OF 'cauterylaw07.LabelPlays'. -/
def labelPlaysUptoCard : Claim7 := { stood := { row := labelPlaysUptoRow, standIns := [], harness := (true, "1160a784ccd5b3b33845cd618f49a07ea4f5b1dd72640f823252e0ad7dd1503f"), looks := false }, kinds := [], alts := [], laidByText := true, laidKinds := [.data, .data], laidTests := true, laidLooks := .later }
def LabelPlaysUptoCardSaid : Prop := Claim7.holds Tryd.pinned (.plain (OpenSpec.upto labelPlaysSpec)) labelPlaysUptoCard

/-- THE SECOND FORM's CARD OF 'cauterylaw07.LabelBack'. -/
def labelBackUptoCard : Claim7 := { stood := { row := labelBackUptoRow, standIns := [], harness := (true, "1160a784ccd5b3b33845cd618f49a07ea4f5b1dd72640f823252e0ad7dd1503f"), looks := false }, kinds := [], alts := [], laidByText := true, laidKinds := [.data, .data], laidTests := true, laidLooks := .later }
def LabelBackUptoCardSaid : Prop := Claim7.holds Tryd.pinned (.plain (OpenSpec.upto labelBackSpec)) labelBackUptoCard

/-- THE SECOND FORM's CARD OF 'cauterylaw07.LabelNewest'. -/
def labelNewestUptoCard : Claim7 := { stood := { row := labelNewestUptoRow, standIns := [], harness := (true, "1160a784ccd5b3b33845cd618f49a07ea4f5b1dd72640f823252e0ad7dd1503f"), looks := false }, kinds := [], alts := [], laidByText := true, laidKinds := [.data, .data], laidTests := true, laidLooks := .later }
def LabelNewestUptoCardSaid : Prop := Claim7.holds Tryd.pinned (.plain (OpenSpec.upto labelNewestSpec)) labelNewestUptoCard
end Rows
end Go.Proofs.YthbcphalokoknaaDoor
