/-
  DERIVED. GIVEN WITH THE SEED: THE CARDS: each row of YtehjikjpgdnjdaaDoorRows.lean that lists a variable, with what it lists TIED to the program's text (the seventh form; the later family's looks); each row that meets fmt, with fmt's text TOLD by the authors' own Lean function (tested against real Go, not proved from fmt's source: count such statements apart). THE CARD IS WHAT COUNTS. Prove the row's statement (the work); the ties are given (YtehjikjpgdnjdaaDoorTie.lean); close each card by the builder's one call (the guide's Derived/Test/ToyasCard.lean, 'card_holds'). Laid BY PROGRAM, IN A SANDBOX (cutbox-door.mjs). By AI agents, Wed Nov 11 2026. No macro, syntax, notation, axiom, sorry.
-/
import Derived.Test.YtehjikjpgdnjdaaDoorRows
import GoSem.ClaimSeven
namespace Go.Proofs.YtehjikjpgdnjdaaDoor
namespace Rows

/-- THE TIED CARD OF 'paddocklaw3.InstrNames'. -/
def instrNamesCard : Claim7 := { stood := { row := instrNamesRow, standIns := [], harness := (true, "7dfdd9c56c81505502211cb31458968836f556ad44a196c36deb24dff301dd0d"), looks := false }, kinds := [], alts := [], laidByText := true, laidKinds := [.data, .data], laidTests := true, laidLooks := .later }
def InstrNamesCardSaid : Prop := Claim7.holds Tryd.pinned (.plain (OpenSpec.ofChange instrNamesSpec)) instrNamesCard

/-- THE TIED CARD OF 'paddocklaw3.InstrRight'. -/
def instrRightCard : Claim7 := { stood := { row := instrRightRow, standIns := [], harness := (true, "7dfdd9c56c81505502211cb31458968836f556ad44a196c36deb24dff301dd0d"), looks := false }, kinds := [], alts := [], laidByText := true, laidKinds := [.data, .data], laidTests := true, laidLooks := .later }
def InstrRightCardSaid : Prop := Claim7.holds Tryd.pinned (.plain (OpenSpec.ofChange instrRightSpec)) instrRightCard

/-- THE TIED CARD OF 'paddocklaw3.InstrFields'. -/
def instrFieldsCard : Claim7 := { stood := { row := instrFieldsRow, standIns := [], harness := (true, "7dfdd9c56c81505502211cb31458968836f556ad44a196c36deb24dff301dd0d"), looks := false }, kinds := [], alts := [], laidByText := true, laidKinds := [.data, .data], laidTests := true, laidLooks := .later }
def InstrFieldsCardSaid : Prop := Claim7.holds Tryd.pinned (.plain (OpenSpec.ofChange instrFieldsSpec)) instrFieldsCard

/-- THE TIED CARD OF 'paddocklaw3.InstrBytes'. -/
def instrBytesCard : Claim7 := { stood := { row := instrBytesRow, standIns := [], harness := (true, "7dfdd9c56c81505502211cb31458968836f556ad44a196c36deb24dff301dd0d"), looks := false }, kinds := [], alts := [], laidByText := true, laidKinds := [.data, .data], laidTests := true, laidLooks := .later }
def InstrBytesCardSaid : Prop := Claim7.holds Tryd.pinned (.plain (OpenSpec.ofChange instrBytesSpec)) instrBytesCard

/-- THE TIED CARD OF 'paddocklaw3.InstrDecode'. -/
def instrDecodeCard : Claim7 := { stood := { row := instrDecodeRow, standIns := [], harness := (true, "7dfdd9c56c81505502211cb31458968836f556ad44a196c36deb24dff301dd0d"), looks := false }, kinds := [], alts := [], laidByText := true, laidKinds := [.data, .data], laidTests := true, laidLooks := .later }
def InstrDecodeCardSaid : Prop := Claim7.holds Tryd.pinned (.plain (OpenSpec.ofChange instrDecodeSpec)) instrDecodeCard

/-- THE TIED CARD OF 'paddocklaw3.InstrBack'. -/
def instrBackCard : Claim7 := { stood := { row := instrBackRow, standIns := [], harness := (true, "7dfdd9c56c81505502211cb31458968836f556ad44a196c36deb24dff301dd0d"), looks := false }, kinds := [], alts := [], laidByText := true, laidKinds := [.data, .data], laidTests := true, laidLooks := .later }
def InstrBackCardSaid : Prop := Claim7.holds Tryd.pinned (.plain (OpenSpec.ofChange instrBackSpec)) instrBackCard

/-- THE SECOND FORM's CARD OF 'paddocklaw3.InstrNames'. -/
def instrNamesUptoCard : Claim7 := { stood := { row := instrNamesUptoRow, standIns := [], harness := (true, "7dfdd9c56c81505502211cb31458968836f556ad44a196c36deb24dff301dd0d"), looks := false }, kinds := [], alts := [], laidByText := true, laidKinds := [.data, .data], laidTests := true, laidLooks := .later }
def InstrNamesUptoCardSaid : Prop := Claim7.holds Tryd.pinned (.plain (OpenSpec.upto instrNamesSpec)) instrNamesUptoCard

/-- THE SECOND FORM's CARD OF 'paddocklaw3.InstrRight'. -/
def instrRightUptoCard : Claim7 := { stood := { row := instrRightUptoRow, standIns := [], harness := (true, "7dfdd9c56c81505502211cb31458968836f556ad44a196c36deb24dff301dd0d"), looks := false }, kinds := [], alts := [], laidByText := true, laidKinds := [.data, .data], laidTests := true, laidLooks := .later }
def InstrRightUptoCardSaid : Prop := Claim7.holds Tryd.pinned (.plain (OpenSpec.upto instrRightSpec)) instrRightUptoCard

/-- THE SECOND FORM's CARD OF 'paddocklaw3.InstrFields'. -/
def instrFieldsUptoCard : Claim7 := { stood := { row := instrFieldsUptoRow, standIns := [], harness := (true, "7dfdd9c56c81505502211cb31458968836f556ad44a196c36deb24dff301dd0d"), looks := false }, kinds := [], alts := [], laidByText := true, laidKinds := [.data, .data], laidTests := true, laidLooks := .later }
def InstrFieldsUptoCardSaid : Prop := Claim7.holds Tryd.pinned (.plain (OpenSpec.upto instrFieldsSpec)) instrFieldsUptoCard

/-- THE SECOND FORM's CARD OF 'paddocklaw3.InstrBytes'. -/
def instrBytesUptoCard : Claim7 := { stood := { row := instrBytesUptoRow, standIns := [], harness := (true, "7dfdd9c56c81505502211cb31458968836f556ad44a196c36deb24dff301dd0d"), looks := false }, kinds := [], alts := [], laidByText := true, laidKinds := [.data, .data], laidTests := true, laidLooks := .later }
def InstrBytesUptoCardSaid : Prop := Claim7.holds Tryd.pinned (.plain (OpenSpec.upto instrBytesSpec)) instrBytesUptoCard

/-- THE SECOND FORM's CARD OF 'paddocklaw3.InstrDecode'. -/
def instrDecodeUptoCard : Claim7 := { stood := { row := instrDecodeUptoRow, standIns := [], harness := (true, "7dfdd9c56c81505502211cb31458968836f556ad44a196c36deb24dff301dd0d"), looks := false }, kinds := [], alts := [], laidByText := true, laidKinds := [.data, .data], laidTests := true, laidLooks := .later }
def InstrDecodeUptoCardSaid : Prop := Claim7.holds Tryd.pinned (.plain (OpenSpec.upto instrDecodeSpec)) instrDecodeUptoCard

/-- THE SECOND FORM's CARD OF 'paddocklaw3.InstrBack'. -/
def instrBackUptoCard : Claim7 := { stood := { row := instrBackUptoRow, standIns := [], harness := (true, "7dfdd9c56c81505502211cb31458968836f556ad44a196c36deb24dff301dd0d"), looks := false }, kinds := [], alts := [], laidByText := true, laidKinds := [.data, .data], laidTests := true, laidLooks := .later }
def InstrBackUptoCardSaid : Prop := Claim7.holds Tryd.pinned (.plain (OpenSpec.upto instrBackSpec)) instrBackUptoCard
end Rows
end Go.Proofs.YtehjikjpgdnjdaaDoor
