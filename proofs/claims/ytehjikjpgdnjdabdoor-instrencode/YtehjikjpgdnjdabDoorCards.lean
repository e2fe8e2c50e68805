/-
  DERIVED. GIVEN WITH THE SEED: THE CARDS: each row of YtehjikjpgdnjdabDoorRows.lean that lists a variable, with what it lists TIED to the program's text (the seventh form; the later family's looks); each row that meets fmt, with fmt's text TOLD by the authors' own Lean function (tested against real Go, not proved from fmt's source: count such statements apart). THE CARD IS WHAT COUNTS. Prove the row's statement (the work); the ties are given (YtehjikjpgdnjdabDoorTie.lean); close each card by the builder's one call (the guide's Derived/Test/ToyasCard.lean, 'card_holds'). Laid BY PROGRAM, IN A SANDBOX (cutbox-door.mjs). By AI agents, Wed Nov 11 2026. No macro, syntax, notation, axiom, sorry.
-/
import Derived.Test.YtehjikjpgdnjdabDoorRows
import GoSem.ClaimSeven
namespace Go.Proofs.YtehjikjpgdnjdabDoor
namespace Rows

/-- THE TIED CARD OF 'paddocklaw3.InstrTurned'. -/
def instrTurnedCard : Claim7 := { stood := { row := instrTurnedRow, standIns := [], harness := (true, "15fe7dd8fb0cc6759b113347f462dca6951bd23e8e6137636420e54c36794ef5"), looks := false }, kinds := [], alts := [], laidByText := true, laidKinds := [.data, .data], laidTests := true, laidLooks := .later }
def InstrTurnedCardSaid : Prop := Claim7.holds Tryd.pinned (.plain (OpenSpec.ofChange instrTurnedSpec)) instrTurnedCard

/-- THE TIED CARD OF 'paddocklaw3.InstrPieces'. -/
def instrPiecesCard : Claim7 := { stood := { row := instrPiecesRow, standIns := [], harness := (true, "15fe7dd8fb0cc6759b113347f462dca6951bd23e8e6137636420e54c36794ef5"), looks := false }, kinds := [], alts := [], laidByText := true, laidKinds := [.data, .data], laidTests := true, laidLooks := .later }
def InstrPiecesCardSaid : Prop := Claim7.holds Tryd.pinned (.plain (OpenSpec.ofChange instrPiecesSpec)) instrPiecesCard

/-- THE TIED CARD OF 'paddocklaw3.InstrEncode'. -/
def instrEncodeCard : Claim7 := { stood := { row := instrEncodeRow, standIns := [], harness := (true, "15fe7dd8fb0cc6759b113347f462dca6951bd23e8e6137636420e54c36794ef5"), looks := false }, kinds := [], alts := [], laidByText := true, laidKinds := [.data, .data], laidTests := true, laidLooks := .later }
def InstrEncodeCardSaid : Prop := Claim7.holds Tryd.pinned (.plain (OpenSpec.ofChange instrEncodeSpec)) instrEncodeCard

/-- THE TIED CARD OF 'paddocktop.TopCode'. -/
def topCodeCard : Claim7 := { stood := { row := topCodeRow, standIns := [], harness := (true, "15fe7dd8fb0cc6759b113347f462dca6951bd23e8e6137636420e54c36794ef5"), looks := false }, kinds := [], alts := [], laidByText := true, laidKinds := [.data, .data], laidTests := true, laidLooks := .later }
def TopCodeCardSaid : Prop := Claim7.holds Tryd.pinned (.plain (OpenSpec.ofChange topCodeSpec)) topCodeCard

/-- THE SECOND FORM's CARD OF 'paddocklaw3.InstrTurned'. -/
def instrTurnedUptoCard : Claim7 := { stood := { row := instrTurnedUptoRow, standIns := [], harness := (true, "15fe7dd8fb0cc6759b113347f462dca6951bd23e8e6137636420e54c36794ef5"), looks := false }, kinds := [], alts := [], laidByText := true, laidKinds := [.data, .data], laidTests := true, laidLooks := .later }
def InstrTurnedUptoCardSaid : Prop := Claim7.holds Tryd.pinned (.plain (OpenSpec.upto instrTurnedSpec)) instrTurnedUptoCard

/-- THE SECOND FORM's CARD OF 'paddocklaw3.InstrPieces'. -/
def instrPiecesUptoCard : Claim7 := { stood := { row := instrPiecesUptoRow, standIns := [], harness := (true, "15fe7dd8fb0cc6759b113347f462dca6951bd23e8e6137636420e54c36794ef5"), looks := false }, kinds := [], alts := [], laidByText := true, laidKinds := [.data, .data], laidTests := true, laidLooks := .later }
def InstrPiecesUptoCardSaid : Prop := Claim7.holds Tryd.pinned (.plain (OpenSpec.upto instrPiecesSpec)) instrPiecesUptoCard

/-- THE SECOND FORM's CARD OF 'paddocklaw3.InstrEncode'. -/
def instrEncodeUptoCard : Claim7 := { stood := { row := instrEncodeUptoRow, standIns := [], harness := (true, "15fe7dd8fb0cc6759b113347f462dca6951bd23e8e6137636420e54c36794ef5"), looks := false }, kinds := [], alts := [], laidByText := true, laidKinds := [.data, .data], laidTests := true, laidLooks := .later }
def InstrEncodeUptoCardSaid : Prop := Claim7.holds Tryd.pinned (.plain (OpenSpec.upto instrEncodeSpec)) instrEncodeUptoCard

/-- THE SECOND FORM's CARD OF 'paddocktop.TopCode'. -/
def topCodeUptoCard : Claim7 := { stood := { row := topCodeUptoRow, standIns := [], harness := (true, "15fe7dd8fb0cc6759b113347f462dca6951bd23e8e6137636420e54c36794ef5"), looks := false }, kinds := [], alts := [], laidByText := true, laidKinds := [.data, .data], laidTests := true, laidLooks := .later }
def TopCodeUptoCardSaid : Prop := Claim7.holds Tryd.pinned (.plain (OpenSpec.upto topCodeSpec)) topCodeUptoCard
end Rows
end Go.Proofs.YtehjikjpgdnjdabDoor
