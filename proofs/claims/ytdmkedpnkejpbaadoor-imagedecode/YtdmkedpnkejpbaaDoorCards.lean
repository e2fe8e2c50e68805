/-
  DERIVED. GIVEN WITH THE SEED: THE CARDS: each row of YtdmkedpnkejpbaaDoorRows.lean that lists a variable, with what it lists TIED to the program's text (the seventh form; the later family's looks); each row that meets fmt, with fmt's text TOLD by the authors' own Lean function (tested against real Go, not proved from fmt's source: count such statements apart). THE CARD IS WHAT COUNTS. Prove the row's statement (the work); the ties are given (YtdmkedpnkejpbaaDoorTie.lean); close each card by the builder's one call (the guide's Derived/Test/ToyasCard.lean, 'card_holds'). Laid BY PROGRAM, IN A SANDBOX (cutbox-door.mjs). By AI agents, Wed Nov 11 2026. No macro, syntax, notation, axiom, sorry.
-/
import Derived.Test.YtdmkedpnkejpbaaDoorRows
import GoSem.ClaimSeven
namespace Go.Proofs.YtdmkedpnkejpbaaDoor
namespace Rows

/-- THE TIED CARD OF 'paddocklaw4.ImageDecode'. -/
def imageDecodeCard : Claim7 := { stood := { row := imageDecodeRow, standIns := [], harness := (true, "756e693cc35acfa32dfa3a68ac68a0e5793c5bf8c00eaf672f655fcad64c8611"), looks := false }, kinds := [], alts := [], laidByText := true, laidKinds := [.data, .data], laidTests := true, laidLooks := .later }
def ImageDecodeCardSaid : Prop := Claim7.holds Tryd.pinned (.plain (OpenSpec.ofChange imageDecodeSpec)) imageDecodeCard

/-- THE SECOND FORM's CARD OF 'paddocklaw4.ImageDecode'. -/
def imageDecodeUptoCard : Claim7 := { stood := { row := imageDecodeUptoRow, standIns := [], harness := (true, "756e693cc35acfa32dfa3a68ac68a0e5793c5bf8c00eaf672f655fcad64c8611"), looks := false }, kinds := [], alts := [], laidByText := true, laidKinds := [.data, .data], laidTests := true, laidLooks := .later }
def ImageDecodeUptoCardSaid : Prop := Claim7.holds Tryd.pinned (.plain (OpenSpec.upto imageDecodeSpec)) imageDecodeUptoCard
end Rows
end Go.Proofs.YtdmkedpnkejpbaaDoor
