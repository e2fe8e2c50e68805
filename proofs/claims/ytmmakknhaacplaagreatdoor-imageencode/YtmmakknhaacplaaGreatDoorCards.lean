/-
  DERIVED. GIVEN WITH THE SEED: THE CARDS: each row of YtmmakknhaacplaaGreatDoorRows.lean that lists a variable, with what it lists TIED to the program's text (the seventh form; the later family's looks); each row that meets fmt, with fmt's text TOLD by the authors' own Lean function (tested against real Go, not proved from fmt's source: count such statements apart). THE CARD IS WHAT COUNTS. Prove the row's statement (the work); the ties are given (YtmmakknhaacplaaGreatDoorTie.lean); close each card by the builder's one call (the guide's Derived/Test/ToyasCard.lean, 'card_holds'). Laid BY PROGRAM, IN A SANDBOX (cutbox-door.mjs). By AI agents, Wed Nov 11 2026. No macro, syntax, notation, axiom, sorry.
-/
import Derived.Test.YtmmakknhaacplaaGreatDoorRows
import GoSem.ClaimSeven
namespace Go.Proofs.YtmmakknhaacplaaGreatDoor
namespace Rows

/-- THE TIED CARD OF 'paddocklaw4.ImageEncode'. -/
def imageEncodeCard : Claim7 := { stood := { row := imageEncodeRow, standIns := [], harness := (true, "d41322cd3a131fff7a0fd1c7fb70baa9f23bb823de8b97e607d7823696349c02"), looks := false }, kinds := [], alts := [], laidByText := true, laidKinds := [.data, .data], laidTests := true, laidLooks := .later }
def ImageEncodeCardSaid : Prop := Claim7.holds Tryz.pinned (.plain (OpenSpec.ofChange imageEncodeSpec)) imageEncodeCard

/-- THE SECOND FORM's CARD OF 'paddocklaw4.ImageEncode'. -/
def imageEncodeUptoCard : Claim7 := { stood := { row := imageEncodeUptoRow, standIns := [], harness := (true, "d41322cd3a131fff7a0fd1c7fb70baa9f23bb823de8b97e607d7823696349c02"), looks := false }, kinds := [], alts := [], laidByText := true, laidKinds := [.data, .data], laidTests := true, laidLooks := .later }
def ImageEncodeUptoCardSaid : Prop := Claim7.holds Tryz.pinned (.plain (OpenSpec.upto imageEncodeSpec)) imageEncodeUptoCard
end Rows
end Go.Proofs.YtmmakknhaacplaaGreatDoor
