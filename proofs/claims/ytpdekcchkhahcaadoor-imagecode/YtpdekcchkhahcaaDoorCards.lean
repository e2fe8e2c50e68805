/-
  DERIVED. GIVEN WITH THE SEED: THE CARDS: each row of YtpdekcchkhahcaaDoorRows.lean that lists a variable, with what it lists TIED to the program's text (the seventh form; the later family's looks); each row that meets fmt, with fmt's text TOLD by the authors' own Lean function (tested against real Go, not proved from fmt's source: count such statements apart). THE CARD IS WHAT COUNTS. Prove the row's statement (the work); the ties are given (YtpdekcchkhahcaaDoorTie.lean); close each card by the builder's one call (the guide's Derived/Test/ToyasCard.lean, 'card_holds'). Laid BY PROGRAM, IN A SANDBOX (cutbox-door.mjs). By AI agents, Wed Nov 11 2026. No macro, syntax, notation, axiom, sorry.
-/
import Derived.Test.YtpdekcchkhahcaaDoorRows
import GoSem.ClaimSeven
namespace Go.Proofs.YtpdekcchkhahcaaDoor
namespace Rows

/-- THE TIED CARD OF 'paddocklaw4.ImageCode'. -/
def imageCodeCard : Claim7 := { stood := { row := imageCodeRow, standIns := [], harness := (true, "b3316a373eeb48aa5d30fd81353731d93e104d9c0b337e2e72e01b9ea13318d9"), looks := false }, kinds := [], alts := [], laidByText := true, laidKinds := [.data, .data], laidTests := true, laidLooks := .later }
def ImageCodeCardSaid : Prop := Claim7.holds Tryd.pinned (.plain (OpenSpec.ofChange imageCodeSpec)) imageCodeCard

/-- THE SECOND FORM's CARD OF 'paddocklaw4.ImageCode'. -/
def imageCodeUptoCard : Claim7 := { stood := { row := imageCodeUptoRow, standIns := [], harness := (true, "b3316a373eeb48aa5d30fd81353731d93e104d9c0b337e2e72e01b9ea13318d9"), looks := false }, kinds := [], alts := [], laidByText := true, laidKinds := [.data, .data], laidTests := true, laidLooks := .later }
def ImageCodeUptoCardSaid : Prop := Claim7.holds Tryd.pinned (.plain (OpenSpec.upto imageCodeSpec)) imageCodeUptoCard
end Rows
end Go.Proofs.YtpdekcchkhahcaaDoor
