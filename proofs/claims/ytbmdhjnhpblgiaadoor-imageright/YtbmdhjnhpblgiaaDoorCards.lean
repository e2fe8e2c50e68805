/-
  DERIVED. GIVEN WITH THE SEED: THE CARDS: each row of YtbmdhjnhpblgiaaDoorRows.lean that lists a variable, with what it lists TIED to the program's text (the seventh form; the later family's looks); each row that meets fmt, with fmt's text TOLD by the authors' own Lean function (tested against real Go, not proved from fmt's source: count such statements apart). THE CARD IS WHAT COUNTS. Prove the row's statement (the work); the ties are given (YtbmdhjnhpblgiaaDoorTie.lean); close each card by the builder's one call (the guide's Derived/Test/ToyasCard.lean, 'card_holds'). Laid BY PROGRAM, IN A SANDBOX (cutbox-door.mjs). By AI agents, Wed Nov 11 2026. No macro, syntax, notation, axiom, sorry.
-/
import Derived.Test.YtbmdhjnhpblgiaaDoorRows
import GoSem.ClaimSeven
namespace Go.Proofs.YtbmdhjnhpblgiaaDoor
namespace Rows

/-- THE TIED CARD OF 'paddocklaw4.ImageRight'. -/
def imageRightCard : Claim7 := { stood := { row := imageRightRow, standIns := [], harness := (true, "0f73199207153223a0ec27ddfe372e0e892bdfd87d825950441c926dc116c615"), looks := false }, kinds := [], alts := [], laidByText := true, laidKinds := [.data, .data], laidTests := true, laidLooks := .later }
def ImageRightCardSaid : Prop := Claim7.holds Tryd.pinned (.plain (OpenSpec.ofChange imageRightSpec)) imageRightCard

/-- THE SECOND FORM's CARD OF 'paddocklaw4.ImageRight'. -/
def imageRightUptoCard : Claim7 := { stood := { row := imageRightUptoRow, standIns := [], harness := (true, "0f73199207153223a0ec27ddfe372e0e892bdfd87d825950441c926dc116c615"), looks := false }, kinds := [], alts := [], laidByText := true, laidKinds := [.data, .data], laidTests := true, laidLooks := .later }
def ImageRightUptoCardSaid : Prop := Claim7.holds Tryd.pinned (.plain (OpenSpec.upto imageRightSpec)) imageRightUptoCard
end Rows
end Go.Proofs.YtbmdhjnhpblgiaaDoor
