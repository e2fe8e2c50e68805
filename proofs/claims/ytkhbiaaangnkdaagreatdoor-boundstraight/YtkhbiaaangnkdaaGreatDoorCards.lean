/-
  DERIVED. GIVEN WITH THE SEED: THE CARDS: each row of YtkhbiaaangnkdaaGreatDoorRows.lean that lists a variable, with what it lists TIED to the program's text (the seventh form; the later family's looks); each row that meets fmt, with fmt's text TOLD by the authors' own Lean function (tested against real Go, not proved from fmt's source: count such statements apart). THE CARD IS WHAT COUNTS. Prove the row's statement (the work); the ties are given (YtkhbiaaangnkdaaGreatDoorTie.lean); close each card by the builder's one call (the guide's Derived/Test/ToyasCard.lean, 'card_holds'). Laid BY PROGRAM, IN A SANDBOX (cutbox-door.mjs). By AI agents, Wed Nov 11 2026. No macro, syntax, notation, axiom, sorry.
-/
import Derived.Test.YtkhbiaaangnkdaaGreatDoorRows
import GoSem.ClaimSeven
namespace Go.Proofs.YtkhbiaaangnkdaaGreatDoor
namespace Rows

/-- THE TIED CARD OF 'paddocklaw18.BoundStraight'. -/
def boundStraightCard : Claim7 := { stood := { row := boundStraightRow, standIns := [], harness := (true, "910d3b316b722584489f52415649c38915450a5ff3c41384fbb335ef69ccbff0"), looks := true }, kinds := [], alts := [], laidByText := true, laidKinds := [.data, .data], laidTests := true, laidLooks := .later }
def BoundStraightCardSaid : Prop := Claim7.holds Tryz.pinned (.plain (OpenSpec.ofChange boundStraightSpec)) boundStraightCard

/-- THE SECOND FORM's CARD OF 'paddocklaw18.BoundStraight'. -/
def boundStraightUptoCard : Claim7 := { stood := { row := boundStraightUptoRow, standIns := [], harness := (true, "910d3b316b722584489f52415649c38915450a5ff3c41384fbb335ef69ccbff0"), looks := true }, kinds := [], alts := [], laidByText := true, laidKinds := [.data, .data], laidTests := true, laidLooks := .later }
def BoundStraightUptoCardSaid : Prop := Claim7.holds Tryz.pinned (.plain (OpenSpec.upto boundStraightSpec)) boundStraightUptoCard
end Rows
end Go.Proofs.YtkhbiaaangnkdaaGreatDoor
