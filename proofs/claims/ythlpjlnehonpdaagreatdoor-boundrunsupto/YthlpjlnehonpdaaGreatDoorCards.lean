/-
  DERIVED. GIVEN WITH THE SEED: THE CARDS: each row of YthlpjlnehonpdaaGreatDoorRows.lean that lists a variable, with what it lists TIED to the program's text (the seventh form; the later family's looks); each row that meets fmt, with fmt's text TOLD by the authors' own Lean function (tested against real Go, not proved from fmt's source: count such statements apart). THE CARD IS WHAT COUNTS. Prove the row's statement (the work); the ties are given (YthlpjlnehonpdaaGreatDoorTie.lean); close each card by the builder's one call (the guide's Derived/Test/ToyasCard.lean, 'card_holds'). Laid BY PROGRAM, IN A SANDBOX (cutbox-door.mjs). By AI agents, Wed Nov 11 2026. No macro, syntax, notation, axiom, sorry.
-/
import Derived.Test.YthlpjlnehonpdaaGreatDoorRows
import GoSem.ClaimSeven
namespace Go.Proofs.YthlpjlnehonpdaaGreatDoor
namespace Rows

/-- THE TIED CARD OF 'paddocklaw18.BoundStraight'. -/
def boundStraightCard : Claim7 := { stood := { row := boundStraightRow, standIns := [], harness := (true, "f4662727a8e07017de28bd65357ffcd4602cbbffe9bbf6f5360b9f10ca389ea7"), looks := true }, kinds := [], alts := [], laidByText := true, laidKinds := [.data, .data], laidTests := true, laidLooks := .later }
def BoundStraightCardSaid : Prop := Claim7.holds Tryz.pinned (.plain (OpenSpec.ofChange boundStraightSpec)) boundStraightCard

/-- THE TIED CARD OF 'paddocklaw18.BoundStacks'. -/
def boundStacksCard : Claim7 := { stood := { row := boundStacksRow, standIns := [], harness := (true, "f4662727a8e07017de28bd65357ffcd4602cbbffe9bbf6f5360b9f10ca389ea7"), looks := true }, kinds := [], alts := [], laidByText := true, laidKinds := [.data, .data], laidTests := true, laidLooks := .later }
def BoundStacksCardSaid : Prop := Claim7.holds Tryz.pinned (.plain (OpenSpec.ofChange boundStacksSpec)) boundStacksCard

/-- THE TIED CARD OF 'paddocklaw18.BoundRuns'. -/
def boundRunsCard : Claim7 := { stood := { row := boundRunsRow, standIns := [], harness := (true, "f4662727a8e07017de28bd65357ffcd4602cbbffe9bbf6f5360b9f10ca389ea7"), looks := true }, kinds := [], alts := [], laidByText := true, laidKinds := [.data, .data], laidTests := true, laidLooks := .later }
def BoundRunsCardSaid : Prop := Claim7.holds Tryz.pinned (.plain (OpenSpec.ofChange boundRunsSpec)) boundRunsCard

/-- THE SECOND FORM's CARD OF 'paddocklaw18.BoundStraight'. -/
def boundStraightUptoCard : Claim7 := { stood := { row := boundStraightUptoRow, standIns := [], harness := (true, "f4662727a8e07017de28bd65357ffcd4602cbbffe9bbf6f5360b9f10ca389ea7"), looks := true }, kinds := [], alts := [], laidByText := true, laidKinds := [.data, .data], laidTests := true, laidLooks := .later }
def BoundStraightUptoCardSaid : Prop := Claim7.holds Tryz.pinned (.plain (OpenSpec.upto boundStraightSpec)) boundStraightUptoCard

/-- THE SECOND FORM's CARD OF 'paddocklaw18.BoundStacks'. -/
def boundStacksUptoCard : Claim7 := { stood := { row := boundStacksUptoRow, standIns := [], harness := (true, "f4662727a8e07017de28bd65357ffcd4602cbbffe9bbf6f5360b9f10ca389ea7"), looks := true }, kinds := [], alts := [], laidByText := true, laidKinds := [.data, .data], laidTests := true, laidLooks := .later }
def BoundStacksUptoCardSaid : Prop := Claim7.holds Tryz.pinned (.plain (OpenSpec.upto boundStacksSpec)) boundStacksUptoCard

/-- THE SECOND FORM's CARD OF 'paddocklaw18.BoundRuns'. -/
def boundRunsUptoCard : Claim7 := { stood := { row := boundRunsUptoRow, standIns := [], harness := (true, "f4662727a8e07017de28bd65357ffcd4602cbbffe9bbf6f5360b9f10ca389ea7"), looks := true }, kinds := [], alts := [], laidByText := true, laidKinds := [.data, .data], laidTests := true, laidLooks := .later }
def BoundRunsUptoCardSaid : Prop := Claim7.holds Tryz.pinned (.plain (OpenSpec.upto boundRunsSpec)) boundRunsUptoCard
end Rows
end Go.Proofs.YthlpjlnehonpdaaGreatDoor
