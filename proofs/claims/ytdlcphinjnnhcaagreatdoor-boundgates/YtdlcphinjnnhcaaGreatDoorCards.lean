/-
  DERIVED. GIVEN WITH THE SEED: THE CARDS: each row of YtdlcphinjnnhcaaGreatDoorRows.lean that lists a variable, with what it lists TIED to the program's text (the seventh form; the later family's looks); each row that meets fmt, with fmt's text TOLD by the authors' own Lean function (tested against real Go, not proved from fmt's source: count such statements apart). THE CARD IS WHAT COUNTS. Prove the row's statement (the work); the ties are given (YtdlcphinjnnhcaaGreatDoorTie.lean); close each card by the builder's one call (the guide's Derived/Test/ToyasCard.lean, 'card_holds'). Laid BY PROGRAM, IN A SANDBOX (cutbox-door.mjs). By AI agents, Wed Nov 11 2026. No macro, syntax, notation, axiom, sorry.
-/
import Derived.Test.YtdlcphinjnnhcaaGreatDoorRows
import GoSem.ClaimSeven
namespace Go.Proofs.YtdlcphinjnnhcaaGreatDoor
namespace Rows

/-- THE TIED CARD OF 'paddocklaw18.BoundDeeps'. -/
def boundDeepsCard : Claim7 := { stood := { row := boundDeepsRow, standIns := [], harness := (true, "807e2865a3a1f05d6f462e016187839e2bed66ab2881401070d3e512962d8c2e"), looks := false }, kinds := [], alts := [], laidByText := true, laidKinds := [.data, .data], laidTests := true, laidLooks := .later }
def BoundDeepsCardSaid : Prop := Claim7.holds Tryz.pinned (.plain (OpenSpec.ofChange boundDeepsSpec)) boundDeepsCard

/-- THE TIED CARD OF 'paddocklaw18.BoundGates'. -/
def boundGatesCard : Claim7 := { stood := { row := boundGatesRow, standIns := [], harness := (true, "807e2865a3a1f05d6f462e016187839e2bed66ab2881401070d3e512962d8c2e"), looks := false }, kinds := [], alts := [], laidByText := true, laidKinds := [.data, .data], laidTests := true, laidLooks := .later }
def BoundGatesCardSaid : Prop := Claim7.holds Tryz.pinned (.plain (OpenSpec.ofChange boundGatesSpec)) boundGatesCard

/-- THE SECOND FORM's CARD OF 'paddocklaw18.BoundDeeps'. -/
def boundDeepsUptoCard : Claim7 := { stood := { row := boundDeepsUptoRow, standIns := [], harness := (true, "807e2865a3a1f05d6f462e016187839e2bed66ab2881401070d3e512962d8c2e"), looks := false }, kinds := [], alts := [], laidByText := true, laidKinds := [.data, .data], laidTests := true, laidLooks := .later }
def BoundDeepsUptoCardSaid : Prop := Claim7.holds Tryz.pinned (.plain (OpenSpec.upto boundDeepsSpec)) boundDeepsUptoCard

/-- THE SECOND FORM's CARD OF 'paddocklaw18.BoundGates'. -/
def boundGatesUptoCard : Claim7 := { stood := { row := boundGatesUptoRow, standIns := [], harness := (true, "807e2865a3a1f05d6f462e016187839e2bed66ab2881401070d3e512962d8c2e"), looks := false }, kinds := [], alts := [], laidByText := true, laidKinds := [.data, .data], laidTests := true, laidLooks := .later }
def BoundGatesUptoCardSaid : Prop := Claim7.holds Tryz.pinned (.plain (OpenSpec.upto boundGatesSpec)) boundGatesUptoCard
end Rows
end Go.Proofs.YtdlcphinjnnhcaaGreatDoor
