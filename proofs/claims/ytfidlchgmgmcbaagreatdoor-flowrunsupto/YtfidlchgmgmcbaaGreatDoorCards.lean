/-
  DERIVED. GIVEN WITH THE SEED: THE CARDS: each row of YtfidlchgmgmcbaaGreatDoorRows.lean that lists a variable, with what it lists TIED to the program's text (the seventh form; the later family's looks); each row that meets fmt, with fmt's text TOLD by the authors' own Lean function (tested against real Go, not proved from fmt's source: count such statements apart). THE CARD IS WHAT COUNTS. Prove the row's statement (the work); the ties are given (YtfidlchgmgmcbaaGreatDoorTie.lean); close each card by the builder's one call (the guide's Derived/Test/ToyasCard.lean, 'card_holds'). Laid BY PROGRAM, IN A SANDBOX (cutbox-door.mjs). By AI agents, Wed Nov 11 2026. No macro, syntax, notation, axiom, sorry.
-/
import Derived.Test.YtfidlchgmgmcbaaGreatDoorRows
import GoSem.ClaimSeven
namespace Go.Proofs.YtfidlchgmgmcbaaGreatDoor
namespace Rows

/-- THE TIED CARD OF 'paddocklaw8.FlowRuns'. -/
def flowRunsCard : Claim7 := { stood := { row := flowRunsRow, standIns := [], harness := (true, "94d86ea36dba3caec43512b2aec3e1104aa0d9a65cdc5489e8846f21810f14be"), looks := true }, kinds := [], alts := [], laidByText := true, laidKinds := [.data, .data], laidTests := true, laidLooks := .later }
def FlowRunsCardSaid : Prop := Claim7.holds Tryz.pinned (.plain (OpenSpec.ofChange flowRunsSpec)) flowRunsCard

/-- THE SECOND FORM's CARD OF 'paddocklaw8.FlowRuns'. -/
def flowRunsUptoCard : Claim7 := { stood := { row := flowRunsUptoRow, standIns := [], harness := (true, "94d86ea36dba3caec43512b2aec3e1104aa0d9a65cdc5489e8846f21810f14be"), looks := true }, kinds := [], alts := [], laidByText := true, laidKinds := [.data, .data], laidTests := true, laidLooks := .later }
def FlowRunsUptoCardSaid : Prop := Claim7.holds Tryz.pinned (.plain (OpenSpec.upto flowRunsSpec)) flowRunsUptoCard
end Rows
end Go.Proofs.YtfidlchgmgmcbaaGreatDoor
