/-
  DERIVED. GIVEN WITH THE SEED: THE CARDS: each row of YtiigpncfmakgjaaGreatDoorRows.lean that lists a variable, with what it lists TIED to the program's text (the seventh form; the later family's looks); each row that meets fmt, with fmt's text TOLD by the authors' own Lean function (tested against real Go, not proved from fmt's source: count such statements apart). THE CARD IS WHAT COUNTS. Prove the row's statement (the work); the ties are given (YtiigpncfmakgjaaGreatDoorTie.lean); close each card by the builder's one call (the guide's Derived/Test/ToyasCard.lean, 'card_holds'). Laid BY PROGRAM, IN A SANDBOX (cutbox-door.mjs). By AI agents, Wed Nov 11 2026. No macro, syntax, notation, axiom, sorry.
-/
import Derived.Test.YtiigpncfmakgjaaGreatDoorRows
import GoSem.ClaimSeven
namespace Go.Proofs.YtiigpncfmakgjaaGreatDoor
namespace Rows

/-- THE TIED CARD OF 'paddocktop.TopStep'. -/
def topStepCard : Claim7 := { stood := { row := topStepRow, standIns := [], harness := (true, "b6fb221b3a199f9c54d4d1d989a282698a5031fb21c2d398e4fb05d9e8812257"), looks := true }, kinds := [], alts := [], laidByText := true, laidKinds := [.data, .data], laidTests := true, laidLooks := .later }
def TopStepCardSaid : Prop := Claim7.holds Tryz.pinned (.plain (OpenSpec.ofChange topStepSpec)) topStepCard

/-- THE SECOND FORM's CARD OF 'paddocktop.TopStep'. -/
def topStepUptoCard : Claim7 := { stood := { row := topStepUptoRow, standIns := [], harness := (true, "b6fb221b3a199f9c54d4d1d989a282698a5031fb21c2d398e4fb05d9e8812257"), looks := true }, kinds := [], alts := [], laidByText := true, laidKinds := [.data, .data], laidTests := true, laidLooks := .later }
def TopStepUptoCardSaid : Prop := Claim7.holds Tryz.pinned (.plain (OpenSpec.upto topStepSpec)) topStepUptoCard
end Rows
end Go.Proofs.YtiigpncfmakgjaaGreatDoor
