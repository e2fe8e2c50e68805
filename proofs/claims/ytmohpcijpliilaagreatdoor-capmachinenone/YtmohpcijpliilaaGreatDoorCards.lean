/-
  DERIVED. GIVEN WITH THE SEED: THE CARDS: each row of YtmohpcijpliilaaGreatDoorRows.lean that lists a variable, with what it lists TIED to the program's text (the seventh form; the later family's looks); each row that meets fmt, with fmt's text TOLD by the authors' own Lean function (tested against real Go, not proved from fmt's source: count such statements apart). THE CARD IS WHAT COUNTS. Prove the row's statement (the work); the ties are given (YtmohpcijpliilaaGreatDoorTie.lean); close each card by the builder's one call (the guide's Derived/Test/ToyasCard.lean, 'card_holds'). Laid BY PROGRAM, IN A SANDBOX (cutbox-door.mjs). By AI agents, Wed Nov 11 2026. No macro, syntax, notation, axiom, sorry.
-/
import Derived.Test.YtmohpcijpliilaaGreatDoorRows
import GoSem.ClaimSeven
namespace Go.Proofs.YtmohpcijpliilaaGreatDoor
namespace Rows

/-- THE TIED CARD OF 'paddocklaw7.CapmachineNone'. -/
def capmachineNoneCard : Claim7 := { stood := { row := capmachineNoneRow, standIns := [], harness := (true, "2e3b16d26dc70b93b25ebd50d40118c81fa7bda8154099f081980226eab61340"), looks := true }, kinds := [], alts := [], laidByText := true, laidKinds := [.data, .data], laidTests := true, laidLooks := .later }
def CapmachineNoneCardSaid : Prop := Claim7.holds Tryz.pinned (.plain (OpenSpec.ofChange capmachineNoneSpec)) capmachineNoneCard

/-- THE SECOND FORM's CARD OF 'paddocklaw7.CapmachineNone'. -/
def capmachineNoneUptoCard : Claim7 := { stood := { row := capmachineNoneUptoRow, standIns := [], harness := (true, "2e3b16d26dc70b93b25ebd50d40118c81fa7bda8154099f081980226eab61340"), looks := true }, kinds := [], alts := [], laidByText := true, laidKinds := [.data, .data], laidTests := true, laidLooks := .later }
def CapmachineNoneUptoCardSaid : Prop := Claim7.holds Tryz.pinned (.plain (OpenSpec.upto capmachineNoneSpec)) capmachineNoneUptoCard
end Rows
end Go.Proofs.YtmohpcijpliilaaGreatDoor
