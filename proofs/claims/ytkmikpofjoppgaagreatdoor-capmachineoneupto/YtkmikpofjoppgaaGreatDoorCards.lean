/-
  DERIVED. GIVEN WITH THE SEED: THE CARDS: each row of YtkmikpofjoppgaaGreatDoorRows.lean that lists a variable, with what it lists TIED to the program's text (the seventh form; the later family's looks); each row that meets fmt, with fmt's text TOLD by the authors' own Lean function (tested against real Go, not proved from fmt's source: count such statements apart). THE CARD IS WHAT COUNTS. Prove the row's statement (the work); the ties are given (YtkmikpofjoppgaaGreatDoorTie.lean); close each card by the builder's one call (the guide's Derived/Test/ToyasCard.lean, 'card_holds'). Laid BY PROGRAM, IN A SANDBOX (cutbox-door.mjs). By AI agents, Wed Nov 11 2026. No macro, syntax, notation, axiom, sorry.
-/
import Derived.Test.YtkmikpofjoppgaaGreatDoorRows
import GoSem.ClaimSeven
namespace Go.Proofs.YtkmikpofjoppgaaGreatDoor
namespace Rows

/-- THE TIED CARD OF 'paddocklaw7.CapmachineNone'. -/
def capmachineNoneCard : Claim7 := { stood := { row := capmachineNoneRow, standIns := [], harness := (true, "ecc9e573791ea4788bf1f9e8a5a9bf7273527b2822c005b5003d07fd21b1d849"), looks := true }, kinds := [], alts := [], laidByText := true, laidKinds := [.data, .data], laidTests := true, laidLooks := .later }
def CapmachineNoneCardSaid : Prop := Claim7.holds Tryz.pinned (.plain (OpenSpec.ofChange capmachineNoneSpec)) capmachineNoneCard

/-- THE TIED CARD OF 'paddocklaw7.CapmachineOne'. -/
def capmachineOneCard : Claim7 := { stood := { row := capmachineOneRow, standIns := [], harness := (true, "ecc9e573791ea4788bf1f9e8a5a9bf7273527b2822c005b5003d07fd21b1d849"), looks := true }, kinds := [], alts := [], laidByText := true, laidKinds := [.data, .data], laidTests := true, laidLooks := .later }
def CapmachineOneCardSaid : Prop := Claim7.holds Tryz.pinned (.plain (OpenSpec.ofChange capmachineOneSpec)) capmachineOneCard

/-- THE TIED CARD OF 'paddocklaw7.CapmachineFuel'. -/
def capmachineFuelCard : Claim7 := { stood := { row := capmachineFuelRow, standIns := [], harness := (true, "ecc9e573791ea4788bf1f9e8a5a9bf7273527b2822c005b5003d07fd21b1d849"), looks := true }, kinds := [], alts := [], laidByText := true, laidKinds := [.data, .data], laidTests := true, laidLooks := .later }
def CapmachineFuelCardSaid : Prop := Claim7.holds Tryz.pinned (.plain (OpenSpec.ofChange capmachineFuelSpec)) capmachineFuelCard

/-- THE SECOND FORM's CARD OF 'paddocklaw7.CapmachineNone'. -/
def capmachineNoneUptoCard : Claim7 := { stood := { row := capmachineNoneUptoRow, standIns := [], harness := (true, "ecc9e573791ea4788bf1f9e8a5a9bf7273527b2822c005b5003d07fd21b1d849"), looks := true }, kinds := [], alts := [], laidByText := true, laidKinds := [.data, .data], laidTests := true, laidLooks := .later }
def CapmachineNoneUptoCardSaid : Prop := Claim7.holds Tryz.pinned (.plain (OpenSpec.upto capmachineNoneSpec)) capmachineNoneUptoCard

/-- THE SECOND FORM's CARD OF 'paddocklaw7.CapmachineOne'. -/
def capmachineOneUptoCard : Claim7 := { stood := { row := capmachineOneUptoRow, standIns := [], harness := (true, "ecc9e573791ea4788bf1f9e8a5a9bf7273527b2822c005b5003d07fd21b1d849"), looks := true }, kinds := [], alts := [], laidByText := true, laidKinds := [.data, .data], laidTests := true, laidLooks := .later }
def CapmachineOneUptoCardSaid : Prop := Claim7.holds Tryz.pinned (.plain (OpenSpec.upto capmachineOneSpec)) capmachineOneUptoCard

/-- THE SECOND FORM's CARD OF 'paddocklaw7.CapmachineFuel'. -/
def capmachineFuelUptoCard : Claim7 := { stood := { row := capmachineFuelUptoRow, standIns := [], harness := (true, "ecc9e573791ea4788bf1f9e8a5a9bf7273527b2822c005b5003d07fd21b1d849"), looks := true }, kinds := [], alts := [], laidByText := true, laidKinds := [.data, .data], laidTests := true, laidLooks := .later }
def CapmachineFuelUptoCardSaid : Prop := Claim7.holds Tryz.pinned (.plain (OpenSpec.upto capmachineFuelSpec)) capmachineFuelUptoCard
end Rows
end Go.Proofs.YtkmikpofjoppgaaGreatDoor
