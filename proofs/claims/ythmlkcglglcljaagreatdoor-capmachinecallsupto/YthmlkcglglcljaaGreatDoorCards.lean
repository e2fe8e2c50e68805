/-
  DERIVED. GIVEN WITH THE SEED: THE CARDS: each row of YthmlkcglglcljaaGreatDoorRows.lean that lists a variable, with what it lists TIED to the program's text (the seventh form; the later family's looks); each row that meets fmt, with fmt's text TOLD by the authors' own Lean function (tested against real Go, not proved from fmt's source: count such statements apart). THE CARD IS WHAT COUNTS. Prove the row's statement (the work); the ties are given (YthmlkcglglcljaaGreatDoorTie.lean); close each card by the builder's one call (the guide's Derived/Test/ToyasCard.lean, 'card_holds'). Laid BY PROGRAM, IN A SANDBOX (cutbox-door.mjs). By AI agents, Wed Nov 11 2026. No macro, syntax, notation, axiom, sorry.
-/
import Derived.Test.YthmlkcglglcljaaGreatDoorRows
import GoSem.ClaimSeven
namespace Go.Proofs.YthmlkcglglcljaaGreatDoor
namespace Rows

/-- THE TIED CARD OF 'paddocklaw7.CapmachineCalls'. -/
def capmachineCallsCard : Claim7 := { stood := { row := capmachineCallsRow, standIns := [], harness := (true, "be719bcbd49047a5de94503610a76ba7f18c12daf48ea2e5bd112e8775194c16"), looks := true }, kinds := [], alts := [], laidByText := true, laidKinds := [.data, .data], laidTests := true, laidLooks := .later }
def CapmachineCallsCardSaid : Prop := Claim7.holds Tryz.pinned (.plain (OpenSpec.ofChange capmachineCallsSpec)) capmachineCallsCard

/-- THE TIED CARD OF 'paddocklaw7.CapmachineSum'. -/
def capmachineSumCard : Claim7 := { stood := { row := capmachineSumRow, standIns := [], harness := (true, "be719bcbd49047a5de94503610a76ba7f18c12daf48ea2e5bd112e8775194c16"), looks := true }, kinds := [], alts := [], laidByText := true, laidKinds := [.data, .data], laidTests := true, laidLooks := .later }
def CapmachineSumCardSaid : Prop := Claim7.holds Tryz.pinned (.plain (OpenSpec.ofChange capmachineSumSpec)) capmachineSumCard

/-- THE TIED CARD OF 'paddocklaw7.CapmachineStill'. -/
def capmachineStillCard : Claim7 := { stood := { row := capmachineStillRow, standIns := [], harness := (true, "be719bcbd49047a5de94503610a76ba7f18c12daf48ea2e5bd112e8775194c16"), looks := true }, kinds := [], alts := [], laidByText := true, laidKinds := [.data, .data], laidTests := true, laidLooks := .later }
def CapmachineStillCardSaid : Prop := Claim7.holds Tryz.pinned (.plain (OpenSpec.ofChange capmachineStillSpec)) capmachineStillCard

/-- THE SECOND FORM's CARD OF 'paddocklaw7.CapmachineCalls'. -/
def capmachineCallsUptoCard : Claim7 := { stood := { row := capmachineCallsUptoRow, standIns := [], harness := (true, "be719bcbd49047a5de94503610a76ba7f18c12daf48ea2e5bd112e8775194c16"), looks := true }, kinds := [], alts := [], laidByText := true, laidKinds := [.data, .data], laidTests := true, laidLooks := .later }
def CapmachineCallsUptoCardSaid : Prop := Claim7.holds Tryz.pinned (.plain (OpenSpec.upto capmachineCallsSpec)) capmachineCallsUptoCard

/-- THE SECOND FORM's CARD OF 'paddocklaw7.CapmachineSum'. -/
def capmachineSumUptoCard : Claim7 := { stood := { row := capmachineSumUptoRow, standIns := [], harness := (true, "be719bcbd49047a5de94503610a76ba7f18c12daf48ea2e5bd112e8775194c16"), looks := true }, kinds := [], alts := [], laidByText := true, laidKinds := [.data, .data], laidTests := true, laidLooks := .later }
def CapmachineSumUptoCardSaid : Prop := Claim7.holds Tryz.pinned (.plain (OpenSpec.upto capmachineSumSpec)) capmachineSumUptoCard

/-- THE SECOND FORM's CARD OF 'paddocklaw7.CapmachineStill'. -/
def capmachineStillUptoCard : Claim7 := { stood := { row := capmachineStillUptoRow, standIns := [], harness := (true, "be719bcbd49047a5de94503610a76ba7f18c12daf48ea2e5bd112e8775194c16"), looks := true }, kinds := [], alts := [], laidByText := true, laidKinds := [.data, .data], laidTests := true, laidLooks := .later }
def CapmachineStillUptoCardSaid : Prop := Claim7.holds Tryz.pinned (.plain (OpenSpec.upto capmachineStillSpec)) capmachineStillUptoCard
end Rows
end Go.Proofs.YthmlkcglglcljaaGreatDoor
