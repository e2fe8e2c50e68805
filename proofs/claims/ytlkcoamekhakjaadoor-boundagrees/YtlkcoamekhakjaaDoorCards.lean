/-
  DERIVED. GIVEN WITH THE SEED: THE CARDS: each row of YtlkcoamekhakjaaDoorRows.lean that lists a variable, with what it lists TIED to the program's text (the seventh form; the later family's looks); each row that meets fmt, with fmt's text TOLD by the authors' own Lean function (tested against real Go, not proved from fmt's source: count such statements apart). THE CARD IS WHAT COUNTS. Prove the row's statement (the work); the ties are given (YtlkcoamekhakjaaDoorTie.lean); close each card by the builder's one call (the guide's Derived/Test/ToyasCard.lean, 'card_holds'). Laid BY PROGRAM, IN A SANDBOX (cutbox-door.mjs). By AI agents, Wed Nov 11 2026. No macro, syntax, notation, axiom, sorry.
-/
import Derived.Test.YtlkcoamekhakjaaDoorRows
import GoSem.ClaimSeven
namespace Go.Proofs.YtlkcoamekhakjaaDoor
namespace Rows

/-- THE TIED CARD OF 'paddocklaw18.BoundAgrees'. -/
def boundAgreesCard : Claim7 := { stood := { row := boundAgreesRow, standIns := [], harness := (true, "cb5f492de8cce5455264df88f273b8cd7d07829569d183036fd453eb18ccca37"), looks := false }, kinds := [], alts := [], laidByText := true, laidKinds := [.data, .data], laidTests := true, laidLooks := .later }
def BoundAgreesCardSaid : Prop := Claim7.holds Tryd.pinned (.plain (OpenSpec.ofChange boundAgreesSpec)) boundAgreesCard

/-- THE SECOND FORM's CARD OF 'paddocklaw18.BoundAgrees'. -/
def boundAgreesUptoCard : Claim7 := { stood := { row := boundAgreesUptoRow, standIns := [], harness := (true, "cb5f492de8cce5455264df88f273b8cd7d07829569d183036fd453eb18ccca37"), looks := false }, kinds := [], alts := [], laidByText := true, laidKinds := [.data, .data], laidTests := true, laidLooks := .later }
def BoundAgreesUptoCardSaid : Prop := Claim7.holds Tryd.pinned (.plain (OpenSpec.upto boundAgreesSpec)) boundAgreesUptoCard
end Rows
end Go.Proofs.YtlkcoamekhakjaaDoor
