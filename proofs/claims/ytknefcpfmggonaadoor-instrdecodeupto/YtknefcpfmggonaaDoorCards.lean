/-
  DERIVED. GIVEN WITH THE SEED: THE CARDS: each row of YtknefcpfmggonaaDoorRows.lean that lists a variable, with what it lists TIED to the program's text (the seventh form; the later family's looks); each row that meets fmt, with fmt's text TOLD by the authors' own Lean function (tested against real Go, not proved from fmt's source: count such statements apart). THE CARD IS WHAT COUNTS. Prove the row's statement (the work); the ties are given (YtknefcpfmggonaaDoorTie.lean); close each card by the builder's one call (the guide's Derived/Test/ToyasCard.lean, 'card_holds'). Laid BY PROGRAM, IN A SANDBOX (cutbox-door.mjs). By AI agents, Wed Nov 11 2026. No macro, syntax, notation, axiom, sorry.
-/
import Derived.Test.YtknefcpfmggonaaDoorRows
import GoSem.ClaimSeven
namespace Go.Proofs.YtknefcpfmggonaaDoor
namespace Rows

/-- THE TIED CARD OF 'paddocklaw3.InstrDecode'. -/
def instrDecodeCard : Claim7 := { stood := { row := instrDecodeRow, standIns := [], harness := (true, "0ebb77fd129b233792375082e5d8b27c4bf7fc5ad1bffc4407bacfb075e63686"), looks := false }, kinds := [], alts := [], laidByText := true, laidKinds := [.data, .data], laidTests := true, laidLooks := .later }
def InstrDecodeCardSaid : Prop := Claim7.holds Tryd.pinned (.plain (OpenSpec.ofChange instrDecodeSpec)) instrDecodeCard

/-- THE SECOND FORM's CARD OF 'paddocklaw3.InstrDecode'. -/
def instrDecodeUptoCard : Claim7 := { stood := { row := instrDecodeUptoRow, standIns := [], harness := (true, "0ebb77fd129b233792375082e5d8b27c4bf7fc5ad1bffc4407bacfb075e63686"), looks := false }, kinds := [], alts := [], laidByText := true, laidKinds := [.data, .data], laidTests := true, laidLooks := .later }
def InstrDecodeUptoCardSaid : Prop := Claim7.holds Tryd.pinned (.plain (OpenSpec.upto instrDecodeSpec)) instrDecodeUptoCard
end Rows
end Go.Proofs.YtknefcpfmggonaaDoor
