/-
  DERIVED. GIVEN WITH THE SEED: THE CARDS: each row of YtcljibdikhpnlaaDoorRows.lean that lists a variable, with what it lists TIED to the program's text (the seventh form; the later family's looks); each row that meets fmt, with fmt's text TOLD by the authors' own Lean function (tested against real Go, not proved from fmt's source: count such statements apart). THE CARD IS WHAT COUNTS. Prove the row's statement (the work); the ties are given (YtcljibdikhpnlaaDoorTie.lean); close each card by the builder's one call (the guide's Derived/Test/ToyasCard.lean, 'card_holds'). Laid BY PROGRAM, IN A SANDBOX (cutbox-door.mjs). By AI agents, Wed Nov 11 2026. No macro, syntax, notation, axiom, sorry.
-/
import Derived.Test.YtcljibdikhpnlaaDoorRows
import GoSem.ClaimSeven
namespace Go.Proofs.YtcljibdikhpnlaaDoor
namespace Rows

/-- THE TIED CARD OF 'paddocklaw4.ImageCopy'. -/
def imageCopyCard : Claim7 := { stood := { row := imageCopyRow, standIns := [], harness := (true, "aa9ed03f2dd0e7882a0d2438adc05a7a24bad4a02d275e00c0bebacf3efcd3cc"), looks := false }, kinds := [], alts := [], laidByText := true, laidKinds := [.data, .data], laidTests := true, laidLooks := .later }
def ImageCopyCardSaid : Prop := Claim7.holds Tryd.pinned (.plain (OpenSpec.ofChange imageCopySpec)) imageCopyCard

/-- THE SECOND FORM's CARD OF 'paddocklaw4.ImageCopy'. -/
def imageCopyUptoCard : Claim7 := { stood := { row := imageCopyUptoRow, standIns := [], harness := (true, "aa9ed03f2dd0e7882a0d2438adc05a7a24bad4a02d275e00c0bebacf3efcd3cc"), looks := false }, kinds := [], alts := [], laidByText := true, laidKinds := [.data, .data], laidTests := true, laidLooks := .later }
def ImageCopyUptoCardSaid : Prop := Claim7.holds Tryd.pinned (.plain (OpenSpec.upto imageCopySpec)) imageCopyUptoCard
end Rows
end Go.Proofs.YtcljibdikhpnlaaDoor
