/-
  DERIVED. GIVEN WITH THE SEED: THE CARDS: each row of YthmfaafpdogpdaaDoorRows.lean that lists a variable, with what it lists TIED to the program's text (the seventh form; the later family's looks); each row that meets fmt, with fmt's text TOLD by the authors' own Lean function (tested against real Go, not proved from fmt's source: count such statements apart). THE CARD IS WHAT COUNTS. Prove the row's statement (the work); the ties are given (YthmfaafpdogpdaaDoorTie.lean); close each card by the builder's one call (the guide's Derived/Test/ToyasCard.lean, 'card_holds'). Laid BY PROGRAM, IN A SANDBOX (cutbox-door.mjs). By AI agents, Wed Nov 11 2026. No macro, syntax, notation, axiom, sorry.
-/
import Derived.Test.YthmfaafpdogpdaaDoorRows
import GoSem.ClaimSeven
namespace Go.Proofs.YthmfaafpdogpdaaDoor
namespace Rows

/-- THE TIED CARD OF 'paddocklaw3.InstrDecode'. -/
def instrDecodeCard : Claim7 := { stood := { row := instrDecodeRow, standIns := [], harness := (true, "e5ac3e0a7b19dcac3b6248d0a9dc4259a07b2728fc863e4042bf3f12639ed7a8"), looks := false }, kinds := [], alts := [], laidByText := true, laidKinds := [.data, .data], laidTests := true, laidLooks := .later }
def InstrDecodeCardSaid : Prop := Claim7.holds Tryd.pinned (.plain (OpenSpec.ofChange instrDecodeSpec)) instrDecodeCard

/-- THE TIED CARD OF 'paddocklaw4.ImageAgain'. -/
def imageAgainCard : Claim7 := { stood := { row := imageAgainRow, standIns := [], harness := (true, "e5ac3e0a7b19dcac3b6248d0a9dc4259a07b2728fc863e4042bf3f12639ed7a8"), looks := false }, kinds := [], alts := [], laidByText := true, laidKinds := [.data, .data], laidTests := true, laidLooks := .later }
def ImageAgainCardSaid : Prop := Claim7.holds Tryd.pinned (.plain (OpenSpec.ofChange imageAgainSpec)) imageAgainCard

/-- THE TIED CARD OF 'paddocklaw4.ImageMemory'. -/
def imageMemoryCard : Claim7 := { stood := { row := imageMemoryRow, standIns := [], harness := (true, "e5ac3e0a7b19dcac3b6248d0a9dc4259a07b2728fc863e4042bf3f12639ed7a8"), looks := false }, kinds := [], alts := [], laidByText := true, laidKinds := [.data, .data], laidTests := true, laidLooks := .later }
def ImageMemoryCardSaid : Prop := Claim7.holds Tryd.pinned (.plain (OpenSpec.ofChange imageMemorySpec)) imageMemoryCard

/-- THE TIED CARD OF 'paddocklaw4.ImageFitting'. -/
def imageFittingCard : Claim7 := { stood := { row := imageFittingRow, standIns := [], harness := (true, "e5ac3e0a7b19dcac3b6248d0a9dc4259a07b2728fc863e4042bf3f12639ed7a8"), looks := false }, kinds := [], alts := [], laidByText := true, laidKinds := [.data, .data], laidTests := true, laidLooks := .later }
def ImageFittingCardSaid : Prop := Claim7.holds Tryd.pinned (.plain (OpenSpec.ofChange imageFittingSpec)) imageFittingCard

/-- THE TIED CARD OF 'paddocklaw4.ImageFits'. -/
def imageFitsCard : Claim7 := { stood := { row := imageFitsRow, standIns := [], harness := (true, "e5ac3e0a7b19dcac3b6248d0a9dc4259a07b2728fc863e4042bf3f12639ed7a8"), looks := false }, kinds := [], alts := [], laidByText := true, laidKinds := [.data, .data], laidTests := true, laidLooks := .later }
def ImageFitsCardSaid : Prop := Claim7.holds Tryd.pinned (.plain (OpenSpec.ofChange imageFitsSpec)) imageFitsCard

/-- THE TIED CARD OF 'paddocklaw4.ImageUnlike'. -/
def imageUnlikeCard : Claim7 := { stood := { row := imageUnlikeRow, standIns := [], harness := (true, "e5ac3e0a7b19dcac3b6248d0a9dc4259a07b2728fc863e4042bf3f12639ed7a8"), looks := false }, kinds := [], alts := [], laidByText := true, laidKinds := [.data, .data], laidTests := true, laidLooks := .later }
def ImageUnlikeCardSaid : Prop := Claim7.holds Tryd.pinned (.plain (OpenSpec.ofChange imageUnlikeSpec)) imageUnlikeCard

/-- THE SECOND FORM's CARD OF 'paddocklaw3.InstrDecode'. -/
def instrDecodeUptoCard : Claim7 := { stood := { row := instrDecodeUptoRow, standIns := [], harness := (true, "e5ac3e0a7b19dcac3b6248d0a9dc4259a07b2728fc863e4042bf3f12639ed7a8"), looks := false }, kinds := [], alts := [], laidByText := true, laidKinds := [.data, .data], laidTests := true, laidLooks := .later }
def InstrDecodeUptoCardSaid : Prop := Claim7.holds Tryd.pinned (.plain (OpenSpec.upto instrDecodeSpec)) instrDecodeUptoCard

/-- THE SECOND FORM's CARD OF 'paddocklaw4.ImageAgain'. -/
def imageAgainUptoCard : Claim7 := { stood := { row := imageAgainUptoRow, standIns := [], harness := (true, "e5ac3e0a7b19dcac3b6248d0a9dc4259a07b2728fc863e4042bf3f12639ed7a8"), looks := false }, kinds := [], alts := [], laidByText := true, laidKinds := [.data, .data], laidTests := true, laidLooks := .later }
def ImageAgainUptoCardSaid : Prop := Claim7.holds Tryd.pinned (.plain (OpenSpec.upto imageAgainSpec)) imageAgainUptoCard

/-- THE SECOND FORM's CARD OF 'paddocklaw4.ImageMemory'. -/
def imageMemoryUptoCard : Claim7 := { stood := { row := imageMemoryUptoRow, standIns := [], harness := (true, "e5ac3e0a7b19dcac3b6248d0a9dc4259a07b2728fc863e4042bf3f12639ed7a8"), looks := false }, kinds := [], alts := [], laidByText := true, laidKinds := [.data, .data], laidTests := true, laidLooks := .later }
def ImageMemoryUptoCardSaid : Prop := Claim7.holds Tryd.pinned (.plain (OpenSpec.upto imageMemorySpec)) imageMemoryUptoCard

/-- THE SECOND FORM's CARD OF 'paddocklaw4.ImageFitting'. -/
def imageFittingUptoCard : Claim7 := { stood := { row := imageFittingUptoRow, standIns := [], harness := (true, "e5ac3e0a7b19dcac3b6248d0a9dc4259a07b2728fc863e4042bf3f12639ed7a8"), looks := false }, kinds := [], alts := [], laidByText := true, laidKinds := [.data, .data], laidTests := true, laidLooks := .later }
def ImageFittingUptoCardSaid : Prop := Claim7.holds Tryd.pinned (.plain (OpenSpec.upto imageFittingSpec)) imageFittingUptoCard

/-- THE SECOND FORM's CARD OF 'paddocklaw4.ImageFits'. -/
def imageFitsUptoCard : Claim7 := { stood := { row := imageFitsUptoRow, standIns := [], harness := (true, "e5ac3e0a7b19dcac3b6248d0a9dc4259a07b2728fc863e4042bf3f12639ed7a8"), looks := false }, kinds := [], alts := [], laidByText := true, laidKinds := [.data, .data], laidTests := true, laidLooks := .later }
def ImageFitsUptoCardSaid : Prop := Claim7.holds Tryd.pinned (.plain (OpenSpec.upto imageFitsSpec)) imageFitsUptoCard

/-- THE SECOND FORM's CARD OF 'paddocklaw4.ImageUnlike'. -/
def imageUnlikeUptoCard : Claim7 := { stood := { row := imageUnlikeUptoRow, standIns := [], harness := (true, "e5ac3e0a7b19dcac3b6248d0a9dc4259a07b2728fc863e4042bf3f12639ed7a8"), looks := false }, kinds := [], alts := [], laidByText := true, laidKinds := [.data, .data], laidTests := true, laidLooks := .later }
def ImageUnlikeUptoCardSaid : Prop := Claim7.holds Tryd.pinned (.plain (OpenSpec.upto imageUnlikeSpec)) imageUnlikeUptoCard
end Rows
end Go.Proofs.YthmfaafpdogpdaaDoor
