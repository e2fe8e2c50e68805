/-
  DERIVED. GIVEN WITH THE SEED: THE CARDS: each row of YthmfaafpdogpdabDoorRows.lean that lists a variable, with what it lists TIED to the program's text (the seventh form; the later family's looks); each row that meets fmt, with fmt's text TOLD by the authors' own Lean function (tested against real Go, not proved from fmt's source: count such statements apart). THE CARD IS WHAT COUNTS. Prove the row's statement (the work); the ties are given (YthmfaafpdogpdabDoorTie.lean); close each card by the builder's one call (the guide's Derived/Test/ToyasCard.lean, 'card_holds'). Laid BY PROGRAM, IN A SANDBOX (cutbox-door.mjs). By AI agents, Wed Nov 11 2026. No macro, syntax, notation, axiom, sorry.
-/
import Derived.Test.YthmfaafpdogpdabDoorRows
import GoSem.ClaimSeven
namespace Go.Proofs.YthmfaafpdogpdabDoor
namespace Rows

/-- THE TIED CARD OF 'paddocklaw4.ImageBack'. -/
def imageBackCard : Claim7 := { stood := { row := imageBackRow, standIns := [], harness := (true, "88fabebfb91bbece16c59f554d7e65cbf9413b7042759c64d3335e1280867e28"), looks := false }, kinds := [], alts := [], laidByText := true, laidKinds := [.data, .data], laidTests := true, laidLooks := .later }
def ImageBackCardSaid : Prop := Claim7.holds Tryd.pinned (.plain (OpenSpec.ofChange imageBackSpec)) imageBackCard

/-- THE TIED CARD OF 'paddocklaw4.ImageCode'. -/
def imageCodeCard : Claim7 := { stood := { row := imageCodeRow, standIns := [], harness := (true, "88fabebfb91bbece16c59f554d7e65cbf9413b7042759c64d3335e1280867e28"), looks := false }, kinds := [], alts := [], laidByText := true, laidKinds := [.data, .data], laidTests := true, laidLooks := .later }
def ImageCodeCardSaid : Prop := Claim7.holds Tryd.pinned (.plain (OpenSpec.ofChange imageCodeSpec)) imageCodeCard

/-- THE TIED CARD OF 'paddocklaw4.ImageCopy'. -/
def imageCopyCard : Claim7 := { stood := { row := imageCopyRow, standIns := [], harness := (true, "88fabebfb91bbece16c59f554d7e65cbf9413b7042759c64d3335e1280867e28"), looks := false }, kinds := [], alts := [], laidByText := true, laidKinds := [.data, .data], laidTests := true, laidLooks := .later }
def ImageCopyCardSaid : Prop := Claim7.holds Tryd.pinned (.plain (OpenSpec.ofChange imageCopySpec)) imageCopyCard

/-- THE TIED CARD OF 'paddocklaw4.ImageRight'. -/
def imageRightCard : Claim7 := { stood := { row := imageRightRow, standIns := [], harness := (true, "88fabebfb91bbece16c59f554d7e65cbf9413b7042759c64d3335e1280867e28"), looks := false }, kinds := [], alts := [], laidByText := true, laidKinds := [.data, .data], laidTests := true, laidLooks := .later }
def ImageRightCardSaid : Prop := Claim7.holds Tryd.pinned (.plain (OpenSpec.ofChange imageRightSpec)) imageRightCard

/-- THE TIED CARD OF 'paddocklaw4.ImageDecode'. -/
def imageDecodeCard : Claim7 := { stood := { row := imageDecodeRow, standIns := [], harness := (true, "88fabebfb91bbece16c59f554d7e65cbf9413b7042759c64d3335e1280867e28"), looks := false }, kinds := [], alts := [], laidByText := true, laidKinds := [.data, .data], laidTests := true, laidLooks := .later }
def ImageDecodeCardSaid : Prop := Claim7.holds Tryd.pinned (.plain (OpenSpec.ofChange imageDecodeSpec)) imageDecodeCard

/-- THE SECOND FORM's CARD OF 'paddocklaw4.ImageBack'. -/
def imageBackUptoCard : Claim7 := { stood := { row := imageBackUptoRow, standIns := [], harness := (true, "88fabebfb91bbece16c59f554d7e65cbf9413b7042759c64d3335e1280867e28"), looks := false }, kinds := [], alts := [], laidByText := true, laidKinds := [.data, .data], laidTests := true, laidLooks := .later }
def ImageBackUptoCardSaid : Prop := Claim7.holds Tryd.pinned (.plain (OpenSpec.upto imageBackSpec)) imageBackUptoCard

/-- THE SECOND FORM's CARD OF 'paddocklaw4.ImageCode'. -/
def imageCodeUptoCard : Claim7 := { stood := { row := imageCodeUptoRow, standIns := [], harness := (true, "88fabebfb91bbece16c59f554d7e65cbf9413b7042759c64d3335e1280867e28"), looks := false }, kinds := [], alts := [], laidByText := true, laidKinds := [.data, .data], laidTests := true, laidLooks := .later }
def ImageCodeUptoCardSaid : Prop := Claim7.holds Tryd.pinned (.plain (OpenSpec.upto imageCodeSpec)) imageCodeUptoCard

/-- THE SECOND FORM's CARD OF 'paddocklaw4.ImageCopy'. -/
def imageCopyUptoCard : Claim7 := { stood := { row := imageCopyUptoRow, standIns := [], harness := (true, "88fabebfb91bbece16c59f554d7e65cbf9413b7042759c64d3335e1280867e28"), looks := false }, kinds := [], alts := [], laidByText := true, laidKinds := [.data, .data], laidTests := true, laidLooks := .later }
def ImageCopyUptoCardSaid : Prop := Claim7.holds Tryd.pinned (.plain (OpenSpec.upto imageCopySpec)) imageCopyUptoCard

/-- THE SECOND FORM's CARD OF 'paddocklaw4.ImageRight'. -/
def imageRightUptoCard : Claim7 := { stood := { row := imageRightUptoRow, standIns := [], harness := (true, "88fabebfb91bbece16c59f554d7e65cbf9413b7042759c64d3335e1280867e28"), looks := false }, kinds := [], alts := [], laidByText := true, laidKinds := [.data, .data], laidTests := true, laidLooks := .later }
def ImageRightUptoCardSaid : Prop := Claim7.holds Tryd.pinned (.plain (OpenSpec.upto imageRightSpec)) imageRightUptoCard

/-- THE SECOND FORM's CARD OF 'paddocklaw4.ImageDecode'. -/
def imageDecodeUptoCard : Claim7 := { stood := { row := imageDecodeUptoRow, standIns := [], harness := (true, "88fabebfb91bbece16c59f554d7e65cbf9413b7042759c64d3335e1280867e28"), looks := false }, kinds := [], alts := [], laidByText := true, laidKinds := [.data, .data], laidTests := true, laidLooks := .later }
def ImageDecodeUptoCardSaid : Prop := Claim7.holds Tryd.pinned (.plain (OpenSpec.upto imageDecodeSpec)) imageDecodeUptoCard
end Rows
end Go.Proofs.YthmfaafpdogpdabDoor
