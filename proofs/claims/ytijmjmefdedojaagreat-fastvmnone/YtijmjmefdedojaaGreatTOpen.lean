/-
  Stage 6, tagmem: what the statements' rows ask of the program; numbers and texts that came in.
-/
import Derived.Test.YtijmjmefdedojaaGreatRows
import Derived.Test.YtijmjmefdedojaaGreatTNew
import Derived.ProofKit
import Derived.OpenShut
import Derived.ChangeOld
import Derived.Deep.Slices
namespace Go.Proofs.YtijmjmefdedojaaGreat
open Go.ChangeShapes Go.WideShapes Go.ChangeAt Go.RowKit Go.Deep

theorem own : ownKnob Tryz.prog.godebug = none := by kernel_rfl
theorem laidOut : laidOutB Tryz.prog = true := by kernel_rfl
end Go.Proofs.YtijmjmefdedojaaGreat
