import Derived.Test.YtimiofkiadlnbaaRows
import Derived.Test.YtimiofkiadlnbaaTNew
import Derived.ProofKit
import Derived.OpenShut
import Derived.ChangeOld
import Derived.Deep.Slices
/-
  Stage 6, tagmem: what the statements' rows ask of the program; numbers and texts that came in.
-/
namespace Go.Proofs.Ytimiofkiadlnbaa
open Go.ChangeShapes Go.WideShapes Go.ChangeAt Go.RowKit Go.Deep

theorem own : ownKnob Try.prog.godebug = none := by kernel_rfl
theorem laidOut : laidOutB Try.prog = true := by kernel_rfl
end Go.Proofs.Ytimiofkiadlnbaa
