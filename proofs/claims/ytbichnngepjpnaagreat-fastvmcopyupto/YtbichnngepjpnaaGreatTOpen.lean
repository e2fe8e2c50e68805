import Derived.Test.YtbichnngepjpnaaGreatRows
import Derived.Test.YtbichnngepjpnaaGreatTNew
import Derived.ProofKit
import Derived.OpenShut
import Derived.ChangeOld
import Derived.Deep.Slices
/-
  Stage 6, tagmem: what the statements' rows ask of the program; numbers and texts that came in.
-/
namespace Go.Proofs.YtbichnngepjpnaaGreat
open Go.ChangeShapes Go.WideShapes Go.ChangeAt Go.RowKit Go.Deep

theorem own : ownKnob Tryz.prog.godebug = none := by kernel_rfl
theorem laidOut : laidOutB Tryz.prog = true := by kernel_rfl
end Go.Proofs.YtbichnngepjpnaaGreat
