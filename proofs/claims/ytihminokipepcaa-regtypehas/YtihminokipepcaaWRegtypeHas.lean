/-
  Stage 9, regtype: RegtypeHas, with the program's calls.
-/
import Derived.Test.YtihminokipepcaaWRHas
import Derived.Test.YtihminokipepcaaRProM
import Derived.Test.YtihminokipepcaaRProH
namespace Go.Proofs.Ytihminokipepcaa
namespace R
open Go.RowKit

theorem walk_RegtypeHas (a : RT) (v : Vv) (w : World) (ha : a.Rng) (hv : v.Rng) : Calls Try.prog 6 #[.agg a.vals.toArray, .agg v.vals.toArray] w fun x w' => x = .returned (.bool true) ∧ Gr w w' :=
  has_law pInt_any pJoin_any pHas_any a v w ha hv
end R
end Go.Proofs.Ytihminokipepcaa
