/-
  Stage 9, regtype: RegtypeOrder, with the program's calls.
-/
import Derived.Test.YtihminokipepcaaWROrder
import Derived.Test.YtihminokipepcaaRProM
import Derived.Test.YtihminokipepcaaRProH
import Derived.Test.YtihminokipepcaaRNum
namespace Go.Proofs.Ytihminokipepcaa
namespace R
open Go.RowKit

theorem walk_RegtypeOrder (a b c : RT) (w : World) (ha : a.Rng) (hb : b.Rng) (hc : c.Rng) : Calls Try.prog 3 #[.agg a.vals.toArray, .agg b.vals.toArray, .agg c.vals.toArray] w fun x w' => x = .returned (.bool true) ∧ Gr w w' :=
  order_any pInt_any pUnder_any pJoin_any a b c w ha hb hc
end R
end Go.Proofs.Ytihminokipepcaa
