/-
  Stage 9, regtype: the document's Widen.
-/
import Derived.Test.YtihminokipepcaaRRefU
namespace Go.Proofs.Ytihminokipepcaa
namespace R
open Go.RowKit

end R
end Go.Proofs.Ytihminokipepcaa
