/-
  Stage 9, regtype: the document's Join.
-/
import Derived.Test.YtihminokipepcaaRRefU
namespace Go.Proofs.Ytihminokipepcaa
namespace R
open Go.RowKit

end R
end Go.Proofs.Ytihminokipepcaa
