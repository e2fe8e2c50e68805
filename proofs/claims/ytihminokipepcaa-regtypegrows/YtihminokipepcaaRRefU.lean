/-
  Stage 9, regtype: the document's Under.
-/
import Derived.Test.YtihminokipepcaaRRef
namespace Go.Proofs.Ytihminokipepcaa
namespace R
open Go.RowKit

end R
end Go.Proofs.Ytihminokipepcaa
