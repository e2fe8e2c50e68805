import Derived.Test.YtimiofkiadlnbaaTBase
import Derived.Shelf.Strings.Builder2
import Derived.Shelf.Spec.BuilderWrite
/-
  Stage 6, tagmem: the library's strings.Builder at this program: its contracts, laid by hand.
-/
namespace Go.Proofs.Ytimiofkiadlnbaa
namespace T
open Go.RowKit Go.Shelf

end T
end Go.Proofs.Ytimiofkiadlnbaa
