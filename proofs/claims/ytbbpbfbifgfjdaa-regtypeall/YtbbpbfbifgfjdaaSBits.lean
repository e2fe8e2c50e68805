/-
  Stage 2, span: the library's Add64, Sub64, Mul64 and Len64 at this program: the library's contracts, laid by hand.
-/
import Derived.Test.YtbbpbfbifgfjdaaChecked
import Derived.Shelf.Spec.BitsCarry
import Derived.Shelf.Bits.Mul64
import Derived.Shelf.Strconv.Itoa0
namespace Go.Proofs.Ytbbpbfbifgfjdaa
open Go.RowKit Go.Shelf

/-- What is borrowed. -/
def bor (x y : Int) : Int := if x < y then 1 else 0
end Go.Proofs.Ytbbpbfbifgfjdaa
