/-
  Stage 3, instr: Right.
-/
import Derived.Test.YtjmknpkmbghgdaaIField
namespace Go.Proofs.Ytjmknpkmbghgdaa
open Go.RowKit

theorem str_list (l : List UInt8) : (str l).toList = l := by
  rw [ByteArray.toList_eq]; rfl
end Go.Proofs.Ytjmknpkmbghgdaa
