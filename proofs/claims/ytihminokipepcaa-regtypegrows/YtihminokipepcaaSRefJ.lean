/-
  Stage 2, span: the document's own Empty, None, Join; a comparison.
-/
import Derived.Test.YtihminokipepcaaSCaps
namespace Go.Proofs.Ytihminokipepcaa
open Go.RowKit

theorem told_j (a b c d : Int) : jHi a b c d < jLo a b c d → jLo a b c d = 1 ∧ jHi a b c d = 0 := by
  unfold jLo jHi tLo tHi; (repeat' split) <;> omega
theorem told_m (a b c d : Int) : mHi a b c d < mLo a b c d → mLo a b c d = 1 ∧ mHi a b c d = 0 := by
  unfold mLo mHi tLo tHi; (repeat' split) <;> omega
theorem told_w (a b c d : Int) : wHi a b c d < wLo a b c d → wLo a b c d = 1 ∧ wHi a b c d = 0 := by
  unfold wLo wHi tLo tHi; (repeat' split) <;> omega
end Go.Proofs.Ytihminokipepcaa
