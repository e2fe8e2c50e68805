/-
  Stage 2, span: the document's own Empty, None, Join; a comparison.
-/
import Derived.Test.YtbbpbfbifgfjdaaSCaps
namespace Go.Proofs.Ytbbpbfbifgfjdaa
open Go.RowKit

set_option maxHeartbeats 400000 in
theorem refEmpty_any (a b : Int) (w : World) :
    Calls Try.prog 65 #[.agg #[.int .u64 a, .int .u64 b]] w fun x w' => x = .returned (.bool (decide (b < a))) ∧ w.alloc (.cells #[.int .u64 a, .int .u64 b] 25) = w' := by
  go_enter Try.func65, Try.ntmps65
  go_wp2
  go_ret
  exact ⟨rfl, rfl⟩

set_option maxHeartbeats 400000 in
theorem refNone_any  (w : World) :
    Calls Try.prog 71 #[] w fun x w' => x = .returned (.agg #[.int .u64 1, .int .u64 0]) ∧ w.alloc (.cells #[.int .u64 1, .int .u64 0] 25) = w' := by
  go_enter Try.func71, Try.ntmps71
  go_wp2
  simp [bodyPost, results, Try.results71, go_sem]

set_option maxHeartbeats 1000000 in
theorem refJoin_any (a b c d : Int) (w : World) :
    Calls Try.prog 70 #[.agg #[.int .u64 a, .int .u64 b], .agg #[.int .u64 c, .int .u64 d]] w fun x w' => x = .returned (.agg #[.int .u64 (jLo a b c d), .int .u64 (jHi a b c d)]) ∧ Gr w w' := by
  go_enter Try.func70, Try.ntmps70
  go_wp2_with (first | (go_at_call 65; refine (refEmpty_any _ _ _).mono ?_; rintro x w' ⟨rfl, rfl⟩) | (go_at_call 71; refine (refNone_any _).mono ?_; rintro x w' ⟨rfl, rfl⟩))
  all_goals
    simp [bodyPost, results, Try.results70, go_sem]
    refine ⟨by unfold jLo jHi tLo tHi joinLo joinHi; constructor <;> (repeat' split) <;> omega, ?_⟩
    repeat (first | exact Gr.refl _ | refine Gr.alloc ?_ _ | refine Gr.grow ?_ _ | refine Gr.drew ?_)

theorem told_j (a b c d : Int) : jHi a b c d < jLo a b c d → jLo a b c d = 1 ∧ jHi a b c d = 0 := by
  unfold jLo jHi tLo tHi; (repeat' split) <;> omega
theorem told_m (a b c d : Int) : mHi a b c d < mLo a b c d → mLo a b c d = 1 ∧ mHi a b c d = 0 := by
  unfold mLo mHi tLo tHi; (repeat' split) <;> omega
theorem told_w (a b c d : Int) : wHi a b c d < wLo a b c d → wLo a b c d = 1 ∧ wHi a b c d = 0 := by
  unfold wLo wHi tLo tHi; (repeat' split) <;> omega
end Go.Proofs.Ytbbpbfbifgfjdaa
