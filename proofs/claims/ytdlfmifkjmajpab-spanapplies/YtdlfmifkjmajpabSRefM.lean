/-
  Stage 2, span: the document's own Meet; is it one number?
-/
import Derived.Test.YtdlfmifkjmajpabSRefJ
namespace Go.Proofs.Ytdlfmifkjmajpab
open Go.RowKit

set_option maxHeartbeats 400000 in
theorem refOne_any (a b : Int) (w : World) :
    Calls Try.prog 34 #[.agg #[.int .u64 a, .int .u64 b]] w fun x w' => x = .returned (.bool (a == b)) ∧ w.alloc (.cells #[.int .u64 a, .int .u64 b] 24) = w' := by
  go_enter Try.func34, Try.ntmps34
  go_wp2
  go_ret
  exact ⟨rfl, rfl⟩

set_option maxHeartbeats 1000000 in
theorem refMeet_any (a b c d : Int) (w : World) :
    Calls Try.prog 12 #[.agg #[.int .u64 a, .int .u64 b], .agg #[.int .u64 c, .int .u64 d]] w fun x w' => x = .returned (.tuple #[.agg #[.int .u64 (mLo a b c d), .int .u64 (mHi a b c d)], .bool (mOk a b c d)]) ∧ Gr w w' := by
  go_enter Try.func12, Try.ntmps12
  go_wp2_with (first | (go_at_call 27; refine (refEmpty_any _ _ _).mono ?_; rintro x w' ⟨rfl, rfl⟩) | (go_at_call 28; refine (refNone_any _).mono ?_; rintro x w' ⟨rfl, rfl⟩))
  all_goals
    simp [bodyPost, results, Try.results12, go_sem]
    refine ⟨by simp only [mLo, mHi, mOk, tLo, tHi, maxI, minI]; refine ⟨⟨?_, ?_⟩, ?_⟩ <;> (repeat' split) <;> first | omega | (simp; omega), ?_⟩
    repeat (first | exact Gr.refl _ | refine Gr.alloc ?_ _ | refine Gr.grow ?_ _ | refine Gr.drew ?_)

end Go.Proofs.Ytdlfmifkjmajpab
