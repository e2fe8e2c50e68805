/-
  Stage 9, regtype: chapter 2's calls, by the program and by the document.
-/
import Derived.Test.YtihminokipepcabSSets
import Derived.Test.YtihminokipepcabSRefJ
import Derived.Test.YtihminokipepcabSRefW
import Derived.Test.YtihminokipepcabRMathB
namespace Go.Proofs.Ytihminokipepcab
namespace R
open Go.RowKit

set_option maxHeartbeats 400000 in
theorem refUnder_any (a b c d : Int) (w : World) :
    Calls Try.prog 32 #[.agg #[.int .u64 a, .int .u64 b], .agg #[.int .u64 c, .int .u64 d]] w fun x w' => x = .returned (.bool (inB a b c d)) ∧ Gr w w' := by
  go_enter Try.func32, Try.ntmps32
  go_wp2_with (go_at_call 43; refine (refEmpty_any _ _ _).mono ?_; rintro x w' ⟨rfl, rfl⟩)
  all_goals
    go_ret
    refine ⟨ret_bool (by unfold inB; simp_all <;> omega), ?_⟩
    repeat (first | exact Gr.refl _ | refine Gr.alloc ?_ _ | refine Gr.grow ?_ _ | refine Gr.drew ?_)
end R
end Go.Proofs.Ytihminokipepcab
