/-
  Stage 9, regtype: chapter 2's calls, by the program and by the document.
-/
import Derived.Test.YtihminokipepcaaSSets
import Derived.Test.YtihminokipepcaaSRefJ
import Derived.Test.YtihminokipepcaaSRefW
import Derived.Test.YtihminokipepcaaRMathB
namespace Go.Proofs.Ytihminokipepcaa
namespace R
open Go.RowKit

set_option maxHeartbeats 400000 in
theorem refHas_any (a b n : Int) (w : World) :
    Calls Try.prog 28 #[.agg #[.int .u64 a, .int .u64 b], .int .u64 n] w fun x w' => x = .returned (.bool (hasN a b n)) ∧ Gr w w' := by
  go_enter Try.func28, Try.ntmps28
  go_wp2
  all_goals
    go_ret
    refine ⟨ret_bool (by unfold hasN; simp_all <;> omega), ?_⟩
    repeat (first | exact Gr.refl _ | refine Gr.alloc ?_ _ | refine Gr.grow ?_ _ | refine Gr.drew ?_)
theorem Has_gr (a b n : Int) (w : World) : Calls Try.prog 25 #[.agg #[.int .u64 a, .int .u64 b], .int .u64 n] w fun x w' => x = .returned (.bool (hasN a b n)) ∧ Gr w w' :=
  (Has_any a b n w).mono fun x w' h => ⟨h.1, by rw [← h.2]; exact ((Gr.refl w).alloc _).alloc _⟩
end R
end Go.Proofs.Ytihminokipepcaa
