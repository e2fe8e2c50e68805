/-
  Stage 9, regtype: chapter 2's calls, by the program and by the document.
-/
import Derived.Test.YtbbpbfbifgfjdaaSSets
import Derived.Test.YtbbpbfbifgfjdaaSRefJ
import Derived.Test.YtbbpbfbifgfjdaaSRefW
import Derived.Test.YtbbpbfbifgfjdaaRMathB
namespace Go.Proofs.Ytbbpbfbifgfjdaa
namespace R
open Go.RowKit

set_option maxHeartbeats 400000 in
theorem refHas_any (a b n : Int) (w : World) :
    Calls Try.prog 58 #[.agg #[.int .u64 a, .int .u64 b], .int .u64 n] w fun x w' => x = .returned (.bool (hasN a b n)) ∧ Gr w w' := by
  go_enter Try.func58, Try.ntmps58
  go_wp2
  all_goals
    go_ret
    refine ⟨ret_bool (by unfold hasN; simp_all <;> omega), ?_⟩
    repeat (first | exact Gr.refl _ | refine Gr.alloc ?_ _ | refine Gr.grow ?_ _ | refine Gr.drew ?_)
set_option maxHeartbeats 400000 in
theorem refUnder_any (a b c d : Int) (w : World) :
    Calls Try.prog 54 #[.agg #[.int .u64 a, .int .u64 b], .agg #[.int .u64 c, .int .u64 d]] w fun x w' => x = .returned (.bool (inB a b c d)) ∧ Gr w w' := by
  go_enter Try.func54, Try.ntmps54
  go_wp2_with (go_at_call 65; refine (refEmpty_any _ _ _).mono ?_; rintro x w' ⟨rfl, rfl⟩)
  all_goals
    go_ret
    refine ⟨ret_bool (by unfold inB; simp_all <;> omega), ?_⟩
    repeat (first | exact Gr.refl _ | refine Gr.alloc ?_ _ | refine Gr.grow ?_ _ | refine Gr.drew ?_)
theorem Has_gr (a b n : Int) (w : World) : Calls Try.prog 30 #[.agg #[.int .u64 a, .int .u64 b], .int .u64 n] w fun x w' => x = .returned (.bool (hasN a b n)) ∧ Gr w w' :=
  (Has_any a b n w).mono fun x w' h => ⟨h.1, by rw [← h.2]; exact ((Gr.refl w).alloc _).alloc _⟩
end R
end Go.Proofs.Ytbbpbfbifgfjdaa
