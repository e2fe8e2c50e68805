/-
  Stage 2, span: the document's own Has, Under; calls that end in growth.
-/
import Derived.Test.YtdlfmifkjmajpabSRefM
import Derived.Test.YtdlfmifkjmajpabSHead
namespace Go.Proofs.Ytdlfmifkjmajpab
open Go.RowKit

set_option maxHeartbeats 400000 in
theorem refHas_any (a b n : Int) (w : World) :
    Calls Try.prog 11 #[.agg #[.int .u64 a, .int .u64 b], .int .u64 n] w fun x w' => x = .returned (.bool (hasN a b n)) ∧ w.alloc (.cells #[.int .u64 a, .int .u64 b] 24) = w' := by
  go_enter Try.func11, Try.ntmps11
  go_wp2
  all_goals
    go_ret
    refine ⟨ret_bool (by unfold hasN; simp_all <;> omega), rfl⟩

set_option maxHeartbeats 400000 in
theorem refUnder_any (a b c d : Int) (w : World) :
    Calls Try.prog 13 #[.agg #[.int .u64 a, .int .u64 b], .agg #[.int .u64 c, .int .u64 d]] w fun x w' => x = .returned (.bool (inB a b c d)) ∧ Gr w w' := by
  go_enter Try.func13, Try.ntmps13
  go_wp2_with (go_at_call 27; refine (refEmpty_any _ _ _).mono ?_; rintro x w' ⟨rfl, rfl⟩)
  all_goals
    go_ret
    refine ⟨ret_bool (by unfold inB; simp_all <;> omega), ?_⟩
    repeat (first | exact Gr.refl _ | refine Gr.alloc ?_ _ | refine Gr.grow ?_ _ | refine Gr.drew ?_)

theorem refHas_gr (a b n : Int) (w : World) : Calls Try.prog 11 #[.agg #[.int .u64 a, .int .u64 b], .int .u64 n] w fun x w' => x = .returned (.bool (hasN a b n)) ∧ Gr w w' :=
  (refHas_any a b n w).mono fun x w' h => ⟨h.1, by rw [← h.2]; exact (Gr.refl w).alloc _⟩
theorem Has_gr (a b n : Int) (w : World) : Calls Try.prog 7 #[.agg #[.int .u64 a, .int .u64 b], .int .u64 n] w fun x w' => x = .returned (.bool (hasN a b n)) ∧ Gr w w' :=
  (Has_any a b n w).mono fun x w' h => ⟨h.1, by rw [← h.2]; exact ((Gr.refl w).alloc _).alloc _⟩
theorem Of_gr (n : Int) (w : World) : Calls Try.prog 6 #[.int .u64 n] w fun x w' => x = .returned (.agg #[.int .u64 n, .int .u64 n]) ∧ Gr w w' :=
  (Of_any n w).mono fun x w' h => ⟨h.1, by rw [← h.2]; exact (Gr.refl w).alloc _⟩
end Go.Proofs.Ytdlfmifkjmajpab
