/-
  Stage 2, span: the document's own Refine of BEQ.
-/
import Derived.Test.YtdlfmifkjmajpaaSRefR
namespace Go.Proofs.Ytdlfmifkjmajpaa
open Go.RowKit

set_option maxHeartbeats 4000000 in
theorem refRefine_21 (a b c d : Int) (w : World) (h2 : a ≤ b) (h3 : c ≤ d) (h4 : max a c ≤ min b d) :
    Calls Try.prog 22 #[.int .u8 21, .agg #[.int .u64 a, .int .u64 b], .agg #[.int .u64 c, .int .u64 d]] w fun x w' => x = .returned (.tuple #[.agg #[.int .u64 (max a c), .int .u64 (min b d)], .agg #[.int .u64 (max a c), .int .u64 (min b d)], .bool true]) ∧ Gr w w' := by
  have d1 : decide (b < a) = false := by simp; omega
  have d2 : decide (d < c) = false := by simp; omega
  have hm := fun w => refMeet_t a b c d w h2 h3 h4
  clear h2 h3 h4
  generalize max a c = m1 at hm ⊢
  generalize min b d = m2 at hm ⊢
  go_enter Try.func22, Try.ntmps22
  go_wp2_with (first | (go_at_call 42; refine (hm _).mono ?_; rintro x w' ⟨rfl, rfl⟩) | (go_at_call 32; refine (refEmpty_any _ _ _).mono ?_; rintro x w' ⟨rfl, rfl⟩) | (go_at_call 40; refine (refNone_any _).mono ?_; rintro x w' ⟨rfl, rfl⟩) | (go_at_call 41; refine (refOne_any _ _ _).mono ?_; rintro x w' ⟨rfl, rfl⟩))
  go_region_held3 (fun w' => w'.cell? ⟨w.heap.size + 1 + 1 + 1 + 1 + 1 + 1 + 1 + 1 + 1 + 1 + 1 + 1 + 1 + 1 + 1, 0, none⟩ = some (.int .u64 m1) ∧ w'.cell? ⟨w.heap.size + 1 + 1 + 1 + 1 + 1 + 1 + 1 + 1 + 1 + 1 + 1 + 1 + 1 + 1 + 1, 1, none⟩ = some (.int .u64 m2)) (simp [go_sem]) (first | fail)
  all_goals
    go_wp2
    simp [bodyPost, results, Try.results22, go_sem]
    repeat (first | exact Gr.refl _ | refine Gr.alloc ?_ _ | refine Gr.grow ?_ _ | refine Gr.drew ?_)

set_option maxHeartbeats 4000000 in
theorem refRefine_21n (a b c d : Int) (w : World) (h2 : a ≤ b) (h3 : c ≤ d) (h4 : min b d < max a c) :
    Calls Try.prog 22 #[.int .u8 21, .agg #[.int .u64 a, .int .u64 b], .agg #[.int .u64 c, .int .u64 d]] w fun x w' => x = .returned (.tuple #[.agg #[.int .u64 1, .int .u64 0], .agg #[.int .u64 1, .int .u64 0], .bool false]) ∧ Gr w w' := by
  have d1 : decide (b < a) = false := by simp; omega
  have d2 : decide (d < c) = false := by simp; omega
  have hm := fun w => refMeet_f a b c d w h2 h3 h4
  clear h2 h3 h4
  generalize max a c = m1 at hm
  generalize min b d = m2 at hm
  go_enter Try.func22, Try.ntmps22
  go_wp2_with (first | (go_at_call 42; refine (hm _).mono ?_; rintro x w' ⟨rfl, rfl⟩) | (go_at_call 32; refine (refEmpty_any _ _ _).mono ?_; rintro x w' ⟨rfl, rfl⟩) | (go_at_call 40; refine (refNone_any _).mono ?_; rintro x w' ⟨rfl, rfl⟩) | (go_at_call 41; refine (refOne_any _ _ _).mono ?_; rintro x w' ⟨rfl, rfl⟩))
  go_region_held3 (fun w' => w'.cell? ⟨w.heap.size + 1 + 1 + 1 + 1 + 1 + 1 + 1 + 1 + 1 + 1 + 1 + 1 + 1 + 1 + 1 + 1, 0, none⟩ = some (.int .u64 1) ∧ w'.cell? ⟨w.heap.size + 1 + 1 + 1 + 1 + 1 + 1 + 1 + 1 + 1 + 1 + 1 + 1 + 1 + 1 + 1 + 1, 1, none⟩ = some (.int .u64 0)) (simp [go_sem]) (first | fail)
  all_goals
    go_wp2
    simp [bodyPost, results, Try.results22, go_sem]
    repeat (first | exact Gr.refl _ | refine Gr.alloc ?_ _ | refine Gr.grow ?_ _ | refine Gr.drew ?_)

end Go.Proofs.Ytdlfmifkjmajpaa
