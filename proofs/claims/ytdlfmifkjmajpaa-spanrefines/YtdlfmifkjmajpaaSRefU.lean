/-
  Stage 2, span: the document's own Refine of BNE.
-/
import Derived.Test.YtdlfmifkjmajpaaSRefR
namespace Go.Proofs.Ytdlfmifkjmajpaa
open Go.RowKit

set_option maxHeartbeats 4000000 in
theorem refRefine_22n (n : Int) (w : World) :
    Calls Try.prog 22 #[.int .u8 22, .agg #[.int .u64 n, .int .u64 n], .agg #[.int .u64 n, .int .u64 n]] w fun x w' => x = .returned (.tuple #[.agg #[.int .u64 1, .int .u64 0], .agg #[.int .u64 1, .int .u64 0], .bool false]) ∧ Gr w w' := by
  go_enter Try.func22, Try.ntmps22
  go_wp2_with (first | (go_at_call 32; refine (refEmpty_any _ _ _).mono ?_; rintro x w' ⟨rfl, rfl⟩) | (go_at_call 40; refine (refNone_any _).mono ?_; rintro x w' ⟨rfl, rfl⟩) | (go_at_call 41; refine (refOne_any _ _ _).mono ?_; rintro x w' ⟨rfl, rfl⟩))
  simp [bodyPost, results, Try.results22, go_sem]
  repeat (first | exact Gr.refl _ | refine Gr.alloc ?_ _ | refine Gr.grow ?_ _ | refine Gr.drew ?_)

set_option maxHeartbeats 4000000 in
theorem refRefine_22ff (a b c d : Int) (w : World) (h2 : a ≤ b) (h3 : c ≤ d) (e1 : (a == b) = false) (e2 : (c == d) = false) :
    Calls Try.prog 22 #[.int .u8 22, .agg #[.int .u64 a, .int .u64 b], .agg #[.int .u64 c, .int .u64 d]] w fun x w' => x = .returned (.tuple #[.agg #[.int .u64 a, .int .u64 b], .agg #[.int .u64 c, .int .u64 d], .bool true]) ∧ Gr w w' := by
  have d1 : decide (b < a) = false := by simp; omega
  have d2 : decide (d < c) = false := by simp; omega
  go_enter Try.func22, Try.ntmps22
  go_wp2_with (first | (go_at_call 32; refine (refEmpty_any _ _ _).mono ?_; rintro x w' ⟨rfl, rfl⟩) | (go_at_call 40; refine (refNone_any _).mono ?_; rintro x w' ⟨rfl, rfl⟩) | (go_at_call 41; refine (refOne_any _ _ _).mono ?_; rintro x w' ⟨rfl, rfl⟩))
  go_region
  all_goals
    go_wp2
    simp [bodyPost, results, Try.results22, go_sem]
    repeat (first | exact Gr.refl _ | refine Gr.alloc ?_ _ | refine Gr.grow ?_ _ | refine Gr.drew ?_)

set_option maxHeartbeats 4000000 in
theorem refRefine_22tf (a c d : Int) (w : World) (h3 : c ≤ d) (e2 : (c == d) = false) (k2 : Hid (W64 c ∧ W64 d ∧ c ≤ d ∧ ¬ (c = a ∧ d = a))) :
    Calls Try.prog 22 #[.int .u8 22, .agg #[.int .u64 a, .int .u64 a], .agg #[.int .u64 c, .int .u64 d]] w fun x w' => x = .returned (.tuple #[.agg #[.int .u64 a, .int .u64 a], .agg #[.int .u64 (woLo c d a a), .int .u64 (woHi c d a a)], .bool true]) ∧ Gr w w' := by
  have d2 : decide (d < c) = false := by simp; omega
  go_enter Try.func22, Try.ntmps22
  go_wp2_with (first | (go_at_call 43; refine (refBut_y _ _ _ _ (by assumption)).mono ?_; rintro x w' ⟨rfl, rfl⟩) | (go_at_call 32; refine (refEmpty_any _ _ _).mono ?_; rintro x w' ⟨rfl, rfl⟩) | (go_at_call 40; refine (refNone_any _).mono ?_; rintro x w' ⟨rfl, rfl⟩) | (go_at_call 41; refine (refOne_any _ _ _).mono ?_; rintro x w' ⟨rfl, rfl⟩))
  go_region
  all_goals
    go_wp2
    simp [bodyPost, results, Try.results22, go_sem]
    repeat (first | exact Gr.refl _ | refine Gr.alloc ?_ _ | refine Gr.grow ?_ _ | refine Gr.drew ?_)

set_option maxHeartbeats 4000000 in
theorem refRefine_22ft (a b c : Int) (w : World) (h2 : a ≤ b) (e1 : (a == b) = false) (k1 : Hid (W64 a ∧ W64 b ∧ a ≤ b ∧ ¬ (a = c ∧ b = c))) :
    Calls Try.prog 22 #[.int .u8 22, .agg #[.int .u64 a, .int .u64 b], .agg #[.int .u64 c, .int .u64 c]] w fun x w' => x = .returned (.tuple #[.agg #[.int .u64 (woLo a b c c), .int .u64 (woHi a b c c)], .agg #[.int .u64 c, .int .u64 c], .bool true]) ∧ Gr w w' := by
  have d1 : decide (b < a) = false := by simp; omega
  go_enter Try.func22, Try.ntmps22
  go_wp2_with (first | (go_at_call 43; refine (refBut_y _ _ _ _ (by assumption)).mono ?_; rintro x w' ⟨rfl, rfl⟩) | (go_at_call 32; refine (refEmpty_any _ _ _).mono ?_; rintro x w' ⟨rfl, rfl⟩) | (go_at_call 40; refine (refNone_any _).mono ?_; rintro x w' ⟨rfl, rfl⟩) | (go_at_call 41; refine (refOne_any _ _ _).mono ?_; rintro x w' ⟨rfl, rfl⟩))
  go_region
  all_goals
    go_wp2
    simp [bodyPost, results, Try.results22, go_sem]
    repeat (first | exact Gr.refl _ | refine Gr.alloc ?_ _ | refine Gr.grow ?_ _ | refine Gr.drew ?_)

set_option maxHeartbeats 4000000 in
theorem refRefine_22tt (a c : Int) (w : World) (e1 : (a == c) = false) (k1 : Hid (W64 a ∧ W64 a ∧ a ≤ a ∧ ¬ (a = c ∧ a = c))) (k2 : Hid (W64 c ∧ W64 c ∧ c ≤ c ∧ ¬ (c = a ∧ c = a))) :
    Calls Try.prog 22 #[.int .u8 22, .agg #[.int .u64 a, .int .u64 a], .agg #[.int .u64 c, .int .u64 c]] w fun x w' => x = .returned (.tuple #[.agg #[.int .u64 (woLo a a c c), .int .u64 (woHi a a c c)], .agg #[.int .u64 (woLo c c a a), .int .u64 (woHi c c a a)], .bool true]) ∧ Gr w w' := by
  go_enter Try.func22, Try.ntmps22
  go_wp2_with (first | (go_at_call 43; refine (refBut_y _ _ _ _ (by assumption)).mono ?_; rintro x w' ⟨rfl, rfl⟩) | (go_at_call 32; refine (refEmpty_any _ _ _).mono ?_; rintro x w' ⟨rfl, rfl⟩) | (go_at_call 40; refine (refNone_any _).mono ?_; rintro x w' ⟨rfl, rfl⟩) | (go_at_call 41; refine (refOne_any _ _ _).mono ?_; rintro x w' ⟨rfl, rfl⟩))
  go_region
  all_goals
    go_wp2
    simp [bodyPost, results, Try.results22, go_sem]
    repeat (first | exact Gr.refl _ | refine Gr.alloc ?_ _ | refine Gr.grow ?_ _ | refine Gr.drew ?_)

end Go.Proofs.Ytdlfmifkjmajpaa
