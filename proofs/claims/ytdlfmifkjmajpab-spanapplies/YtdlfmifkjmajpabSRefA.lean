/-
  Stage 2, span: the document's own Apply: of empty ones, of what is no operation, of one number each.
-/
import Derived.Test.YtdlfmifkjmajpabSRefV
import Derived.Test.YtdlfmifkjmajpabSFill
import Derived.Test.YtdlfmifkjmajpabSNum
namespace Go.Proofs.Ytdlfmifkjmajpab
open Go.RowKit

set_option maxHeartbeats 2000000 in
theorem refApply_e1 (op a b c d : Int) (w : World) (h2 : b < a) :
    Calls Try.prog 17 #[.int .u8 op, .agg #[.int .u64 a, .int .u64 b], .agg #[.int .u64 c, .int .u64 d]] w fun x w' => x = .returned (.agg #[.int .u64 1, .int .u64 0]) ∧ Gr w w' := by
  have d1 : decide (b < a) = true := by simp; omega
  go_enter Try.func17, Try.ntmps17
  go_wp2_with (first | (go_at_call 27; refine (refEmpty_any _ _ _).mono ?_; rintro x w' ⟨rfl, rfl⟩) | (go_at_call 28; refine (refNone_any _).mono ?_; rintro x w' ⟨rfl, rfl⟩) | (go_at_call 34; refine (refOne_any _ _ _).mono ?_; rintro x w' ⟨rfl, rfl⟩))
  all_goals
    simp [bodyPost, results, Try.results17, go_sem, *]
    try (repeat (first | exact Gr.refl _ | refine Gr.alloc ?_ _ | refine Gr.grow ?_ _ | refine Gr.drew ?_))

set_option maxHeartbeats 2000000 in
theorem refApply_e2 (op a b c d : Int) (w : World) (h2 : a ≤ b) (h3 : d < c) :
    Calls Try.prog 17 #[.int .u8 op, .agg #[.int .u64 a, .int .u64 b], .agg #[.int .u64 c, .int .u64 d]] w fun x w' => x = .returned (.agg #[.int .u64 1, .int .u64 0]) ∧ Gr w w' := by
  have d1 : decide (b < a) = false := by simp; omega
  have d2 : decide (d < c) = true := by simp; omega
  go_enter Try.func17, Try.ntmps17
  go_wp2_with (first | (go_at_call 27; refine (refEmpty_any _ _ _).mono ?_; rintro x w' ⟨rfl, rfl⟩) | (go_at_call 28; refine (refNone_any _).mono ?_; rintro x w' ⟨rfl, rfl⟩) | (go_at_call 34; refine (refOne_any _ _ _).mono ?_; rintro x w' ⟨rfl, rfl⟩))
  all_goals
    simp [bodyPost, results, Try.results17, go_sem, *]
    try (repeat (first | exact Gr.refl _ | refine Gr.alloc ?_ _ | refine Gr.grow ?_ _ | refine Gr.drew ?_))

set_option maxHeartbeats 400000 in
theorem refNumNo_any (op p q : Int) (w : World) (n3 : (op == 3) = false) (n4 : (op == 4) = false) (n5 : (op == 5) = false) (n6 : (op == 6) = false) (n7 : (op == 7) = false) (n8 : (op == 8) = false) (n9 : (op == 9) = false) (n10 : (op == 10) = false) (n12 : (op == 12) = false) (n13 : (op == 13) = false) :
    Calls Try.prog 32 #[.int .u8 op, .int .u64 p, .int .u64 q] w fun x w' => x = .returned (.tuple #[.int .u64 0, .bool false]) ∧ w = w' := by
  go_enter Try.func32, Try.ntmps32
  go_wp2
  simp [bodyPost, results, Try.results32, go_sem]

set_option maxHeartbeats 2000000 in
theorem refApply_n (op a b c d : Int) (w : World) (h2 : a ≤ b) (h3 : c ≤ d) (n3 : (op == 3) = false) (n4 : (op == 4) = false) (n5 : (op == 5) = false) (n6 : (op == 6) = false) (n7 : (op == 7) = false) (n8 : (op == 8) = false) (n9 : (op == 9) = false) (n10 : (op == 10) = false) (n12 : (op == 12) = false) (n13 : (op == 13) = false) :
    Calls Try.prog 17 #[.int .u8 op, .agg #[.int .u64 a, .int .u64 b], .agg #[.int .u64 c, .int .u64 d]] w fun x w' => x = .returned (.agg #[.int .u64 0, .int .u64 18446744073709551615]) ∧ Gr w w' := by
  have d1 : decide (b < a) = false := by simp; omega
  have d2 : decide (d < c) = false := by simp; omega
  have hn := fun w => refNumNo_any op a c w n3 n4 n5 n6 n7 n8 n9 n10 n12 n13
  go_enter Try.func17, Try.ntmps17
  go_wp2_with (first | (go_at_call 32; refine (hn _).mono ?_; rintro x w' ⟨rfl, rfl⟩) | (go_at_call 33; refine (refFull_any _).mono ?_; rintro x w' ⟨rfl, rfl⟩) | (go_at_call 27; refine (refEmpty_any _ _ _).mono ?_; rintro x w' ⟨rfl, rfl⟩) | (go_at_call 28; refine (refNone_any _).mono ?_; rintro x w' ⟨rfl, rfl⟩) | (go_at_call 34; refine (refOne_any _ _ _).mono ?_; rintro x w' ⟨rfl, rfl⟩))
  all_goals
    simp [bodyPost, results, Try.results17, go_sem, *]
    try (repeat (first | exact Gr.refl _ | refine Gr.alloc ?_ _ | refine Gr.grow ?_ _ | refine Gr.drew ?_))

set_option maxHeartbeats 2000000 in
theorem refApply_o (op a c : Int) (w : World) (ho : isOp op = true) (hc : 0 ≤ c) :
    Calls Try.prog 17 #[.int .u8 op, .agg #[.int .u64 a, .int .u64 a], .agg #[.int .u64 c, .int .u64 c]] w fun x w' => x = .returned (.agg #[.int .u64 (one op a c), .int .u64 (one op a c)]) ∧ Gr w w' := by
  have hn := fun w => refNum_any op a c w ho hc
  generalize one op a c = v at hn ⊢
  clear ho hc
  go_enter Try.func17, Try.ntmps17
  go_wp2_with (first | (go_at_call 32; refine (hn _).mono ?_; rintro x w' ⟨rfl, rfl⟩) | (go_at_call 35; refine (refOf_any _ _).mono ?_; rintro x w' ⟨rfl, rfl⟩) | (go_at_call 27; refine (refEmpty_any _ _ _).mono ?_; rintro x w' ⟨rfl, rfl⟩) | (go_at_call 28; refine (refNone_any _).mono ?_; rintro x w' ⟨rfl, rfl⟩) | (go_at_call 34; refine (refOne_any _ _ _).mono ?_; rintro x w' ⟨rfl, rfl⟩))
  all_goals
    simp [bodyPost, results, Try.results17, go_sem, *]
    try (repeat (first | exact Gr.refl _ | refine Gr.alloc ?_ _ | refine Gr.grow ?_ _ | refine Gr.drew ?_))

end Go.Proofs.Ytdlfmifkjmajpab
