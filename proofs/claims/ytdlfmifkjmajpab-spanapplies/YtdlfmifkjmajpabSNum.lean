/-
  Stage 2, span: what an operation is on two numbers, by the document.
-/
import Derived.Test.YtdlfmifkjmajpabSCaps
import Derived.Laws.Shifts
namespace Go.Proofs.Ytdlfmifkjmajpab
open Go.RowKit

set_option maxHeartbeats 400000 in
theorem refNum3_any (p q : Int) (w : World) :
    Calls Try.prog 32 #[.int .u8 3, .int .u64 p, .int .u64 q] w fun x w' => x = .returned (.tuple #[.int .u64 (one 3 p q), .bool true]) ∧ w = w' := by
  go_enter Try.func32, Try.ntmps32
  go_wp2
  simp [bodyPost, results, Try.results32, go_sem, one, IntKind.wrap_u64]

set_option maxHeartbeats 400000 in
theorem refNum4_any (p q : Int) (w : World) :
    Calls Try.prog 32 #[.int .u8 4, .int .u64 p, .int .u64 q] w fun x w' => x = .returned (.tuple #[.int .u64 (one 4 p q), .bool true]) ∧ w = w' := by
  go_enter Try.func32, Try.ntmps32
  go_wp2
  simp [bodyPost, results, Try.results32, go_sem, one, IntKind.wrap_u64]

set_option maxHeartbeats 400000 in
theorem refNum5_any (p q : Int) (w : World) :
    Calls Try.prog 32 #[.int .u8 5, .int .u64 p, .int .u64 q] w fun x w' => x = .returned (.tuple #[.int .u64 (one 5 p q), .bool true]) ∧ w = w' := by
  go_enter Try.func32, Try.ntmps32
  go_wp2
  simp [bodyPost, results, Try.results32, go_sem, one, IntKind.wrap_u64]

set_option maxHeartbeats 400000 in
theorem refNum6_any (p q : Int) (w : World) :
    Calls Try.prog 32 #[.int .u8 6, .int .u64 p, .int .u64 q] w fun x w' => x = .returned (.tuple #[.int .u64 (one 6 p q), .bool true]) ∧ w = w' := by
  go_enter Try.func32, Try.ntmps32
  go_wp2
  simp [bodyPost, results, Try.results32, go_sem, one]

set_option maxHeartbeats 400000 in
theorem refNum7_any (p q : Int) (w : World) :
    Calls Try.prog 32 #[.int .u8 7, .int .u64 p, .int .u64 q] w fun x w' => x = .returned (.tuple #[.int .u64 (one 7 p q), .bool true]) ∧ w = w' := by
  go_enter Try.func32, Try.ntmps32
  go_wp2
  simp [bodyPost, results, Try.results32, go_sem, one]

set_option maxHeartbeats 400000 in
theorem refNum8_any (p q : Int) (w : World) :
    Calls Try.prog 32 #[.int .u8 8, .int .u64 p, .int .u64 q] w fun x w' => x = .returned (.tuple #[.int .u64 (one 8 p q), .bool true]) ∧ w = w' := by
  go_enter Try.func32, Try.ntmps32
  go_wp2
  simp [bodyPost, results, Try.results32, go_sem, one]

set_option maxHeartbeats 400000 in
theorem refNum9_any (p q : Int) (w : World) (h0 : 0 ≤ q) :
    Calls Try.prog 32 #[.int .u8 9, .int .u64 p, .int .u64 q] w fun x w' => x = .returned (.tuple #[.int .u64 (one 9 p q), .bool true]) ∧ w = w' := by
  have hm : q.tmod 64 = q % 64 := Int.tmod_eq_emod_of_nonneg h0
  have h1 : 0 ≤ q % 64 := by omega
  have h2 : q % 64 ≤ 64 := by omega
  go_enter Try.func32, Try.ntmps32
  go_wp2
  simp [bodyPost, results, Try.results32, go_sem, one, IntKind.wrap_u64]
  try (rw [show min (q % 64).toNat 64 = (q % 64).toNat by omega])

set_option maxHeartbeats 400000 in
theorem refNum10_any (p q : Int) (w : World) (h0 : 0 ≤ q) :
    Calls Try.prog 32 #[.int .u8 10, .int .u64 p, .int .u64 q] w fun x w' => x = .returned (.tuple #[.int .u64 (one 10 p q), .bool true]) ∧ w = w' := by
  have hm : q.tmod 64 = q % 64 := Int.tmod_eq_emod_of_nonneg h0
  have h1 : 0 ≤ q % 64 := by omega
  have h2 : q % 64 ≤ 64 := by omega
  go_enter Try.func32, Try.ntmps32
  go_wp2
  simp [bodyPost, results, Try.results32, go_sem, one]
  try (rw [show min (q % 64).toNat 64 = (q % 64).toNat by omega])

set_option maxHeartbeats 400000 in
theorem refNum12_any (p q : Int) (w : World) :
    Calls Try.prog 32 #[.int .u8 12, .int .u64 p, .int .u64 q] w fun x w' => x = .returned (.tuple #[.int .u64 (one 12 p q), .bool true]) ∧ w = w' := by
  by_cases h : p < q
  · rw [show one 12 p q = 1 by simp [one, truth, h]]
    have hb := decide_eq_true h
    go_enter Try.func32, Try.ntmps32
    go_wp2
    all_goals simp [bodyPost, results, Try.results32, go_sem]
  · rw [show one 12 p q = 0 by simp [one, truth, h]]
    have hb := decide_eq_false h
    go_enter Try.func32, Try.ntmps32
    go_wp2
    all_goals simp [bodyPost, results, Try.results32, go_sem]

set_option maxHeartbeats 400000 in
theorem refNum13_any (p q : Int) (w : World) :
    Calls Try.prog 32 #[.int .u8 13, .int .u64 p, .int .u64 q] w fun x w' => x = .returned (.tuple #[.int .u64 (one 13 p q), .bool true]) ∧ w = w' := by
  by_cases h : p = q
  · rw [show one 13 p q = 1 by simp [one, truth, h]]
    subst h
    go_enter Try.func32, Try.ntmps32
    go_wp2
    all_goals simp [bodyPost, results, Try.results32, go_sem]
  · rw [show one 13 p q = 0 by simp [one, truth, h]]
    have hb : (p == q) = false := by simp [h]
    go_enter Try.func32, Try.ntmps32
    go_wp2
    all_goals simp [bodyPost, results, Try.results32, go_sem]

theorem refNum_any (op p q : Int) (w : World) (ho : isOp op = true) (hq : 0 ≤ q) :
    Calls Try.prog 32 #[.int .u8 op, .int .u64 p, .int .u64 q] w fun x w' => x = .returned (.tuple #[.int .u64 (one op p q), .bool true]) ∧ w = w' := by
  have t : op = 3 ∨ op = 4 ∨ op = 5 ∨ op = 6 ∨ op = 7 ∨ op = 8 ∨ op = 9 ∨ op = 10 ∨ op = 12 ∨ op = 13 := by simp [isOp] at ho; omega
  rcases t with rfl | rfl | rfl | rfl | rfl | rfl | rfl | rfl | rfl | rfl
  · exact refNum3_any p q w
  · exact refNum4_any p q w
  · exact refNum5_any p q w
  · exact refNum6_any p q w
  · exact refNum7_any p q w
  · exact refNum8_any p q w
  · exact refNum9_any p q w hq
  · exact refNum10_any p q w hq
  · exact refNum12_any p q w
  · exact refNum13_any p q w
end Go.Proofs.Ytdlfmifkjmajpab
