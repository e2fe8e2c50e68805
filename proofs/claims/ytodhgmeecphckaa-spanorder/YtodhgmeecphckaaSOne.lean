/-
  Stage 2, span: what the operations do to two numbers.
-/
import Derived.Test.YtodhgmeecphckaaSCaps
import Derived.Laws.Shifts
namespace Go.Proofs.Ytodhgmeecphckaa
open Go.RowKit

set_option maxHeartbeats 400000 in
theorem truth_any (t : Bool) (w : World) :
    Calls Try.prog 53 #[.bool t] w fun x w' => x = .returned (.int .u64 (truth t)) ∧ w = w' := by
  cases t
  all_goals
    go_enter Try.func53, Try.ntmps53
    go_wp2
    go_ret
    exact ⟨ret_u64 rfl, rfl⟩

set_option maxHeartbeats 400000 in
theorem one3_any (p q : Int) (w : World) :
    Calls Try.prog 36 #[.int .u64 p, .int .u64 q] w fun x w' => x = .returned (.int .u64 (one 3 p q)) ∧ w = w' := by
  go_enter Try.func36, Try.ntmps36
  go_wp2
  go_ret
  refine ⟨ret_u64 ?_, rfl⟩
  simp [one, IntKind.wrap_u64]

set_option maxHeartbeats 400000 in
theorem one4_any (p q : Int) (w : World) :
    Calls Try.prog 38 #[.int .u64 p, .int .u64 q] w fun x w' => x = .returned (.int .u64 (one 4 p q)) ∧ w = w' := by
  go_enter Try.func38, Try.ntmps38
  go_wp2
  go_ret
  refine ⟨ret_u64 ?_, rfl⟩
  simp [one, IntKind.wrap_u64]

set_option maxHeartbeats 400000 in
theorem one5_any (p q : Int) (w : World) :
    Calls Try.prog 40 #[.int .u64 p, .int .u64 q] w fun x w' => x = .returned (.int .u64 (one 5 p q)) ∧ w = w' := by
  go_enter Try.func40, Try.ntmps40
  go_wp2
  go_ret
  refine ⟨ret_u64 ?_, rfl⟩
  simp [one, IntKind.wrap_u64]

set_option maxHeartbeats 400000 in
theorem one6_any (p q : Int) (w : World) :
    Calls Try.prog 42 #[.int .u64 p, .int .u64 q] w fun x w' => x = .returned (.int .u64 (one 6 p q)) ∧ w = w' := by
  go_enter Try.func42, Try.ntmps42
  go_wp2
  go_ret
  refine ⟨ret_u64 ?_, rfl⟩
  simp [one]

set_option maxHeartbeats 400000 in
theorem one7_any (p q : Int) (w : World) :
    Calls Try.prog 44 #[.int .u64 p, .int .u64 q] w fun x w' => x = .returned (.int .u64 (one 7 p q)) ∧ w = w' := by
  go_enter Try.func44, Try.ntmps44
  go_wp2
  go_ret
  refine ⟨ret_u64 ?_, rfl⟩
  simp [one]

set_option maxHeartbeats 400000 in
theorem one8_any (p q : Int) (w : World) :
    Calls Try.prog 46 #[.int .u64 p, .int .u64 q] w fun x w' => x = .returned (.int .u64 (one 8 p q)) ∧ w = w' := by
  go_enter Try.func46, Try.ntmps46
  go_wp2
  go_ret
  refine ⟨ret_u64 ?_, rfl⟩
  simp [one]

set_option maxHeartbeats 400000 in
theorem one9_any (p q : Int) (w : World) (h0 : 0 ≤ q) :
    Calls Try.prog 48 #[.int .u64 p, .int .u64 q] w fun x w' => x = .returned (.int .u64 (one 9 p q)) ∧ w = w' := by
  have hm : q.tmod 64 = q % 64 := Int.tmod_eq_emod_of_nonneg h0
  have h1 : 0 ≤ q % 64 := by omega
  have h2 : q % 64 ≤ 64 := by omega
  go_enter Try.func48, Try.ntmps48
  go_wp2
  go_ret
  refine ⟨ret_u64 ?_, rfl⟩
  simp [one, IntKind.wrap_u64]
  try (rw [show min (q % 64).toNat 64 = (q % 64).toNat by omega])

set_option maxHeartbeats 400000 in
theorem one10_any (p q : Int) (w : World) (h0 : 0 ≤ q) :
    Calls Try.prog 50 #[.int .u64 p, .int .u64 q] w fun x w' => x = .returned (.int .u64 (one 10 p q)) ∧ w = w' := by
  have hm : q.tmod 64 = q % 64 := Int.tmod_eq_emod_of_nonneg h0
  have h1 : 0 ≤ q % 64 := by omega
  have h2 : q % 64 ≤ 64 := by omega
  go_enter Try.func50, Try.ntmps50
  go_wp2
  go_ret
  refine ⟨ret_u64 ?_, rfl⟩
  simp [one]
  try (rw [show min (q % 64).toNat 64 = (q % 64).toNat by omega])

set_option maxHeartbeats 400000 in
theorem one12_any (p q : Int) (w : World) :
    Calls Try.prog 52 #[.int .u64 p, .int .u64 q] w fun x w' => x = .returned (.int .u64 (one 12 p q)) ∧ w = w' := by
  go_enter Try.func52, Try.ntmps52
  go_wp2_with (go_at_call 53; refine (truth_any _ _).mono ?_; rintro x w' ⟨rfl, rfl⟩)
  go_ret
  refine ⟨ret_u64 ?_, rfl⟩
  simp [one]

set_option maxHeartbeats 400000 in
theorem one13_any (p q : Int) (w : World) :
    Calls Try.prog 55 #[.int .u64 p, .int .u64 q] w fun x w' => x = .returned (.int .u64 (one 13 p q)) ∧ w = w' := by
  go_enter Try.func55, Try.ntmps55
  go_wp2_with (go_at_call 53; refine (truth_any _ _).mono ?_; rintro x w' ⟨rfl, rfl⟩)
  go_ret
  refine ⟨ret_u64 ?_, rfl⟩
  simp [one]

end Go.Proofs.Ytodhgmeecphckaa
