/-
  Stage 2, span: the examples at the head of each statement.
-/
import Derived.Test.YtodhgmeecphckaaSAt
import Derived.Test.YtodhgmeecphckaaSSets
import Derived.Test.YtodhgmeecphckaaSApplyA
import Derived.Test.YtodhgmeecphckaaSRefineA
import Derived.Deep.DeepCutAuto
namespace Go.Proofs.Ytodhgmeecphckaa
open Go.RowKit

set_option maxHeartbeats 2000000 in
theorem head_any (w : World) : Calls Try.prog 7 #[] w fun x w' => x = .returned (.bool true) ∧ Gr w w' := by
  have u1 : apLo 3 1 2 10 20 = 11 := by decide
  have u2 : apHi 3 1 2 10 20 = 22 := by decide
  have u3 : fA 23 0 100 0 8 = 0 := by decide
  have u4 : fB 23 0 100 0 8 = 7 := by decide
  have u5 : fC 23 0 100 0 8 = 1 := by decide
  have u6 : fD 23 0 100 0 8 = 8 := by decide
  have u7 : rOk 23 0 100 0 8 = true := by decide
  have u8 : wLo 3 5 4 6 = 3 := by decide
  have u9 : wHi 3 5 4 6 = 18446744073709551615 := by decide
  have v1 : hasN 7 7 7 = true := by decide
  have v2 : hasN 7 7 8 = false := by decide
  go_enter Try.func7, Try.ntmps7
  go_wp2_with fail
  refine (Apply_any 3 1 2 10 20 _ (by omega) (by omega) ⟨by omega, by omega⟩ ⟨by omega, by omega⟩ ⟨by omega, by omega⟩ ⟨by omega, by omega⟩).mono ?_
  rw [u1, u2]
  rintro x w1 ⟨rfl, hB⟩
  go_wp2_with fail
  refine (Refine_any 23 0 100 0 8 _ (by omega) (by omega) ⟨by omega, by omega⟩ ⟨by omega, by omega⟩ ⟨by omega, by omega⟩ ⟨by omega, by omega⟩).mono ?_
  rw [u3, u4, u5, u6, u7]
  rintro x w2 ⟨rfl, hG⟩
  have A1 : At w2 w1.heap.size #[.int .u64 11, .int .u64 22] := (At.new _ _ _).gr hG
  replace hB := (hB.alloc _).trans hG
  clear hG
  go_wp2_with fail
  refine (Widen_any 3 5 4 6 _).mono ?_
  rw [u8, u9]
  rintro x w3 ⟨rfl, hG⟩
  replace A1 := ((A1.alloc _).alloc _).gr hG
  have A2 : At w3 w2.heap.size #[.int .u64 0, .int .u64 7] := ((At.new _ _ _).alloc _).gr hG
  have A3 : At w3 (w2.heap.size + 1) #[.int .u64 1, .int .u64 8] := (At.next _ _ _ _).gr hG
  replace hB := ((hB.alloc _).alloc _).trans hG
  clear hG
  go_upto_region 8 with (first | (go_at_call 23; refine (Full_any _).mono ?_; rintro x w' ⟨rfl, rfl⟩) | (go_at_call 16; refine (Of_any _ _).mono ?_; rintro x w' ⟨rfl, rfl⟩) | (go_at_call 15; refine (Has_any _ _ _ _).mono ?_; rintro x w' ⟨rfl, rfl⟩))
  refine wp_world (fun w4 => At w4 w1.heap.size #[.int .u64 11, .int .u64 22] ∧ At w4 w2.heap.size #[.int .u64 0, .int .u64 7] ∧ At w4 (w2.heap.size + 1) #[.int .u64 1, .int .u64 8] ∧ At w4 w3.heap.size #[.int .u64 3, .int .u64 18446744073709551615] ∧ At w4 (w3.heap.size + 1 + 1 + 1) #[.int .u64 0, .int .u64 18446744073709551615] ∧ Gr w w4) ⟨?_, ?_, ?_, ?_, ?_, ?_⟩ ?_
  · repeat (first | assumption | refine At.alloc ?_ _ | refine At.drew ?_)
  · repeat (first | assumption | refine At.alloc ?_ _ | refine At.drew ?_)
  · repeat (first | assumption | refine At.alloc ?_ _ | refine At.drew ?_)
  · have := At.new w3 #[.int .u64 3, .int .u64 18446744073709551615] 26
    repeat (first | assumption | refine At.alloc ?_ _ | refine At.drew ?_)
  · have := At.next ((w3.alloc (.cells #[.int .u64 3, .int .u64 18446744073709551615] 26)).alloc (.cells #[.int .u64 0, .int .u64 18446744073709551615] 26)) (.cells #[.int .u64 0, .int .u64 18446744073709551615] 51) #[.int .u64 0, .int .u64 18446744073709551615] 26
    rw [World.size_alloc, World.size_alloc] at this
    repeat (first | assumption | refine At.alloc ?_ _ | refine At.drew ?_)
  · repeat (first | assumption | refine Gr.alloc ?_ _ | refine Gr.drew ?_)
  clear A1 A2 A3 hB
  rintro w4 ⟨⟨z1, q1, _⟩, ⟨z2, q2, _⟩, ⟨z3, q3, _⟩, ⟨z4, q4, _⟩, ⟨z5, q5, _⟩, hB⟩
  go_wp2_with fail
  go_ret
  exact ⟨rfl, hB⟩
end Go.Proofs.Ytodhgmeecphckaa
