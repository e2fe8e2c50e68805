/-
  Stage 1, capword: the walk of the statement on Right.
-/
import Derived.Test.YtmnmflpbpklmiaaExB
import Derived.Test.YtmnmflpbpklmiaaRefsA
import Derived.Test.YtmnmflpbpklmiaaOpen
namespace Go.Proofs.Ytmnmflpbpklmiaa
open Go.RowKit

set_option maxHeartbeats 400000 in
theorem walk_CapwordRight (b e c p s : Int) (hr : InR b e c p s) (w : World) :
    Calls Try.prog 5 #[.agg #[.int .u64 b, .int .u64 e, .int .u64 c, .int .u8 p, .int .i64 s]] w fun x w' => x = .returned (.bool true) ∧ Below w.heap.size w w' := by
  obtain ⟨_, _, _, ⟨hp0, hp1⟩, _⟩ := hr
  go_enter Try.func5, Try.ntmps5
  go_wp2_with fail
  refine (examples_any _).mono ?_
  rintro x w1 ⟨rfl, hb⟩
  obtain ⟨c1, f1⟩ := bat hb w.heap.size (by simp)
  have z0 : w.heap.size < w1.heap.size := by have := hb.size; simp at this; omega
  have hB : Below w.heap.size w w1 := ((Below.refl _ _).alloc (Nat.le_refl _) _).trans (hb.mono (by simp))
  clear hb
  go_wp2_with fail
  refine (right_any _ _ _ _ _ _).mono ?_
  rintro x w' ⟨rfl, rfl⟩
  go_wp2_with fail
  refine (refRight_any _ _ _ _ _ _ hp0 hp1).mono ?_
  rintro x w' ⟨rfl, rfl⟩
  go_wp2
  go_ret
  refine ⟨ret_bool (by simp), ?_⟩
  repeat (refine Below.alloc ?_ (by first | omega | (simp <;> omega)) _)
  exact hB
end Go.Proofs.Ytmnmflpbpklmiaa
