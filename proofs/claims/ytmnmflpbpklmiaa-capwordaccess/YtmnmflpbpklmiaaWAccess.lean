/-
  Stage 1, capword: the walk of the statement on Access.
-/
import Derived.Test.YtmnmflpbpklmiaaExB
import Derived.Test.YtmnmflpbpklmiaaRefsA
import Derived.Deep.RegionWith
import Derived.Test.YtmnmflpbpklmiaaOpen
namespace Go.Proofs.Ytmnmflpbpklmiaa
open Go.RowKit

set_option maxHeartbeats 400000 in
theorem num_any (f : Int) (w : World) :
    Calls Try.prog 16 #[.int .i64 f] w fun x w' => x = .returned (.int .i64 f) ∧ w = w' := by
  go_enter Try.func16, Try.ntmps16
  go_wp2
  go_ret
  exact ⟨rfl, rfl⟩

set_option maxHeartbeats 400000 in
theorem walk_CapwordAccess (b e c p s off n q : Int) (hr : InR b e c p s) (_ho : 0 ≤ off ∧ off < 18446744073709551616) (_hn : 0 ≤ n ∧ n < 18446744073709551616) (hq : 0 ≤ q ∧ q < 256) (w : World) :
    Calls Try.prog 7 #[.agg #[.int .u64 b, .int .u64 e, .int .u64 c, .int .u8 p, .int .i64 s], .int .u64 off, .int .u64 n, .int .u8 q] w fun x w' => x = .returned (.bool true) ∧ Below w.heap.size w w' := by
  obtain ⟨_, _, _, ⟨hp0, hp1⟩, _⟩ := hr
  obtain ⟨hq0, hq1⟩ := hq
  go_enter Try.func7, Try.ntmps7
  go_wp2_with fail
  refine (examples_any _).mono ?_
  rintro x w1 ⟨rfl, hb⟩
  obtain ⟨c1, f1⟩ := bat hb w.heap.size (by simp <;> omega)
  have z0 : w.heap.size < w1.heap.size := by have := hb.size; simp at this; omega
  have hB : Below w.heap.size w w1 := ((Below.refl _ _).alloc (Nat.le_refl _) _).trans (hb.mono (by simp))
  clear hb
  go_wp2_with fail
  refine (access_any _ _ _ _ _ _ _ _ _).mono ?_
  rintro x w2 ⟨rfl, hb2⟩
  obtain ⟨d1, g1⟩ := bat hb2 w.heap.size z0
  have hB2 : Below w.heap.size w w2 := hB.trans (hb2.mono hB.size)
  clear hb2 hB z0
  go_wp2_with fail
  go_region_with (first | (go_at_call 16; refine (num_any _ _).mono ?_; rintro x w' ⟨rfl, rfl⟩) | (go_at_call 17; refine (refAccess_any _ _ _ _ _ _ _ _ _ hp0 hp1 hq0 hq1).mono ?_; rintro x w' ⟨rfl, rfl⟩))
  all_goals
    go_wp2
    go_ret
    refine ⟨rfl, ?_⟩
    have := hB2.size
    repeat (first | refine Below.drew ?_ | refine Below.alloc ?_ (by first | omega | (simp <;> omega)) _)
    exact hB2
end Go.Proofs.Ytmnmflpbpklmiaa
