/-
  Stage 1, capword: the walk of the statement on Under.
-/
import Derived.Test.YtmnmflpbpklmiaaExB
import Derived.Test.YtmnmflpbpklmiaaRefsA
import Derived.Test.YtmnmflpbpklmiaaOpen
namespace Go.Proofs.Ytmnmflpbpklmiaa
open Go.RowKit

set_option maxHeartbeats 400000 in
theorem walk_CapwordUnder (b e c p s b' e' c' p' s' : Int) (hr : InR b e c p s) (hr' : InR b' e' c' p' s') (w : World) :
    Calls Try.prog 6 #[.agg #[.int .u64 b, .int .u64 e, .int .u64 c, .int .u8 p, .int .i64 s], .agg #[.int .u64 b', .int .u64 e', .int .u64 c', .int .u8 p', .int .i64 s']] w fun x w' => x = .returned (.bool true) ∧ Below w.heap.size w w' := by
  obtain ⟨_, _, _, ⟨hp0, hp1⟩, _⟩ := hr
  obtain ⟨_, _, _, ⟨hq0, hq1⟩, _⟩ := hr'
  go_enter Try.func6, Try.ntmps6
  go_wp2_with fail
  refine (examples_any _).mono ?_
  rintro x w1 ⟨rfl, hb⟩
  obtain ⟨c1, f1⟩ := bat hb w.heap.size (by simp <;> omega)
  obtain ⟨c2, f2⟩ := bat hb (w.heap.size + 1) (by simp <;> omega)
  have z1 : w.heap.size + 1 < w1.heap.size := by have := hb.size; simp at this; omega
  have z0 : w.heap.size < w1.heap.size := by omega
  have hB : Below w.heap.size w w1 := (((Below.refl _ _).alloc (Nat.le_refl _) _).alloc (by simp) _).trans (hb.mono (by simp; omega))
  clear hb
  go_wp2_with fail
  refine (under_any _ _ _ _ _ _ _ _ _ _ _).mono ?_
  rintro x w2 ⟨rfl, hw⟩
  have hb2 : Below w1.heap.size w1 w2 := by
    rw [← hw]
    repeat (refine Below.alloc ?_ (by first | omega | (simp <;> omega)) _)
    exact Below.refl _ _
  obtain ⟨d1, g1⟩ := bat hb2 w.heap.size z0
  obtain ⟨d2, g2⟩ := bat hb2 (w.heap.size + 1) z1
  have hB2 : Below w.heap.size w w2 := hB.trans (hb2.mono hB.size)
  clear hw hb2 hB z0 z1
  go_wp2_with fail
  refine (refUnder_any _ _ _ _ _ _ _ _ _ _ _ hp0 hp1 hq0 hq1).mono ?_
  rintro x w3 ⟨rfl, hw⟩
  have hB3 : Below w.heap.size w w3 := by
    rw [← hw]
    have hB := hB2
    have := hB.size
    repeat (refine Below.alloc ?_ (by first | omega | (simp <;> omega)) _)
    exact hB
  clear hw
  go_wp2
  go_ret
  exact ⟨ret_bool (by simp), hB3⟩
end Go.Proofs.Ytmnmflpbpklmiaa
