/-
  Stage 2, span: spans and numbers made of raw ones.
-/
import Derived.Test.YtodhgmeecphckaaSCaps
import Derived.RegionTactic
import Derived.Deep.RegionHeld3
import Derived.StillTactics
namespace Go.Proofs.Ytodhgmeecphckaa
open Go.RowKit

set_option maxHeartbeats 400000 in
theorem fit_any (p q : Int) (w : World) :
    Calls Try.prog 8 #[.int .u64 p, .int .u64 q] w fun x w' => x = .returned (.agg #[.int .u64 (minI p q), .int .u64 (maxI p q)]) ∧ Gr w w' := by
  go_enter Try.func8, Try.ntmps8
  go_wp2
  all_goals
    simp [bodyPost, results, Try.results8, go_sem]
    refine ⟨by unfold minI maxI; constructor <;> (repeat' split) <;> omega, ?_⟩
    repeat (first | exact Gr.refl _ | refine Gr.alloc ?_ _ | refine Gr.grow ?_ _ | refine Gr.drew ?_)

def wiN (a b n : Int) : Int := if a = 0 ∧ b = 18446744073709551615 then n else a + n % (b - a + 1)
theorem wiN_in (a b n : Int) (_ha : W64 a) (_hb : W64 b) (hab : a ≤ b) (hn : W64 n) : a ≤ wiN a b n ∧ wiN a b n ≤ b := by
  unfold wiN W64 at *
  have h1 : 0 ≤ n % (b - a + 1) := Int.emod_nonneg _ (by omega)
  have h2 : n % (b - a + 1) < b - a + 1 := Int.emod_lt_of_pos _ (by omega)
  split <;> omega
set_option maxHeartbeats 1000000 in
theorem pick_any (a b n : Int) (w : World) (ha : W64 a) (hb : W64 b) (hab : a ≤ b) (hn : W64 n) :
    Calls Try.prog 12 #[.agg #[.int .u64 a, .int .u64 b], .int .u64 n] w fun x w' => x = .returned (.int .u64 (wiN a b n)) ∧ Gr w w' := by
  have hi := wiN_in a b n ha hb hab hn
  unfold wiN at hi ⊢
  unfold W64 at ha hb hn
  by_cases e : a = 0 ∧ b = 18446744073709551615
  · obtain ⟨rfl, rfl⟩ := e
    rw [if_pos ⟨rfl, rfl⟩]
    clear hi
    go_enter Try.func12, Try.ntmps12
    go_wp2
    go_ret
    refine ⟨rfl, ?_⟩
    repeat (first | exact Gr.refl _ | refine Gr.alloc ?_ _ | refine Gr.grow ?_ _ | refine Gr.drew ?_)
  · rw [if_neg e] at hi ⊢
    have hx : (a == 0 && b == 18446744073709551615) = false := by
      rw [Bool.eq_false_iff]; intro h; simp at h; exact e h
    have w1 : IntKind.u64.wrap (b - a) = b - a := by rw [IntKind.wrap_u64]; omega
    have w2 : IntKind.u64.wrap (b - a + 1) = b - a + 1 := by rw [IntKind.wrap_u64]; omega
    have t1 : n.tmod (b - a + 1) = n % (b - a + 1) := Int.tmod_eq_emod_of_nonneg hn.1
    have t2 : ¬ (b - a + 1) = 0 := by omega
    have w3 : IntKind.u64.wrap (a + n % (b - a + 1)) = a + n % (b - a + 1) := by rw [IntKind.wrap_u64]; omega
    clear hi
    by_cases e1 : a = 0
    · have e2 : (b == 18446744073709551615) = false := by simp; omega
      have e3 : (a == 0) = true := by simp [e1]
      clear hx e e1
      go_enter Try.func12, Try.ntmps12
      go_wp2
      go_region
      all_goals
        go_wp2
        go_ret
        refine ⟨by simp [*], ?_⟩
        repeat (first | exact Gr.refl _ | refine Gr.alloc ?_ _ | refine Gr.grow ?_ _ | refine Gr.drew ?_)
    · have e2 : (a == 0) = false := by simp [e1]
      clear hx e e1
      go_enter Try.func12, Try.ntmps12
      go_wp2
      go_region
      all_goals
        go_wp2
        go_ret
        refine ⟨by simp [*], ?_⟩
        repeat (first | exact Gr.refl _ | refine Gr.alloc ?_ _ | refine Gr.grow ?_ _ | refine Gr.drew ?_)

end Go.Proofs.Ytodhgmeecphckaa
