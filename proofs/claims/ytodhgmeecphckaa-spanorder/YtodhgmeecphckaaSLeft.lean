/-
  Stage 2, span: what the branches leave of two spans.
-/
import Derived.Test.YtodhgmeecphckaaSCaps
import Derived.Deep.RegionWith
import Derived.RegionTactic
import Derived.BigRegion
namespace Go.Proofs.Ytodhgmeecphckaa
open Go.RowKit

set_option maxHeartbeats 1000000 in
theorem whereEqual_any (a b c d : Int) (w : World) :
    Calls Try.prog 57 #[.agg #[.int .u64 a, .int .u64 b], .agg #[.int .u64 c, .int .u64 d]] w fun x w' => x = .returned (.tuple #[.agg #[.int .u64 (maxI a c), .int .u64 (minI b d)], .agg #[.int .u64 (maxI a c), .int .u64 (minI b d)]]) ∧ Gr w w' := by
  go_enter Try.func57, Try.ntmps57
  go_wp2_with (go_at_call 34; refine (meet_any _ _ _ _ _).mono ?_; rintro x w' ⟨rfl, rfl⟩)
  go_region
  all_goals
    go_wp2
    simp [bodyPost, results, Try.results57, go_sem]
    repeat (first | exact Gr.refl _ | refine Gr.alloc ?_ _ | refine Gr.grow ?_ _ | refine Gr.drew ?_)

set_option maxHeartbeats 400000 in
theorem without_s (n : Int) (w : World) :
    Calls Try.prog 66 #[.agg #[.int .u64 n, .int .u64 n], .agg #[.int .u64 n, .int .u64 n]] w fun x w' => x = .returned (.agg #[.int .u64 1, .int .u64 0]) ∧ ((((w.alloc (.cells #[.int .u64 n, .int .u64 n] 51)).alloc (.cells #[.int .u64 n, .int .u64 n] 51)).alloc (.cells #[.int .u64 1, .int .u64 0] 51)).alloc (.cells #[.int .u64 n, .int .u64 n] 51)).alloc (.cells #[.int .u64 1, .int .u64 0] 51) = w' := by
  go_enter Try.func66, Try.ntmps66
  go_wp2_with (first | (go_at_call 31; refine (single_any _ _ _).mono ?_; rintro x w' ⟨rfl, rfl⟩) | (go_at_call 30; refine (none_any _).mono ?_; rintro x w' ⟨rfl, rfl⟩))
  simp [bodyPost, results, Try.results66, go_sem]

set_option maxHeartbeats 2000000 in
theorem without_x (a b c d : Int) (w : World) (ha : W64 a) (hb : W64 b) (hab : a ≤ b) (hx : ¬ (c = d ∧ a = c ∧ b = d)) :
    Calls Try.prog 66 #[.agg #[.int .u64 a, .int .u64 b], .agg #[.int .u64 c, .int .u64 d]] w fun x w' => x = .returned (.agg #[.int .u64 (woLo a b c d), .int .u64 (woHi a b c d)]) ∧ (((w.alloc (.cells #[.int .u64 (woLo a b c d), .int .u64 (woHi a b c d)] 51)).alloc (.cells #[.int .u64 c, .int .u64 d] 51)).alloc (.cells #[.int .u64 (woLo a b c d), .int .u64 (woHi a b c d)] 51)).alloc (.cells #[.int .u64 c, .int .u64 d] 51) = w' := by
  obtain ⟨a0, a1⟩ := ha; obtain ⟨b0, b1⟩ := hb
  by_cases e1 : c = d
  · subst e1
    by_cases e2 : a = c
    · subst e2
      have e3 : ¬ b = a := fun h => hx ⟨rfl, rfl, h⟩
      have q : (b == a) = false := by simp [e3]
      have hw : IntKind.u64.wrap (a + 1) = a + 1 := by rw [IntKind.wrap_u64]; omega
      rw [show woLo a b a a = a + 1 by simp [woLo, e3], show woHi a b a a = b by simp [woHi, e3]]
      clear e3 hx
      go_enter Try.func66, Try.ntmps66
      go_wp2_with (first | (go_at_call 31; refine (single_any _ _ _).mono ?_; rintro x w' ⟨rfl, rfl⟩) | (go_at_call 30; refine (none_any _).mono ?_; rintro x w' ⟨rfl, rfl⟩))
      simp [bodyPost, results, Try.results66, go_sem]
    · have q : (a == c) = false := by simp [e2]
      clear hx
      by_cases e3 : b = c
      · subst e3
        have hw : IntKind.u64.wrap (b - 1) = b - 1 := by rw [IntKind.wrap_u64]; omega
        rw [show woLo a b b b = a by simp [woLo, e2], show woHi a b b b = b - 1 by simp [woHi, e2]]
        clear e2
        go_enter Try.func66, Try.ntmps66
        go_wp2_with (first | (go_at_call 31; refine (single_any _ _ _).mono ?_; rintro x w' ⟨rfl, rfl⟩) | (go_at_call 30; refine (none_any _).mono ?_; rintro x w' ⟨rfl, rfl⟩))
        simp [bodyPost, results, Try.results66, go_sem]
      · have q' : (b == c) = false := by simp [e3]
        rw [show woLo a b c c = a by simp [woLo, e2], show woHi a b c c = b by simp [woHi, e2, e3]]
        clear e2 e3
        go_enter Try.func66, Try.ntmps66
        go_wp2_with (first | (go_at_call 31; refine (single_any _ _ _).mono ?_; rintro x w' ⟨rfl, rfl⟩) | (go_at_call 30; refine (none_any _).mono ?_; rintro x w' ⟨rfl, rfl⟩))
        simp [bodyPost, results, Try.results66, go_sem]
  · have q : (c == d) = false := by simp [e1]
    rw [show woLo a b c d = a by simp [woLo, e1], show woHi a b c d = b by simp [woHi, e1]]
    clear e1 hx
    go_enter Try.func66, Try.ntmps66
    go_wp2_with (first | (go_at_call 31; refine (single_any _ _ _).mono ?_; rintro x w' ⟨rfl, rfl⟩) | (go_at_call 30; refine (none_any _).mono ?_; rintro x w' ⟨rfl, rfl⟩))
    simp [bodyPost, results, Try.results66, go_sem]

theorem without_y (a b c d : Int) (w : World) (h : Hid (W64 a ∧ W64 b ∧ a ≤ b ∧ ¬ (c = d ∧ a = c ∧ b = d))) :
    Calls Try.prog 66 #[.agg #[.int .u64 a, .int .u64 b], .agg #[.int .u64 c, .int .u64 d]] w fun x w' => x = .returned (.agg #[.int .u64 (woLo a b c d), .int .u64 (woHi a b c d)]) ∧ (((w.alloc (.cells #[.int .u64 (woLo a b c d), .int .u64 (woHi a b c d)] 51)).alloc (.cells #[.int .u64 c, .int .u64 d] 51)).alloc (.cells #[.int .u64 (woLo a b c d), .int .u64 (woHi a b c d)] 51)).alloc (.cells #[.int .u64 c, .int .u64 d] 51) = w' :=
  without_x a b c d w h.out.1 h.out.2.1 h.out.2.2.1 h.out.2.2.2

end Go.Proofs.Ytodhgmeecphckaa
