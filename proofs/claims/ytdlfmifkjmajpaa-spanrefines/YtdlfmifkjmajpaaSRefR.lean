/-
  Stage 2, span: the document's own Refine.
-/
import Derived.Test.YtdlfmifkjmajpaaSRefM
import Derived.RegionTactic
import Derived.BigRegion
import Derived.Deep.RegionHeld3
import Derived.StillTactics
namespace Go.Proofs.Ytdlfmifkjmajpaa
open Go.RowKit

set_option maxHeartbeats 400000 in
theorem refMeet_t (a b c d : Int) (w : World) (h2 : a ≤ b) (h3 : c ≤ d) (hm : max a c ≤ min b d) :
    Calls Try.prog 42 #[.agg #[.int .u64 a, .int .u64 b], .agg #[.int .u64 c, .int .u64 d]] w fun x w' => x = .returned (.tuple #[.agg #[.int .u64 (max a c), .int .u64 (min b d)], .bool true]) ∧ ((((((w.alloc (.cells #[.int .u64 a, .int .u64 b] 26)).alloc (.cells #[.int .u64 c, .int .u64 d] 26)).alloc (.cells #[.int .u64 (max a c), .int .u64 (min b d)] 26)).alloc (.cells #[.int .u64 a, .int .u64 b] 26)).alloc (.cells #[.int .u64 c, .int .u64 d] 26)).alloc (.cells #[.int .u64 (max a c), .int .u64 (min b d)] 26)).alloc (.cells #[.int .u64 (max a c), .int .u64 (min b d)] 26) = w' := by
  have d1 : decide (b < a) = false := by simp; omega
  have d2 : decide (d < c) = false := by simp; omega
  have d3 : decide (min b d < max a c) = false := by simp only [decide_eq_false_iff_not]; omega
  clear h2 h3 hm
  go_enter Try.func42, Try.ntmps42
  go_wp2_with (first | (go_at_call 32; refine (refEmpty_any _ _ _).mono ?_; rintro x w' ⟨rfl, rfl⟩) | (go_at_call 40; refine (refNone_any _).mono ?_; rintro x w' ⟨rfl, rfl⟩))
  simp [bodyPost, results, Try.results42, go_sem]

set_option maxHeartbeats 400000 in
theorem refMeet_f (a b c d : Int) (w : World) (h2 : a ≤ b) (h3 : c ≤ d) (hm : min b d < max a c) :
    Calls Try.prog 42 #[.agg #[.int .u64 a, .int .u64 b], .agg #[.int .u64 c, .int .u64 d]] w fun x w' => x = .returned (.tuple #[.agg #[.int .u64 1, .int .u64 0], .bool false]) ∧ (((((((w.alloc (.cells #[.int .u64 a, .int .u64 b] 26)).alloc (.cells #[.int .u64 c, .int .u64 d] 26)).alloc (.cells #[.int .u64 1, .int .u64 0] 26)).alloc (.cells #[.int .u64 a, .int .u64 b] 26)).alloc (.cells #[.int .u64 c, .int .u64 d] 26)).alloc (.cells #[.int .u64 (max a c), .int .u64 (min b d)] 26)).alloc (.cells #[.int .u64 (max a c), .int .u64 (min b d)] 26)).alloc (.cells #[.int .u64 1, .int .u64 0] 26) = w' := by
  have d1 : decide (b < a) = false := by simp; omega
  have d2 : decide (d < c) = false := by simp; omega
  have d3 : decide (min b d < max a c) = true := by simp only [decide_eq_true_eq]; omega
  clear h2 h3 hm
  go_enter Try.func42, Try.ntmps42
  go_wp2_with (first | (go_at_call 32; refine (refEmpty_any _ _ _).mono ?_; rintro x w' ⟨rfl, rfl⟩) | (go_at_call 40; refine (refNone_any _).mono ?_; rintro x w' ⟨rfl, rfl⟩))
  simp [bodyPost, results, Try.results42, go_sem]

set_option maxHeartbeats 400000 in
theorem refBut_any (a b n : Int) (w : World) (ha : W64 a) (hb : W64 b) (hab : a ≤ b) (hx : ¬ (a = n ∧ b = n)) :
    Calls Try.prog 43 #[.agg #[.int .u64 a, .int .u64 b], .int .u64 n] w fun x w' => x = .returned (.agg #[.int .u64 (woLo a b n n), .int .u64 (woHi a b n n)]) ∧ (w.alloc (.cells #[.int .u64 a, .int .u64 b] 26)).alloc (.cells #[.int .u64 (woLo a b n n), .int .u64 (woHi a b n n)] 26) = w' := by
  obtain ⟨a0, a1⟩ := ha; obtain ⟨b0, b1⟩ := hb
  by_cases e2 : a = n
  · subst e2
    have e3 : ¬ b = a := fun h => hx ⟨rfl, h⟩
    have hw : IntKind.u64.wrap (a + 1) = a + 1 := by rw [IntKind.wrap_u64]; omega
    rw [show woLo a b a a = a + 1 by simp [woLo, e3], show woHi a b a a = b by simp [woHi, e3]]
    clear e3 hx
    go_enter Try.func43, Try.ntmps43
    go_wp2
    simp [bodyPost, results, Try.results43, go_sem]
  · have q : (a == n) = false := by simp [e2]
    clear hx
    by_cases e3 : b = n
    · subst e3
      have hw : IntKind.u64.wrap (b - 1) = b - 1 := by rw [IntKind.wrap_u64]; omega
      rw [show woLo a b b b = a by simp [woLo, e2], show woHi a b b b = b - 1 by simp [woHi, e2]]
      clear e2
      go_enter Try.func43, Try.ntmps43
      go_wp2
      simp [bodyPost, results, Try.results43, go_sem]
    · have q' : (b == n) = false := by simp [e3]
      rw [show woLo a b n n = a by simp [woLo, e2], show woHi a b n n = b by simp [woHi, e2, e3]]
      clear e2 e3
      go_enter Try.func43, Try.ntmps43
      go_wp2
      simp [bodyPost, results, Try.results43, go_sem]

theorem refBut_y (a b n : Int) (w : World) (h : Hid (W64 a ∧ W64 b ∧ a ≤ b ∧ ¬ (a = n ∧ b = n))) :
    Calls Try.prog 43 #[.agg #[.int .u64 a, .int .u64 b], .int .u64 n] w fun x w' => x = .returned (.agg #[.int .u64 (woLo a b n n), .int .u64 (woHi a b n n)]) ∧ (w.alloc (.cells #[.int .u64 a, .int .u64 b] 26)).alloc (.cells #[.int .u64 (woLo a b n n), .int .u64 (woHi a b n n)] 26) = w' :=
  refBut_any a b n w h.out.1 h.out.2.1 h.out.2.2.1 h.out.2.2.2

set_option maxHeartbeats 4000000 in
theorem refRefine_e1 (op a b c d : Int) (w : World) (h2 : b < a) :
    Calls Try.prog 22 #[.int .u8 op, .agg #[.int .u64 a, .int .u64 b], .agg #[.int .u64 c, .int .u64 d]] w fun x w' => x = .returned (.tuple #[.agg #[.int .u64 1, .int .u64 0], .agg #[.int .u64 1, .int .u64 0], .bool false]) ∧ Gr w w' := by
  have d1 : decide (b < a) = true := by simp; omega
  go_enter Try.func22, Try.ntmps22
  go_wp2_with (first | (go_at_call 32; refine (refEmpty_any _ _ _).mono ?_; rintro x w' ⟨rfl, rfl⟩) | (go_at_call 40; refine (refNone_any _).mono ?_; rintro x w' ⟨rfl, rfl⟩) | (go_at_call 41; refine (refOne_any _ _ _).mono ?_; rintro x w' ⟨rfl, rfl⟩))
  simp [bodyPost, results, Try.results22, go_sem]
  repeat (first | exact Gr.refl _ | refine Gr.alloc ?_ _ | refine Gr.grow ?_ _ | refine Gr.drew ?_)

set_option maxHeartbeats 4000000 in
theorem refRefine_e2 (op a b c d : Int) (w : World) (h2 : a ≤ b) (h3 : d < c) :
    Calls Try.prog 22 #[.int .u8 op, .agg #[.int .u64 a, .int .u64 b], .agg #[.int .u64 c, .int .u64 d]] w fun x w' => x = .returned (.tuple #[.agg #[.int .u64 1, .int .u64 0], .agg #[.int .u64 1, .int .u64 0], .bool false]) ∧ Gr w w' := by
  have d1 : decide (b < a) = false := by simp; omega
  have d2 : decide (d < c) = true := by simp; omega
  go_enter Try.func22, Try.ntmps22
  go_wp2_with (first | (go_at_call 32; refine (refEmpty_any _ _ _).mono ?_; rintro x w' ⟨rfl, rfl⟩) | (go_at_call 40; refine (refNone_any _).mono ?_; rintro x w' ⟨rfl, rfl⟩) | (go_at_call 41; refine (refOne_any _ _ _).mono ?_; rintro x w' ⟨rfl, rfl⟩))
  simp [bodyPost, results, Try.results22, go_sem]
  repeat (first | exact Gr.refl _ | refine Gr.alloc ?_ _ | refine Gr.grow ?_ _ | refine Gr.drew ?_)

set_option maxHeartbeats 4000000 in
theorem refRefine_n (op a b c d : Int) (w : World) (h2 : a ≤ b) (h3 : c ≤ d) (n1 : (op == 21) = false) (n2 : (op == 22) = false) (n3 : (op == 23) = false) (n4 : (op == 24) = false) :
    Calls Try.prog 22 #[.int .u8 op, .agg #[.int .u64 a, .int .u64 b], .agg #[.int .u64 c, .int .u64 d]] w fun x w' => x = .returned (.tuple #[.agg #[.int .u64 a, .int .u64 b], .agg #[.int .u64 c, .int .u64 d], .bool true]) ∧ Gr w w' := by
  have d1 : decide (b < a) = false := by simp; omega
  have d2 : decide (d < c) = false := by simp; omega
  go_enter Try.func22, Try.ntmps22
  go_wp2_with (first | (go_at_call 32; refine (refEmpty_any _ _ _).mono ?_; rintro x w' ⟨rfl, rfl⟩) | (go_at_call 40; refine (refNone_any _).mono ?_; rintro x w' ⟨rfl, rfl⟩) | (go_at_call 41; refine (refOne_any _ _ _).mono ?_; rintro x w' ⟨rfl, rfl⟩))
  go_region
  all_goals
    go_wp2
    simp [bodyPost, results, Try.results22, go_sem]
    repeat (first | exact Gr.refl _ | refine Gr.alloc ?_ _ | refine Gr.grow ?_ _ | refine Gr.drew ?_)

end Go.Proofs.Ytdlfmifkjmajpaa
