/-
  Stage 2, span: the document's own parts of Apply.
-/
import Derived.Test.YtdlfmifkjmajpabSRefM
import Derived.Test.YtdlfmifkjmajpabSSndM
import Derived.Laws.Shifts
import Derived.RegionTactic
namespace Go.Proofs.Ytdlfmifkjmajpab
open Go.RowKit

set_option maxHeartbeats 400000 in
theorem refFull_any  (w : World) :
    Calls Try.prog 33 #[] w fun x w' => x = .returned (.agg #[.int .u64 0, .int .u64 18446744073709551615]) ∧ w.alloc (.cells #[.int .u64 0, .int .u64 18446744073709551615] 24) = w' := by
  go_enter Try.func33, Try.ntmps33
  go_wp2
  simp [bodyPost, results, Try.results33, go_sem]

set_option maxHeartbeats 400000 in
theorem refOf_any (n : Int) (w : World) :
    Calls Try.prog 35 #[.int .u64 n] w fun x w' => x = .returned (.agg #[.int .u64 n, .int .u64 n]) ∧ w.alloc (.cells #[.int .u64 n, .int .u64 n] 24) = w' := by
  go_enter Try.func35, Try.ntmps35
  go_wp2
  simp [bodyPost, results, Try.results35, go_sem]

set_option maxHeartbeats 1000000 in
theorem refSum_any (a b c d : Int) (w : World) (ha : W64 a) (hb : W64 b) (hc : W64 c) (hd : W64 d) :
    Calls Try.prog 37 #[.agg #[.int .u64 a, .int .u64 b], .agg #[.int .u64 c, .int .u64 d]] w fun x w' => x = .returned (.agg #[.int .u64 (sumLo a b c d), .int .u64 (sumHi a b c d)]) ∧ Gr w w' := by
  have hw1 := IntKind.wrap_u64 (a + c)
  have hw2 := IntKind.wrap_u64 (b + d)
  unfold W64 at *
  unfold sumLo sumHi
  by_cases z1 : a + c < 18446744073709551616 <;> by_cases z2 : b + d < 18446744073709551616
  · have r1 : decide (IntKind.u64.wrap (a + c) < a) = false := by simp; omega
    have r2 : decide (IntKind.u64.wrap (b + d) < b) = false := by simp; omega
    have e : (a + c) / 18446744073709551616 = (b + d) / 18446744073709551616 := by omega
    rw [if_pos e, if_pos e, ← hw1, ← hw2]
    clear e hw1 hw2 ha hb hc hd z1 z2
    go_enter Try.func37, Try.ntmps37
    go_wp2_with (go_at_call 33; refine (refFull_any _).mono ?_; rintro x w' ⟨rfl, rfl⟩)
    simp [bodyPost, results, Try.results37, go_sem]
    repeat (first | exact Gr.refl _ | refine Gr.alloc ?_ _ | refine Gr.grow ?_ _ | refine Gr.drew ?_)
  · have r1 : decide (IntKind.u64.wrap (a + c) < a) = false := by simp; omega
    have r2 : decide (IntKind.u64.wrap (b + d) < b) = true := by simp; omega
    have e : ¬ (a + c) / 18446744073709551616 = (b + d) / 18446744073709551616 := by omega
    rw [if_neg e, if_neg e]
    clear e hw1 hw2 ha hb hc hd z1 z2
    go_enter Try.func37, Try.ntmps37
    go_wp2_with (go_at_call 33; refine (refFull_any _).mono ?_; rintro x w' ⟨rfl, rfl⟩)
    simp [bodyPost, results, Try.results37, go_sem]
    repeat (first | exact Gr.refl _ | refine Gr.alloc ?_ _ | refine Gr.grow ?_ _ | refine Gr.drew ?_)
  · have r1 : decide (IntKind.u64.wrap (a + c) < a) = true := by simp; omega
    have r2 : decide (IntKind.u64.wrap (b + d) < b) = false := by simp; omega
    have e : ¬ (a + c) / 18446744073709551616 = (b + d) / 18446744073709551616 := by omega
    rw [if_neg e, if_neg e]
    clear e hw1 hw2 ha hb hc hd z1 z2
    go_enter Try.func37, Try.ntmps37
    go_wp2_with (go_at_call 33; refine (refFull_any _).mono ?_; rintro x w' ⟨rfl, rfl⟩)
    simp [bodyPost, results, Try.results37, go_sem]
    repeat (first | exact Gr.refl _ | refine Gr.alloc ?_ _ | refine Gr.grow ?_ _ | refine Gr.drew ?_)
  · have r1 : decide (IntKind.u64.wrap (a + c) < a) = true := by simp; omega
    have r2 : decide (IntKind.u64.wrap (b + d) < b) = true := by simp; omega
    have e : (a + c) / 18446744073709551616 = (b + d) / 18446744073709551616 := by omega
    rw [if_pos e, if_pos e, ← hw1, ← hw2]
    clear e hw1 hw2 ha hb hc hd z1 z2
    go_enter Try.func37, Try.ntmps37
    go_wp2_with (go_at_call 33; refine (refFull_any _).mono ?_; rintro x w' ⟨rfl, rfl⟩)
    simp [bodyPost, results, Try.results37, go_sem]
    repeat (first | exact Gr.refl _ | refine Gr.alloc ?_ _ | refine Gr.grow ?_ _ | refine Gr.drew ?_)

set_option maxHeartbeats 1000000 in
theorem refLess_any (a b c d : Int) (w : World) (h2 : a ≤ b) (h3 : c ≤ d) :
    Calls Try.prog 38 #[.agg #[.int .u64 a, .int .u64 b], .agg #[.int .u64 c, .int .u64 d]] w fun x w' => x = .returned (.agg #[.int .u64 (difLo a b c d), .int .u64 (difHi a b c d)]) ∧ Gr w w' := by
  unfold difLo difHi
  have hw1 := IntKind.wrap_u64 (a - d)
  have hw2 := IntKind.wrap_u64 (b - c)
  by_cases h : d ≤ a
  · have e : bor a d = bor b c := by unfold bor; (repeat' split) <;> omega
    rw [if_pos e, if_pos e, ← hw1, ← hw2]
    have r1 : decide (d ≤ a) = true := by simp; omega
    clear hw1 hw2 e h2 h3
    go_enter Try.func38, Try.ntmps38
    go_wp2_with (go_at_call 33; refine (refFull_any _).mono ?_; rintro x w' ⟨rfl, rfl⟩)
    simp [bodyPost, results, Try.results38, go_sem]
    repeat (first | exact Gr.refl _ | refine Gr.alloc ?_ _ | refine Gr.grow ?_ _ | refine Gr.drew ?_)
  · have r1 : decide (d ≤ a) = false := by simp; omega
    by_cases h' : b < c
    · have e : bor a d = bor b c := by unfold bor; (repeat' split) <;> omega
      rw [if_pos e, if_pos e, ← hw1, ← hw2]
      have r2 : decide (b < c) = true := by simp; omega
      clear hw1 hw2 e h2 h3
      go_enter Try.func38, Try.ntmps38
      go_wp2_with (go_at_call 33; refine (refFull_any _).mono ?_; rintro x w' ⟨rfl, rfl⟩)
      simp [bodyPost, results, Try.results38, go_sem]
      repeat (first | exact Gr.refl _ | refine Gr.alloc ?_ _ | refine Gr.grow ?_ _ | refine Gr.drew ?_)
    · have e : ¬ bor a d = bor b c := by unfold bor; (repeat' split) <;> omega
      rw [if_neg e, if_neg e]
      have r2 : decide (b < c) = false := by simp; omega
      clear hw1 hw2 e h2 h3
      go_enter Try.func38, Try.ntmps38
      go_wp2_with (go_at_call 33; refine (refFull_any _).mono ?_; rintro x w' ⟨rfl, rfl⟩)
      simp [bodyPost, results, Try.results38, go_sem]
      repeat (first | exact Gr.refl _ | refine Gr.alloc ?_ _ | refine Gr.grow ?_ _ | refine Gr.drew ?_)

theorem pro_fits {b d : Int} (hb : 0 ≤ b) (hd : 0 < d) : b * d / 18446744073709551616 = 0 ↔ ¬ (18446744073709551615 / d < b) := by
  have h0 : 0 ≤ b * d := Int.mul_nonneg hb (by omega)
  have h1 : 18446744073709551615 / d < b ↔ 18446744073709551615 < b * d := Int.ediv_lt_iff_lt_mul hd
  rw [h1]; omega
set_option maxHeartbeats 1000000 in
theorem refTimes_any (a b c d : Int) (w : World) (_ha : W64 a) (hb : W64 b) (_hc : W64 c) (hd : W64 d) :
    Calls Try.prog 39 #[.agg #[.int .u64 a, .int .u64 b], .agg #[.int .u64 c, .int .u64 d]] w fun x w' => x = .returned (.agg #[.int .u64 (proLo a b c d), .int .u64 (proHi b d)]) ∧ Gr w w' := by
  unfold proLo proHi
  have hw1 := IntKind.wrap_u64 (a * c)
  have hw2 := IntKind.wrap_u64 (b * d)
  unfold W64 at *
  by_cases z : d = 0
  · subst z
    have e : b * 0 / 18446744073709551616 = 0 := by simp
    rw [if_pos e, if_pos e, ← hw1, show b * 0 % 18446744073709551616 = 0 by simp]
    have w0 : IntKind.u64.wrap 0 = 0 := by rw [IntKind.wrap_u64]; rfl
    clear e hw1 hw2
    go_enter Try.func39, Try.ntmps39
    go_wp2
    go_region
    all_goals
      go_wp2_with (go_at_call 33; refine (refFull_any _).mono ?_; rintro x w' ⟨rfl, rfl⟩)
      simp [bodyPost, results, Try.results39, go_sem]
      repeat (first | exact Gr.refl _ | refine Gr.alloc ?_ _ | refine Gr.grow ?_ _ | refine Gr.drew ?_)
  · have z' : (d != 0) = true := by simp [z]
    have td : Int.tdiv 18446744073709551615 d = 18446744073709551615 / d := Int.tdiv_eq_ediv_of_nonneg (by omega)
    have fits := pro_fits (b := b) (d := d) (by omega) (by omega)
    have q0 : 0 ≤ 18446744073709551615 / d := Int.ediv_nonneg (by omega) (by omega)
    have q1 : 18446744073709551615 / d ≤ 18446744073709551615 := Int.ediv_le_self _ (by omega)
    have wq : IntKind.u64.wrap (18446744073709551615 / d) = 18446744073709551615 / d := by rw [IntKind.wrap_u64]; omega
    by_cases g : 18446744073709551615 / d < b
    · have e : ¬ b * d / 18446744073709551616 = 0 := fun h => (fits.mp h) g
      have r1 : decide (18446744073709551615 / d < b) = true := by simp; omega
      rw [if_neg e, if_neg e]
      clear e hw1 hw2 fits g
      go_enter Try.func39, Try.ntmps39
      go_wp2
      go_region
      all_goals
        go_wp2_with (go_at_call 33; refine (refFull_any _).mono ?_; rintro x w' ⟨rfl, rfl⟩)
        simp [bodyPost, results, Try.results39, go_sem]
        repeat (first | exact Gr.refl _ | refine Gr.alloc ?_ _ | refine Gr.grow ?_ _ | refine Gr.drew ?_)
    · have e : b * d / 18446744073709551616 = 0 := fits.mpr g
      have r1 : decide (18446744073709551615 / d < b) = false := by simp; omega
      rw [if_pos e, if_pos e, ← hw1, ← hw2]
      clear e hw1 hw2 fits g
      go_enter Try.func39, Try.ntmps39
      go_wp2
      go_region
      all_goals
        go_wp2_with (go_at_call 33; refine (refFull_any _).mono ?_; rintro x w' ⟨rfl, rfl⟩)
        simp [bodyPost, results, Try.results39, go_sem]
        repeat (first | exact Gr.refl _ | refine Gr.alloc ?_ _ | refine Gr.grow ?_ _ | refine Gr.drew ?_)

end Go.Proofs.Ytdlfmifkjmajpab
