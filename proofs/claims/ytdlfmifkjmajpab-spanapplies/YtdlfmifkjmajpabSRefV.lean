/-
  Stage 2, span: the document's own moves.
-/
import Derived.Test.YtdlfmifkjmajpabSRefP
namespace Go.Proofs.Ytdlfmifkjmajpab
open Go.RowKit

theorem up_fits {b k : Int} (hb : W64 b) : upOk b k = true ↔ k < 64 ∧ ¬ 18446744073709551615 / 2 ^ k.toNat < b := by
  have p := pow_pos k.toNat
  have h1 : 18446744073709551615 / 2 ^ k.toNat < b ↔ 18446744073709551615 < b * 2 ^ k.toNat := Int.ediv_lt_iff_lt_mul p
  rw [h1]
  unfold W64 at hb
  have e : upOk b k = true ↔ k < 64 ∧ b * 2 ^ k.toNat % 18446744073709551616 / 2 ^ k.toNat = b := by simp [upOk]
  rw [e]
  have n0 : 0 ≤ b * 2 ^ k.toNat := Int.mul_nonneg hb.1 (by omega)
  constructor
  · rintro ⟨g1, g2⟩
    have := up_lt g2
    exact ⟨g1, by omega⟩
  · rintro ⟨g1, g2⟩
    refine ⟨g1, ?_⟩
    rw [Int.emod_eq_of_lt n0 (by omega), Int.mul_ediv_cancel _ (by omega)]
set_option maxHeartbeats 1000000 in
theorem refUp_any (a b k1 k2 : Int) (w : World) (hb : W64 b) (hk1 : 0 ≤ k1) (hk : k1 ≤ k2) :
    Calls Try.prog 40 #[.agg #[.int .u64 a, .int .u64 b], .agg #[.int .u64 k1, .int .u64 k2]] w fun x w' => x = .returned (.agg #[.int .u64 (if upOk b k2 then a * 2 ^ k1.toNat % 18446744073709551616 else 0), .int .u64 (if upOk b k2 then b * 2 ^ k2.toNat % 18446744073709551616 else 18446744073709551615)]) ∧ Gr w w' := by
  have fits := up_fits (b := b) (k := k2) hb
  have hw1 := IntKind.wrap_u64 (a * 2 ^ k1.toNat)
  have hw2 := IntKind.wrap_u64 (b * 2 ^ k2.toNat)
  by_cases g : k2 < 64
  · have g1 : 0 ≤ k2 := by omega
    have g2 : k2 ≤ 64 := by omega
    have g3 : k1 ≤ 64 := by omega
    have r1 : decide (63 < k2) = false := by simp; omega
    by_cases e : 18446744073709551615 / 2 ^ k2.toNat < b
    · have u : ¬ upOk b k2 = true := fun h => (fits.mp h).2 e
      have r2 : decide (18446744073709551615 / 2 ^ k2.toNat < b) = true := by simp only [decide_eq_true_eq]; exact e
      rw [if_neg u, if_neg u]
      clear u fits hw1 hw2 e
      go_enter Try.func40, Try.ntmps40
      go_wp2_with (go_at_call 33; refine (refFull_any _).mono ?_; rintro x w' ⟨rfl, rfl⟩)
      simp [bodyPost, results, Try.results40, go_sem]
      repeat (first | exact Gr.refl _ | refine Gr.alloc ?_ _ | refine Gr.grow ?_ _ | refine Gr.drew ?_)
    · have u : upOk b k2 = true := fits.mpr ⟨g, e⟩
      have r2 : decide (18446744073709551615 / 2 ^ k2.toNat < b) = false := by simp only [decide_eq_false_iff_not]; exact e
      rw [if_pos u, if_pos u, ← hw1, ← hw2]
      clear u fits hw1 hw2 e
      go_enter Try.func40, Try.ntmps40
      go_wp2_with (go_at_call 33; refine (refFull_any _).mono ?_; rintro x w' ⟨rfl, rfl⟩)
      simp [bodyPost, results, Try.results40, go_sem]
      repeat (first | exact Gr.refl _ | refine Gr.alloc ?_ _ | refine Gr.grow ?_ _ | refine Gr.drew ?_)
  · have u : ¬ upOk b k2 = true := fun h => g (fits.mp h).1
    have r1 : decide (63 < k2) = true := by simp; omega
    rw [if_neg u, if_neg u]
    clear u fits hw1 hw2
    go_enter Try.func40, Try.ntmps40
    go_wp2_with (go_at_call 33; refine (refFull_any _).mono ?_; rintro x w' ⟨rfl, rfl⟩)
    simp [bodyPost, results, Try.results40, go_sem]
    repeat (first | exact Gr.refl _ | refine Gr.alloc ?_ _ | refine Gr.grow ?_ _ | refine Gr.drew ?_)

set_option maxHeartbeats 1000000 in
theorem refDown_any (a b k1 k2 : Int) (w : World) (hk1 : 0 ≤ k1) (hk : k1 ≤ k2) :
    Calls Try.prog 41 #[.agg #[.int .u64 a, .int .u64 b], .agg #[.int .u64 k1, .int .u64 k2]] w fun x w' => x = .returned (.agg #[.int .u64 (if 64 ≤ k2 then 0 else a / 2 ^ k2.toNat), .int .u64 (if 64 ≤ k2 then b else b / 2 ^ k1.toNat)]) ∧ Gr w w' := by
  by_cases g : 64 ≤ k2
  · have r1 : decide (63 < k2) = true := by simp; omega
    rw [if_pos g, if_pos g]
    go_enter Try.func41, Try.ntmps41
    go_wp2
    simp [bodyPost, results, Try.results41, go_sem]
    repeat (first | exact Gr.refl _ | refine Gr.alloc ?_ _ | refine Gr.grow ?_ _ | refine Gr.drew ?_)
  · have r1 : decide (63 < k2) = false := by simp; omega
    rw [if_neg g, if_neg g]
    have g1 : 0 ≤ k2 := by omega
    have g2 : k2 ≤ 64 := by omega
    have g3 : k1 ≤ 64 := by omega
    go_enter Try.func41, Try.ntmps41
    go_wp2
    simp [bodyPost, results, Try.results41, go_sem]
    repeat (first | exact Gr.refl _ | refine Gr.alloc ?_ _ | refine Gr.grow ?_ _ | refine Gr.drew ?_)

end Go.Proofs.Ytdlfmifkjmajpab
