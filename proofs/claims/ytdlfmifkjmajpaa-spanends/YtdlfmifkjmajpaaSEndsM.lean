/-
  Stage 2, span: widening ends. No Go in sight.
-/
import Derived.Test.YtdlfmifkjmajpaaSMath
namespace Go.Proofs.Ytdlfmifkjmajpaa
open Go.RowKit

/-- How often a span may still be changed. -/
def rem (a b : Int) : Int := (if a = 0 then 0 else 1) + (if b = 18446744073709551615 then 0 else 1)
theorem rem_le (a b : Int) : 0 ≤ rem a b ∧ rem a b ≤ 2 := by unfold rem; (repeat' split) <;> omega
/-- What Widen makes of a span that is not empty. -/
theorem widen_ends (a b c d : Int) (ha : W64 a) (hb : W64 b) (hc : W64 c) (hd : W64 d) (hab : a ≤ b) :
    W64 (wLo a b c d) ∧ W64 (wHi a b c d) ∧ wLo a b c d ≤ wHi a b c d ∧ inB a b (wLo a b c d) (wHi a b c d) = true ∧ inB c d (wLo a b c d) (wHi a b c d) = true ∧
      ((wLo a b c d = a ∧ wHi a b c d = b) ∨ rem (wLo a b c d) (wHi a b c d) + 1 ≤ rem a b) := by
  unfold W64 at *
  have e1 : ¬ b < a := by omega
  by_cases e : d < c
  · have j1 : joinLo a b c d = a := by unfold joinLo; rw [if_neg e1, if_pos e]
    have j2 : joinHi a b c d = b := by unfold joinHi; rw [if_neg e1, if_pos e]
    have w1 : wLo a b c d = a := by unfold wLo widLo widHi tLo; rw [if_pos (Or.inr e), if_pos (Or.inr e), j1, j2, if_neg e1]
    have w2 : wHi a b c d = b := by unfold wHi widLo widHi tHi; rw [if_pos (Or.inr e), if_pos (Or.inr e), j1, j2, if_neg e1]
    rw [w1, w2]
    refine ⟨by omega, by omega, hab, by simp [inB], by simp [inB, e], .inl ⟨rfl, rfl⟩⟩
  · have n : ¬ (b < a ∨ d < c) := by omega
    have j1 : joinLo a b c d = if a ≤ c then a else c := by unfold joinLo; rw [if_neg e1, if_neg e]
    have j2 : joinHi a b c d = if b ≤ d then d else b := by unfold joinHi; rw [if_neg e1, if_neg e]
    have v1 : widLo a b c d = if a ≤ c then a else 0 := by
      unfold widLo; rw [if_neg n, j1]; (repeat' split) <;> omega
    have v2 : widHi a b c d = if b < d then 18446744073709551615 else b := by
      unfold widHi; rw [if_neg n, j2]; (repeat' split) <;> omega
    have le : widLo a b c d ≤ widHi a b c d := by rw [v1, v2]; (repeat' split) <;> omega
    have w1 : wLo a b c d = if a ≤ c then a else 0 := by unfold wLo tLo; rw [if_neg (by omega), v1]
    have w2 : wHi a b c d = if b < d then 18446744073709551615 else b := by unfold wHi tHi; rw [if_neg (by omega), v2]
    rw [w1, w2]
    by_cases g1 : a ≤ c
    · by_cases g2 : b < d
      · rw [if_pos g1, if_pos g2]
        refine ⟨by omega, by omega, by omega, by simp [inB]; omega, by simp [inB]; omega, .inr ?_⟩
        unfold rem; (repeat' split) <;> omega
      · rw [if_pos g1, if_neg g2]
        refine ⟨by omega, by omega, by omega, by simp [inB], by simp [inB]; omega, .inl ⟨rfl, rfl⟩⟩
    · by_cases g2 : b < d
      · rw [if_neg g1, if_pos g2]
        refine ⟨by omega, by omega, by omega, by simp [inB]; omega, by simp [inB]; omega, .inr ?_⟩
        unfold rem; (repeat' split) <;> omega
      · rw [if_neg g1, if_neg g2]
        refine ⟨by omega, by omega, by omega, by simp [inB]; omega, by simp [inB]; omega, .inr ?_⟩
        unfold rem; (repeat' split) <;> omega
end Go.Proofs.Ytdlfmifkjmajpaa
