/-
  Stage 1, capword: what Access lets be. No Go in sight.
-/
import Derived.Test.YtmnmflpbpklmiaaPlainD
namespace Go.Proofs.Ytmnmflpbpklmiaa
open Go.RowKit

theorem access_zero {b e c p s off n q : Int} : accessF b e c p s off n q = 0 ↔ s = 0 ∧ hasB p q = true ∧ holdsB b e (IntKind.u64.wrap (c + off)) n = true := by
  unfold accessF
  by_cases h0 : s = 0
  · by_cases h1 : hasB p q = true
    · by_cases h2 : holdsB b e (IntKind.u64.wrap (c + off)) n = true
      · simp [h0, h1, h2]
      · rw [if_pos h0, if_pos h1, if_neg h2]; simp [h2]
    · rw [if_pos h0, if_neg h1]; simp [h1]
  · rw [if_neg h0]; simp [h0]
theorem holds_iff {b e a n : Int} : holdsB b e a n = true ↔ b ≤ a ∧ a ≤ e ∧ n ≤ IntKind.u64.wrap (e - a) := by
  simp [holdsB, and_assoc]
theorem holds_more {b e b' e' a n : Int} (h0 : 0 ≤ b) (h1 : e' < 18446744073709551616) (hb : b' ≤ b) (he : e ≤ e') (h : holdsB b e a n = true) : holdsB b' e' a n = true := by
  rw [holds_iff] at h ⊢
  rw [IntKind.wrap_u64] at h ⊢
  omega
theorem used_under {b e c p s b' e' p' s' off n q : Int} (hp : 0 ≤ p ∧ p < 256) (hp' : 0 ≤ p' ∧ p' < 256) (hq : 0 ≤ q ∧ q < 256) (h0 : 0 ≤ b) (h1 : e' < 18446744073709551616)
    (hu : underB b e p s b' e' p' s' = true) (ha : accessF b e c p s off n q = 0) : accessF b' e' c p' s' off n q = 0 := by
  obtain ⟨u1, u2, u3, u4⟩ := (underB_iff ..).mp hu
  obtain ⟨a1, a2, a3⟩ := access_zero.mp ha
  exact access_zero.mpr ⟨by omega, hasB_trans hq hp hp' a2 u3, holds_more h0 h1 u1 u2 a3⟩
theorem used_step {b e c p off n q i : Int} (_h0 : 0 ≤ b) (h1 : e < 1000) (hp : hasB p q = true) (hh : holdsB b e (IntKind.u64.wrap (c + off)) n = true) (hi : 0 ≤ i) (hin : i < n) :
    accessF b e c p 0 (IntKind.u64.wrap (off + i)) 1 q = 0 ∧ b ≤ IntKind.u64.wrap (IntKind.u64.wrap (c + off) + i) ∧ IntKind.u64.wrap (IntKind.u64.wrap (c + off) + i) < e := by
  rw [holds_iff] at hh
  rw [access_zero, holds_iff]
  simp only [IntKind.wrap_u64] at hh ⊢
  refine ⟨⟨trivial, hp, ?_⟩, ?_⟩ <;> omega
theorem and_full (a b : Nat) (ha : a < 256) (hb : b < 256) (h : b &&& (255 - a) = 0) : a &&& b = b := by
  have key := (andNot_iff b a hb ha).mp h
  apply Nat.eq_of_testBit_eq
  intro j
  rw [Nat.testBit_and]
  by_cases hj : j < 8
  · have := key j hj
    simp only [Nat.testBit_eq_decide_div_mod_eq]
    by_cases h1 : b / 2 ^ j % 2 = 1
    · simp [this h1, h1]
    · simp [h1]
  · have : b.testBit j = false := Nat.testBit_lt_two_pow (Nat.lt_of_lt_of_le hb (by simpa using Nat.pow_le_pow_right (n := 2) (by omega) (show 8 ≤ j by omega)))
    simp [this]
theorem has_and {p q : Int} (hp : 0 ≤ p ∧ p < 256) (hq : 0 ≤ q ∧ q < 256) (h : hasB p q = true) : bits .and .u8 p q = q := by
  obtain ⟨p0, p1⟩ := hp
  obtain ⟨q0, q1⟩ := hq
  obtain ⟨a, rfl⟩ := Int.eq_ofNat_of_zero_le p0
  obtain ⟨c, rfl⟩ := Int.eq_ofNat_of_zero_le q0
  unfold hasB at h
  rw [u8_andNot_nat _ _ (by omega) (by omega)] at h
  rw [u8_and_nat _ _ (by omega) (by omega)]
  have h' : c &&& (255 - a) = 0 := by simpa using h
  rw [and_full a c (by omega) (by omega) h']
end Go.Proofs.Ytmnmflpbpklmiaa
