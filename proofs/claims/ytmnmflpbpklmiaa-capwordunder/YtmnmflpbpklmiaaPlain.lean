/-
  Stage 1, capword: the plain functions that the walks speak of. No Go in sight.
-/
import Derived.WalkKit
import Derived.Laws.BitsAllLaws
namespace Go.Proofs.Ytmnmflpbpklmiaa
open Go.RowKit

/-- 'h' has all bits of 'p' (bytes). -/
def hasB (h p : Int) : Bool := bits .andNot .u8 p h == 0
/-- 'n' bytes from 'a' on lie within 'b' and 'e'. -/
def holdsB (b e a n : Int) : Bool := decide (b ≤ a) && decide (a ≤ e) && decide (n ≤ IntKind.u64.wrap (e - a))
def rightB (b e p s : Int) : Bool := decide (b ≤ e) && decide (e ≤ 4294967296) && hasB 127 p && decide (0 ≤ s) && decide (s ≤ 15)
def underB (b e p s b' e' p' s' : Int) : Bool := decide (b' ≤ b) && decide (e ≤ e') && hasB p' p && (s == s')
def accessF (b e c p s off n q : Int) : Int :=
  if s = 0 then (if hasB p q then (if holdsB b e (IntKind.u64.wrap (c + off)) n then 0 else 5) else 4) else 3

/-- What SetBounds answers. -/
def SetB (b e c p s n b' e' c' p' s' f : Int) : Prop :=
  (s ≠ 0 ∧ b' = 0 ∧ e' = 0 ∧ c' = 0 ∧ p' = 0 ∧ s' = 0 ∧ f = 3) ∨
  (s = 0 ∧ holdsB b e c n = false ∧ b' = 0 ∧ e' = 0 ∧ c' = 0 ∧ p' = 0 ∧ s' = 0 ∧ f = 5) ∨
  (s = 0 ∧ holdsB b e c n = true ∧ b' = c ∧ e' = IntKind.u64.wrap (c + n) ∧ c' = c ∧ p' = p ∧ s' = s ∧ f = 0)
/-- What AndPerm answers. -/
def AndP (b e c p s q b' e' c' p' s' f : Int) : Prop :=
  (s ≠ 0 ∧ b' = 0 ∧ e' = 0 ∧ c' = 0 ∧ p' = 0 ∧ s' = 0 ∧ f = 3) ∨
  (s = 0 ∧ b' = b ∧ e' = e ∧ c' = c ∧ p' = bits .and .u8 p q ∧ s' = s ∧ f = 0)
/-- What Inc answers. -/
def IncR (b e c p s n b' e' c' p' s' f : Int) : Prop :=
  (s ≠ 0 ∧ b' = 0 ∧ e' = 0 ∧ c' = 0 ∧ p' = 0 ∧ s' = 0 ∧ f = 3) ∨
  (s = 0 ∧ b' = b ∧ e' = e ∧ c' = IntKind.u64.wrap (c + n) ∧ p' = p ∧ s' = s ∧ f = 0)
/-- What hinders a capability from naming a seal. -/
def keyF (b e c p s q : Int) : Int :=
  if s = 0 then (if hasB p q then (if b ≤ c ∧ c < e then 0 else 5) else 4) else 3
/-- What SealBy answers. -/
def SealR (b e c p s kb ke kc kp ks b' e' c' p' s' f : Int) : Prop :=
  (s ≠ 0 ∧ b' = 0 ∧ e' = 0 ∧ c' = 0 ∧ p' = 0 ∧ s' = 0 ∧ f = 3) ∨
  (s = 0 ∧ keyF kb ke kc kp ks 32 ≠ 0 ∧ b' = 0 ∧ e' = 0 ∧ c' = 0 ∧ p' = 0 ∧ s' = 0 ∧ f = keyF kb ke kc kp ks 32) ∨
  (s = 0 ∧ keyF kb ke kc kp ks 32 = 0 ∧ (kc < 1 ∨ 15 < kc) ∧ b' = 0 ∧ e' = 0 ∧ c' = 0 ∧ p' = 0 ∧ s' = 0 ∧ f = 6) ∨
  (s = 0 ∧ keyF kb ke kc kp ks 32 = 0 ∧ 1 ≤ kc ∧ kc ≤ 15 ∧ b' = b ∧ e' = e ∧ c' = c ∧ p' = p ∧ s' = kc ∧ f = 0)

theorem holds_false {b e a n : Int} (h : ¬ (b ≤ a ∧ a ≤ e ∧ n ≤ IntKind.u64.wrap (e - a))) : false = holdsB b e a n := by
  symm; rw [Bool.eq_false_iff]; intro hh
  simp only [holdsB, Bool.and_eq_true, decide_eq_true_eq] at hh
  exact h ⟨hh.1.1, hh.1.2, hh.2⟩
theorem holds_last {b e a n : Int} (h1 : b ≤ a) (h2 : a ≤ e) : decide (n ≤ IntKind.u64.wrap (e - a)) = holdsB b e a n := by simp [holdsB, h1, h2]
theorem right_false {b e p s : Int} (h : ¬ (b ≤ e ∧ e ≤ 4294967296 ∧ hasB 127 p = true ∧ 0 ≤ s ∧ s ≤ 15)) : false = rightB b e p s := by
  symm; rw [Bool.eq_false_iff]; intro hh
  simp only [rightB, Bool.and_eq_true, decide_eq_true_eq] at hh
  exact h ⟨hh.1.1.1.1, hh.1.1.1.2, hh.1.1.2, hh.1.2, hh.2⟩
theorem right_last {b e p s : Int} (h1 : b ≤ e) (h2 : e ≤ 4294967296) (h3 : hasB 127 p = true) (h4 : 0 ≤ s) : decide (s ≤ 15) = rightB b e p s := by simp [rightB, h1, h2, h3, h4]
theorem under_false {b e p s b' e' p' s' : Int} (h : ¬ (b' ≤ b ∧ e ≤ e' ∧ hasB p' p = true ∧ s = s')) : false = underB b e p s b' e' p' s' := by
  symm; rw [Bool.eq_false_iff]; intro hh
  simp only [underB, Bool.and_eq_true, decide_eq_true_eq, beq_iff_eq] at hh
  exact h ⟨hh.1.1.1, hh.1.1.2, hh.1.2, hh.2⟩
theorem under_last {b e p s b' e' p' s' : Int} (h1 : b' ≤ b) (h2 : e ≤ e') (h3 : hasB p' p = true) : (s == s') = underB b e p s b' e' p' s' := by simp [underB, h1, h2, h3]

theorem ret_bool {a b : Bool} (h : a = b) : Ending.returned (.bool a) = .returned (.bool b) := by rw [h]
theorem ret_int {k : IntKind} {a b : Int} (h : a = b) : Ending.returned (.int k a) = .returned (.int k b) := by rw [h]
theorem bat {W w1 : World} (hb : Below W.heap.size W w1) (k : Nat) (h : k < W.heap.size) : (∀ o, w1.cell? ⟨k, o, none⟩ = W.cell? ⟨k, o, none⟩) ∧ (∀ o, w1.frozen? ⟨k, o, none⟩ = W.frozen? ⟨k, o, none⟩) :=
  ⟨fun o => hb.cell (p := ⟨k, o, none⟩) h, fun o => hb.frozen (p := ⟨k, o, none⟩) h⟩
theorem cast_bit (a j : Nat) : ((a / 2 ^ j % 2 : Nat) : Int) = (a : Int) / 2 ^ j % 2 := by simp
theorem bit_cast (a j : Nat) : ((a : Int) / 2 ^ j % 2 = 1) ↔ a / 2 ^ j % 2 = 1 := by
  have := cast_bit a j
  omega
theorem pow_le7 (i : Nat) (h : i ≤ 7) : (2 : Int) ^ i ≤ 128 := by
  have : i = 0 ∨ i = 1 ∨ i = 2 ∨ i = 3 ∨ i = 4 ∨ i = 5 ∨ i = 6 ∨ i = 7 := by omega
  rcases this with rfl | rfl | rfl | rfl | rfl | rfl | rfl | rfl <;> decide
def HasUpto (p q : Int) (i : Nat) : Prop := ∀ j, j < i → q / 2 ^ j % 2 = 1 → p / 2 ^ j % 2 = 1

theorem andNot_iff (a b : Nat) (_ha : a < 256) (hb : b < 256) : a &&& (255 - b) = 0 ↔ ∀ j, j < 8 → a / 2 ^ j % 2 = 1 → b / 2 ^ j % 2 = 1 := by
  have hs : ∀ j, (255 - b).testBit j = (decide (j < 8) && !b.testBit j) := by
    intro j
    have := Nat.testBit_two_pow_sub_succ (x := b) (n := 8) (by simpa using hb) j
    simpa using this
  constructor
  · intro h j hj h1
    have ht : (a &&& (255 - b)).testBit j = false := by rw [h]; simp
    rw [Nat.testBit_and, hs] at ht
    simp only [Nat.testBit_eq_decide_div_mod_eq] at ht
    simpa [hj, h1] using ht
  · intro h
    apply Nat.eq_of_testBit_eq
    intro j
    rw [Nat.testBit_and, hs, Nat.zero_testBit]
    by_cases hj : j < 8
    · have := h j hj
      simp only [Nat.testBit_eq_decide_div_mod_eq]
      by_cases h1 : a / 2 ^ j % 2 = 1
      · simp [this h1]
      · simp [h1]
    · simp [hj]

theorem hasB_iff (p q : Int) (hp0 : 0 ≤ p) (hp1 : p < 256) (hq0 : 0 ≤ q) (hq1 : q < 256) : hasB p q = true ↔ HasUpto p q 8 := by
  obtain ⟨a, rfl⟩ := Int.eq_ofNat_of_zero_le hp0
  obtain ⟨b, rfl⟩ := Int.eq_ofNat_of_zero_le hq0
  unfold hasB HasUpto
  rw [u8_andNot_nat _ _ (by omega) (by omega)]
  have key := andNot_iff b a (by omega) (by omega)
  constructor
  · intro h j hj h1
    have h' : b &&& (255 - a) = 0 := by simpa using h
    exact (bit_cast a j).mpr (key.mp h' j hj ((bit_cast b j).mp h1))
  · intro h
    have : b &&& (255 - a) = 0 := key.mpr fun j hj h1 => (bit_cast a j).mp (h j hj ((bit_cast b j).mpr h1))
    simp [this]

theorem pow_small {i : Nat} {B : Int} (hi : i ≤ 8) (hB : B = 2 ^ i) (h : B ≤ 128) : i < 8 := by
  have : i ≠ 8 := by rintro rfl; subst hB; omega
  omega
theorem pow_great {i : Nat} {B : Int} (hi : i ≤ 8) (hB : B = 2 ^ i) (h : ¬ B ≤ 128) : i = 8 := by
  have : i < 9 := by omega
  rcases Nat.lt_or_ge i 8 with h8 | h8
  · exfalso
    have := pow_le7 i (by omega)
    omega
  · omega
theorem tmod2 {q B : Int} (h : 0 ≤ q) (hB : 1 ≤ B) : (q / B).tmod 2 = q / B % 2 := Int.tmod_eq_emod_of_nonneg (Int.ediv_nonneg h (by omega))
theorem has_no {p q B : Int} {i : Nat} (hp0 : 0 ≤ p) (hp1 : p < 256) (hq0 : 0 ≤ q) (hq1 : q < 256) (hi : i < 8) (hB : B = 2 ^ i) (h1 : 1 ≤ B) (c1 : (q / B).tmod 2 = 1) (c2 : ((p / B).tmod 2 == 0) = true) : false = hasB p q := by
  rw [tmod2 hq0 h1] at c1
  rw [tmod2 hp0 h1] at c2
  have c2' : p / B % 2 = 0 := by simpa using c2
  symm
  rw [Bool.eq_false_iff]
  intro h
  have := (hasB_iff p q hp0 hp1 hq0 hq1).mp h i hi (by rw [← hB]; exact c1)
  rw [← hB] at this
  omega
theorem has_yes {p q B : Int} {i : Nat} (hp0 : 0 ≤ p) (hB : B = 2 ^ i) (h1 : 1 ≤ B) (hu : HasUpto p q i) (c2 : ((p / B).tmod 2 == 0) = false) : HasUpto p q (i + 1) := by
  rw [tmod2 hp0 h1] at c2
  have c2' : ¬ p / B % 2 = 0 := by simpa using c2
  intro j hj h
  rcases Nat.lt_or_ge j i with hlt | hge
  · exact hu j hlt h
  · obtain rfl : j = i := by omega
    rw [← hB]; omega
theorem has_skip {p q B : Int} {i : Nat} (hq0 : 0 ≤ q) (hB : B = 2 ^ i) (h1 : 1 ≤ B) (hu : HasUpto p q i) (c1 : ¬ (q / B).tmod 2 = 1) : HasUpto p q (i + 1) := by
  rw [tmod2 hq0 h1] at c1
  intro j hj h
  rcases Nat.lt_or_ge j i with hlt | hge
  · exact hu j hlt h
  · obtain rfl : j = i := by omega
    rw [hB] at c1; exact absurd h c1
theorem pow_next {i : Nat} {B : Int} (hB : B = 2 ^ i) : 2 * B = 2 ^ (i + 1) := by rw [hB, Int.pow_succ]; omega
end Go.Proofs.Ytmnmflpbpklmiaa
