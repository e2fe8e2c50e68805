/-
  Stage 2, span: nothing is lost by an operation. No Go in sight.
-/
import Derived.Test.YtodhgmeecphckaaSMath
import Derived.Laws.BitsAllLaws
import Derived.Lib.ItoaNum
namespace Go.Proofs.Ytodhgmeecphckaa
open Go.RowKit

theorem pow_pos (k : Nat) : (0 : Int) < 2 ^ k := Int.pow_pos (by omega)
theorem pow_mono {j k : Nat} (h : j ≤ k) : (2 : Int) ^ j ≤ 2 ^ k := by
  have := Nat.pow_le_pow_right (n := 2) (by omega) h
  have h2 : ((2 ^ j : Nat) : Int) ≤ ((2 ^ k : Nat) : Int) := Int.ofNat_le.mpr this
  simpa using h2
theorem lt_len (n : Nat) (h : n < 18446744073709551616) : n < 2 ^ Lib.bitLen n := by
  by_cases h0 : n = 0
  · subst h0; exact Nat.pow_pos (by omega)
  · exact (Lib.bitLenAux_bounds 64 n h h0).2.2
theorem ones_eq (b d : Int) : ones b d = ((2 ^ Lib.bitLen (b.toNat ||| d.toNat) - 1 : Nat) : Int) := by
  unfold ones
  have h : 0 < 2 ^ Lib.bitLen (b.toNat ||| d.toNat) := Nat.pow_pos (by omega)
  rw [Int.ofNat_sub (by omega)]
  simp
theorem or_lt64 {m n : Nat} (hm : m < 18446744073709551616) (hn : n < 18446744073709551616) : m ||| n < 18446744073709551616 := Nat.or_lt_two_pow (n := 64) hm hn
/-- Numbers that are not above two others are of no more bits than these. -/
theorem bits_le {x y b d : Nat} (hb : b < 18446744073709551616) (hd : d < 18446744073709551616) (h1 : x ≤ b) (h2 : y ≤ d) : x < 2 ^ Lib.bitLen (b ||| d) ∧ y < 2 ^ Lib.bitLen (b ||| d) := by
  have h := lt_len (b ||| d) (or_lt64 hb hd)
  have l1 : b ≤ b ||| d := Nat.left_le_or
  have l2 : d ≤ b ||| d := Nat.right_le_or
  omega
theorem or_in {x y a b c d : Int} (hx : a ≤ x ∧ x ≤ b) (hy : c ≤ y ∧ y ≤ d) (ha : W64 a) (hb : W64 b) (hc : W64 c) (hd : W64 d) : maxI a c ≤ bits .or .u64 x y ∧ bits .or .u64 x y ≤ ones b d := by
  unfold W64 at *
  rw [u64_or x y (by omega) (by omega) (by omega) (by omega), ones_eq]
  have k := bits_le (x := x.toNat) (y := y.toNat) (b := b.toNat) (d := d.toNat) (by omega) (by omega) (by omega) (by omega)
  have o := Nat.or_lt_two_pow k.1 k.2
  have l1 : x.toNat ≤ x.toNat ||| y.toNat := Nat.left_le_or
  have l2 : y.toNat ≤ x.toNat ||| y.toNat := Nat.right_le_or
  constructor
  · unfold maxI; split <;> omega
  · omega
theorem xor_in {x y a b c d : Int} (hx : a ≤ x ∧ x ≤ b) (hy : c ≤ y ∧ y ≤ d) (ha : W64 a) (hb : W64 b) (hc : W64 c) (hd : W64 d) : 0 ≤ bits .xor .u64 x y ∧ bits .xor .u64 x y ≤ ones b d := by
  unfold W64 at *
  rw [u64_xor x y (by omega) (by omega) (by omega) (by omega), ones_eq]
  have k := bits_le (x := x.toNat) (y := y.toNat) (b := b.toNat) (d := d.toNat) (by omega) (by omega) (by omega) (by omega)
  have o := Nat.xor_lt_two_pow k.1 k.2
  omega
theorem and_in {x y a b c d : Int} (hx : a ≤ x ∧ x ≤ b) (hy : c ≤ y ∧ y ≤ d) (ha : W64 a) (hb : W64 b) (hc : W64 c) (hd : W64 d) : 0 ≤ bits .and .u64 x y ∧ bits .and .u64 x y ≤ minI b d := by
  unfold W64 at *
  rw [u64_and x y (by omega) (by omega) (by omega) (by omega)]
  have l1 : x.toNat &&& y.toNat ≤ x.toNat := Nat.and_le_left
  have l2 : x.toNat &&& y.toNat ≤ y.toNat := Nat.and_le_right
  constructor
  · omega
  · unfold minI; split <;> omega
theorem mul_mono {x y b d : Int} (h0 : 0 ≤ x) (h1 : x ≤ b) (h2 : 0 ≤ y) (h3 : y ≤ d) : x * y ≤ b * d := Int.le_trans (Int.mul_le_mul_of_nonneg_right h1 h2) (Int.mul_le_mul_of_nonneg_left h3 (by omega))
theorem mul_in {x y a b c d : Int} (hx : a ≤ x ∧ x ≤ b) (hy : c ≤ y ∧ y ≤ d) (ha : W64 a) (hc : W64 c) : proLo a b c d ≤ x * y % 18446744073709551616 ∧ x * y % 18446744073709551616 ≤ proHi b d ∧ proLo a b c d ≤ proHi b d := by
  unfold W64 at *
  have m1 := mul_mono (x := x) (y := y) (b := b) (d := d) (by omega) hx.2 (by omega) hy.2
  have m2 := mul_mono (x := a) (y := c) (b := x) (d := y) (by omega) hx.1 (by omega) hy.1
  have p1 : 0 ≤ a * c := Int.mul_nonneg (by omega) (by omega)
  unfold proLo proHi
  generalize a * c = p at *
  generalize x * y = q at *
  generalize b * d = r at *
  split <;> omega
/-- Moved down and up. -/
theorem dn_mono {x b : Int} {j k : Nat} (h0 : 0 ≤ x) (h1 : x ≤ b) (h : j ≤ k) : x / 2 ^ k ≤ b / 2 ^ j := by
  have p1 := pow_pos k
  have p2 := pow_pos j
  have e1 : x / 2 ^ k ≤ x / 2 ^ j := by
    apply Int.le_ediv_of_mul_le p2
    have q0 : 0 ≤ x / 2 ^ k := Int.ediv_nonneg h0 (by omega)
    exact Int.le_trans (Int.mul_le_mul_of_nonneg_left (pow_mono h) q0) (Int.ediv_mul_le x (by omega))
  exact Int.le_trans e1 (Int.ediv_le_ediv p2 h1)
/-- What stays whole, moved up, is not beyond. -/
theorem up_lt {b : Int} {k : Nat} (h : b * 2 ^ k % 18446744073709551616 / 2 ^ k = b) : b * 2 ^ k < 18446744073709551616 := by
  have p := pow_pos k
  have h1 : b * 2 ^ k ≤ b * 2 ^ k % 18446744073709551616 := by
    have := Int.ediv_mul_le (b * 2 ^ k % 18446744073709551616) (b := 2 ^ k) (by omega)
    rwa [h] at this
  have h2 : b * 2 ^ k % 18446744073709551616 < 18446744073709551616 := Int.emod_lt_of_pos _ (by omega)
  omega
theorem plc_at {y c d : Int} (hc : 0 ≤ c) (hy : c ≤ y ∧ y ≤ d) (h : plc c d d < 64) : plc c d c ≤ y % 64 ∧ y % 64 ≤ plc c d d ∧ 0 ≤ plc c d c := by
  unfold plc at *; split at h <;> simp_all <;> omega
theorem up_in {x y a b c d : Int} (hx : a ≤ x ∧ x ≤ b) (hy : c ≤ y ∧ y ≤ d) (ha : W64 a) (_hb : W64 b) (hc : W64 c) :
    upLo a b c d ≤ x * 2 ^ (y % 64).toNat % 18446744073709551616 ∧ x * 2 ^ (y % 64).toNat % 18446744073709551616 ≤ upHi b c d ∧ upLo a b c d ≤ upHi b c d := by
  unfold W64 at *
  have hz0 : 0 ≤ x * 2 ^ (y % 64).toNat % 18446744073709551616 := Int.emod_nonneg _ (by omega)
  have hz1 : x * 2 ^ (y % 64).toNat % 18446744073709551616 < 18446744073709551616 := Int.emod_lt_of_pos _ (by omega)
  unfold upLo upHi
  cases hu : upOk b (plc c d d) with
  | false => simp only [Bool.false_eq_true, if_false]; omega
  | true =>
    simp only [if_true]
    have hu' : plc c d d < 64 ∧ b * 2 ^ (plc c d d).toNat % 18446744073709551616 / 2 ^ (plc c d d).toNat = b := by simpa [upOk] using hu
    have pl := plc_at hc.1 hy hu'.1
    have lt := up_lt hu'.2
    generalize plc c d c = k1 at *
    generalize plc c d d = k2 at *
    have e1 : x * 2 ^ (y % 64).toNat ≤ b * 2 ^ k2.toNat := mul_mono (by omega) hx.2 (Int.le_of_lt (pow_pos _)) (pow_mono (by omega))
    have e2 : a * 2 ^ k1.toNat ≤ x * 2 ^ (y % 64).toNat := mul_mono (by omega) hx.1 (Int.le_of_lt (pow_pos _)) (pow_mono (by omega))
    have e3 : 0 ≤ a * 2 ^ k1.toNat := Int.mul_nonneg (by omega) (Int.le_of_lt (pow_pos _))
    generalize x * 2 ^ (y % 64).toNat = q at *
    generalize a * 2 ^ k1.toNat = p at *
    generalize b * 2 ^ k2.toNat = r at *
    omega
theorem dn_in {x y a b c d : Int} (hx : a ≤ x ∧ x ≤ b) (hy : c ≤ y ∧ y ≤ d) (ha : W64 a) (hc : W64 c) :
    dnLo a c d ≤ x / 2 ^ (y % 64).toNat ∧ x / 2 ^ (y % 64).toNat ≤ dnHi b c d ∧ dnLo a c d ≤ dnHi b c d := by
  unfold W64 at *
  have z0 : 0 ≤ x / 2 ^ (y % 64).toNat := Int.ediv_nonneg (by omega) (Int.le_of_lt (pow_pos _))
  unfold dnLo dnHi
  by_cases h : 64 ≤ plc c d d
  · rw [if_pos h, if_pos h]
    have := dn_mono (x := x) (b := b) (j := 0) (k := (y % 64).toNat) (by omega) hx.2 (by omega)
    simp at this
    omega
  · rw [if_neg h, if_neg h]
    have pl := plc_at hc.1 hy (by omega)
    generalize plc c d c = k1 at *
    generalize plc c d d = k2 at *
    have e1 := dn_mono (x := a) (b := x) (j := (y % 64).toNat) (k := k2.toNat) (by omega) hx.1 (by omega)
    have e2 := dn_mono (x := x) (b := b) (j := k1.toNat) (k := (y % 64).toNat) (by omega) hx.2 (by omega)
    omega
theorem truth_le (t : Bool) : 0 ≤ truth t ∧ truth t ≤ 1 := by cases t <;> decide
/-- NOTHING IS LOST: what comes of two numbers of two spans is in what Apply answers. -/
theorem apply_sound {op x y a b c d : Int} (ho : isOp op = true) (hx : a ≤ x ∧ x ≤ b) (hy : c ≤ y ∧ y ≤ d) (ha : W64 a) (hb : W64 b) (hc : W64 c) (hd : W64 d) :
    apLo op a b c d ≤ one op x y ∧ one op x y ≤ apHi op a b c d ∧ apLo op a b c d ≤ apHi op a b c d := by
  unfold apLo apHi
  have e0 : ¬ (b < a ∨ d < c) := by omega
  rw [if_neg e0, if_neg e0, if_pos ho, if_pos ho]
  by_cases s : a = b ∧ c = d
  · rw [if_pos s, if_pos s]
    obtain rfl : x = a := by omega
    obtain rfl : y = c := by omega
    omega
  rw [if_neg s, if_neg s]
  have t : op = 3 ∨ op = 4 ∨ op = 5 ∨ op = 6 ∨ op = 7 ∨ op = 8 ∨ op = 9 ∨ op = 10 ∨ op = 12 ∨ op = 13 := by simp [isOp] at ho; omega
  rcases t with rfl | rfl | rfl | rfl | rfl | rfl | rfl | rfl | rfl | rfl
  · show sumLo a b c d ≤ (x + y) % 18446744073709551616 ∧ (x + y) % 18446744073709551616 ≤ sumHi a b c d ∧ sumLo a b c d ≤ sumHi a b c d
    unfold W64 at *
    unfold sumLo sumHi; split <;> omega
  · show difLo a b c d ≤ (x - y) % 18446744073709551616 ∧ (x - y) % 18446744073709551616 ≤ difHi a b c d ∧ difLo a b c d ≤ difHi a b c d
    unfold W64 at *
    unfold difLo difHi bor; (repeat' split) <;> omega
  · exact mul_in hx hy ha hc
  · have := and_in hx hy ha hb hc hd
    exact ⟨this.1, this.2, by show 0 ≤ minI b d; unfold W64 at *; unfold minI; split <;> omega⟩
  · have := or_in hx hy ha hb hc hd
    exact ⟨this.1, this.2, Int.le_trans this.1 this.2⟩
  · have := xor_in hx hy ha hb hc hd
    exact ⟨this.1, this.2, Int.le_trans this.1 this.2⟩
  · exact up_in hx hy ha hb hc
  · exact dn_in hx hy ha hc
  · show bwLo b c ≤ truth (decide (x < y)) ∧ truth (decide (x < y)) ≤ bwHi a b c d ∧ bwLo b c ≤ bwHi a b c d
    have l := truth_le (decide (x < y))
    unfold bwLo bwHi
    by_cases h1 : b < c
    · rw [if_pos h1, if_pos h1, show decide (x < y) = true by simp; omega]; decide
    · rw [if_neg h1, if_neg h1]
      by_cases h2 : d ≤ a
      · rw [if_pos h2, show decide (x < y) = false by simp; omega]; decide
      · rw [if_neg h2]; omega
  · show 0 ≤ truth (x == y) ∧ truth (x == y) ≤ eqHi a b c d ∧ 0 ≤ eqHi a b c d
    have l := truth_le (x == y)
    unfold eqHi
    split
    · rename_i h
      have e : (x == y) = false := by
        simp; unfold minI maxI at h; intro e; subst e; (repeat' split at h) <;> omega
      rw [e]; decide
    · omega
end Go.Proofs.Ytodhgmeecphckaa
