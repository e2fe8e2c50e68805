/-
  Stage 2, span: the document's own 'fill': all ones, by a loop.
-/
import Derived.Test.YtdlfmifkjmajpabSCaps
import Derived.Test.YtdlfmifkjmajpabSSndM
namespace Go.Proofs.Ytdlfmifkjmajpab
open Go.RowKit

/-- What is left of the ones, up to a length. -/
theorem fill_more {a b : Int} {j : Nat} (ha : W64 a) (hb : W64 b) (hj : j < Lib.bitLen (a.toNat ||| b.toNat)) : 2 ^ j - 1 < a ∨ 2 ^ j - 1 < b := by
  unfold W64 at *
  have n64 := or_lt64 (m := a.toNat) (n := b.toNat) (by omega) (by omega)
  have n0 : a.toNat ||| b.toNat ≠ 0 := by
    intro h; rw [h] at hj; simp [Lib.bitLen, Lib.bitLenAux] at hj
  obtain ⟨l1, l2, _⟩ := Lib.bitLenAux_bounds 64 _ n64 n0
  have l2' : 2 ^ (Lib.bitLen (a.toNat ||| b.toNat) - 1) ≤ a.toNat ||| b.toNat := l2
  have m : (2 : Nat) ^ j ≤ 2 ^ (Lib.bitLen (a.toNat ||| b.toNat) - 1) := Nat.pow_le_pow_right (by omega) (by omega)
  have o : ¬ (a.toNat < 2 ^ j ∧ b.toNat < 2 ^ j) := fun h => by
    have := Nat.or_lt_two_pow h.1 h.2
    omega
  have c : ((2 ^ j : Nat) : Int) = 2 ^ j := by simp
  omega
theorem fill_done {a b : Int} (ha : W64 a) (hb : W64 b) : ¬ (2 ^ Lib.bitLen (a.toNat ||| b.toNat) - 1 < a ∨ 2 ^ Lib.bitLen (a.toNat ||| b.toNat) - 1 < b) := by
  unfold W64 at *
  have k := bits_le (x := a.toNat) (y := b.toNat) (b := a.toNat) (d := b.toNat) (by omega) (by omega) (by omega) (by omega)
  have c : ((2 ^ Lib.bitLen (a.toNat ||| b.toNat) : Nat) : Int) = 2 ^ Lib.bitLen (a.toNat ||| b.toNat) := by simp
  omega

set_option maxHeartbeats 1000000 in
theorem fill_any (a b : Int) (w : World) (ha : W64 a) (hb : W64 b) :
    Calls Try.prog 36 #[.int .u64 a, .int .u64 b] w fun x w' => x = .returned (.int .u64 (ones a b)) ∧ w = w' := by
  have L64 : Lib.bitLen (a.toNat ||| b.toNat) ≤ 64 := by
    unfold W64 at *
    exact Lib.bitLen_le _ 64 (Nat.le_refl _) (or_lt64 (by omega) (by omega))
  have more : ∀ j, j < Lib.bitLen (a.toNat ||| b.toNat) → 2 ^ j - 1 < a ∨ 2 ^ j - 1 < b := fun j hj => fill_more ha hb hj
  have done := fill_done ha hb
  unfold ones
  generalize Lib.bitLen (a.toNat ||| b.toNat) = L at *
  have more' : Hid (∀ j, j < L → 2 ^ j - 1 < a ∨ 2 ^ j - 1 < b) := more
  have done' : Hid (¬ (2 ^ L - 1 < a ∨ 2 ^ L - 1 < b)) := done
  clear more done ha hb
  go_enter Try.func36, Try.ntmps36
  go_wp2
  go_loop [5] (fun t => ∃ (j : Nat) (B : Int), j ≤ L ∧ Hid (B = 2 ^ j - 1) ∧ 0 ≤ B ∧ t = .int .u64 B) (fun t => (18446744073709551615 - intOf t).toNat)
  case atStart => exact ⟨0, 0, by omega, rfl, by omega, rfl⟩
  case round =>
    obtain ⟨j, B, hj, hB, h1, rfl⟩ := hrel
    by_cases hl : j = L
    · subst hl
      have q := done'.out
      rw [← hB.out] at q
      have q1 : ¬ B < a := fun h => q (.inl h)
      have q2 : ¬ B < b := fun h => q (.inr h)
      have r1 : decide (B < a) = false := by simp; omega
      have r2 : decide (B < b) = false := by simp; omega
      clear q q1 q2
      go_wp2
      go_ret
      exact ⟨ret_u64 hB.out, rfl⟩
    · have q := more'.out j (by omega)
      rw [← hB.out] at q
      have p1 : (2 : Int) ^ (j + 1) ≤ 2 ^ 64 := pow_mono (by omega)
      have p2 : (2 : Int) ^ (j + 1) = 2 ^ j * 2 := Int.pow_succ 2 j
      have p3 := hB.out
      have g1 : IntKind.u64.wrap (2 * B) = 2 * B := by rw [IntKind.wrap_u64]; omega
      have g2 : IntKind.u64.wrap (2 * B + 1) = 2 * B + 1 := by rw [IntKind.wrap_u64]; omega
      have g3 : Hid (2 * B + 1 = 2 ^ (j + 1) - 1 ∧ B < 18446744073709551615) := ⟨by omega, by omega⟩
      clear p1 p2 p3
      by_cases q1 : B < a
      · have r1 : decide (B < a) = true := by simp; omega
        clear q
        go_wp2
        have := g3.out
        refine ⟨⟨j + 1, 2 * B + 1, by omega, this.1, by omega, rfl⟩, ?_⟩
        simp [intOf]; omega
      · have r1 : decide (B < a) = false := by simp; omega
        have q2 : B < b := by omega
        have r2 : decide (B < b) = true := by simp; omega
        clear q
        go_wp2
        have := g3.out
        refine ⟨⟨j + 1, 2 * B + 1, by omega, this.1, by omega, rfl⟩, ?_⟩
        simp [intOf]; omega
end Go.Proofs.Ytdlfmifkjmajpab
