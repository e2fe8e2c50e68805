/-
  Stage 9, regtype: the program's small calls.
-/
import Derived.Test.YtbbpbfbifgfjdaaRRef
namespace Go.Proofs.Ytbbpbfbifgfjdaa
namespace R
open Go.RowKit

theorem amg_not {a b : Nat} (ha : a < 256) (hb : b < 256) : (bits .andNot .u8 (a : Int) (b : Int) == 0) = amg a b := by
  rw [u8_andNot_nat _ _ ha hb]
  have hs : ∀ j, (255 - b).testBit j = (decide (j < 8) && !b.testBit j) := by
    intro j
    have := Nat.testBit_two_pow_sub_succ (x := b) (n := 8) (by simpa using hb) j
    simpa using this
  have ht : ∀ j, 8 ≤ j → a.testBit j = false := by
    intro j hj
    have hp : 256 ≤ 2 ^ j := by
      have := Nat.pow_le_pow_right (n := 2) (by omega) hj
      simpa using this
    exact Nat.testBit_lt_two_pow (by omega)
  rw [Bool.eq_iff_iff, amg_iff]
  have e0 : ((((a &&& (255 - b) : Nat) : Int) == 0) = true) ↔ a &&& (255 - b) = 0 := by simp
  rw [e0]
  constructor
  · intro h i hi
    have h1 : (a &&& (255 - b)).testBit i = false := by rw [h]; simp
    rw [Nat.testBit_and, hs, hi] at h1
    by_cases h8 : i < 8
    · simpa [h8] using h1
    · rw [ht i (by omega)] at hi; cases hi
  · intro h
    apply Nat.eq_of_testBit_eq
    intro i
    rw [Nat.testBit_and, hs, Nat.zero_testBit]
    cases hi : a.testBit i
    · rfl
    · rw [h i hi]; simp
set_option maxHeartbeats 400000 in
theorem pAmong_any (a b : Nat) (w : World) (ha : a < 256) (hb : b < 256) : Calls Try.prog 32 #[.int .u8 a, .int .u8 b] w fun x w' => x = .returned (.bool (amg a b)) ∧ w = w' := by
  rw [← amg_not ha hb]
  clear ha hb
  go_enter Try.func32, Try.ntmps32
  go_wp2_with fail
  go_ret
  exact ⟨rfl, rfl⟩
/-- Likewise, of numbers. -/
def amI (a b : Int) : Bool := amg a.toNat b.toNat
theorem amI_nat (a b : Nat) : amI (a : Int) (b : Int) = amg a b := rfl
theorem amI_127 (a : Nat) : amI (a : Int) 127 = amg a 127 := rfl
theorem pAmong_int (a b : Int) (w : World) (ha : 0 ≤ a ∧ a < 256) (hb : 0 ≤ b ∧ b < 256) : Calls Try.prog 32 #[.int .u8 a, .int .u8 b] w fun x w' => x = .returned (.bool (amI a b)) ∧ w = w' := by
  have h := pAmong_any a.toNat b.toNat w (by omega) (by omega)
  rw [Int.toNat_of_nonneg ha.1, Int.toNat_of_nonneg hb.1] at h
  exact h
/-- A seal within another one. -/
def swB (a b : Int) : Bool := decide (b = -1) || a == b
theorem swB_eq {a b : Int} (h : -1 ≤ b) : swB a b = (decide (b < 0) || a == b) := by
  unfold swB
  rw [Bool.eq_iff_iff]
  simp only [Bool.or_eq_true, decide_eq_true_eq, beq_iff_eq]
  omega
set_option maxHeartbeats 400000 in
theorem pSeal_any (a b : Int) (w : World) : Calls Try.prog 33 #[.int .i64 a, .int .i64 b] w fun x w' => x = .returned (.bool (swB a b)) ∧ w = w' := by
  unfold swB
  by_cases h : b = -1
  · subst h
    go_enter Try.func33, Try.ntmps33
    go_wp2_with fail
    go_ret
    exact ⟨rfl, rfl⟩
  · go_enter Try.func33, Try.ntmps33
    go_wp2_with fail
    go_ret
    exact ⟨ret_bool (by simp [h]), rfl⟩
set_option maxHeartbeats 400000 in
theorem pEmpty_any (a b : Int) (w : World) : Calls Try.prog 59 #[.agg #[.int .u64 a, .int .u64 b]] w fun x w' => x = .returned (.bool (decide (b < a))) ∧ Gr w w' := by
  go_enter Try.func59, Try.ntmps59
  go_wp2_with fail
  go_ret
  exact ⟨rfl, (Gr.refl w).alloc _⟩
end R
end Go.Proofs.Ytbbpbfbifgfjdaa
