/-
  Stage 9, regtype: the document's among, both, either.
-/
import Derived.Test.YtbbpbfbifgfjdaaRSpan
import Derived.Test.YtbbpbfbifgfjdaaTBase
namespace Go.Proofs.Ytbbpbfbifgfjdaa
namespace R
open Go.RowKit

theorem div_pow (a k : Nat) : a / 2 ^ (k + 1) = a / 2 ^ k / 2 := by rw [Nat.div_div_eq_div_mul, Nat.pow_succ]
theorem bit_at (a k : Nat) : a.testBit k = decide (a / 2 ^ k % 2 = 1) := Nat.testBit_eq_decide_div_mod_eq
/-- So far so good. -/
def Amd (a b k m n : Nat) : Prop := m = a / 2 ^ k ∧ n = b / 2 ^ k ∧ ∀ i, i < k → a.testBit i = true → b.testBit i = true
theorem Amd.next {a b k m n : Nat} (h : Amd a b k m n) (h1 : ¬ (m % 2 = 1 ∧ n % 2 = 0)) : Amd a b (k + 1) (m / 2) (n / 2) := by
  obtain ⟨rfl, rfl, h2⟩ := h
  refine ⟨(div_pow a k).symm, (div_pow b k).symm, fun i hi => ?_⟩
  by_cases e : i = k
  · subst e
    rw [bit_at, bit_at, decide_eq_true_eq, decide_eq_true_eq]
    omega
  · exact h2 i (by omega)
theorem Amd.bad {a b k m n : Nat} (h : Amd a b k m n) (h1 : m % 2 = 1 ∧ n % 2 = 0) : amg a b = false := by
  obtain ⟨rfl, rfl, _⟩ := h
  rw [Bool.eq_false_iff]
  intro q
  have := amg_iff.1 q k
  rw [bit_at, bit_at, decide_eq_true_eq, decide_eq_true_eq] at this
  omega
theorem Amd.end {a b m n : Nat} (h : Amd a b 8 m n) (ha : a < 256) : amg a b = true := by
  rw [amg_iff]
  intro i hi
  by_cases e : i < 8
  · exact h.2.2 i e hi
  · have hp : 256 ≤ 2 ^ i := by
      have := Nat.pow_le_pow_right (n := 2) (by omega) (show 8 ≤ i by omega)
      simpa using this
    rw [Nat.testBit_lt_two_pow (by omega)] at hi
    cases hi
set_option maxHeartbeats 1000000 in
theorem among_any (a b : Nat) (w : World) (ha : a < 256) (hb : b < 256) : Calls Try.prog 55 #[.int .u8 a, .int .u8 b] w fun x w' => x = .returned (.bool (amg a b)) ∧ w = w' := by
  have h0 : T.Hid (Amd a b 0 a b) := T.Hid.mk ⟨by simp, by simp, fun i hi => by omega⟩
  go_enter Try.func55, Try.ntmps55
  go_wp2_with fail
  go_loopw [5, 6, 7] (fun x y z wr => ∃ k m n : Nat, x = .int .i64 m ∧ y = .int .i64 n ∧ z = .int .i64 k ∧ k ≤ 8 ∧ m < 256 ∧ n < 256 ∧ T.Hid (Amd a b k m n) ∧ w = wr) (fun _ _ z _ => 8 - (intOf z).toNat)
  case atStart => exact ⟨0, a, b, rfl, rfl, rfl, by omega, ha, hb, h0, rfl⟩
  case round =>
    clear h0
    obtain ⟨k, m, n, rfl, rfl, rfl, hk, hm, hn, hI, rfl⟩ := hrel
    by_cases hk8 : k < 8
    · have hk1 : (k : Int) < 8 := by omega
      have hw : m / 2 < 256 ∧ n / 2 < 256 := by omega
      by_cases h1 : m % 2 = 1
      · by_cases h2 : n % 2 = 0
        · have g1 : (m : Int) % 2 = 1 := by omega
          have g2 : (n : Int) % 2 = 0 := by omega
          have hr := hI.out.bad ⟨h1, h2⟩
          clear h1 h2
          go_wp2_with fail
          go_ret
          exact ⟨by rw [hr]; rfl, rfl⟩
        · have g1 : (m : Int) % 2 = 1 := by omega
          have g2 : ((n : Int) % 2 == 0) = false := by simp; omega
          have hn' := T.Hid.mk (hI.out.next (by omega))
          clear h1 h2
          go_wp2_with fail
          go_roundw
          all_goals first | exact ⟨k + 1, m / 2, n / 2, by simp, by simp, by simp, by omega, hw.1, hw.2, hn', by trivial⟩ | (simp only [intOf]; omega)
      · have g1 : ((m : Int) % 2 == 1) = false := by simp; omega
        have hn' := T.Hid.mk (hI.out.next (by omega))
        clear h1
        go_wp2_with fail
        go_roundw
        all_goals first | exact ⟨k + 1, m / 2, n / 2, by simp, by simp, by simp, by omega, hw.1, hw.2, hn', by trivial⟩ | (simp only [intOf]; omega)
    · have hk1 : ¬ (k : Int) < 8 := by omega
      have e : k = 8 := by omega
      subst e
      have hr := hI.out.end ha
      go_wp2_with fail
      go_ret
      exact ⟨rfl, rfl⟩
/-- What both have, so far. -/
def Btd (a b k n : Nat) : Prop := n = (a &&& b) % 2 ^ k
theorem bt_next {a b k n : Nat} (h : Btd a b k n) : Btd a b (k + 1) (n + if a / 2 ^ k % 2 = 1 ∧ b / 2 ^ k % 2 = 1 then 2 ^ k else 0) := by
  unfold Btd at *
  subst h
  rw [Nat.pow_succ, Nat.mod_mul]
  have h1 : (a &&& b) / 2 ^ k % 2 = if a / 2 ^ k % 2 = 1 ∧ b / 2 ^ k % 2 = 1 then 1 else 0 := by
    have := bit_at (a &&& b) k
    rw [Nat.testBit_and, bit_at, bit_at, ← Bool.decide_and] at this
    have := decide_eq_decide.1 this
    split <;> omega
  rw [h1]
  split <;> simp
theorem bt_end {a b n : Nat} (h : Btd a b 8 n) (ha : a < 256) : n = a &&& b := by
  unfold Btd at h
  rw [h]
  exact Nat.mod_eq_of_lt (Nat.lt_of_le_of_lt Nat.and_le_left ha)
theorem bt_le {a b k n : Nat} (h : Btd a b k n) : n < 2 ^ k := by
  unfold Btd at h
  rw [h]
  exact Nat.mod_lt _ (Nat.two_pow_pos k)
set_option maxHeartbeats 1000000 in
theorem both_any (a b : Nat) (w : World) (ha : a < 256) (hb : b < 256) : Calls Try.prog 67 #[.int .u8 a, .int .u8 b] w fun x w' => x = .returned (.int .u8 (a &&& b : Nat)) ∧ w = w' := by
  have h0 : T.Hid (Btd a b 0 0) := T.Hid.mk (by unfold Btd; simp [Nat.mod_one])
  go_enter Try.func67, Try.ntmps67
  go_wp2_with fail
  go_loopw [5, 6, 7] (fun x y z wr => ∃ k n : Nat, x = .int .i64 n ∧ y = .int .i64 (2 ^ k : Nat) ∧ z = .int .i64 k ∧ k ≤ 8 ∧ n < 2 ^ k ∧ T.Hid (Btd a b k n) ∧ w = wr) (fun _ _ z _ => 8 - (intOf z).toNat)
  case atStart => exact ⟨0, 0, rfl, rfl, rfl, by omega, by omega, h0, by trivial⟩
  case round =>
    clear h0
    obtain ⟨k, n, rfl, rfl, rfl, hk, hn, hI, rfl⟩ := hrel
    by_cases hk8 : k < 8
    · have hk1 : (k : Int) < 8 := by omega
      have hp : 2 ^ k ≤ 128 := by
        have := Nat.pow_le_pow_right (n := 2) (by omega) (show k ≤ 7 by omega)
        simpa using this
      have hq : 0 < 2 ^ k := Nat.two_pow_pos k
      have hx := T.Hid.mk (bt_next hI.out)
      have hy := T.Hid.mk (bt_le hx.out)
      have e2 : T.Hid (2 ^ (k + 1) = 2 * 2 ^ k) := T.Hid.mk (by rw [Nat.pow_succ]; omega)
      generalize 2 ^ k = p at *
      obtain ⟨x, ex, ex'⟩ : ∃ x : Nat, a / p = x ∧ (a : Int) / (p : Int) = (x : Int) := ⟨a / p, rfl, (Int.natCast_ediv a p).symm⟩
      obtain ⟨y, ey, ey'⟩ : ∃ y : Nat, b / p = y ∧ (b : Int) / (p : Int) = (y : Int) := ⟨b / p, rfl, (Int.natCast_ediv b p).symm⟩
      have lx : x < 256 := by have := Nat.div_le_self a p; omega
      have ly : y < 256 := by have := Nat.div_le_self b p; omega
      rw [ex, ey] at hx hy
      clear ex ey
      have hp0 : (p : Int) ≠ 0 := by omega
      by_cases h1 : x % 2 = 1
      · have g1 : (x : Int) % 2 = 1 := by omega
        by_cases h2 : y % 2 = 1
        · have g2 : (y : Int) % 2 = 1 := by omega
          rw [if_pos ⟨h1, h2⟩, e2.out] at hy
          rw [if_pos ⟨h1, h2⟩] at hx
          replace hy := hy.out
          clear h1 h2
          go_wp2_with fail
          go_roundw
          all_goals first | exact ⟨k + 1, n + p, by simp, by rw [e2.out]; simp, by simp, by omega, by rw [e2.out]; exact hy, hx, by trivial⟩ | (simp only [intOf]; omega)
        · have g2 : ((y : Int) % 2 == 1) = false := by simp; omega
          rw [if_neg (by omega), e2.out] at hy
          rw [if_neg (by omega)] at hx
          replace hy := hy.out
          clear h1 h2
          go_wp2_with fail
          go_roundw
          all_goals first | exact ⟨k + 1, n, by simp, by rw [e2.out]; simp, by simp, by omega, by rw [e2.out]; exact hy, hx, by trivial⟩ | (simp only [intOf]; omega)
      · have g1 : ((x : Int) % 2 == 1) = false := by simp; omega
        rw [if_neg (by omega), e2.out] at hy
        rw [if_neg (by omega)] at hx
        replace hy := hy.out
        clear h1
        go_wp2_with fail
        go_roundw
        all_goals first | exact ⟨k + 1, n, by simp, by rw [e2.out]; simp, by simp, by omega, by rw [e2.out]; exact hy, hx, by trivial⟩ | (simp only [intOf]; omega)
    · have hk1 : ¬ (k : Int) < 8 := by omega
      have e : k = 8 := by omega
      subst e
      have hr := bt_end hI.out ha
      subst hr
      go_wp2_with fail
      go_ret
      exact ⟨rfl, rfl⟩
end R
end Go.Proofs.Ytbbpbfbifgfjdaa
