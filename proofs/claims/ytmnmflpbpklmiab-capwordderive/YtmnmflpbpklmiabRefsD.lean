/-
  Stage 1, capword: what the document's own answer does (AndPerm).
-/
import Derived.Test.YtmnmflpbpklmiabRefs
import Derived.Test.YtmnmflpbpklmiabPlainC
namespace Go.Proofs.Ytmnmflpbpklmiab
open Go.RowKit

/-- The permissions that both have, of the first 'i'. -/
def andUp (p q : Int) (i : Nat) : Int := ((p.toNat &&& q.toNat) % 2 ^ i : Nat)
theorem andUp_bit (p q : Int) (i : Nat) (hp : 0 ≤ p) (hq : 0 ≤ q) : (p.toNat &&& q.toNat) / 2 ^ i % 2 = if p / 2 ^ i % 2 = 1 ∧ q / 2 ^ i % 2 = 1 then 1 else 0 := by
  obtain ⟨a, rfl⟩ := Int.eq_ofNat_of_zero_le hp
  obtain ⟨c, rfl⟩ := Int.eq_ofNat_of_zero_le hq
  have ht : (a &&& c).testBit i = (a.testBit i && c.testBit i) := Nat.testBit_and a c i
  simp only [Nat.testBit_eq_decide_div_mod_eq] at ht
  have e1 : ((a : Int) / 2 ^ i % 2 = 1) ↔ a / 2 ^ i % 2 = 1 := bit_cast a i
  have e2 : ((c : Int) / 2 ^ i % 2 = 1) ↔ c / 2 ^ i % 2 = 1 := bit_cast c i
  simp only [Int.toNat_natCast, e1, e2]
  have hm := Nat.mod_two_eq_zero_or_one ((a &&& c) / 2 ^ i)
  by_cases h1 : a / 2 ^ i % 2 = 1 <;> by_cases h2 : c / 2 ^ i % 2 = 1 <;> simp [h1, h2] at ht ⊢ <;> omega
theorem andUp_succ (p q : Int) (i : Nat) (hp : 0 ≤ p) (hq : 0 ≤ q) : andUp p q (i + 1) = andUp p q i + if p / 2 ^ i % 2 = 1 ∧ q / 2 ^ i % 2 = 1 then 2 ^ i else 0 := by
  unfold andUp
  rw [Nat.mod_pow_succ, andUp_bit p q i hp hq]
  by_cases h : p / 2 ^ i % 2 = 1 ∧ q / 2 ^ i % 2 = 1
  · rw [if_pos h, if_pos h]; simp
  · rw [if_neg h, if_neg h]; simp
theorem andUp_yes {p q B : Int} {i : Nat} (hp : 0 ≤ p) (hq : 0 ≤ q) (hB : B = 2 ^ i) (h1 : 1 ≤ B) (c1 : (p / B).tmod 2 = 1) (c2 : (q / B).tmod 2 = 1) : andUp p q (i + 1) = andUp p q i + B := by
  rw [tmod2 hp h1] at c1
  rw [tmod2 hq h1] at c2
  rw [andUp_succ p q i hp hq, ← hB, if_pos ⟨c1, c2⟩]
theorem andUp_no {p q B : Int} {i : Nat} (hp : 0 ≤ p) (hq : 0 ≤ q) (hB : B = 2 ^ i) (h1 : 1 ≤ B) (c : ¬ ((p / B).tmod 2 = 1 ∧ (q / B).tmod 2 = 1)) : andUp p q (i + 1) = andUp p q i := by
  rw [tmod2 hp h1, tmod2 hq h1] at c
  rw [andUp_succ p q i hp hq, ← hB, if_neg c]; omega
theorem andUp_lt (p q : Int) (i : Nat) : 0 ≤ andUp p q i ∧ andUp p q i < 2 ^ i := by
  unfold andUp
  have := Nat.mod_lt (p.toNat &&& q.toNat) (Nat.two_pow_pos i)
  have h2 : ((2 ^ i : Nat) : Int) = 2 ^ i := by simp
  exact ⟨by omega, by omega⟩
theorem andUp_all (p q : Int) (hp : 0 ≤ p) (hp1 : p < 256) (hq : 0 ≤ q) (hq1 : q < 256) : andUp p q 8 = bits .and .u8 p q := by
  rw [u8_and p q hp hp1 hq hq1]
  unfold andUp
  have : p.toNat &&& q.toNat < 256 := Nat.lt_of_le_of_lt Nat.and_le_left (by omega)
  rw [Nat.mod_eq_of_lt (by simpa using this)]

set_option maxHeartbeats 1000000 in
theorem refAndPerm_any (b e c p s q : Int) (w : World) (hp0 : 0 ≤ p) (hp1 : p < 256) (hq0 : 0 ≤ q) (hq1 : q < 256) :
    Calls Try.prog 19 #[.agg #[.int .u64 b, .int .u64 e, .int .u64 c, .int .u8 p, .int .i64 s], .int .u8 q] w fun x w' =>
      ∃ b' e' c' p' s' f, x = .returned (.tuple #[.agg #[.int .u64 b', .int .u64 e', .int .u64 c', .int .u8 p', .int .i64 s'], .int .i64 f]) ∧ AndP b e c p s q b' e' c' p' s' f ∧ Below w.heap.size w w' := by
  by_cases h0 : s = 0
  · subst h0
    go_enter Try.func19, Try.ntmps19
    go_wp2
    go_loop [6, 7] (fun o t => ∃ (i : Nat) (B O : Int), i ≤ 8 ∧ Hid (B = 2 ^ i) ∧ 1 ≤ B ∧ B ≤ 256 ∧ t = .int .i64 B ∧ Hid (O = andUp p q i) ∧ 0 ≤ O ∧ O < B ∧ o = .int .u8 O) (fun _ t => (256 - intOf t).toNat)
    case atStart => exact ⟨0, 1, 0, by omega, rfl, by omega, by omega, rfl, by simp [Hid, andUp, Nat.mod_one], by omega, by omega, rfl⟩
    case round =>
      obtain ⟨i, B, O, hi, hB, h1, h2, rfl, hO, hO1, hO2, rfl⟩ := hrel
      by_cases hlt : B ≤ 128
      · have hi8 := pow_small hi hB.out hlt
        go_wp2
        · refine ⟨⟨i + 1, 2 * B, O + B, by omega, pow_next hB.out, by omega, by omega, rfl, ?_, by omega, by omega, rfl⟩, by simp [intOf]; omega⟩
          show O + B = andUp p q (i + 1)
          have c2 : (q / B).tmod 2 = 1 := by rename_i c2; simpa using c2
          rw [andUp_yes hp0 hq0 hB.out h1 ‹_› c2, ← hO.out]
        · refine ⟨⟨i + 1, 2 * B, O, by omega, pow_next hB.out, by omega, by omega, rfl, ?_, by omega, by omega, rfl⟩, by simp [intOf]; omega⟩
          show O = andUp p q (i + 1)
          have c2 : ¬ (q / B).tmod 2 = 1 := by rename_i c2; simpa using c2
          rw [andUp_no hp0 hq0 hB.out h1 (fun h => c2 h.2), ← hO.out]
        · refine ⟨⟨i + 1, 2 * B, O, by omega, pow_next hB.out, by omega, by omega, rfl, ?_, by omega, by omega, rfl⟩, by simp [intOf]; omega⟩
          show O = andUp p q (i + 1)
          rename_i c1
          rw [andUp_no hp0 hq0 hB.out h1 (fun h => c1 h.1), ← hO.out]
      · have hi8 := pow_great hi hB.out hlt
        subst hi8
        have e8 : O = bits .and .u8 p q := hO.out.trans (andUp_all p q hp0 hp1 hq0 hq1)
        have E8 : Hid (O = bits .and .u8 p q) := e8
        clear e8
        go_wp2
        refine bodyPost_ret (v := .tuple #[.agg #[.int .u64 b, .int .u64 e, .int .u64 c, .int .u8 O, .int .i64 0], .int .i64 0]) (by simp [results, Try.results19, go_sem]) rfl ⟨_, _, _, _, _, _, rfl, .inr ⟨rfl, rfl, rfl, rfl, E8.out, rfl, rfl⟩, by repeat (first | exact Below.refl _ _ | refine Below.alloc ?_ (by simp <;> omega) _)⟩
  · have h0' : (s != 0) = true := by simpa using h0
    go_enter Try.func19, Try.ntmps19
    go_wp2
    refine bodyPost_ret (v := .tuple #[.agg #[.int .u64 0, .int .u64 0, .int .u64 0, .int .u8 0, .int .i64 0], .int .i64 3]) (by simp [results, Try.results19, go_sem]) rfl ⟨_, _, _, _, _, _, rfl, .inl ⟨h0, rfl, rfl, rfl, rfl, rfl, rfl⟩, by repeat (first | exact Below.refl _ _ | refine Below.alloc ?_ (by simp <;> omega) _)⟩
end Go.Proofs.Ytmnmflpbpklmiab
