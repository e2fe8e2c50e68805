/-
  Stage 9, regtype: the document's either; what is handed in, compared.
-/
import Derived.Test.YtbbpbfbifgfjdaaRBits
namespace Go.Proofs.Ytbbpbfbifgfjdaa
namespace R
open Go.RowKit

theorem or_and : ∀ n a b : Nat, a < n → (a ||| b) + (a &&& b) = a + b
  | 0, _, _, h => by omega
  | n + 1, a, b, h => by
    by_cases h0 : a = 0
    · subst h0; simp
    · have ih := or_and n (a / 2) (b / 2) (by omega)
      have e1 : (a ||| b) / 2 = a / 2 ||| b / 2 := Nat.or_div_two
      have e2 : (a &&& b) / 2 = a / 2 &&& b / 2 := Nat.and_div_two
      have e3 := bit_at (a ||| b) 0
      have e4 := bit_at (a &&& b) 0
      rw [Nat.testBit_or, bit_at, bit_at, ← Bool.decide_or] at e3
      rw [Nat.testBit_and, bit_at, bit_at, ← Bool.decide_and] at e4
      have e3 := decide_eq_decide.1 e3
      have e4 := decide_eq_decide.1 e4
      simp only [Nat.pow_zero, Nat.div_one] at e3 e4
      omega
theorem or_eq (a b : Nat) : (a : Int) + b - (a &&& b : Nat) = (a ||| b : Nat) := by
  have := or_and (a + 1) a b (by omega)
  omega
theorem or_lt {a b : Nat} (ha : a < 256) (hb : b < 256) : a ||| b < 256 := Nat.or_lt_two_pow (n := 8) ha hb
set_option maxHeartbeats 1000000 in
theorem either_any (a b : Nat) (w : World) (ha : a < 256) (hb : b < 256) : Calls Try.prog 68 #[.int .u8 a, .int .u8 b] w fun x w' => x = .returned (.int .u8 (a ||| b : Nat)) ∧ w = w' := by
  have e := or_eq a b
  have hl := or_lt ha hb
  have hm : a &&& b < 256 := Nat.lt_of_le_of_lt Nat.and_le_left ha
  have hB := T.Hid.mk (fun W => both_any a b W ha hb)
  generalize a ||| b = u at *
  generalize a &&& b = v at *
  go_enter Try.func68, Try.ntmps68
  go_wp2_with (go_at_call 67; refine (hB.out _).mono ?_; rintro x w' ⟨rfl, rfl⟩)
  go_ret
  exact ⟨rfl, rfl⟩
def RT.agg (r : RT) : Value := .agg #[.int .i64 r.k, .int .u64 r.n.lo, .int .u64 r.n.hi, .int .u64 r.b.lo, .int .u64 r.b.hi, .int .u64 r.e.lo, .int .u64 r.e.hi, .int .u64 r.p.lo, .int .u64 r.p.hi, .int .u8 r.mu, .int .u8 r.ma, .int .i64 r.s]
/-- Is it rightly built? -/
instance (a b : Sp) : Decidable (a = b) := decidable_of_iff (a.lo = b.lo ∧ a.hi = b.hi) ⟨fun h => Sp.ext' h.1 h.2, fun h => by rw [h]; exact ⟨rfl, rfl⟩⟩
instance (r : RT) : Decidable r.capAll := by unfold RT.capAll; infer_instance
def RT.ri (r : RT) : Bool :=
  if r.k = 0 then decide (r.n = Sp.no ∧ r.capAll) else if r.k = 1 then decide (r.capAll ∧ r.n.lo ≤ r.n.hi)
  else if r.k = 2 then decide (r.b.lo ≤ r.b.hi ∧ r.e.lo ≤ r.e.hi ∧ r.p.lo ≤ r.p.hi) && amg r.mu r.ma && amg r.ma 127 && decide (r.n = Sp.no) && decide (-1 ≤ r.s ∧ r.s ≤ 15) else false
def RT.eqB (a b : RT) : Bool := decide (a.k = b.k ∧ a.n = b.n ∧ a.b = b.b ∧ a.e = b.e ∧ a.p = b.p ∧ a.mu = b.mu ∧ a.ma = b.ma ∧ a.s = b.s)
theorem RT.eqB_iff {a b : RT} : a.eqB b = true ↔ a = b := by
  unfold RT.eqB
  rw [decide_eq_true_eq]
  constructor
  · rintro ⟨h1, h2, h3, h4, h5, h6, h7, h8⟩
    cases a; cases b; simp_all
  · rintro rfl; simp
theorem Sp.eq_iff {a b : Sp} : a = b ↔ a.lo = b.lo ∧ a.hi = b.hi := ⟨fun h => by rw [h]; exact ⟨rfl, rfl⟩, fun h => Sp.ext' h.1 h.2⟩
set_option maxHeartbeats 2000000 in
theorem eqRT (a b : RT) (W : World) : (binOp .eql 28 a.agg b.agg).run Try.prog W = .ok (.bool (a.eqB b)) W := by
  obtain ⟨k, ⟨n1, n2⟩, ⟨b1, b2⟩, ⟨e1, e2⟩, ⟨p1, p2⟩, mu, ma, s⟩ := a
  obtain ⟨k', ⟨n1', n2'⟩, ⟨b1', b2'⟩, ⟨e1', e2'⟩, ⟨p1', p2'⟩, mu', ma', s'⟩ := b
  simp only [RT.agg, RT.eqB, Sp.eq_iff]
  simp [go_sem, Int.natCast_inj]
  (repeat' split) <;> simp [*]
/-- Nothing. -/
def RT.zero : RT := ⟨0, Sp.no, Sp.no, Sp.no, Sp.no, 0, 0, 0⟩
end R
end Go.Proofs.Ytbbpbfbifgfjdaa
