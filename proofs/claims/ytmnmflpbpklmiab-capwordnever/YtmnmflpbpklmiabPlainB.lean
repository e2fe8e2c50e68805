/-
  Stage 1, capword: Under is an order; small facts on worlds. No Go in sight.
-/
import Derived.Test.YtmnmflpbpklmiabPlain
namespace Go.Proofs.Ytmnmflpbpklmiab
open Go.RowKit

theorem bstep {W w1 w2 : World} (h1 : Below W.heap.size W w1) (h2 : Below w1.heap.size w1 w2) : Below W.heap.size W w2 := h1.trans (h2.mono h1.size)
theorem below_two (w : World) (a b : Obj) : Below w.heap.size w ((w.alloc a).alloc b) := ((Below.refl _ _).alloc (Nat.le_refl _) _).alloc (by simp) _
theorem below_three (w : World) (a b c : Obj) : Below w.heap.size w (((w.alloc a).alloc b).alloc c) := (below_two w a b).alloc (by simp <;> omega) _
theorem below_one (w : World) (a : Obj) : Below w.heap.size w (w.alloc a) := (Below.refl _ _).alloc (Nat.le_refl _) _

theorem hasB_refl (p : Int) (h0 : 0 ≤ p) (h1 : p < 256) : hasB p p = true := (hasB_iff p p h0 h1 h0 h1).mpr fun _ _ h => h
theorem hasB_trans {p q r : Int} (hp : 0 ≤ p ∧ p < 256) (hq : 0 ≤ q ∧ q < 256) (hr : 0 ≤ r ∧ r < 256) (h1 : hasB q p = true) (h2 : hasB r q = true) : hasB r p = true :=
  (hasB_iff r p hr.1 hr.2 hp.1 hp.2).mpr fun j hj h => (hasB_iff r q hr.1 hr.2 hq.1 hq.2).mp h2 j hj ((hasB_iff q p hq.1 hq.2 hp.1 hp.2).mp h1 j hj h)
theorem hasB_antisymm {p q : Int} (hp : 0 ≤ p ∧ p < 256) (hq : 0 ≤ q ∧ q < 256) (h1 : hasB q p = true) (h2 : hasB p q = true) : p = q := by
  have a := (hasB_iff q p hq.1 hq.2 hp.1 hp.2).mp h1
  have b := (hasB_iff p q hp.1 hp.2 hq.1 hq.2).mp h2
  have e : ∀ j, j < 8 → p / 2 ^ j % 2 = q / 2 ^ j % 2 := by
    intro j hj
    have := a j hj
    have := b j hj
    omega
  have e0 := e 0 (by omega)
  have e1 := e 1 (by omega)
  have e2 := e 2 (by omega)
  have e3 := e 3 (by omega)
  have e4 := e 4 (by omega)
  have e5 := e 5 (by omega)
  have e6 := e 6 (by omega)
  have e7 := e 7 (by omega)
  simp at e0 e1 e2 e3 e4 e5 e6 e7
  omega

theorem underB_iff (b e p s b' e' p' s' : Int) : underB b e p s b' e' p' s' = true ↔ b' ≤ b ∧ e ≤ e' ∧ hasB p' p = true ∧ s = s' := by
  simp [underB, and_assoc]
theorem underB_refl (b e p s : Int) (h0 : 0 ≤ p) (h1 : p < 256) : underB b e p s b e p s = true :=
  (underB_iff ..).mpr ⟨Int.le_refl _, Int.le_refl _, hasB_refl p h0 h1, rfl⟩
theorem underB_trans {b e p s b' e' p' s' b2 e2 p2 s2 : Int} (hp : 0 ≤ p ∧ p < 256) (hp' : 0 ≤ p' ∧ p' < 256) (hp2 : 0 ≤ p2 ∧ p2 < 256)
    (h1 : underB b e p s b' e' p' s' = true) (h2 : underB b' e' p' s' b2 e2 p2 s2 = true) : underB b e p s b2 e2 p2 s2 = true := by
  obtain ⟨a1, a2, a3, a4⟩ := (underB_iff ..).mp h1
  obtain ⟨k1, k2, k3, k4⟩ := (underB_iff ..).mp h2
  exact (underB_iff ..).mpr ⟨by omega, by omega, hasB_trans hp hp' hp2 a3 k3, by omega⟩
theorem underB_antisymm {b e p s b' e' p' s' : Int} (hp : 0 ≤ p ∧ p < 256) (hp' : 0 ≤ p' ∧ p' < 256)
    (h1 : underB b e p s b' e' p' s' = true) (h2 : underB b' e' p' s' b e p s = true) : b = b' ∧ e = e' ∧ p = p' ∧ s = s' := by
  obtain ⟨a1, a2, a3, a4⟩ := (underB_iff ..).mp h1
  obtain ⟨k1, k2, k3, k4⟩ := (underB_iff ..).mp h2
  exact ⟨by omega, by omega, hasB_antisymm hp hp' a3 k3, a4⟩
end Go.Proofs.Ytmnmflpbpklmiab
