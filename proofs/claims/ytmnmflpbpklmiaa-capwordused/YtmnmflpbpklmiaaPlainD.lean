/-
  Stage 1, capword: a block that is known, behind a store. No Go in sight.
-/
import Derived.Test.YtmnmflpbpklmiaaPlainC
namespace Go.Proofs.Ytmnmflpbpklmiaa
open Go.RowKit

theorem At.set {w : World} {k : Nat} {cs : Array Value} (h : At w k cs) (j : Nat) (v : Value) (hj : j < cs.size) : At (w.setCell ⟨k, j, none⟩ v) k (cs.setIfInBounds j v) := by
  refine ⟨by simpa using h.1, fun o => ?_, fun o => by simpa using h.2.2 o⟩
  by_cases ho : j = o
  · subst ho
    rw [World.cell?_setCell_same w _ v (u := cs[j]) (by rw [h.2.1]; simp [hj])]
    simp [hj]
  · rw [World.cell?_setCell_other (w := w) (a := ⟨k, j, none⟩) (v := v) (b := ⟨k, o, none⟩) (by simp), h.2.1, Array.getElem?_setIfInBounds_ne ho]
theorem At.set_other {w : World} {k k' j : Nat} {cs : Array Value} (h : At w k cs) (v : Value) (hk : k' ≠ k) : At (w.setCell ⟨k', j, none⟩ v) k cs := by
  refine ⟨by simpa using h.1, fun o => ?_, fun o => by simpa using h.2.2 o⟩
  rw [World.cell?_setCell_other (w := w) (a := ⟨k', j, none⟩) (v := v) (b := ⟨k, o, none⟩) (by simp), h.2.1]
theorem At.drew {w : World} {k : Nat} {cs : Array Value} (h : At w k cs) : At w.drew k cs := ⟨h.1, h.2.1, h.2.2⟩
theorem has_32 : hasB 32 32 = true := by decide +kernel
theorem has_64 : hasB 64 64 = true := by decide +kernel
theorem has_63 : hasB 63 64 = false := by decide +kernel
theorem seal_ok {b e c p kb ke kc b' e' c' p' s' f : Int} (h : SealR b e c p 0 kb ke kc 32 0 b' e' c' p' s' f) (h1 : kb ≤ kc) (h2 : kc < ke) (h3 : 1 ≤ kc) (h4 : kc ≤ 15) :
    b = b' ∧ e = e' ∧ c = c' ∧ p = p' ∧ kc = s' ∧ 0 = f := by
  have := has_32
  have hk : keyF kb ke kc 32 0 32 = 0 := by simp [keyF, this, h1, h2]
  unfold SealR at h; omega
theorem unseal_ok {b e c p s kb ke kc b' e' c' p' s' f : Int} (h : UnsealR b e c p s kb ke kc 64 0 b' e' c' p' s' f) (h1 : kb ≤ kc ∧ kc < ke) (h3 : 1 ≤ s) (h4 : kc = s) :
    b = b' ∧ e = e' ∧ c = c' ∧ p = p' ∧ 0 = s' ∧ 0 = f := by
  have := has_64
  have hk : keyF kb ke kc 64 0 64 = 0 := by simp [keyF, this, h1.1, h1.2]
  unfold UnsealR at h; omega
theorem set_sealed {b e c p s n b' e' c' p' s' f : Int} (h : SetB b e c p s n b' e' c' p' s' f) (h0 : s ≠ 0) : 3 = f := by unfold SetB at h; omega
theorem and_sealed {b e c p s n b' e' c' p' s' f : Int} (h : AndP b e c p s n b' e' c' p' s' f) (h0 : s ≠ 0) : 3 = f := by unfold AndP at h; omega
theorem inc_sealed {b e c p s n b' e' c' p' s' f : Int} (h : IncR b e c p s n b' e' c' p' s' f) (h0 : s ≠ 0) : 3 = f := by unfold IncR at h; omega
theorem seal_sealed {b e c p s kb ke kc kp ks b' e' c' p' s' f : Int} (h : SealR b e c p s kb ke kc kp ks b' e' c' p' s' f) (h0 : s ≠ 0) : 3 = f := by unfold SealR at h; omega
theorem unseal_other {b e c p s kb ke kc b' e' c' p' s' f : Int} (h : UnsealR b e c p s kb ke kc 64 0 b' e' c' p' s' f) (h1 : kb ≤ kc ∧ kc < ke) (h0 : s ≠ 0) (h4 : kc ≠ s) : 6 = f := by
  have := has_64
  have hk : keyF kb ke kc 64 0 64 = 0 := by simp [keyF, this, h1.1, h1.2]
  unfold UnsealR at h; omega
theorem unseal_perm {b e c p s kb ke kc b' e' c' p' s' f : Int} (h : UnsealR b e c p s kb ke kc 63 0 b' e' c' p' s' f) (h0 : s ≠ 0) : 4 = f := by
  have := has_63
  have hk : keyF kb ke kc 63 0 64 = 4 := by simp [keyF, this]
  unfold UnsealR at h; omega
theorem access_sealed {b e c p s off n q : Int} (h0 : s ≠ 0) : accessF b e c p s off n q = 3 := by simp [accessF, h0]
/-- The world is forgotten but for what is said of it. -/
theorem wp_world {P : Program} {code : Code} {Q : Exit → Act → World → Prop} {a : Act} {W : World} (R : World → Prop) (hR : R W) (h : ∀ w', R w' → Code.wp P code Q a w') : Code.wp P code Q a W := h W hR
end Go.Proofs.Ytmnmflpbpklmiaa
