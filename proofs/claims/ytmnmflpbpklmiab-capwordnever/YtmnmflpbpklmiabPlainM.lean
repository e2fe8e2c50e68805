/-
  Stage 1, capword: what comes of a capability is under it, and rightly built. No Go in sight.
-/
import Derived.Test.YtmnmflpbpklmiabPlainL
namespace Go.Proofs.Ytmnmflpbpklmiab
open Go.RowKit

/-- In its ranges, under 'C', rightly built. -/
def Good (C k : Kap) : Prop :=
  (0 ≤ k.b ∧ k.b ≤ k.e ∧ k.e ≤ 4294967296) ∧ (0 ≤ k.c ∧ k.c < 18446744073709551616) ∧ (0 ≤ k.p ∧ k.p < 128) ∧ k.s = C.s ∧ C.b ≤ k.b ∧ k.e ≤ C.e ∧ hasB C.p k.p = true
theorem hasB_small (p : Int) (h : 0 ≤ p ∧ p < 128) : hasB 127 p = true := by
  refine (hasB_iff 127 p (by omega) (by omega) h.1 (by omega)).mpr fun j hj hp => ?_
  have : j = 0 ∨ j = 1 ∨ j = 2 ∨ j = 3 ∨ j = 4 ∨ j = 5 ∨ j = 6 ∨ j = 7 := by omega
  rcases this with rfl | rfl | rfl | rfl | rfl | rfl | rfl | rfl <;> simp at hp ⊢
  omega
theorem Good.under {C k : Kap} (h : Good C k) : underB k.b k.e k.p k.s C.b C.e C.p C.s = true :=
  (underB_iff ..).mpr ⟨h.2.2.2.2.1, h.2.2.2.2.2.1, h.2.2.2.2.2.2, h.2.2.2.1⟩
theorem Good.right {C k : Kap} (h : Good C k) (hs : 0 ≤ C.s ∧ C.s ≤ 15) : rightB k.b k.e k.p k.s = true := by
  have h1 := hasB_small k.p h.2.2.1
  have h2 := h.1
  have h3 := h.2.2.2.1
  simp [rightB, h1]; omega
theorem Good.self {b e c p s : Int} (h : (0 ≤ b ∧ b ≤ e ∧ e ≤ 4294967296) ∧ (0 ≤ p ∧ p < 128)) (hc : 0 ≤ c ∧ c < 18446744073709551616) : Good ⟨b, e, c, p, s⟩ ⟨b, e, c, p, s⟩ :=
  ⟨h.1, hc, h.2, rfl, Int.le_refl _, Int.le_refl _, hasB_refl p h.2.1 (by have := h.2.2; show p < 256; omega)⟩
theorem Good.inc {C : Kap} {b e c p s n b' e' c' p' s' : Int} (h : Good C ⟨b, e, c, p, s⟩) (hr : IncR b e c p s n b' e' c' p' s' 0) : Good C ⟨b', e', c', p', s'⟩ := by
  obtain ⟨h1, h2, h3, h4, h5, h6, h7⟩ := h
  rcases hr with ⟨_, _, _, _, _, _, hf⟩ | ⟨_, rfl, rfl, rfl, rfl, rfl, _⟩
  · omega
  · refine ⟨h1, ?_, h3, h4, h5, h6, h7⟩
    show 0 ≤ IntKind.u64.wrap (c + n) ∧ IntKind.u64.wrap (c + n) < 18446744073709551616
    rw [IntKind.wrap_u64]; omega
theorem Good.set {C : Kap} {b e c p s n b' e' c' p' s' : Int} (hn : 0 ≤ n) (h : Good C ⟨b, e, c, p, s⟩) (hr : SetB b e c p s n b' e' c' p' s' 0) : Good C ⟨b', e', c', p', s'⟩ := by
  obtain ⟨h1, h2, h3, h4, h5, h6, h7⟩ := h
  rcases hr with ⟨_, _, _, _, _, _, hf⟩ | ⟨_, _, _, _, _, _, _, hf⟩ | ⟨_, hh, rfl, rfl, rfl, rfl, rfl, _⟩
  · omega
  · omega
  · rw [holds_iff, IntKind.wrap_u64] at hh
    simp only at h1 h2 h5 h6
    have e1 : IntKind.u64.wrap (c' + n) = c' + n := by rw [IntKind.wrap_u64]; omega
    refine ⟨?_, h2, h3, h4, ?_, ?_, h7⟩
    · show 0 ≤ c' ∧ c' ≤ IntKind.u64.wrap (c' + n) ∧ IntKind.u64.wrap (c' + n) ≤ 4294967296
      rw [e1]; omega
    · show C.b ≤ c'; omega
    · show IntKind.u64.wrap (c' + n) ≤ C.e; rw [e1]; omega
theorem and_less (p q : Int) (hp : 0 ≤ p ∧ p < 128) (hq : 0 ≤ q ∧ q < 256) : (0 ≤ bits .and .u8 p q ∧ bits .and .u8 p q < 128) ∧ hasB p (bits .and .u8 p q) = true := by
  rw [u8_and p q hp.1 (by omega) hq.1 hq.2]
  have hle : p.toNat &&& q.toNat ≤ p.toNat := Nat.and_le_left
  refine ⟨by omega, (hasB_iff p _ hp.1 (by omega) (by omega) (by omega)).mpr fun j hj h => ?_⟩
  have hb : (p.toNat &&& q.toNat).testBit j = true := by
    rw [Nat.testBit_eq_decide_div_mod_eq]; exact decide_eq_true ((bit_cast _ j).mp h)
  rw [Nat.testBit_and, Bool.and_eq_true] at hb
  have h1 := hb.1
  rw [Nat.testBit_eq_decide_div_mod_eq] at h1
  have h2 : p.toNat / 2 ^ j % 2 = 1 := of_decide_eq_true h1
  have h3 : p = (p.toNat : Int) := by omega
  rw [h3]; exact (bit_cast _ j).mpr h2
theorem Good.and {C : Kap} {b e c p s q b' e' c' p' s' : Int} (hq : 0 ≤ q ∧ q < 256) (hC : 0 ≤ C.p ∧ C.p < 256) (h : Good C ⟨b, e, c, p, s⟩) (hr : AndP b e c p s q b' e' c' p' s' 0) : Good C ⟨b', e', c', p', s'⟩ := by
  obtain ⟨h1, h2, h3, h4, h5, h6, h7⟩ := h
  rcases hr with ⟨_, _, _, _, _, _, hf⟩ | ⟨_, rfl, rfl, rfl, rfl, rfl, _⟩
  · omega
  · obtain ⟨k1, k2⟩ := and_less p q h3 hq
    have h3' : 0 ≤ p ∧ p < 256 := ⟨h3.1, by have := h3.2; simp only at this; omega⟩
    exact ⟨h1, h2, k1, h4, h5, h6, hasB_trans ⟨k1.1, Int.lt_trans k1.2 (by omega)⟩ h3' hC k2 h7⟩
end Go.Proofs.Ytmnmflpbpklmiab
