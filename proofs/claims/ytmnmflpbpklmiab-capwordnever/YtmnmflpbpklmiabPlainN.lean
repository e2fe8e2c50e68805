/-
  Stage 1, capword: nothing is gained. No Go in sight.
-/
import Derived.Test.YtmnmflpbpklmiabPlainM
namespace Go.Proofs.Ytmnmflpbpklmiab
open Go.RowKit

/-- Rightly built, its cursor a number of 64 bits. -/
def Rk (k : Kap) : Prop := (0 ≤ k.b ∧ k.b ≤ k.e ∧ k.e ≤ 4294967296) ∧ (0 ≤ k.c ∧ k.c < 18446744073709551616) ∧ (0 ≤ k.p ∧ k.p < 128) ∧ (0 ≤ k.s ∧ k.s ≤ 15)
/-- Is one an authority for a number? -/
def hitB (k : Kap) (n p : Int) : Bool := (k.s == 0) && (bits .and .u8 k.p p == p) && decide (k.b ≤ n) && decide (n < k.e)
def authB (A : List Kap) (n p : Int) : Bool := A.any fun k => hitB k n p
def fitB (A : List Kap) (c x : Kap) : Bool :=
  decide (x.b ≤ c.b) && decide (c.e ≤ x.e) && hasB x.p c.p && (c.s == x.s || (x.s == 0 || authB A x.s 64) && (c.s == 0 || authB A c.s 32))
def madeB (A : List Kap) (c : Kap) : Bool := A.any fun x => fitB A c x
def opn (k : Kap) : Kap := ⟨k.b, k.e, k.c, k.p, 0⟩

theorem Rk.right {k : Kap} (h : Rk k) : rightB k.b k.e k.p k.s = true := by
  have h1 := hasB_small k.p h.2.2.1
  obtain ⟨h2, _, _, h4⟩ := h
  simp [rightB, h1]; omega
theorem auth_iff {A : List Kap} {n p : Int} : authB A n p = true ↔ ∃ k ∈ A, hitB k n p = true := by simp [authB]
theorem made_iff {A : List Kap} {c : Kap} : madeB A c = true ↔ ∃ x ∈ A, fitB A c x = true := by simp [madeB]
theorem hit_iff {k : Kap} {n p : Int} : hitB k n p = true ↔ k.s = 0 ∧ bits .and .u8 k.p p = p ∧ k.b ≤ n ∧ n < k.e := by simp [hitB, and_assoc]
theorem fit_iff {A : List Kap} {c x : Kap} : fitB A c x = true ↔ x.b ≤ c.b ∧ c.e ≤ x.e ∧ hasB x.p c.p = true ∧ (c.s = x.s ∨ (x.s = 0 ∨ authB A x.s 64 = true) ∧ (c.s = 0 ∨ authB A c.s 32 = true)) := by
  simp [fitB, and_assoc]

/-- What can be opened is there, open. -/
def Closed (A : List Kap) : Prop := (∀ y ∈ A, Rk y) ∧ ∀ y ∈ A, 0 < y.s → authB A y.s 64 = true → opn y ∈ A
/-- All are made of 'A', and rightly built. -/
def Inv (A L : List Kap) : Prop := ∀ k ∈ L, Rk k ∧ madeB A k = true

/-- Less of an open one. -/
theorem made_less {A : List Kap} {k c : Kap} (hk : Rk k) (hA : Closed A) (hc : 0 ≤ c.p ∧ c.p < 128) (h : madeB A k = true) (hb : k.b ≤ c.b) (he : c.e ≤ k.e) (hp : hasB k.p c.p = true) (hs : k.s = 0) (hs' : c.s = 0) : madeB A c = true := by
  obtain ⟨x, hx, hf⟩ := made_iff.mp h
  obtain ⟨f1, f2, f3, f4⟩ := fit_iff.mp hf
  have hxr := (hA.1 x hx).2.2.1
  have hkr := hk.2.2.1
  refine made_iff.mpr ⟨x, hx, fit_iff.mpr ⟨by omega, by omega, hasB_trans ⟨hc.1, by omega⟩ ⟨hkr.1, by omega⟩ ⟨hxr.1, by omega⟩ hp f3, ?_⟩⟩
  rcases f4 with f4 | ⟨f4, _⟩
  · exact .inl (by omega)
  · exact .inr ⟨f4, .inl hs'⟩
/-- An open one with a permission is an authority among the first ones. -/
theorem auth_of {A : List Kap} {y : Kap} {n p : Int} (hA : Closed A) (hy : Rk y) (hm : madeB A y = true) (hs : y.s = 0) (hp : 0 ≤ p ∧ p < 256) (hh : hasB y.p p = true) (h1 : y.b ≤ n) (h2 : n < y.e) : authB A n p = true := by
  obtain ⟨x, hx, hf⟩ := made_iff.mp hm
  obtain ⟨f1, f2, f3, f4⟩ := fit_iff.mp hf
  have hxr := (hA.1 x hx).2.2.1
  have hxs := (hA.1 x hx).2.2.2
  have hyr := hy.2.2.1
  have hxp : hasB x.p p = true := hasB_trans hp ⟨hyr.1, by omega⟩ ⟨hxr.1, by omega⟩ hh f3
  have hand := has_and ⟨hxr.1, by omega⟩ hp hxp
  by_cases h0 : x.s = 0
  · exact auth_iff.mpr ⟨x, hx, hit_iff.mpr ⟨h0, hand, by omega, by omega⟩⟩
  · have hau : authB A x.s 64 = true := by
      rcases f4 with f4 | ⟨f4 | f4, _⟩
      · omega
      · exact absurd f4 h0
      · exact f4
    exact auth_iff.mpr ⟨opn x, hA.2 x hx (by omega) hau, hit_iff.mpr ⟨rfl, hand, by show x.b ≤ n; omega, by show n < x.e; omega⟩⟩
theorem key_zero {b e c p s q : Int} : keyF b e c p s q = 0 ↔ s = 0 ∧ hasB p q = true ∧ b ≤ c ∧ c < e := by
  unfold keyF
  by_cases h0 : s = 0
  · by_cases h1 : hasB p q = true
    · by_cases h2 : b ≤ c ∧ c < e
      · simp [h0, h1, h2]
      · rw [if_pos h0, if_pos h1, if_neg h2]; simp only [h0, h1]; omega
    · rw [if_pos h0, if_neg h1]; simp [h1]
  · rw [if_neg h0]; simp [h0]

theorem made_set {A : List Kap} {k : Kap} {n b' e' c' p' s' : Int} (hA : Closed A) (hn : 0 ≤ n) (hk : Rk k ∧ madeB A k = true) (h : SetB k.b k.e k.c k.p k.s n b' e' c' p' s' 0) : Rk ⟨b', e', c', p', s'⟩ ∧ madeB A ⟨b', e', c', p', s'⟩ = true := by
  obtain ⟨hr, hm⟩ := hk
  obtain ⟨r1, r2, r3, r4⟩ := hr
  rcases h with ⟨_, _, _, _, _, _, hf⟩ | ⟨_, _, _, _, _, _, _, hf⟩ | ⟨h0, hh, rfl, rfl, rfl, rfl, rfl, _⟩
  · omega
  · omega
  · rw [holds_iff, IntKind.wrap_u64] at hh
    have e1 : IntKind.u64.wrap (k.c + n) = k.c + n := by rw [IntKind.wrap_u64]; omega
    have hR : Rk ⟨k.c, IntKind.u64.wrap (k.c + n), k.c, k.p, k.s⟩ := by
      refine ⟨?_, r2, r3, r4⟩
      show 0 ≤ k.c ∧ k.c ≤ IntKind.u64.wrap (k.c + n) ∧ IntKind.u64.wrap (k.c + n) ≤ 4294967296
      rw [e1]; omega
    refine ⟨hR, made_less ⟨r1, r2, r3, r4⟩ hA r3 hm ?_ ?_ (hasB_refl k.p r3.1 (by omega)) h0 h0⟩
    · show k.b ≤ k.c; omega
    · show IntKind.u64.wrap (k.c + n) ≤ k.e; rw [e1]; omega
theorem made_and {A : List Kap} {k : Kap} {q b' e' c' p' s' : Int} (hA : Closed A) (hq : 0 ≤ q ∧ q < 256) (hk : Rk k ∧ madeB A k = true) (h : AndP k.b k.e k.c k.p k.s q b' e' c' p' s' 0) : Rk ⟨b', e', c', p', s'⟩ ∧ madeB A ⟨b', e', c', p', s'⟩ = true := by
  obtain ⟨⟨r1, r2, r3, r4⟩, hm⟩ := hk
  rcases h with ⟨_, _, _, _, _, _, hf⟩ | ⟨h0, rfl, rfl, rfl, rfl, rfl, _⟩
  · omega
  · obtain ⟨k1, k2⟩ := and_less k.p q r3 hq
    exact ⟨⟨r1, r2, k1, r4⟩, made_less ⟨r1, r2, r3, r4⟩ hA k1 hm (Int.le_refl _) (Int.le_refl _) k2 h0 h0⟩
theorem made_inc {A : List Kap} {k : Kap} {n b' e' c' p' s' : Int} (hA : Closed A) (hk : Rk k ∧ madeB A k = true) (h : IncR k.b k.e k.c k.p k.s n b' e' c' p' s' 0) : Rk ⟨b', e', c', p', s'⟩ ∧ madeB A ⟨b', e', c', p', s'⟩ = true := by
  obtain ⟨⟨r1, r2, r3, r4⟩, hm⟩ := hk
  rcases h with ⟨_, _, _, _, _, _, hf⟩ | ⟨h0, rfl, rfl, rfl, rfl, rfl, _⟩
  · omega
  · refine ⟨⟨r1, ?_, r3, r4⟩, made_less ⟨r1, r2, r3, r4⟩ hA r3 hm (Int.le_refl _) (Int.le_refl _) (hasB_refl k.p r3.1 (by omega)) h0 h0⟩
    show 0 ≤ IntKind.u64.wrap (k.c + n) ∧ IntKind.u64.wrap (k.c + n) < 18446744073709551616
    rw [IntKind.wrap_u64]; omega
theorem made_seal {A : List Kap} {k y : Kap} {b' e' c' p' s' : Int} (hA : Closed A) (hk : Rk k ∧ madeB A k = true) (hy : Rk y ∧ madeB A y = true) (h : SealR k.b k.e k.c k.p k.s y.b y.e y.c y.p y.s b' e' c' p' s' 0) : Rk ⟨b', e', c', p', s'⟩ ∧ madeB A ⟨b', e', c', p', s'⟩ = true := by
  obtain ⟨⟨r1, r2, r3, r4⟩, hm⟩ := hk
  rcases h with ⟨_, _, _, _, _, _, hf⟩ | ⟨_, hf1, _, _, _, _, _, hf⟩ | ⟨_, _, _, _, _, _, _, _, hf⟩ | ⟨h0, hkey, k1, k2, rfl, rfl, rfl, rfl, rfl, _⟩
  · omega
  · exact absurd hf.symm hf1
  · omega
  · obtain ⟨y1, y2, y3, y4⟩ := key_zero.mp hkey
    have hau := auth_of (p := 32) hA hy.1 hy.2 y1 (by omega) y2 y3 y4
    refine ⟨⟨r1, r2, r3, ⟨by show 0 ≤ y.c; omega, k2⟩⟩, ?_⟩
    obtain ⟨x, hx, hf⟩ := made_iff.mp hm
    obtain ⟨f1, f2, f3, f4⟩ := fit_iff.mp hf
    refine made_iff.mpr ⟨x, hx, fit_iff.mpr ⟨f1, f2, f3, .inr ⟨?_, .inr hau⟩⟩⟩
    rcases f4 with f4 | ⟨f4, _⟩
    · exact .inl (by omega)
    · exact f4
theorem made_unseal {A : List Kap} {k y : Kap} {b' e' c' p' s' : Int} (hA : Closed A) (hk : Rk k ∧ madeB A k = true) (hy : Rk y ∧ madeB A y = true) (h : UnsealR k.b k.e k.c k.p k.s y.b y.e y.c y.p y.s b' e' c' p' s' 0) : Rk ⟨b', e', c', p', s'⟩ ∧ madeB A ⟨b', e', c', p', s'⟩ = true := by
  obtain ⟨⟨r1, r2, r3, r4⟩, hm⟩ := hk
  rcases h with ⟨_, _, _, _, _, _, hf⟩ | ⟨_, hf1, _, _, _, _, _, hf⟩ | ⟨_, _, _, _, _, _, _, _, hf⟩ | ⟨h0, hkey, k1, k2, rfl, rfl, rfl, rfl, rfl, _⟩
  · omega
  · exact absurd hf.symm hf1
  · omega
  · obtain ⟨y1, y2, y3, y4⟩ := key_zero.mp hkey
    have hau := auth_of (p := 64) hA hy.1 hy.2 y1 (by omega) y2 y3 y4
    refine ⟨⟨r1, r2, r3, ⟨Int.le_refl _, by show (0 : Int) ≤ 15; omega⟩⟩, ?_⟩
    obtain ⟨x, hx, hf⟩ := made_iff.mp hm
    obtain ⟨f1, f2, f3, f4⟩ := fit_iff.mp hf
    refine made_iff.mpr ⟨x, hx, fit_iff.mpr ⟨f1, f2, f3, .inr ⟨?_, .inl rfl⟩⟩⟩
    rcases f4 with f4 | ⟨f4, _⟩
    · exact .inr (by rw [← f4, ← k2]; exact hau)
    · exact f4
end Go.Proofs.Ytmnmflpbpklmiab
