/-
  Stage 1, capword: what can be opened is opened, in as many rounds as there are. No Go in sight.
-/
import Derived.Test.YtmnmflpbpklmiabPlainN
namespace Go.Proofs.Ytmnmflpbpklmiab
open Go.RowKit

/-- One step of opens. -/
def stepL (out : List Kap) (k : Kap) : List Kap := if 0 < k.s ∧ authB out k.s 64 = true then out ++ [opn k] else out
/-- What opens has behind so many steps. -/
def outAt (L : List Kap) : Nat → List Kap
  | 0 => L
  | t + 1 => stepL (outAt L t) (L.getD (t % L.length) ⟨0, 0, 0, 0, 0⟩)

theorem stepL_sub {out : List Kap} {k x : Kap} (h : x ∈ out) : x ∈ stepL out k := by
  unfold stepL; split
  · exact List.mem_append_left _ h
  · exact h
theorem outAt_mono (L : List Kap) {t u : Nat} (h : t ≤ u) {x : Kap} (hx : x ∈ outAt L t) : x ∈ outAt L u := by
  induction u with
  | zero => have : t = 0 := by omega
            subst this; exact hx
  | succ u ih =>
    rcases Nat.lt_or_ge t (u + 1) with h1 | h1
    · exact stepL_sub (ih (by omega))
    · have : t = u + 1 := by omega
      subst this; exact hx
theorem auth_sub {A B : List Kap} {n p : Int} (h : ∀ x ∈ A, x ∈ B) (ha : authB A n p = true) : authB B n p = true := by
  obtain ⟨k, hk, hh⟩ := auth_iff.mp ha
  exact auth_iff.mpr ⟨k, h k hk, hh⟩
theorem outAt_from (L : List Kap) (t : Nat) {x : Kap} (hx : x ∈ outAt L t) : x ∈ L ∨ ∃ k ∈ L, x = opn k := by
  induction t with
  | zero => exact .inl hx
  | succ t ih =>
    simp only [outAt, stepL] at hx
    split at hx
    · rename_i hc
      rcases List.mem_append.mp hx with hx | hx
      · exact ih hx
      · simp at hx
        refine .inr ⟨_, ?_, hx⟩
        by_cases hl : t % L.length < L.length
        · rw [List.getElem?_eq_getElem hl]; simp
        · exfalso
          rw [List.getD_eq_getElem?_getD, List.getElem?_eq_none (by omega)] at hc
          simp at hc
    · exact ih hx
theorem outAt_length (L : List Kap) (t : Nat) : (outAt L t).length ≤ L.length + t := by
  induction t with
  | zero => simp [outAt]
  | succ t ih =>
    simp only [outAt, stepL]
    split
    · simp; omega
    · omega
theorem outAt_pos (L : List Kap) (t : Nat) : L.length ≤ (outAt L t).length := by
  induction t with
  | zero => simp [outAt]
  | succ t ih =>
    simp only [outAt, stepL]
    split
    · simp; omega
    · omega
/-- Nothing is left to be opened. -/
def Done (L : List Kap) (t : Nat) : Prop := ∀ k ∈ L, 0 < k.s → authB (outAt L t) k.s 64 = true → opn k ∈ outAt L t
theorem done_same (L : List Kap) (t u : Nat) (h : Done L t) (hu : t ≤ u) : ∀ x ∈ outAt L u, x ∈ outAt L t := by
  induction u with
  | zero => have : t = 0 := by omega
            subst this; exact fun x hx => hx
  | succ u ih =>
    rcases Nat.lt_or_ge t (u + 1) with h1 | h1
    · intro x hx
      have ih' := ih (by omega)
      simp only [outAt, stepL] at hx
      split at hx
      · rename_i hc
        rcases List.mem_append.mp hx with hx | hx
        · exact ih' x hx
        · simp at hx
          subst hx
          by_cases hl : u % L.length < L.length
          · refine h _ ?_ hc.1 (auth_sub ih' hc.2)
            rw [List.getElem?_eq_getElem hl]; simp
          · exfalso
            rw [List.getD_eq_getElem?_getD, List.getElem?_eq_none (by omega)] at hc
            simp at hc
      · exact ih' x hx
    · have : t = u + 1 := by omega
      subst this; exact fun x hx => hx
theorem done_later (L : List Kap) (t u : Nat) (h : Done L t) (hu : t ≤ u) : Done L u := by
  intro k hk h0 ha
  exact outAt_mono L hu (h k hk h0 (auth_sub (done_same L t u h hu) ha))
theorem opened_in (L : List Kap) (r i : Nat) (hi : i < L.length) (h0 : 0 < L[i].s) (ha : authB (outAt L (r * L.length)) L[i].s 64 = true) : opn L[i] ∈ outAt L ((r + 1) * L.length) := by
  have hm : (r * L.length + i) % L.length = i := by rw [Nat.mul_comm, Nat.mul_add_mod, Nat.mod_eq_of_lt hi]
  have hs : opn L[i] ∈ outAt L (r * L.length + i + 1) := by
    simp only [outAt, hm]
    have hg : L.getD i ⟨0, 0, 0, 0, 0⟩ = L[i] := by rw [List.getD_eq_getElem?_getD, List.getElem?_eq_getElem hi]; simp
    rw [hg]
    unfold stepL
    rw [if_pos ⟨h0, auth_sub (fun x hx => outAt_mono L (by omega) hx) ha⟩]
    simp
  refine outAt_mono L ?_ hs
  rw [Nat.add_mul]; omega
/-- How many are opened. -/
def cnt (L : List Kap) (t : Nat) (p : Kap → Bool) (_h : ∀ k, p k = true ↔ opn k ∈ outAt L t) : Nat := L.countP p
theorem count_lt {p q : Kap → Bool} (L : List Kap) (h : ∀ k ∈ L, p k = true → q k = true) {k : Kap} (hk : k ∈ L) (hp : p k = false) (hq : q k = true) : L.countP p < L.countP q := by
  induction L with
  | nil => simp at hk
  | cons a l ih =>
    have hle : l.countP p ≤ l.countP q := List.countP_mono_left fun x hx => h x (List.mem_cons_of_mem _ hx)
    rw [List.countP_cons, List.countP_cons]
    rcases List.mem_cons.mp hk with rfl | hk
    · simp [hp, hq]; omega
    · have := ih (fun x hx => h x (List.mem_cons_of_mem _ hx)) hk
      by_cases ha : p a = true
      · have hb := h a List.mem_cons_self ha
        simp [ha, hb]; omega
      · simp [ha]; omega
theorem done_or (L : List Kap) (r : Nat) : Done L (r * L.length) ∨ ∃ p : Kap → Bool, (∀ k, p k = true ↔ opn k ∈ outAt L (r * L.length)) ∧ r ≤ L.countP p := by
  induction r with
  | zero => exact .inr ⟨fun k => @decide (opn k ∈ outAt L (0 * L.length)) (Classical.propDecidable _), fun k => by simp, Nat.zero_le _⟩
  | succ r ih =>
    rcases ih with ih | ⟨p, hp, hc⟩
    · exact .inl (done_later L _ _ ih (by rw [Nat.add_mul]; omega))
    · by_cases hd : Done L (r * L.length)
      · exact .inl (done_later L _ _ hd (by rw [Nat.add_mul]; omega))
      · right
        unfold Done at hd
        obtain ⟨k, hk⟩ := Classical.not_forall.mp hd
        have hk1 : k ∈ L ∧ 0 < k.s ∧ authB (outAt L (r * L.length)) k.s 64 = true ∧ ¬ opn k ∈ outAt L (r * L.length) := by
          refine ⟨Classical.byContradiction fun h => hk fun h1 => absurd h1 h, Classical.byContradiction fun h => hk fun _ h1 => absurd h1 h, Classical.byContradiction fun h => hk fun _ _ h1 => absurd h1 h, fun h => hk fun _ _ _ => h⟩
        obtain ⟨k1, k2, k3, k4⟩ := hk1
        obtain ⟨i, hi, rfl⟩ := List.mem_iff_getElem.mp k1
        have hin := opened_in L r i hi k2 k3
        refine ⟨fun k => @decide (opn k ∈ outAt L ((r + 1) * L.length)) (Classical.propDecidable _), fun k => by simp, ?_⟩
        refine Nat.lt_of_le_of_lt hc (count_lt L (fun x _ hx => ?_) k1 ?_ ?_)
        · simp only [decide_eq_true_eq]
          exact outAt_mono L (by rw [Nat.add_mul]; omega) ((hp x).mp hx)
        · rw [Bool.eq_false_iff]; exact fun h => k4 ((hp _).mp h)
        · simp only [decide_eq_true_eq]; exact hin
theorem done_all (L : List Kap) : Done L (L.length * L.length) := by
  rcases done_or L L.length with h | ⟨p, hp, hc⟩
  · exact h
  · intro k hk _ _
    have hle : L.countP p ≤ L.length := List.countP_le_length
    have he : L.countP p = L.length := by omega
    exact (hp k).mp (List.countP_eq_length.mp he k hk)
theorem closed_all (L : List Kap) (hL : ∀ k ∈ L, Rk k) : Closed (outAt L (L.length * L.length)) := by
  refine ⟨fun y hy => ?_, fun y hy h0 ha => ?_⟩
  · rcases outAt_from L _ hy with h | ⟨k, hk, rfl⟩
    · exact hL y h
    · obtain ⟨r1, r2, r3, _⟩ := hL k hk
      exact ⟨r1, r2, r3, by show (0 : Int) ≤ 0 ∧ (0 : Int) ≤ 15; omega⟩
  · rcases outAt_from L _ hy with h | ⟨k, hk, rfl⟩
    · exact done_all L y h h0 ha
    · exact absurd h0 (by show ¬ (0 : Int) < 0; omega)
theorem inv_first (L : List Kap) (hL : ∀ k ∈ L, Rk k) : Inv (outAt L (L.length * L.length)) L := by
  intro k hk
  refine ⟨hL k hk, made_iff.mpr ⟨k, outAt_mono L (Nat.zero_le _) hk, fit_iff.mpr ⟨Int.le_refl _, Int.le_refl _, ?_, .inl rfl⟩⟩⟩
  have := (hL k hk).2.2.1
  exact hasB_refl k.p this.1 (by omega)
end Go.Proofs.Ytmnmflpbpklmiab
