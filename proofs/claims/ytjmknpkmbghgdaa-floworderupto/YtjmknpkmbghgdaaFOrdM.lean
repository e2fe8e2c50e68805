/-
  Stage 8, flow: to dominate is an order. No Go in sight.
-/
import Derived.Test.YtjmknpkmbghgdaaFTop
namespace Go.Proofs.Ytjmknpkmbghgdaa
namespace F
open Go.RowKit
open T

/-- Ways: a list of instructions, the last first. -/
inductive Way (L : List Ins) (E : List Int) : List Nat → Prop
  | base {q : Nat} : (q : Int) ∈ E → q < L.length → Way L E [q]
  | step {q p : Nat} {l : List Nat} : Way L E (p :: l) → folB L p q = true → Way L E (q :: p :: l)
theorem way_rch {L : List Ins} {E : List Int} {out : Int} : ∀ {l : List Nat} {q : Nat}, Way L E (q :: l) → (∀ x ∈ q :: l, (x : Int) ≠ out) → Rch L E out q := by
  intro l
  induction l with
  | nil =>
    intro q h h2
    cases h with
    | base h1 h3 => exact Rch.base h1 h3 (h2 q (by simp))
  | cons p l ih =>
    intro q h h2
    cases h with
    | step h1 h3 => exact Rch.step (ih h1 (fun x hx => h2 x (by simp only [List.mem_cons] at hx ⊢; exact .inr hx))) h3 (h2 q (by simp))
theorem rch_way {L : List Ins} {E : List Int} {out : Int} {q : Nat} (h : Rch L E out q) : ∃ l, Way L E (q :: l) ∧ ∀ x ∈ q :: l, (x : Int) ≠ out := by
  induction h with
  | base h1 h2 h3 => exact ⟨[], .base h1 h2, fun x hx => by simp at hx; rw [hx]; exact h3⟩
  | step h1 h2 h3 ih =>
    obtain ⟨l, h4, h5⟩ := ih
    refine ⟨_ :: l, .step h4 h2, fun x hx => ?_⟩
    rcases List.mem_cons.1 hx with r | r
    · rw [r]; exact h3
    · exact h5 x r
/-- A way to one of those that a way goes by. -/
theorem way_to {L : List Ins} {E : List Int} {x : Nat} : ∀ {l : List Nat}, Way L E l → x ∈ l → ∃ l1 l2, l = l1 ++ x :: l2 ∧ Way L E (x :: l2) ∧ x ∉ l1 := by
  intro l h
  induction h with
  | @base q h1 h2 =>
    intro hx
    simp at hx
    subst hx
    exact ⟨[], [], rfl, .base h1 h2, by simp⟩
  | @step q p l h1 h2 ih =>
    intro hx
    by_cases e : x = q
    · subst e
      exact ⟨[], p :: l, rfl, .step h1 h2, by simp⟩
    · obtain ⟨l1, l2, e1, e2, e3⟩ := ih (by simp only [List.mem_cons] at hx ⊢; exact hx.resolve_left e)
      refine ⟨q :: l1, l2, by rw [e1]; rfl, e2, ?_⟩
      simp only [List.mem_cons, not_or]
      exact ⟨e, e3⟩
/-- The front of a way, put behind another way to the same place. -/
theorem way_glue {L : List Ins} {E : List Int} {x : Nat} {l2 l3 : List Nat} : ∀ {l1 : List Nat}, Way L E (l1 ++ x :: l2) → Way L E (x :: l3) → Way L E (l1 ++ x :: l3) := by
  intro l1
  induction l1 with
  | nil => exact fun _ h => h
  | cons q l1 ih =>
    intro h1 h2
    cases l1 with
    | nil =>
      cases h1 with
      | step h3 h4 => exact .step h2 h4
    | cons p l1 =>
      cases h1 with
      | step h3 h4 => exact .step (ih h3 h2) h4
/-- Each way to b goes by a. -/
def Dom (L : List Ins) (E : List Int) (a b : Nat) : Prop := ∀ l, Way L E (b :: l) → a ∈ b :: l
theorem dom_iff {L : List Ins} {E : List Int} {a b : Nat} (ha : a < L.length) (hb : b < L.length) : domB L E a b = true ↔ Dom L E a b := by
  unfold domB
  rw [thB_nat.2 ha, thB_nat.2 hb]
  simp only [Bool.true_and, Int.toNat_natCast, Bool.or_eq_true, decide_eq_true_eq, Bool.not_eq_true']
  constructor
  · intro h l hl
    rcases h with (r | r) | r
    · have : a = b := by omega
      subst this
      simp
    · exfalso
      have : rchB L E (-1) b = true := rchB_iff.2 (way_rch hl (fun x _ => by omega))
      rw [r] at this
      cases this
    · by_cases e : a ∈ b :: l
      · exact e
      · exfalso
        have : rchB L E a b = true := rchB_iff.2 (way_rch hl (fun x hx e2 => e (by
          have : x = a := by omega
          rw [← this]; exact hx)))
        rw [r] at this
        cases this
  · intro h
    by_cases e : a = b
    · subst e; exact .inl (.inl rfl)
    · right
      cases e2 : rchB L E a b with
      | false => rfl
      | true =>
        exfalso
        rw [rchB_iff] at e2
        obtain ⟨l, h1, h2⟩ := rch_way e2
        exact h2 a (h l h1) rfl
theorem dom_trans {L : List Ins} {E : List Int} {a b c : Nat} (h1 : Dom L E a b) (h2 : Dom L E b c) : Dom L E a c := by
  intro l hl
  obtain ⟨l1, l2, e1, e2, _⟩ := way_to hl (h2 l hl)
  have := h1 l2 e2
  rw [e1]
  exact List.mem_append_right _ this
/-- A way that goes by each of its instructions once. -/
theorem way_once {L : List Ins} {E : List Int} {x : Nat} : ∀ {l : List Nat}, Way L E l → x ∈ l → ∃ l2, Way L E (x :: l2) ∧ x ∉ l2 ∧ ∀ y ∈ l2, y ∈ l := by
  intro l h hx
  -- the shortest of the ways to x within l
  have key : ∀ n (l : List Nat), l.length ≤ n → Way L E (x :: l) → ∃ l2, Way L E (x :: l2) ∧ x ∉ l2 ∧ ∀ y ∈ l2, y ∈ l := by
    intro n
    induction n with
    | zero =>
      intro l hl hw
      have : l = [] := List.length_eq_zero_iff.1 (by omega)
      subst this
      exact ⟨[], hw, by simp, fun y hy => hy⟩
    | succ n ih =>
      intro l hl hw
      by_cases e : x ∈ l
      · cases hw with
        | base _ _ => simp at e
        | step h1 h2 =>
          obtain ⟨l1, l2, e1, e2, _⟩ := way_to h1 e
          have hlen : l2.length ≤ n := by
            have := congrArg List.length e1
            simp at this hl
            omega
          obtain ⟨l3, g1, g2, g3⟩ := ih l2 hlen e2
          exact ⟨l3, g1, g2, fun y hy => by rw [e1]; exact List.mem_append_right _ (List.mem_cons_of_mem _ (g3 y hy))⟩
      · exact ⟨l, hw, e, fun y hy => hy⟩
  obtain ⟨l1, l2, e1, e2, _⟩ := way_to h hx
  obtain ⟨l3, g1, g2, g3⟩ := key l2.length l2 (Nat.le_refl _) e2
  exact ⟨l3, g1, g2, fun y hy => by rw [e1]; exact List.mem_append_right _ (List.mem_cons_of_mem _ (g3 y hy))⟩
theorem dom_anti {L : List Ins} {E : List Int} {a b : Nat} (h1 : Dom L E a b) (h2 : Dom L E b a) (hr : ∃ l, Way L E (a :: l)) : a = b := by
  obtain ⟨l, hl⟩ := hr
  obtain ⟨l2, g1, g2, _⟩ := way_once hl (List.mem_cons_self ..)
  have hb := h2 l2 g1
  rcases List.mem_cons.1 hb with r | r
  · exact r.symm
  · exfalso
    have hw2 : ∃ p l', l2 = p :: l' := by
      cases l2 with
      | nil => simp at r
      | cons p l' => exact ⟨p, l', rfl⟩
    obtain ⟨p, l', rfl⟩ := hw2
    cases g1 with
    | step g3 g4 =>
      obtain ⟨l3, l4, e1, e2, _⟩ := way_to g3 r
      have := h1 l4 e2
      apply g2
      rw [e1]
      exact List.mem_append_right _ this
theorem dom_or {L : List Ins} {E : List Int} {a b c : Nat} (h1 : Dom L E a c) (h2 : Dom L E b c) (hr : ∃ l, Way L E (c :: l)) : Dom L E a b ∨ Dom L E b a := by
  by_cases hab : Dom L E a b
  · exact .inl hab
  by_cases hba : Dom L E b a
  · exact .inr hba
  exfalso
  obtain ⟨l, hl⟩ := hr
  -- a way to b without a, a way to a without b
  obtain ⟨lb, hlb, hnb⟩ : ∃ l, Way L E (b :: l) ∧ a ∉ b :: l := by
    by_cases e : ∃ l, Way L E (b :: l) ∧ a ∉ b :: l
    · exact e
    · exact absurd (fun l hl => Classical.byContradiction fun hn => e ⟨l, hl, hn⟩) hab
  obtain ⟨la, hla, hna⟩ : ∃ l, Way L E (a :: l) ∧ b ∉ a :: l := by
    by_cases e : ∃ l, Way L E (a :: l) ∧ b ∉ a :: l
    · exact e
    · exact absurd (fun l hl => Classical.byContradiction fun hn => e ⟨l, hl, hn⟩) hba
  -- the last of the two on the way to c
  obtain ⟨la1, la2, ea, wa, na⟩ := way_to hl (h1 l hl)
  obtain ⟨lb1, lb2, eb, wb, nb⟩ := way_to hl (h2 l hl)
  by_cases hbl : b ∈ la1
  · -- b comes behind a's last: take b's front
    have hno : a ∉ lb1 := by
      intro hin
      -- b ∉ lb1, and la1 has no a: the two cuts of one list
      have e4 : la1 ++ a :: la2 = lb1 ++ b :: lb2 := ea.symm.trans eb
      rw [List.append_eq_append_iff] at e4
      rcases e4 with ⟨m, g1, g2⟩ | ⟨m, g1, g2⟩
      · rw [g1] at nb
        exact nb (List.mem_append_left _ hbl)
      · rw [g1] at na
        exact na (List.mem_append_left _ hin)
    have h5 : Way L E (lb1 ++ b :: lb) := way_glue (l2 := lb2) (by rw [← eb]; exact hl) hlb
    have h6 : ∃ m, lb1 ++ b :: lb = c :: m := by
      cases lb1 with
      | nil => simp at eb; exact ⟨lb, by rw [eb.1]; rfl⟩
      | cons y r => simp at eb; exact ⟨r ++ b :: lb, by rw [eb.1]; rfl⟩
    obtain ⟨m, hm⟩ := h6
    rw [hm] at h5
    have h7 := h1 m h5
    rw [← hm] at h7
    rcases List.mem_append.1 h7 with r | r
    · exact hno r
    · exact hnb r
  · have h5 : Way L E (la1 ++ a :: la) := way_glue (l2 := la2) (by rw [← ea]; exact hl) hla
    have h6 : ∃ m, la1 ++ a :: la = c :: m := by
      cases la1 with
      | nil => simp at ea; exact ⟨la, by rw [ea.1]; rfl⟩
      | cons y r => simp at ea; exact ⟨r ++ a :: la, by rw [ea.1]; rfl⟩
    obtain ⟨m, hm⟩ := h6
    rw [hm] at h5
    have h7 := h2 m h5
    rw [← hm] at h7
    rcases List.mem_append.1 h7 with r | r
    · exact hbl r
    · exact hna r
end F
end Go.Proofs.Ytjmknpkmbghgdaa
