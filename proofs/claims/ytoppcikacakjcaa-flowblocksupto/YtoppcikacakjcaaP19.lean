import Derived.Test.YtoppcikacakjcaaP18
/-
  Stage 8, flow: what the document's 'without' does. No Go in sight.
-/
namespace Go.Proofs.Ytoppcikacakjcaa
namespace F
open Go.RowKit
open T

/-- A sweep, on the way: what it has looked at from those ahead of p, and of p's. -/
structure Sw (L : List Ins) (E : List Int) (out : Int) (s0 s : Nat → Bool) (a : Bool) (p : Nat) (M : List Int) : Prop where
  mono : ∀ q, q < L.length → s0 q = true → s q = true
  snd : ∀ q, q < L.length → s q = true → Rch L E out q
  off : a = false → ∀ q, q < L.length → s q = s0 q
  on : a = true → cnt L.length s0 + 1 ≤ cnt L.length s
  clo : a = false → ∀ p' q, p' < p → s0 p' = true → folB L p' q = true → (q : Int) ≠ out → s q = true
  cur : a = false → ∀ y ∈ M, y ≠ out → s y.toNat = true
theorem Sw.start {L : List Ins} {E : List Int} {out : Int} {s : Nat → Bool} (h : ∀ q, q < L.length → s q = true → Rch L E out q) : Sw L E out s s false 0 [] :=
  ⟨fun _ _ h => h, h, fun _ _ _ => rfl, fun h => (by cases h), fun _ p' q h1 => (by omega), fun _ y hy => (by simp at hy)⟩
/-- One that is not come to: nothing is looked at. -/
theorem Sw.skip {L : List Ins} {E : List Int} {out : Int} {s0 s : Nat → Bool} {a : Bool} {p : Nat} (h : Sw L E out s0 s a p []) (hp : p < L.length) (hs : s p = false) : Sw L E out s0 s a (p + 1) [] := by
  refine ⟨h.mono, h.snd, h.off, h.on, fun e p' q h1 h2 h3 h4 => ?_, h.cur⟩
  by_cases e2 : p' = p
  · subst e2
    rw [h.mono p' hp h2] at hs
    cases hs
  · exact h.clo e p' q (by omega) h2 h3 h4
theorem Sw.keep {L : List Ins} {E : List Int} {out : Int} {s0 s : Nat → Bool} {a : Bool} {p : Nat} {M : List Int} {y : Int} (h : Sw L E out s0 s a p M) (hy : y ≠ out → s y.toNat = true) : Sw L E out s0 s a p (M ++ [y]) := by
  refine ⟨h.mono, h.snd, h.off, h.on, h.clo, fun e z hz hne => ?_⟩
  rcases List.mem_append.1 hz with r | r
  · exact h.cur e z r hne
  · rw [List.mem_singleton] at r
    subst r
    exact hy hne
theorem Sw.put {L : List Ins} {E : List Int} {out : Int} {s0 s s' : Nat → Bool} {a : Bool} {p q : Nat} {M : List Int} (h : Sw L E out s0 s a p M) (hp : p < L.length) (hps : s p = true) (hf : folB L p q = true) (hne : (q : Int) ≠ out) (hq : s q = false) (hs' : ∀ z, z < L.length → s' z = if z = q then true else s z) (M' : List Int) : Sw L E out s0 s' true p M' := by
  have hql := folB_lt hf
  have hct : cnt L.length s' = cnt L.length s + 1 := by
    rw [← cnt_add L.length q s hql hq]
    exact cnt_congr L.length (fun z hz => by
      rw [hs' z hz]
      by_cases e : z = q
      · subst e; simp [adS]
      · have : ¬ (z : Int) = q := by omega
        simp [adS, e, this])
  refine ⟨fun z hz h1 => ?_, fun z hz h1 => ?_, fun e => (by cases e), fun _ => ?_, fun e => (by cases e), fun e => (by cases e)⟩
  · rw [hs' z hz]
    split
    · rfl
    · exact h.mono z hz h1
  · rw [hs' z hz] at h1
    by_cases e : z = q
    · subst e
      exact Rch.step (h.snd p hp hps) hf hne
    · rw [if_neg e] at h1
      exact h.snd z hz h1
  · have := cnt_mono L.length h.mono
    omega
/-- All of p's are looked at. -/
theorem Sw.next {L : List Ins} {E : List Int} {out : Int} {s0 s : Nat → Bool} {a : Bool} {p : Nat} (h : Sw L E out s0 s a p (nxtI L p)) (hp : p < L.length) : Sw L E out s0 s a (p + 1) [] := by
  refine ⟨h.mono, h.snd, h.off, h.on, fun e p' q h1 h2 h3 h4 => ?_, fun _ y hy => (by simp at hy)⟩
  by_cases e2 : p' = p
  · subst e2
    have := h.cur e (q : Int) ((mem_nxt hp _).2 ⟨q, rfl, h3⟩) h4
    simpa using this
  · exact h.clo e p' q (by omega) h2 h3 h4
/-- What there is between two sweeps. -/
structure Ws (L : List Ins) (E : List Int) (out : Int) (s : Nat → Bool) (a : Bool) : Prop where
  snd : ∀ q, q < L.length → s q = true → Rch L E out q
  base : ∀ q, q < L.length → (q : Int) ∈ E → (q : Int) ≠ out → s q = true
  clo : a = false → ∀ p q, s p = true → p < L.length → folB L p q = true → (q : Int) ≠ out → s q = true
theorem Ws.sweep {L : List Ins} {E : List Int} {out : Int} {s0 s : Nat → Bool} {a0 a : Bool} (h : Ws L E out s0 a0) (g : Sw L E out s0 s a L.length []) : Ws L E out s a := by
  refine ⟨g.snd, fun q hq h1 h2 => g.mono q hq (h.base q hq h1 h2), fun e p q h1 h2 h3 h4 => ?_⟩
  rw [g.off e p h2] at h1
  exact g.clo e p q h2 h1 h3 h4
theorem Ws.done {L : List Ins} {E : List Int} {out : Int} {s : Nat → Bool} (h : Ws L E out s false) : ∀ q, q < L.length → s q = rchB L E out q := by
  have key : ∀ q, Rch L E out q → s q = true := by
    intro q hq
    induction hq with
    | base h1 h2 h3 => exact h.base _ h2 h1 h3
    | step h1 h2 h3 ih => exact h.clo rfl _ _ ih (folB_lt' h2) h2 h3
  intro q hq
  cases e : s q with
  | true => exact (rchB_iff.2 (h.snd q hq e)).symm
  | false =>
    cases e2 : rchB L E out q with
    | false => rfl
    | true =>
      rw [key q (rchB_iff.1 e2)] at e
      cases e
def wE (E : List Int) (out : Int) (q : Nat) : Bool := decide ((q : Int) ∈ E) && decide ((q : Int) ≠ out)
theorem Ws.start (L : List Ins) (E : List Int) (out : Int) : Ws L E out (wE E out) true := by
  refine ⟨fun q hq h => ?_, fun q hq h1 h2 => by simp [wE, h1, h2], fun e => (by cases e)⟩
  simp [wE] at h
  exact Rch.base h.1 hq h.2
theorem wE_put {E : List Int} {out : Int} {x : Nat} (h : (x : Int) ≠ out) (q : Nat) : wE (E ++ [(x : Int)]) out q = if q = x then true else wE E out q := by
  unfold wE
  by_cases e : q = x
  · subst e; simp [h]
  · have : ¬ (q : Int) = x := by omega
    simp [this, e]
theorem wE_same {E : List Int} {out y : Int} {q : Nat} (h : (q : Int) = y → y = out) : wE (E ++ [y]) out q = wE E out q := by
  unfold wE
  by_cases e : (q : Int) = y
  · have := h e
    simp [e, this]
  · simp [e]
/-- The truths that lie in memory. -/
def setB (w : World) (g : Nat) : Nat → Bool := fun q => match w.cell? ⟨g, q, none⟩ with | some (.bool b) => b | _ => false
theorem cnt_setB {w : World} {g n : Nat} {s : Nat → Bool} (h : At w g (boolA n s)) : cnt n (setB w g) = cnt n s :=
  cnt_congr n (fun q hq => by simp [setB, boolA_at h q hq])
def aN (b : Value) : Nat := match b with | .bool true => 1 | _ => 0
end F
end Go.Proofs.Ytoppcikacakjcaa


/-
  Stage 8, flow: the document's 'without', Reached, Dominates.
-/
namespace Go.Proofs.Ytoppcikacakjcaa
namespace F
open Go.RowKit
open T

end F
end Go.Proofs.Ytoppcikacakjcaa
