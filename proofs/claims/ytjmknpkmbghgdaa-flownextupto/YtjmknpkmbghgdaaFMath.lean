/-
  Stage 8, flow: what may come behind what; what is come to. No Go in sight.
-/
import Derived.Test.YtjmknpkmbghgdaaFSetB
namespace Go.Proofs.Ytjmknpkmbghgdaa
namespace F
open Go.RowKit
open T

/-- Of how many numbers below n it is true. -/
def cnt : Nat → (Nat → Bool) → Nat
  | 0, _ => 0
  | n + 1, s => cnt n s + if s n then 1 else 0
theorem cnt_le (n : Nat) (s : Nat → Bool) : cnt n s ≤ n := by
  induction n with
  | zero => exact Nat.le_refl _
  | succ n ih => unfold cnt; split <;> omega
theorem cnt_mono (n : Nat) {s s' : Nat → Bool} (h : ∀ q, q < n → s q = true → s' q = true) : cnt n s ≤ cnt n s' := by
  induction n with
  | zero => exact Nat.le_refl _
  | succ n ih =>
    have := ih (fun q hq => h q (by omega))
    have h1 := h n (by omega)
    unfold cnt
    cases e : s n
    · simp only [Bool.false_eq_true, if_false]; split <;> omega
    · rw [h1 e]; simp; exact this
theorem cnt_congr (n : Nat) {s s' : Nat → Bool} (h : ∀ q, q < n → s q = s' q) : cnt n s = cnt n s' := by
  induction n with
  | zero => rfl
  | succ n ih =>
    unfold cnt
    rw [ih (fun q hq => h q (by omega)), h n (by omega)]
theorem cnt_add (n p : Nat) (s : Nat → Bool) (hp : p < n) (h : s p = false) : cnt n (adS s p) = cnt n s + 1 := by
  induction n with
  | zero => omega
  | succ n ih =>
    unfold cnt
    by_cases e : p = n
    · subst e
      have : cnt p (adS s p) = cnt p s := cnt_congr p (fun q hq => by
        have : ¬ (q : Int) = p := by omega
        simp [adS, this])
      rw [this, h]
      simp [adS]
    · rw [ih (by omega)]
      have : ¬ (n : Int) = p := by omega
      simp [adS, this]
      omega
/-- Does one come behind another? -/
def wyF (wy m : Int) (p q : Nat) : Bool := if wy = 4 then false else if wy = 3 then true else if wy = 1 then decide ((q : Int) = m) else if wy = 2 then decide ((q : Int) = m) || decide (q = p + 1) else decide (q = p + 1)
def folB (L : List Ins) (p q : Nat) : Bool := decide (q < L.length) && match L[p]? with | none => false | some k => wyF (wayN k.op) k.m p q
/-- What is come to from entries, with one taken out. -/
inductive Rch (L : List Ins) (E : List Int) (out : Int) : Nat → Prop
  | base {q : Nat} : (q : Int) ∈ E → q < L.length → (q : Int) ≠ out → Rch L E out q
  | step {p q : Nat} : Rch L E out p → folB L p q = true → (q : Int) ≠ out → Rch L E out q
theorem folB_lt {L : List Ins} {p q : Nat} (h : folB L p q = true) : q < L.length := by
  simp [folB] at h; exact h.1
theorem folB_lt' {L : List Ins} {p q : Nat} (h : folB L p q = true) : p < L.length := by
  simp only [folB, Bool.and_eq_true] at h
  rcases Nat.lt_or_ge p L.length with e | e
  · exact e
  · rw [List.getElem?_eq_none e] at h
    simp at h
theorem Rch.lt {L : List Ins} {E : List Int} {out : Int} {q : Nat} (h : Rch L E out q) : q < L.length := by
  cases h with
  | base _ h _ => exact h
  | step _ h _ => exact folB_lt h
theorem Rch.ne {L : List Ins} {E : List Int} {out : Int} {q : Nat} (h : Rch L E out q) : (q : Int) ≠ out := by
  cases h with
  | base _ _ h => exact h
  | step _ _ h => exact h
/-- Closed under what comes behind, but for the one that is out. -/
def Clo (L : List Ins) (out : Int) (R : Nat → Prop) : Prop := ∀ p q, R p → folB L p q = true → (q : Int) ≠ out → R q
/-- What a walk does, on the way: it stands at pc1. -/
structure Wk (L : List Ins) (out : Int) (s : Nat → Bool) (pc : Int) (s1 : Nat → Bool) (D : List Int) (pc1 : Int) : Prop where
  mono : ∀ q, q < L.length → s q = true → s1 q = true
  cov : thB L.length pc = true → s1 pc.toNat = true ∨ pc ∈ D ∨ pc = pc1
  clo : ∀ p q, s1 p = true → s p = false → folB L p q = true → s1 q = true ∨ (q : Int) ∈ D ∨ (q : Int) = pc1
  snd : ∀ R : Nat → Prop, Clo L out R → (thB L.length pc = true → pc ≠ out → R pc.toNat) →
    (∀ q, q < L.length → s1 q = true → s q = true ∨ R q) ∧ (∀ d ∈ D, thB L.length d = true → d ≠ out → R d.toNat) ∧ (thB L.length pc1 = true → pc1 ≠ out → R pc1.toNat)
  ct : D.length + cnt L.length s ≤ cnt L.length s1
/-- What a walk has done. -/
structure Wf (L : List Ins) (out : Int) (dp : Nat) (s : Nat → Bool) (pc : Int) (s1 : Nat → Bool) (D : List Int) : Prop where
  mono : ∀ q, q < L.length → s q = true → s1 q = true
  cov : thB L.length pc = true → s1 pc.toNat = true ∨ pc ∈ D
  clo : ∀ p q, s1 p = true → s p = false → folB L p q = true → s1 q = true ∨ (q : Int) ∈ D
  snd : ∀ R : Nat → Prop, Clo L out R → (thB L.length pc = true → pc ≠ out → R pc.toNat) →
    (∀ q, q < L.length → s1 q = true → s q = true ∨ R q) ∧ (∀ d ∈ D, thB L.length d = true → d ≠ out → R d.toNat)
  ct : D.length + cnt L.length s ≤ cnt L.length s1 + dp
theorem thB_nat {n q : Nat} : thB n (q : Int) = true ↔ q < n := by simp [thB]
theorem thB_elim {n : Nat} {pc : Int} (h : thB n pc = true) : ∃ q : Nat, pc = q ∧ q < n := by
  simp [thB] at h
  exact ⟨pc.toNat, by omega, by omega⟩
/-- Too deep: it waits. -/
theorem Wf.deep (L : List Ins) (out : Int) (s : Nat → Bool) (pc : Int) : Wf L out 1 s pc s [pc] :=
  ⟨fun _ _ h => h, fun _ => .inr (by simp), fun p q h1 h2 _ => (by rw [h1] at h2; exact absurd h2 (by simp)),
   fun R _ h0 => ⟨fun q _ h => .inl h, fun d hd => by rw [List.mem_singleton.1 hd]; exact h0⟩, by simp; omega⟩
theorem Wk.start (L : List Ins) (out : Int) (s : Nat → Bool) (pc : Int) : Wk L out s pc s [] pc :=
  ⟨fun _ _ h => h, fun _ => .inr (.inr rfl), fun p q h1 h2 _ => (by rw [h1] at h2; exact absurd h2 (by simp)),
   fun R _ h0 => ⟨fun q _ h => .inl h, fun d hd => by simp at hd, h0⟩, by simp⟩
/-- It stands where there is nothing, or what was seen. -/
theorem Wk.stop {L : List Ins} {out : Int} {s s1 s2 : Nat → Bool} {pc pc1 : Int} {D : List Int} (h : Wk L out s pc s1 D pc1) (hs : adB L.length s1 pc1 = false) (hs2 : s2 = adS s1 pc1) (dp : Nat) : ∃ s3, Wf L out dp s pc s3 D ∧ ∀ q, q < L.length → s2 q = s3 q := by
  have hc : thB L.length pc1 = true → s1 pc1.toNat = true := by
    intro e
    simp only [adB, e, Bool.true_and, Bool.not_eq_false'] at hs
    exact hs
  refine ⟨s1, ⟨h.mono, fun e => ?_, fun p q h1 h2 h3 => ?_, fun R r1 r2 => ⟨(h.snd R r1 r2).1, (h.snd R r1 r2).2.1⟩, by have := h.ct; omega⟩, fun q hq => ?_⟩
  · rcases h.cov e with r | r | r
    · exact .inl r
    · exact .inr r
    · subst r; exact .inl (hc e)
  · rcases h.clo p q h1 h2 h3 with r | r | r
    · exact .inl r
    · exact .inr r
    · refine .inl ?_
      have := hc (by rw [← r, thB_nat]; exact folB_lt h3)
      rw [← r] at this
      simpa using this
  · subst hs2
    unfold adS
    by_cases e : (q : Int) = pc1
    · have := hc (by rw [← e, thB_nat]; exact hq)
      rw [← e] at this
      simp at this
      rw [this]; rfl
    · simp [e]
/-- One is seen that was not: what may come behind it? -/
theorem Wk.snd1 {L : List Ins} {out : Int} {s s1 : Nat → Bool} {pc : Int} {p : Nat} {D : List Int} (h : Wk L out s pc s1 D p) (hp : p < L.length) (hs : s1 p = false) (ho : thB L.length out = true → s out.toNat = true) : (p : Int) ≠ out := by
  intro e
  subst e
  have := h.mono p hp (by simpa using ho (thB_nat.2 hp))
  rw [hs] at this
  cases this
/-- It ends. -/
theorem Wk.ends {L : List Ins} {out : Int} {s s1 : Nat → Bool} {pc : Int} {p : Nat} {D : List Int} (h : Wk L out s pc s1 D p) (hp : p < L.length) (hs : s1 p = false) (ho : thB L.length out = true → s out.toNat = true) (hw : wayN (L[p]).op = 4) (dp : Nat) : Wf L out dp s pc (adS s1 p) D := by
  have hne := h.snd1 hp hs ho
  refine ⟨fun q hq e => by simp [adS, h.mono q hq e], fun e => ?_, fun p' q h1 h2 h3 => ?_, fun R r1 r2 => ⟨fun q hq e => ?_, (h.snd R r1 r2).2.1⟩, ?_⟩
  · rcases h.cov e with r | r | r
    · exact .inl (by simp [adS, r])
    · exact .inr r
    · subst r; exact .inl (by simp [adS])
  · by_cases e : p' = p
    · subst e
      simp [folB, hp, wyF, hw] at h3
    · have h1' : s1 p' = true := by
        have : ¬ (p' : Int) = p := by omega
        simpa [adS, this] using h1
      rcases h.clo p' q h1' h2 h3 with r | r | r
      · exact .inl (by simp [adS, r])
      · exact .inr r
      · exact .inl (by simp [adS, r])
  · by_cases e2 : q = p
    · subst e2
      refine .inr ?_
      have := (h.snd R r1 r2).2.2 (thB_nat.2 hp) hne
      simpa using this
    · have : ¬ (q : Int) = p := by omega
      exact (h.snd R r1 r2).1 q hq (by simpa [adS, this] using e)
  · rw [cnt_add _ _ _ hp hs]
    have := h.ct
    omega
/-- It goes anywhere. -/
theorem Wk.any {L : List Ins} {out : Int} {s s1 : Nat → Bool} {pc : Int} {p : Nat} {D : List Int} (h : Wk L out s pc s1 D p) (hp : p < L.length) (hs : s1 p = false) (ho : thB L.length out = true → s out.toNat = true) (hw : wayN (L[p]).op = 3) (dp : Nat) : Wf L out dp s pc (fun _ => true) D := by
  have hne := h.snd1 hp hs ho
  refine ⟨fun _ _ _ => rfl, fun _ => .inl rfl, fun _ _ _ _ _ => .inl rfl, fun R r1 r2 => ⟨fun q hq _ => ?_, (h.snd R r1 r2).2.1⟩, ?_⟩
  · by_cases e : (q : Int) = out
    · refine .inl ?_
      have := ho (by rw [← e]; exact thB_nat.2 hq)
      rw [← e] at this
      simpa using this
    · refine .inr (r1 p q ?_ ?_ e)
      · have := (h.snd R r1 r2).2.2 (thB_nat.2 hp) hne
        simpa using this
      · simp [folB, hp, hq, wyF, hw]
  · have := h.ct
    have := cnt_mono L.length (s := s1) (s' := fun _ => true) (fun _ _ _ => rfl)
    omega
/-- It goes on at 'to': to nothing else, but for what another walk (none: D' = []) has looked after. -/
theorem Wk.on {L : List Ins} {out : Int} {s s1 s3 : Nat → Bool} {pc tt : Int} {p : Nat} {D D' : List Int} (h : Wk L out s pc s1 D p) (hp : p < L.length) (hs : s1 p = false) (ho : thB L.length out = true → s out.toNat = true)
    (h3 : ∀ q, q < L.length → adS s1 p q = true → s3 q = true)
    (hto : ∀ q, folB L p q = true → (q : Int) = tt ∨ s3 q = true ∨ (q : Int) ∈ D')
    (hfo : thB L.length tt = true → folB L p tt.toNat = true)
    (hcl : ∀ p' q, s3 p' = true → adS s1 p p' = false → folB L p' q = true → s3 q = true ∨ (q : Int) ∈ D')
    (hsn : ∀ R : Nat → Prop, Clo L out R → R p → (∀ q, q < L.length → s3 q = true → adS s1 p q = true ∨ R q) ∧ (∀ d ∈ D', thB L.length d = true → d ≠ out → R d.toNat))
    (hct : D'.length + cnt L.length (adS s1 p) ≤ cnt L.length s3 + 1) : Wk L out s pc s3 (D ++ D') tt := by
  have hne := h.snd1 hp hs ho
  refine ⟨fun q hq e => h3 q hq (by simp [adS, h.mono q hq e]), fun e => ?_, fun p' q h1 h2 hf => ?_, fun R r1 r2 => ?_, ?_⟩
  · obtain ⟨n, rfl, hn⟩ := thB_elim e
    rcases h.cov e with r | r | r
    · exact .inl (h3 _ (by simpa using hn) (by simp at r; simp [adS, r]))
    · exact .inr (.inl (by simp [r]))
    · have : n = p := by omega
      subst this
      exact .inl (h3 _ (by simpa using hn) (by simp [adS]))
  · have hq := folB_lt hf
    have hp' := folB_lt' hf
    by_cases e : p' = p
    · subst e
      rcases hto q hf with r | r | r
      · exact .inr (.inr r)
      · exact .inl r
      · exact .inr (.inl (by simp [r]))
    · have epp : ¬ (p' : Int) = p := by omega
      cases e1 : s1 p' with
      | true =>
        rcases h.clo p' q e1 h2 hf with r | r | r
        · exact .inl (h3 q hq (by simp [adS, r]))
        · exact .inr (.inl (by simp [r]))
        · exact .inl (h3 q hq (by simp [adS, r]))
      | false =>
        rcases hcl p' q h1 (by simp [adS, e1, epp]) hf with r | r
        · exact .inl r
        · exact .inr (.inl (by simp [r]))
  · have hR : R p := by
      have := (h.snd R r1 r2).2.2 (thB_nat.2 hp) hne
      simpa using this
    obtain ⟨g1, g2⟩ := hsn R r1 hR
    refine ⟨fun q hq e => ?_, fun d hd => ?_, fun e1 e2 => ?_⟩
    · rcases g1 q hq e with r | r
      · by_cases e2 : q = p
        · subst e2; exact .inr hR
        · have : ¬ (q : Int) = p := by omega
          exact (h.snd R r1 r2).1 q hq (by simpa [adS, this] using r)
      · exact .inr r
    · rcases List.mem_append.1 hd with r | r
      · exact (h.snd R r1 r2).2.1 d r
      · exact g2 d r
    · obtain ⟨n, rfl, hn⟩ := thB_elim e1
      exact r1 p n hR (by have := hfo e1; simpa using this) e2
  · rw [cnt_add _ _ _ hp hs] at hct
    have := h.ct
    rw [List.length_append]
    omega
end F
end Go.Proofs.Ytjmknpkmbghgdaa
