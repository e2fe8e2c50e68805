import Derived.Test.YtoppcikacakjcaaP08
import Derived.Deep.AppendLies
/-
  Stage 8, flow: what may come behind what; what is come to. No Go in sight.
-/
namespace Go.Proofs.Ytoppcikacakjcaa
namespace F
open Go.RowKit
open T

/-- Of how many numbers below n it is true. -/
def cnt : Nat → (Nat → Bool) → Nat
  | 0, _ => 0
  | n + 1, s => cnt n s + if s n then 1 else 0
theorem cnt_le (n : Nat) (s : Nat → Bool) : cnt n s ≤ n := by
  induction n with
  | zero => exact Nat.le_refl _
  | succ n ih => unfold cnt; split <;> omega
theorem cnt_mono (n : Nat) {s s' : Nat → Bool} (h : ∀ q, q < n → s q = true → s' q = true) : cnt n s ≤ cnt n s' := by
  induction n with
  | zero => exact Nat.le_refl _
  | succ n ih =>
    have := ih (fun q hq => h q (by omega))
    have h1 := h n (by omega)
    unfold cnt
    cases e : s n
    · simp only [Bool.false_eq_true, if_false]; split <;> omega
    · rw [h1 e]; simp; exact this
theorem cnt_congr (n : Nat) {s s' : Nat → Bool} (h : ∀ q, q < n → s q = s' q) : cnt n s = cnt n s' := by
  induction n with
  | zero => rfl
  | succ n ih =>
    unfold cnt
    rw [ih (fun q hq => h q (by omega)), h n (by omega)]
theorem cnt_add (n p : Nat) (s : Nat → Bool) (hp : p < n) (h : s p = false) : cnt n (adS s p) = cnt n s + 1 := by
  induction n with
  | zero => omega
  | succ n ih =>
    unfold cnt
    by_cases e : p = n
    · subst e
      have : cnt p (adS s p) = cnt p s := cnt_congr p (fun q hq => by
        have : ¬ (q : Int) = p := by omega
        simp [adS, this])
      rw [this, h]
      simp [adS]
    · rw [ih (by omega)]
      have : ¬ (n : Int) = p := by omega
      simp [adS, this]
      omega
/-- Does one come behind another? -/
def wyF (wy m : Int) (p q : Nat) : Bool := if wy = 4 then false else if wy = 3 then true else if wy = 1 then decide ((q : Int) = m) else if wy = 2 then decide ((q : Int) = m) || decide (q = p + 1) else decide (q = p + 1)
def folB (L : List Ins) (p q : Nat) : Bool := decide (q < L.length) && match L[p]? with | none => false | some k => wyF (wayN k.op) k.m p q
/-- What is come to from entries, with one taken out. -/
inductive Rch (L : List Ins) (E : List Int) (out : Int) : Nat → Prop
  | base {q : Nat} : (q : Int) ∈ E → q < L.length → (q : Int) ≠ out → Rch L E out q
  | step {p q : Nat} : Rch L E out p → folB L p q = true → (q : Int) ≠ out → Rch L E out q
theorem folB_lt {L : List Ins} {p q : Nat} (h : folB L p q = true) : q < L.length := by
  simp [folB] at h; exact h.1
theorem folB_lt' {L : List Ins} {p q : Nat} (h : folB L p q = true) : p < L.length := by
  simp only [folB, Bool.and_eq_true] at h
  rcases Nat.lt_or_ge p L.length with e | e
  · exact e
  · rw [List.getElem?_eq_none e] at h
    simp at h
theorem Rch.lt {L : List Ins} {E : List Int} {out : Int} {q : Nat} (h : Rch L E out q) : q < L.length := by
  cases h with
  | base _ h _ => exact h
  | step _ h _ => exact folB_lt h
theorem Rch.ne {L : List Ins} {E : List Int} {out : Int} {q : Nat} (h : Rch L E out q) : (q : Int) ≠ out := by
  cases h with
  | base _ _ h => exact h
  | step _ _ h => exact h
/-- Closed under what comes behind, but for the one that is out. -/
def Clo (L : List Ins) (out : Int) (R : Nat → Prop) : Prop := ∀ p q, R p → folB L p q = true → (q : Int) ≠ out → R q
/-- What a walk does, on the way: it stands at pc1. -/
structure Wk (L : List Ins) (out : Int) (s : Nat → Bool) (pc : Int) (s1 : Nat → Bool) (D : List Int) (pc1 : Int) : Prop where
  mono : ∀ q, q < L.length → s q = true → s1 q = true
  cov : thB L.length pc = true → s1 pc.toNat = true ∨ pc ∈ D ∨ pc = pc1
  clo : ∀ p q, s1 p = true → s p = false → folB L p q = true → s1 q = true ∨ (q : Int) ∈ D ∨ (q : Int) = pc1
  snd : ∀ R : Nat → Prop, Clo L out R → (thB L.length pc = true → pc ≠ out → R pc.toNat) →
    (∀ q, q < L.length → s1 q = true → s q = true ∨ R q) ∧ (∀ d ∈ D, thB L.length d = true → d ≠ out → R d.toNat) ∧ (thB L.length pc1 = true → pc1 ≠ out → R pc1.toNat)
  ct : D.length + cnt L.length s ≤ cnt L.length s1
/-- What a walk has done. -/
structure Wf (L : List Ins) (out : Int) (dp : Nat) (s : Nat → Bool) (pc : Int) (s1 : Nat → Bool) (D : List Int) : Prop where
  mono : ∀ q, q < L.length → s q = true → s1 q = true
  cov : thB L.length pc = true → s1 pc.toNat = true ∨ pc ∈ D
  clo : ∀ p q, s1 p = true → s p = false → folB L p q = true → s1 q = true ∨ (q : Int) ∈ D
  snd : ∀ R : Nat → Prop, Clo L out R → (thB L.length pc = true → pc ≠ out → R pc.toNat) →
    (∀ q, q < L.length → s1 q = true → s q = true ∨ R q) ∧ (∀ d ∈ D, thB L.length d = true → d ≠ out → R d.toNat)
  ct : D.length + cnt L.length s ≤ cnt L.length s1 + dp
theorem thB_nat {n q : Nat} : thB n (q : Int) = true ↔ q < n := by simp [thB]
theorem thB_elim {n : Nat} {pc : Int} (h : thB n pc = true) : ∃ q : Nat, pc = q ∧ q < n := by
  simp [thB] at h
  exact ⟨pc.toNat, by omega, by omega⟩
/-- Too deep: it waits. -/
theorem Wf.deep (L : List Ins) (out : Int) (s : Nat → Bool) (pc : Int) : Wf L out 1 s pc s [pc] :=
  ⟨fun _ _ h => h, fun _ => .inr (by simp), fun p q h1 h2 _ => (by rw [h1] at h2; exact absurd h2 (by simp)),
   fun R _ h0 => ⟨fun q _ h => .inl h, fun d hd => by rw [List.mem_singleton.1 hd]; exact h0⟩, by simp; omega⟩
theorem Wk.start (L : List Ins) (out : Int) (s : Nat → Bool) (pc : Int) : Wk L out s pc s [] pc :=
  ⟨fun _ _ h => h, fun _ => .inr (.inr rfl), fun p q h1 h2 _ => (by rw [h1] at h2; exact absurd h2 (by simp)),
   fun R _ h0 => ⟨fun q _ h => .inl h, fun d hd => by simp at hd, h0⟩, by simp⟩
/-- It stands where there is nothing, or what was seen. -/
theorem Wk.stop {L : List Ins} {out : Int} {s s1 s2 : Nat → Bool} {pc pc1 : Int} {D : List Int} (h : Wk L out s pc s1 D pc1) (hs : adB L.length s1 pc1 = false) (hs2 : s2 = adS s1 pc1) (dp : Nat) : ∃ s3, Wf L out dp s pc s3 D ∧ ∀ q, q < L.length → s2 q = s3 q := by
  have hc : thB L.length pc1 = true → s1 pc1.toNat = true := by
    intro e
    simp only [adB, e, Bool.true_and, Bool.not_eq_false'] at hs
    exact hs
  refine ⟨s1, ⟨h.mono, fun e => ?_, fun p q h1 h2 h3 => ?_, fun R r1 r2 => ⟨(h.snd R r1 r2).1, (h.snd R r1 r2).2.1⟩, by have := h.ct; omega⟩, fun q hq => ?_⟩
  · rcases h.cov e with r | r | r
    · exact .inl r
    · exact .inr r
    · subst r; exact .inl (hc e)
  · rcases h.clo p q h1 h2 h3 with r | r | r
    · exact .inl r
    · exact .inr r
    · refine .inl ?_
      have := hc (by rw [← r, thB_nat]; exact folB_lt h3)
      rw [← r] at this
      simpa using this
  · subst hs2
    unfold adS
    by_cases e : (q : Int) = pc1
    · have := hc (by rw [← e, thB_nat]; exact hq)
      rw [← e] at this
      simp at this
      rw [this]; rfl
    · simp [e]
/-- One is seen that was not: what may come behind it? -/
theorem Wk.snd1 {L : List Ins} {out : Int} {s s1 : Nat → Bool} {pc : Int} {p : Nat} {D : List Int} (h : Wk L out s pc s1 D p) (hp : p < L.length) (hs : s1 p = false) (ho : thB L.length out = true → s out.toNat = true) : (p : Int) ≠ out := by
  intro e
  subst e
  have := h.mono p hp (by simpa using ho (thB_nat.2 hp))
  rw [hs] at this
  cases this
/-- It ends. -/
theorem Wk.ends {L : List Ins} {out : Int} {s s1 : Nat → Bool} {pc : Int} {p : Nat} {D : List Int} (h : Wk L out s pc s1 D p) (hp : p < L.length) (hs : s1 p = false) (ho : thB L.length out = true → s out.toNat = true) (hw : wayN (L[p]).op = 4) (dp : Nat) : Wf L out dp s pc (adS s1 p) D := by
  have hne := h.snd1 hp hs ho
  refine ⟨fun q hq e => by simp [adS, h.mono q hq e], fun e => ?_, fun p' q h1 h2 h3 => ?_, fun R r1 r2 => ⟨fun q hq e => ?_, (h.snd R r1 r2).2.1⟩, ?_⟩
  · rcases h.cov e with r | r | r
    · exact .inl (by simp [adS, r])
    · exact .inr r
    · subst r; exact .inl (by simp [adS])
  · by_cases e : p' = p
    · subst e
      simp [folB, hp, wyF, hw] at h3
    · have h1' : s1 p' = true := by
        have : ¬ (p' : Int) = p := by omega
        simpa [adS, this] using h1
      rcases h.clo p' q h1' h2 h3 with r | r | r
      · exact .inl (by simp [adS, r])
      · exact .inr r
      · exact .inl (by simp [adS, r])
  · by_cases e2 : q = p
    · subst e2
      refine .inr ?_
      have := (h.snd R r1 r2).2.2 (thB_nat.2 hp) hne
      simpa using this
    · have : ¬ (q : Int) = p := by omega
      exact (h.snd R r1 r2).1 q hq (by simpa [adS, this] using e)
  · rw [cnt_add _ _ _ hp hs]
    have := h.ct
    omega
/-- It goes anywhere. -/
theorem Wk.any {L : List Ins} {out : Int} {s s1 : Nat → Bool} {pc : Int} {p : Nat} {D : List Int} (h : Wk L out s pc s1 D p) (hp : p < L.length) (hs : s1 p = false) (ho : thB L.length out = true → s out.toNat = true) (hw : wayN (L[p]).op = 3) (dp : Nat) : Wf L out dp s pc (fun _ => true) D := by
  have hne := h.snd1 hp hs ho
  refine ⟨fun _ _ _ => rfl, fun _ => .inl rfl, fun _ _ _ _ _ => .inl rfl, fun R r1 r2 => ⟨fun q hq _ => ?_, (h.snd R r1 r2).2.1⟩, ?_⟩
  · by_cases e : (q : Int) = out
    · refine .inl ?_
      have := ho (by rw [← e]; exact thB_nat.2 hq)
      rw [← e] at this
      simpa using this
    · refine .inr (r1 p q ?_ ?_ e)
      · have := (h.snd R r1 r2).2.2 (thB_nat.2 hp) hne
        simpa using this
      · simp [folB, hp, hq, wyF, hw]
  · have := h.ct
    have := cnt_mono L.length (s := s1) (s' := fun _ => true) (fun _ _ _ => rfl)
    omega
/-- It goes on at 'to': to nothing else, but for what another walk (none: D' = []) has looked after. -/
theorem Wk.on {L : List Ins} {out : Int} {s s1 s3 : Nat → Bool} {pc tt : Int} {p : Nat} {D D' : List Int} (h : Wk L out s pc s1 D p) (hp : p < L.length) (hs : s1 p = false) (ho : thB L.length out = true → s out.toNat = true)
    (h3 : ∀ q, q < L.length → adS s1 p q = true → s3 q = true)
    (hto : ∀ q, folB L p q = true → (q : Int) = tt ∨ s3 q = true ∨ (q : Int) ∈ D')
    (hfo : thB L.length tt = true → folB L p tt.toNat = true)
    (hcl : ∀ p' q, s3 p' = true → adS s1 p p' = false → folB L p' q = true → s3 q = true ∨ (q : Int) ∈ D')
    (hsn : ∀ R : Nat → Prop, Clo L out R → R p → (∀ q, q < L.length → s3 q = true → adS s1 p q = true ∨ R q) ∧ (∀ d ∈ D', thB L.length d = true → d ≠ out → R d.toNat))
    (hct : D'.length + cnt L.length (adS s1 p) ≤ cnt L.length s3 + 1) : Wk L out s pc s3 (D ++ D') tt := by
  have hne := h.snd1 hp hs ho
  refine ⟨fun q hq e => h3 q hq (by simp [adS, h.mono q hq e]), fun e => ?_, fun p' q h1 h2 hf => ?_, fun R r1 r2 => ?_, ?_⟩
  · obtain ⟨n, rfl, hn⟩ := thB_elim e
    rcases h.cov e with r | r | r
    · exact .inl (h3 _ (by simpa using hn) (by simp at r; simp [adS, r]))
    · exact .inr (.inl (by simp [r]))
    · have : n = p := by omega
      subst this
      exact .inl (h3 _ (by simpa using hn) (by simp [adS]))
  · have hq := folB_lt hf
    have hp' := folB_lt' hf
    by_cases e : p' = p
    · subst e
      rcases hto q hf with r | r | r
      · exact .inr (.inr r)
      · exact .inl r
      · exact .inr (.inl (by simp [r]))
    · have epp : ¬ (p' : Int) = p := by omega
      cases e1 : s1 p' with
      | true =>
        rcases h.clo p' q e1 h2 hf with r | r | r
        · exact .inl (h3 q hq (by simp [adS, r]))
        · exact .inr (.inl (by simp [r]))
        · exact .inl (h3 q hq (by simp [adS, r]))
      | false =>
        rcases hcl p' q h1 (by simp [adS, e1, epp]) hf with r | r
        · exact .inl r
        · exact .inr (.inl (by simp [r]))
  · have hR : R p := by
      have := (h.snd R r1 r2).2.2 (thB_nat.2 hp) hne
      simpa using this
    obtain ⟨g1, g2⟩ := hsn R r1 hR
    refine ⟨fun q hq e => ?_, fun d hd => ?_, fun e1 e2 => ?_⟩
    · rcases g1 q hq e with r | r
      · by_cases e2 : q = p
        · subst e2; exact .inr hR
        · have : ¬ (q : Int) = p := by omega
          exact (h.snd R r1 r2).1 q hq (by simpa [adS, this] using r)
      · exact .inr r
    · rcases List.mem_append.1 hd with r | r
      · exact (h.snd R r1 r2).2.1 d r
      · exact g2 d r
    · obtain ⟨n, rfl, hn⟩ := thB_elim e1
      exact r1 p n hR (by have := hfo e1; simpa using this) e2
  · rw [cnt_add _ _ _ hp hs] at hct
    have := h.ct
    rw [List.length_append]
    omega
end F
end Go.Proofs.Ytoppcikacakjcaa


/-
  Stage 8, flow: the walk of comeTo, in memory.
-/
namespace Go.Proofs.Ytoppcikacakjcaa
namespace F
open Go.RowKit
open T

theorem addr_add (b off k : Nat) : (⟨b, off, none⟩ : Addr).add k = ⟨b, off + k, none⟩ := by by_cases h : k = 0 <;> simp [Addr.add, h]
/-- A row of numbers that the call owns. -/
def IOwn (w : World) (base : Nat) (v : Value) (L : List Int) : Prop := w.ownsRow base 3 1 v L.length (L.map (Value.int .i64))
/-- One number appended to a row that is owned. -/
theorem wpList_append_int {ops : Array Oper} {rest : List Oper} {o : Oper} {a : Act} {Q : Exit → Act → World → Prop} {w : World} (hgd : o.guard = none) (s x : Operand)
    (ho : o.op = .call { callee := .builtin .append, args := #[s, x], argTypes := #[23, 23] })
    (base : Nat) (v : Value) (L : List Int) (y : Int) (hs : a.eval s = v) (hL : IOwn w base v L)
    (X : Nat) (hx : a.eval x = .slice (some ⟨X, 0, none⟩) 1 1) (hX : At w X #[.int .i64 y]) (hlen : L.length ≤ 8000000) (hbase : base ≤ w.heap.size)
    (h : ∀ g cap w', IOwn w' base (.slice (some ⟨g, 0, none⟩) (L.length + 1) cap) (L ++ [y]) → w.grownBy w' v.ownBlock → (v.ownBlock = some g ∨ g = w.heap.size) → g < w'.heap.size → wpList Try.prog ops Q rest (a.put o.dst (.slice (some ⟨g, 0, none⟩) (L.length + 1) cap)) w') :
    wpList Try.prog ops Q (o :: rest) a w := by
  obtain ⟨i0, hi, hz0, hz1, hz2⟩ := info_parts' (t := 3) (z := .int .i64 0) (s := 1) (b := 8) (by kernel_rfl)
  have hn : ∀ j u, [Value.int .i64 y][j]? = some u → w.cell? ((⟨X, 0, none⟩ : Addr).add j) = some u := by
    intro j u hj
    rw [addr_add, hX.2.1]
    simpa using hj
  refine wpList_append_lies _ hgd s x 23 ho base 3 i0 (.int .i64 0) 1 8 Try.underlying23 hi hz0 hz1 hz2 rfl (by decide) v L.length (L.map (Value.int .i64)) hs hL ⟨X, 0, none⟩ 1 1 [.int .i64 y] hx rfl hn (by simp [Value.oneCell']) (by decide) (by unfold maxLen; omega) (by omega) hbase _ rfl ?_
  intro g cap w' h1 h2 h3 h4
  exact h g cap w' (by unfold IOwn; rw [List.length_append, List.map_append]; exact h1) h2 h3 h4
/-- Where what the walk knows lies. -/
structure CP where
  lo : Nat
  bw : Nat
  bs : Nat
  bc : Nat
  bk : Nat
  X : Nat
  cc : Nat
  ca : Option Addr
def bp (k : Nat) : Value := .pointer (some ⟨k, 0, none⟩)
def CP.fv (p : CP) : Value := .func (.func 42) #[] #[.pointer (some ⟨p.bw, 0, none⟩), .pointer (some ⟨p.bs, 0, none⟩), .pointer (some ⟨p.bc, 0, none⟩), .pointer (some ⟨p.bk, 0, none⟩)]
structure CS (p : CP) (L : List Ins) (w : World) (v : Value) (s : Nat → Bool) (W : List Int) : Prop where
  iw : At w p.bw #[v]
  row : IOwn w p.lo v W
  is_ : At w p.bs #[.slice (some ⟨p.X, 0, none⟩) ((L.length + 63) / 64) ((L.length + 63) / 64), .int .i64 L.length]
  ic : At w p.bc #[.slice p.ca L.length p.cc]
  ik : At w p.bk #[p.fv]
  st : SIn w p.X L.length s
  co : LIn p.lo w p.ca L
  ne : p.bw ≠ p.bs ∧ p.bw ≠ p.bc ∧ p.bw ≠ p.bk ∧ p.bw ≠ p.X ∧ p.X ≠ p.bs ∧ p.X ≠ p.bc ∧ p.X ≠ p.bk
  nv : ∀ g, v.ownBlock = some g → g ≠ p.bw ∧ g ≠ p.bs ∧ g ≠ p.bc ∧ g ≠ p.bk ∧ g ≠ p.X
  lo : p.lo ≤ p.X ∧ p.lo ≤ p.bw ∧ p.lo ≤ w.heap.size
theorem at_kp {S : Nat → Prop} {w w1 : World} {k : Nat} {cs : Array Value} (h : At w k cs) (hb : Kp S w w1) (hk : ¬ S k) : At w1 k cs :=
  ⟨Nat.lt_of_lt_of_le h.1 hb.size, fun o => (cell_of_block (hb.block k h.1 hk) o).trans (h.2.1 o), fun o => (frozen_of_block (hb.block k h.1 hk) o).trans (h.2.2 o)⟩
theorem own_kp {S : Nat → Prop} {w w1 : World} {base e size n : Nat} {v : Value} {xs : List Value} (h : w.ownsRow base e size v n xs) (hb : Kp S w w1) (hk : ∀ g, v.ownBlock = some g → ¬ S g) : w1.ownsRow base e size v n xs := by
  refine ⟨h.1, ?_⟩
  rcases h.2 with h2 | ⟨g, cap, cur, hv, hbg, hg, rest⟩
  · exact .inl h2
  · have hlt : g < w.heap.size := (Array.getElem?_eq_some_iff.1 hg).1
    exact .inr ⟨g, cap, cur, hv, hbg, (hb.block g hlt (hk g (by rw [hv]; rfl))).trans hg, rest⟩
theorem sin_kp {S : Nat → Prop} {w w1 : World} {X room : Nat} {s : Nat → Bool} (h : SIn w X room s) (hb : Kp S w w1) (hk : ¬ S X) : SIn w1 X room s := by
  obtain ⟨W, h1, h2, h3, h4⟩ := h
  exact ⟨W, h1, at_kp h2 hb hk, h3, h4⟩
theorem CS.below {p : CP} {L : List Ins} {w w1 : World} {v : Value} {s : Nat → Bool} {W : List Int} (h : CS p L w v s W) (hb : Below w.heap.size w w1) : CS p L w1 v s W :=
  ⟨at_below h.iw hb h.iw.1, own_below h.row hb, at_below h.is_ hb h.is_.1, at_below h.ic hb h.ic.1, at_below h.ik hb h.ik.1, h.st.below hb h.st.lt, h.co.below (hb.mono h.lo.2.2), h.ne, h.nv, h.lo.1, h.lo.2.1, Nat.le_trans h.lo.2.2 hb.size⟩
theorem CS.same {p : CP} {L : List Ins} {w : World} {v : Value} {s s' : Nat → Bool} {W : List Int} (h : CS p L w v s W) (e : ∀ q, q < L.length → s q = s' q) : CS p L w v s' W :=
  ⟨h.iw, h.row, h.is_, h.ic, h.ik, h.st.same (fun n hn => (e n hn).symm), h.co, h.ne, h.nv, h.lo⟩
/-- The set has changed. -/
theorem CS.sets {p : CP} {L : List Ins} {w w1 : World} {v : Value} {s s1 : Nat → Bool} {W : List Int} (h : CS p L w v s W) (hs : SIn w1 p.X L.length s1) (hb : Kp (fun k => k = p.X) w w1) : CS p L w1 v s1 W ∧ Below p.lo w w1 := by
  have hB : Below p.lo w w1 := hb.below h.lo.2.2 (fun k q => by have := h.lo.1; omega)
  obtain ⟨n1, n2, n3, n4, n5, n6, n7⟩ := h.ne
  exact ⟨⟨at_kp h.iw hb n4, own_kp h.row hb (fun g q => (h.nv g q).2.2.2.2), at_kp h.is_ hb (fun q => n5 q.symm), at_kp h.ic hb (fun q => n6 q.symm), at_kp h.ik hb (fun q => n7 q.symm), hs, h.co.below hB, h.ne, h.nv, h.lo.1, h.lo.2.1, Nat.le_trans h.lo.2.2 hb.size⟩, hB⟩
/-- One more waits. -/
theorem CS.push {p : CP} {L : List Ins} {w w1 w2 : World} {v : Value} {s : Nat → Bool} {W : List Int} {g cap : Nat} {y : Int} (h : CS p L w v s W) (h1 : Below w.heap.size w w1)
    (ho : IOwn w2 p.lo (.slice (some ⟨g, 0, none⟩) (W.length + 1) cap) (W ++ [y])) (hg : w1.grownBy w2 v.ownBlock) (hgg : v.ownBlock = some g ∨ g = w1.heap.size) :
    CS p L (w2.setCell ⟨p.bw, 0, none⟩ (.slice (some ⟨g, 0, none⟩) (W.length + 1) cap)) (.slice (some ⟨g, 0, none⟩) (W.length + 1) cap) s (W ++ [y]) ∧ Below p.lo w (w2.setCell ⟨p.bw, 0, none⟩ (.slice (some ⟨g, 0, none⟩) (W.length + 1) cap)) := by
  have q := h.below h1
  have hk : Kp (fun k => v.ownBlock = some k) w1 w2 := ⟨hg.os, hg.tape, hg.output, hg.size, fun k hk hn => hg.block k hk (fun e => hn e.symm)⟩
  obtain ⟨n1, n2, n3, n4, n5, n6, n7⟩ := h.ne
  have hgn : g ≠ p.bw ∧ g ≠ p.bs ∧ g ≠ p.bc ∧ g ≠ p.bk ∧ g ≠ p.X := by
    rcases hgg with r | r
    · exact h.nv g r
    · have a1 := q.iw.1
      have a2 := q.is_.1
      have a3 := q.ic.1
      have a4 := q.ik.1
      have a5 := q.st.lt
      refine ⟨?_, ?_, ?_, ?_, ?_⟩ <;> omega
  have iw := at_kp q.iw hk (fun r => (h.nv _ r).1 rfl)
  have hs : Kp (fun k => k = p.bw) w2 (w2.setCell ⟨p.bw, 0, none⟩ (.slice (some ⟨g, 0, none⟩) (W.length + 1) cap)) := Kp.set (S := fun k => k = p.bw) w2 _ _ rfl
  have hB : Below p.lo w2 (w2.setCell ⟨p.bw, 0, none⟩ (.slice (some ⟨g, 0, none⟩) (W.length + 1) cap)) := (Below.refl _ _).setCell h.lo.2.1 _
  have hB1 : Below p.lo w1 w2 := Below.of_grown hg q.lo.2.2 (fun k r => by
    rcases h.row.2 with ⟨rfl, _⟩ | ⟨g', cap', cur, rfl, hbg, hh, rest⟩
    · cases r
    · have : g' = k := by simpa [Value.ownBlock] using r
      omega)
  refine ⟨⟨?_, ?_, at_kp (at_kp q.is_ hk (fun r => (h.nv _ r).2.1 rfl)) hs (fun r => n1 r.symm), at_kp (at_kp q.ic hk (fun r => (h.nv _ r).2.2.1 rfl)) hs (fun r => n2 r.symm), at_kp (at_kp q.ik hk (fun r => (h.nv _ r).2.2.2.1 rfl)) hs (fun r => n3 r.symm), sin_kp (sin_kp q.st hk (fun r => (h.nv _ r).2.2.2.2 rfl)) hs (fun r => n4 r.symm), (q.co.below hB1).below hB, h.ne, ?_, h.lo.1, h.lo.2.1, ?_⟩, ((h1.mono h.lo.2.2).trans hB1).trans hB⟩
  · have := iw.set 0 (.slice (some ⟨g, 0, none⟩) (W.length + 1) cap) (by simp)
    simpa using this
  · have e : (W ++ [y]).length = W.length + 1 := by simp
    unfold IOwn at *
    exact own_kp ho hs (fun k r => by
      have : g = k := by simpa [Value.ownBlock] using r
      rw [← this]; exact hgn.1)
  · intro k r
    have : g = k := by simpa [Value.ownBlock] using r
    rw [← this]; exact hgn
  · have := hg.size
    have := q.lo.2.2
    simp
    omega
/-- The set that lies in memory. -/
def setOf (w : World) (X : Nat) : Nat → Bool := fun n => match w.cell? ⟨X, n / 64, none⟩ with | some (.int _ v) => Nat.testBit v.toNat (n % 64) | _ => false
theorem setOf_eq {w : World} {X room : Nat} {s : Nat → Bool} (h : SIn w X room s) : ∀ n, n < room → setOf w X n = s n := fun n hn => by
  obtain ⟨x, x1, x2, x3⟩ := h.word hn
  rw [x3]
  simp [setOf, x2]
theorem cnt_set {w : World} {X room : Nat} {s : Nat → Bool} (h : SIn w X room s) : cnt room (setOf w X) = cnt room s := cnt_congr room (setOf_eq h)
end F
end Go.Proofs.Ytoppcikacakjcaa
