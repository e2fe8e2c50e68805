import Derived.Test.YtimiofkiadlnbaaP33
import Derived.Test.YtimiofkiadlnbaaP21
/-
  Stage 13, fastvm: what is in order stays so.
-/
namespace Go.Proofs.Ytimiofkiadlnbaa
namespace Z
open Go.RowKit
open T (Sep Ob Kp Mf FlIn boxOb)

/-- Is a number a word? -/
def Wd (n : Int) : Prop := 0 ≤ n ∧ n < 18446744073709551616
theorem wd_wrap (n : Int) : Wd (IntKind.u64.wrap n) := by unfold Wd; rw [IntKind.wrap_u64]; omega
theorem wd_bits (op : BinOp) (a b : Int) : Wd (bits op .u64 a b) := by
  have h := bits_within op .u64 a b
  simp only [IntKind.min, IntKind.max, IntKind.signed, IntKind.bits, Bool.false_eq_true, if_false] at h
  exact ⟨h.1, by have := h.2; omega⟩
theorem wd_ld (m : Nat → UInt8) (n k : Nat) (hk : k ≤ 8) : Wd ((T.ldV m n k : Nat) : Int) := by
  unfold T.ldV
  split
  · have h := T.leB_lt m n k
    have h2 : 2 ^ (8 * k) ≤ 2 ^ 64 := Nat.pow_le_pow_right (by omega) (by omega)
    exact ⟨by omega, by have : T.leB m n k < 18446744073709551616 := Nat.lt_of_lt_of_le h h2; omega⟩
  · exact ⟨by decide, by decide⟩
theorem wd_div {n : Int} (h : Wd n) (k : Nat) : Wd (n / 2 ^ k) := by
  have hp : (0 : Int) < 2 ^ k := Int.pow_pos (by decide)
  exact ⟨Int.ediv_nonneg h.1 (Int.le_of_lt hp), Int.lt_of_le_of_lt (Int.ediv_le_self _ h.1) h.2⟩
theorem wd_01 (p : Prop) [Decidable p] : Wd (if p then 1 else 0) := by split <;> exact ⟨by decide, by decide⟩
theorem wd_upd {r : Nat → Int} (h : ∀ k, Wd (r k)) (i : Nat) {v : Int} (hv : Wd v) : ∀ k, Wd (updR r i v k) := by
  intro k
  unfold updR
  split
  · exact hv
  · exact h k
theorem wd_ent (g : Fg) (n : Nat) {A : Nat → Int} (hg : ∀ k, Wd (g.r k)) (hA : ∀ k, Wd (A k)) : ∀ k, Wd (entR g n A k) := by
  intro k
  unfold entR
  split
  · exact hA _
  · exact hg k
/-- A state in order, behind at most so many steps. -/
structure Fm.Okn (P : Pr) (n : Nat) (s : Fm) : Prop where
  g : s.g < P.code.length
  p : s.p ≤ 400
  r : ∀ k, Wd (s.r k)
  st : (s.st.length : Int) ≤ P.dep
  fr : ∀ f ∈ s.st, f.g < P.code.length ∧ f.p ≤ 400 ∧ ∀ k, Wd (f.r k)
  inp : ∀ n ∈ s.inp, Wd n
  il : s.inp.length ≤ 140737488355328
  out : ∀ n ∈ s.out, Wd n
  ol : s.out.length ≤ n
  tl : s.tc.length ≤ n
  v : Wd s.v
theorem Fm.Okn.ok {P : Pr} {n : Nat} {s : Fm} (h : s.Okn P n) (hn : n ≤ 1000000) : s.Ok P := ⟨h.g, h.p, h.r, h.st, h.fr, h.inp, h.il, Nat.le_trans h.ol hn, Nat.le_trans h.tl hn⟩
theorem Fm.Okn.mono {P : Pr} {n m : Nat} {s : Fm} (h : s.Okn P n) (hn : n ≤ m) : s.Okn P m := ⟨h.g, h.p, h.r, h.st, h.fr, h.inp, h.il, h.out, Nat.le_trans h.ol hn, Nat.le_trans h.tl hn, h.v⟩
/-- The ending alone. -/
theorem Fm.Okn.end {P : Pr} {n : Nat} {s : Fm} (h : s.Okn P n) (e f : Int) {v : Int} (hv : Wd v) : ({ s with e := e, v := v, f := f } : Fm).Okn P n := ⟨h.g, h.p, h.r, h.st, h.fr, h.inp, h.il, h.out, h.ol, h.tl, hv⟩
/-- Where it goes on alone. -/
theorem Fm.Okn.at {P : Pr} {n : Nat} {s : Fm} (h : s.Okn P n) {p : Nat} (hp : p ≤ 400) : ({ s with p := p } : Fm).Okn P n := ⟨h.g, hp, h.r, h.st, h.fr, h.inp, h.il, h.out, h.ol, h.tl, h.v⟩
theorem Fm.Okn.lay {P : Pr} {n : Nat} {s : Fm} (h : s.Okn P n) (i : Nat) {v : Int} (hv : Wd v) {p : Nat} (hp : p ≤ 400) : ({ s with r := updR s.r i v, p := p } : Fm).Okn P n := ⟨h.g, hp, wd_upd h.r i hv, h.st, h.fr, h.inp, h.il, h.out, h.ol, h.tl, h.v⟩
theorem wd0 : Wd 0 := ⟨by decide, by decide⟩
def Pr.Rr (P : Pr) : Prop := ∀ k, ∀ j, Wd ((P.gate k).r j)
set_option maxHeartbeats 4000000 in
theorem okn_step (P : Pr) (ok : P.Ok) (rr : P.Rr) (s : Fm) (i : Fi) (n m : Nat) (hs : s.Okn P n) (hm : m ≤ 400) (ho : i.Ok m P.gates.length) (hp : s.p < m) : (stepI P i s).Okn P (n + 1) := by
  have h1 := hs.mono (Nat.le_succ n)
  have h2 : s.p + 1 ≤ 400 := by omega
  have hgs : P.code.length = P.gates.length := ok.nc
  have hc : i.op = 0 ∨ i.op = 1 ∨ i.op = 2 ∨ i.op = 3 ∨ i.op = 4 ∨ i.op = 5 ∨ i.op = 6 ∨ i.op = 7 ∨ i.op = 8 ∨ i.op = 9 ∨ i.op = 10 ∨ i.op = 11 ∨ i.op = 12 ∨ i.op = 13 ∨ i.op = 20 ∨ i.op = 21 ∨ i.op = 22 ∨ i.op = 23 ∨ i.op = 24 ∨ i.op = 27 ∨ i.op = 28 ∨ i.op = 29 ∨ i.op = 30 ∨ i.op = 31 ∨ i.op = 32 ∨ i.op = 60 ∨ i.op = 61 ∨ i.op = 62 ∨ i.op = 63 ∨ i.op = 64 ∨ i.op = 65 ∨ i.op = 70 ∨ i.op = 71 ∨ i.op = 72 := by have := ho.op; unfold Named at this; omega
  rcases hc with e | e | e | e | e | e | e | e | e | e | e | e | e | e | e | e | e | e | e | e | e | e | e | e | e | e | e | e | e | e | e | e | e | e
  · skip
    rw [show stepI P i s = stp0 s by unfold stepI; rw [e]; rfl]
    exact h1.at h2
  · skip
    rw [show stepI P i s = stp1 i s by unfold stepI; rw [e]; rfl]
    exact h1.lay _ ho.im h2
  · skip
    rw [show stepI P i s = stp2 i s by unfold stepI; rw [e]; rfl]
    exact h1.lay _ (hs.r _) h2
  · skip
    rw [show stepI P i s = stp3 i s by unfold stepI; rw [e]; rfl]
    exact h1.lay _ (wd_wrap _) h2
  · skip
    rw [show stepI P i s = stp4 i s by unfold stepI; rw [e]; rfl]
    exact h1.lay _ (wd_wrap _) h2
  · skip
    rw [show stepI P i s = stp5 i s by unfold stepI; rw [e]; rfl]
    exact h1.lay _ (wd_wrap _) h2
  · skip
    rw [show stepI P i s = stp6 i s by unfold stepI; rw [e]; rfl]
    exact h1.lay _ (wd_bits _ _ _) h2
  · skip
    rw [show stepI P i s = stp7 i s by unfold stepI; rw [e]; rfl]
    exact h1.lay _ (wd_bits _ _ _) h2
  · skip
    rw [show stepI P i s = stp8 i s by unfold stepI; rw [e]; rfl]
    exact h1.lay _ (wd_bits _ _ _) h2
  · skip
    rw [show stepI P i s = stp9 i s by unfold stepI; rw [e]; rfl]
    exact h1.lay _ (wd_wrap _) h2
  · skip
    rw [show stepI P i s = stp10 i s by unfold stepI; rw [e]; rfl]
    exact h1.lay _ (wd_div (hs.r _) _) h2
  · skip
    rw [show stepI P i s = stp11 i s by unfold stepI; rw [e]; rfl]
    exact h1.lay _ (wd_wrap _) h2
  · skip
    rw [show stepI P i s = stp12 i s by unfold stepI; rw [e]; rfl]
    exact h1.lay _ (wd_01 _) h2
  · skip
    rw [show stepI P i s = stp13 i s by unfold stepI; rw [e]; rfl]
    exact h1.lay _ (wd_01 _) h2
  · skip
    rw [show stepI P i s = stp20 i s by unfold stepI; rw [e]; rfl]
    have hj : i.i.toNat ≤ 400 := by have := ho.jm ⟨by omega, by omega⟩; have := ho.im; omega
    exact h1.at hj
  · skip
    rw [show stepI P i s = stp21 i s by unfold stepI; rw [e]; rfl]
    have hj : i.i.toNat ≤ 400 := by have := ho.jm ⟨by omega, by omega⟩; have := ho.im; omega
    unfold stp21
    refine h1.at ?_
    split
    · exact hj
    · exact h2
  · skip
    rw [show stepI P i s = stp22 i s by unfold stepI; rw [e]; rfl]
    have hj : i.i.toNat ≤ 400 := by have := ho.jm ⟨by omega, by omega⟩; have := ho.im; omega
    unfold stp22
    refine h1.at ?_
    split
    · exact hj
    · exact h2
  · skip
    rw [show stepI P i s = stp23 i s by unfold stepI; rw [e]; rfl]
    have hj : i.i.toNat ≤ 400 := by have := ho.jm ⟨by omega, by omega⟩; have := ho.im; omega
    unfold stp23
    refine h1.at ?_
    split
    · exact hj
    · exact h2
  · skip
    rw [show stepI P i s = stp24 i s by unfold stepI; rw [e]; rfl]
    have hj : i.i.toNat ≤ 400 := by have := ho.jm ⟨by omega, by omega⟩; have := ho.im; omega
    unfold stp24
    refine h1.at ?_
    split
    · exact hj
    · exact h2
  · skip
    rw [show stepI P i s = stp27 i s by unfold stepI; rw [e]; rfl]
    exact h1.end _ _ (hs.r _)
  · skip
    rw [show stepI P i s = stp28 i s by unfold stepI; rw [e]; rfl]
    exact h1.end _ _ ho.im
  · skip
    rw [show stepI P i s = stp29 i s by unfold stepI; rw [e]; rfl]
    cases hi : s.inp with
    | nil =>
      rw [show stp29 i s = { s with e := 6, v := 0, f := 0 } by simp [stp29, hi]]
      exact h1.end _ _ wd0
    | cons x L =>
      rw [show stp29 i s = { s with inp := L, r := updR s.r i.a x, p := s.p + 1 } by simp [stp29, hi]]
      exact ⟨h1.g, h2, wd_upd h1.r _ (hs.inp x (by simp [hi])), h1.st, h1.fr, fun y hy => hs.inp y (by simp [hi, hy]), by have := hs.il; rw [hi] at this; simp at this; show L.length ≤ _; omega, h1.out, h1.ol, h1.tl, h1.v⟩
  · skip
    rw [show stepI P i s = stp30 i s by unfold stepI; rw [e]; rfl]
    refine ⟨h1.g, h2, h1.r, h1.st, h1.fr, h1.inp, h1.il, fun y hy => ?_, by have := hs.ol; simp [stp30]; omega, h1.tl, h1.v⟩
    simp only [stp30, List.mem_append, List.mem_singleton] at hy
    rcases hy with hy | rfl
    · exact hs.out y hy
    · exact hs.r _
  · skip
    rw [show stepI P i s = stp31 P i s by unfold stepI; rw [e]; rfl]
    unfold stp31
    split
    · exact h1.end _ _ wd0
    · rename_i hd
      have hcl := ho.cl e
      have him := ho.im.1
      have hgl : i.i.toNat < P.gates.length := by omega
      have hgc : i.i.toNat < P.code.length := by omega
      have hge := (ok.gate _ hgl hgc).1
      have hr4 := (ok.row _ (List.getElem_mem hgc)).1.2
      refine ⟨hgc, ?_, wd_ent _ _ (rr _) (fun k => hs.r (k + 1)), ?_, fun f hf => ?_, h1.inp, h1.il, h1.out, h1.ol, h1.tl, h1.v⟩
      · show (P.gate i.i.toNat).e ≤ 400
        rw [P.gate_at _ hgl]
        omega
      · show ((s.st ++ [_]).length : Int) ≤ P.dep
        rw [List.length_append]
        simp
        omega
      · rcases List.mem_append.1 hf with hf | hf
        · exact hs.fr f hf
        · rw [List.mem_singleton.1 hf]
          exact ⟨hs.g, h2, hs.r⟩
  · skip
    rw [show stepI P i s = stp32 P s by unfold stepI; rw [e]; rfl]
    have hsl := hs.st
    rcases List.eq_nil_or_concat s.st with hz | ⟨L, t, hz⟩
    · rw [show stp32 P s = { s with e := 1, v := if (P.gate s.g).s = 0 then 0 else s.r 1, f := 0 } by simp [stp32, hz]]
      refine h1.end _ _ ?_
      split
      · exact wd0
      · exact hs.r _
    · rw [List.concat_eq_append] at hz
      rw [show stp32 P s = { s with g := t.g, p := t.p, r := entR ⟨t.p, 0, 0, t.r⟩ (P.gate s.g).s (fun k => s.r (k + 1)), st := L } by simp [stp32, hz]]
      have ht := hs.fr t (by simp [hz])
      exact ⟨ht.1, ht.2.1, wd_ent _ _ ht.2.2 (fun k => hs.r (k + 1)), by rw [hz, List.length_append] at hsl; simp at hsl; show (L.length : Int) ≤ P.dep; omega, fun f hf => hs.fr f (by simp [hz, hf]), h1.inp, h1.il, h1.out, h1.ol, h1.tl, h1.v⟩
  · skip
    rw [show stepI P i s = stp60 i s by unfold stepI; rw [e]; rfl]
    unfold stp60
    split
    · exact h1.end _ _ wd0
    · exact ⟨h1.g, h2, wd_upd h1.r _ (wd_ld _ _ _ (by omega)), h1.st, h1.fr, h1.inp, h1.il, h1.out, h1.ol, by have := hs.tl; simp; omega, h1.v⟩
  · skip
    rw [show stepI P i s = stp61 i s by unfold stepI; rw [e]; rfl]
    unfold stp61
    split
    · exact h1.end _ _ wd0
    · exact ⟨h1.g, h2, wd_upd h1.r _ (wd_ld _ _ _ (by omega)), h1.st, h1.fr, h1.inp, h1.il, h1.out, h1.ol, by have := hs.tl; simp; omega, h1.v⟩
  · skip
    rw [show stepI P i s = stp62 i s by unfold stepI; rw [e]; rfl]
    unfold stp62
    split
    · exact h1.end _ _ wd0
    · exact ⟨h1.g, h2, h1.r, h1.st, h1.fr, h1.inp, h1.il, h1.out, h1.ol, by have := hs.tl; simp; omega, h1.v⟩
  · skip
    rw [show stepI P i s = stp63 i s by unfold stepI; rw [e]; rfl]
    unfold stp63
    split
    · exact h1.end _ _ wd0
    · exact ⟨h1.g, h2, h1.r, h1.st, h1.fr, h1.inp, h1.il, h1.out, h1.ol, by have := hs.tl; simp; omega, h1.v⟩
  · skip
    rw [show stepI P i s = stp64 i s by unfold stepI; rw [e]; rfl]
    unfold stp64
    split
    · exact h1.end _ _ wd0
    · exact ⟨h1.g, h2, wd_upd h1.r _ (wd_ld _ _ _ (by omega)), h1.st, h1.fr, h1.inp, h1.il, h1.out, h1.ol, by have := hs.tl; simp; omega, h1.v⟩
  · skip
    rw [show stepI P i s = stp65 i s by unfold stepI; rw [e]; rfl]
    unfold stp65
    split
    · exact h1.end _ _ wd0
    · exact ⟨h1.g, h2, h1.r, h1.st, h1.fr, h1.inp, h1.il, h1.out, h1.ol, by have := hs.tl; simp; omega, h1.v⟩
  · skip
    rw [show stepI P i s = stp70 i s by unfold stepI; rw [e]; rfl]
    unfold stp70
    split
    · exact h1.at h2
    · exact h1.end _ _ (wd_wrap _)
  · skip
    rw [show stepI P i s = stp71 i s by unfold stepI; rw [e]; rfl]
    unfold stp71
    split
    · exact h1.at h2
    · exact h1.end _ _ (wd_wrap _)
  · skip
    rw [show stepI P i s = stp72 i s by unfold stepI; rw [e]; rfl]
    exact h1.end _ _ (wd_wrap _)
/-- What one step does. -/
def stepM (P : Pr) (s : Fm) : Fm := match (P.code.getD s.g [])[s.p]? with | some i => stepI P i s | none => { s with e := 7, v := 0, f := 8 }
theorem goes_all (P : Pr) (ok : P.Ok) (s : Fm) (hs : s.Ok P) : Goes P s (stepM P s) := by
  have hg := hs.g
  have e1 : P.code.getD s.g [] = P.code[s.g] := by simp [hg]
  by_cases hp : s.p < P.code[s.g].length
  · have hi : stepM P s = stepI P P.code[s.g][s.p] s := by
      unfold stepM
      rw [e1, List.getElem?_eq_getElem hp]
    rw [hi]
    have hr := ok.row _ (List.getElem_mem hg)
    have ho := hr.2 _ (List.getElem_mem hp)
    exact goes_of P.code[s.g][s.p] hg hp rfl ho.op (fun B V a l h => step_all P ok s _ hs ⟨_, hr.1.2, ho⟩ B V a l h)
  · have hi : stepM P s = { s with e := 7, v := 0, f := 8 } := by
      unfold stepM
      rw [e1, List.getElem?_eq_none (by omega)]
    rw [hi]
    exact fun B W a l h => do_out B W a P s l h hg (by omega)
theorem okn_stepM (P : Pr) (ok : P.Ok) (rr : P.Rr) (s : Fm) (n : Nat) (hs : s.Okn P n) : (stepM P s).Okn P (n + 1) := by
  have hg := hs.g
  have e1 : P.code.getD s.g [] = P.code[s.g] := by simp [hg]
  by_cases hp : s.p < P.code[s.g].length
  · have hi : stepM P s = stepI P P.code[s.g][s.p] s := by
      unfold stepM
      rw [e1, List.getElem?_eq_getElem hp]
    rw [hi]
    have hr := ok.row _ (List.getElem_mem hg)
    exact okn_step P ok rr s _ n _ hs hr.1.2 (hr.2 _ (List.getElem_mem hp)) hp
  · have hi : stepM P s = { s with e := 7, v := 0, f := 8 } := by
      unfold stepM
      rw [e1, List.getElem?_eq_none (by omega)]
    rw [hi]
    exact (hs.mono (Nat.le_succ n)).end _ _ wd0
/-- So many steps, until it ends. -/
def stepsM (P : Pr) (s : Fm) : Nat → Fm
  | 0 => s
  | k + 1 => if (stepsM P s k).e = 0 then stepM P (stepsM P s k) else stepsM P s k
theorem okn_stepsM (P : Pr) (ok : P.Ok) (rr : P.Rr) (s : Fm) (n : Nat) (hs : s.Okn P n) (k : Nat) : (stepsM P s k).Okn P (n + k) := by
  induction k with
  | zero => exact hs
  | succ k ih =>
    unfold stepsM
    split
    · exact okn_stepM P ok rr _ _ ih
    · exact ih.mono (by omega)
theorem stepsM_over (P : Pr) (s : Fm) (k j : Nat) (h : (stepsM P s k).e ≠ 0) : stepsM P s (k + j) = stepsM P s k := by
  induction j with
  | zero => rfl
  | succ j ih =>
    show (if (stepsM P s (k + j)).e = 0 then stepM P (stepsM P s (k + j)) else stepsM P s (k + j)) = _
    rw [ih, if_neg h]
/-- Where the steps of a run stop. -/
theorem stops (P : Pr) (s : Fm) (n : Nat) : ∃ m, m ≤ n ∧ (∀ k, k < m → (stepsM P s k).e = 0) ∧ (m = n ∨ (stepsM P s m).e ≠ 0) ∧ stepsM P s m = stepsM P s n := by
  induction n with
  | zero => exact ⟨0, Nat.le_refl _, fun k h => absurd h (Nat.not_lt_zero _), .inl rfl, rfl⟩
  | succ n ih =>
    obtain ⟨m, h1, h2, h3, h4⟩ := ih
    by_cases he : (stepsM P s m).e = 0
    · have hmn : m = n := by
        rcases h3 with q | q
        · exact q
        · exact absurd he q
      subst hmn
      refine ⟨m + 1, Nat.le_refl _, fun k hk => ?_, .inl rfl, rfl⟩
      by_cases hkm : k < m
      · exact h2 k hkm
      · rw [show k = m by omega]
        exact he
    · refine ⟨m, by omega, h2, .inr he, ?_⟩
      rw [h4]
      rw [h4] at he
      exact (stepsM_over P s n 1 he).symm
theorem steps_goes (P : Pr) (ok : P.Ok) (rr : P.Rr) (s : Fm) (c n m : Nat) (hs : s.Okn P c) (hn : c + n ≤ 1000000) (hm : m ≤ n) (h0 : ∀ k, k < m → (stepsM P s k).e = 0) : ∀ k, k < m → Goes P (stepsM P s k) (stepsM P s (k + 1)) := by
  intro k hk
  have e : stepsM P s (k + 1) = stepM P (stepsM P s k) := by
    show (if (stepsM P s k).e = 0 then stepM P (stepsM P s k) else stepsM P s k) = _
    rw [if_pos (h0 k hk)]
  rw [e]
  exact goes_all P ok _ ((okn_stepsM P ok rr s c hs k).ok (by omega))
/-- How a run of so much fuel is over. -/
def runM (P : Pr) (s : Fm) (n : Nat) : Fm := if (stepsM P s n).e = 0 then sp (stepsM P s n) else stepsM P s n
def Fm.outc (s : Fm) : Value := .agg #[.int .i64 s.e, .int .u64 s.v, .int .i64 s.f, .int .i64 s.g, .int .i64 s.p]
theorem steps_all (P : Pr) (ok : P.Ok) (rr : P.Rr) (s : Fm) (c n : Nat) (hs : s.Okn P c) (hn : c + n ≤ 1000000) (B : Nat) (W : World) (a : Nat) (l : List Ob) (h : MIn B W a P s l) :
    Calls Try.prog 17 #[.pointer (some ⟨a, 0, none⟩), .int .i64 n] W fun x w' => x = .returned (.tuple #[]) ∧ MIn B w' a P (stepsM P s n) l ∧ Below B W w' := by
  obtain ⟨m, h1, h2, h3, h4⟩ := stops P s n
  rw [← h4]
  exact steps_any B W a P l n m (stepsM P s) h h1 h2 (steps_goes P ok rr s c n m hs hn h1 h2) h3 (by omega)
theorem run_all (P : Pr) (ok : P.Ok) (rr : P.Rr) (s : Fm) (c n : Nat) (hs : s.Okn P c) (hn : c + n ≤ 1000000) (hn2 : n ≤ 100000) (B : Nat) (W : World) (a : Nat) (l : List Ob) (h : MIn B W a P s l) :
    Calls Try.prog 7 #[.pointer (some ⟨a, 0, none⟩), .int .i64 n] W fun x w' => x = .returned (runM P s n).outc ∧ MIn B w' a P (runM P s n) l ∧ Below B W w' := by
  obtain ⟨m, h1, h2, h3, h4⟩ := stops P s n
  unfold runM
  rw [← h4]
  have hG := steps_goes P ok rr s c n m hs hn h1 h2
  by_cases he : (stepsM P s m).e = 0
  · rw [if_pos he]
    exact run_spent B W a P l n m (stepsM P s) h h1 h2 hG h3 hn2 he
  · rw [if_neg he]
    exact run_end B W a P l n m (stepsM P s) h h1 h2 hG h3 hn2 he
end Z
end Go.Proofs.Ytimiofkiadlnbaa


/-
  Stage 13, fastvm: Step and Memory.
-/
namespace Go.Proofs.Ytimiofkiadlnbaa
namespace Z
open Go.RowKit
open T (Sep Ob Kp Mf FlIn boxOb)

def snV (g p d : Int) (r : Nat → Int) : List Value := .int .i64 g :: .int .i64 p :: .int .i64 d :: regs r
theorem snV_len (g p d : Int) (r : Nat → Int) : (snV g p d r).length = 19 := by simp [snV, regs_len]
theorem snV_one (g p d : Int) (r : Nat → Int) : (snV g p d r).toArray.all (fun x => x.oneCell') = true := by
  rw [Array.all_eq_true_iff_forall_mem]
  intro u hu
  simp only [List.mem_toArray, snV, List.mem_cons] at hu
  rcases hu with rfl | rfl | rfl | hu
  · rfl
  · rfl
  · rfl
  · exact regs_one r u hu
theorem MIn.snap {B : Nat} {W : World} {a : Nat} {P : Pr} {s : Fm} {l : List Ob} (h : MIn B W a P s l) : ∃ sa sc, ∀ V, Gr W V → V.cell? ⟨a, 4, none⟩ = some (.int .i64 s.g) ∧ V.cell? ⟨a, 5, none⟩ = some (.int .i64 s.p) ∧ V.cell? ⟨a, 22, none⟩ = some (.slice sa s.st.length sc) ∧ V.rangeAt a 6 (regs s.r) := by
  obtain ⟨⟨q, h1⟩, le⟩ := h
  have hb := h1.ins (bxOb a (bxOf P s q)) (by simp [obs])
  have hO := h1.ins (stOb B q.sv s.st) (by simp [obs])
  obtain ⟨sa, sc, e⟩ : ∃ sa sc, q.sv = .slice sa s.st.length sc := by
    rcases hO.2 with ⟨e1, e2⟩ | ⟨g, cap, cur, e1, _⟩
    · exact ⟨none, 0, by rw [e1, e2]⟩
    · exact ⟨_, _, e1⟩
  refine ⟨sa, sc, fun V g => ?_⟩
  have hk := fun j => T.cell_of_block (g.below.block a hb.1) j
  refine ⟨(hk _).trans (hb.at_ 4 (by omega)), (hk _).trans (hb.at_ 5 (by omega)), ?_, fun j v qv => ?_⟩
  · rw [← e]
    exact (hk _).trans (hb.at_ 22 (by omega))
  · have hj : j < 16 := by have := (List.getElem?_eq_some_iff.1 qv).1; rwa [regs_len] at this
    rw [regs_at s.r j hj] at qv
    refine (hk _).trans ((hb.at_ (6 + j) (by omega)).trans ?_)
    rw [Fx.reg _ j hj]
    exact qv
end Z
end Go.Proofs.Ytimiofkiadlnbaa


/-
  Stage 13, fastvm: raw instructions and gates.
-/
namespace Go.Proofs.Ytimiofkiadlnbaa
namespace Z
open Go.RowKit
open T (Sep Ob Kp Mf FlIn boxOb)

/-- An instruction as it comes in. -/
structure Ri where
  op : Int
  a : Int
  b : Int
  c : Int
  i : Int
def Ri.vals (i : Ri) : List Value := [.int .u8 i.op, .int .i64 i.a, .int .i64 i.b, .int .i64 i.c, .int .u64 i.i]
/-- What a value of its type is. -/
structure Ri.Is (i : Ri) : Prop where
  op : 0 ≤ i.op ∧ i.op < 256
  im : 0 ≤ i.i ∧ i.i < 18446744073709551616
def Ri.Fl (i : Ri) : Prop := (0 ≤ i.a ∧ i.a ≤ 15) ∧ (0 ≤ i.b ∧ i.b ≤ 15) ∧ 0 ≤ i.c ∧ i.c ≤ if 70 ≤ i.op then 255 else 15
def Ri.Th (i : Ri) (n k : Nat) : Prop := (20 ≤ i.op ∧ i.op ≤ 24 → i.i < n) ∧ (i.op = 31 → i.i < k)
structure Ri.Ok (i : Ri) (n k : Nat) : Prop where
  op : Named i.op
  fl : i.Fl
  th : i.Th n k
/-- An answer tells whether something is so. -/
def Says (p : Prop) (x : Ending) : Prop := ∃ b : Bool, x = .returned (.bool b) ∧ (b = true ↔ p)
def Ri.fi (i : Ri) : Fi := ⟨i.op, i.a.toNat, i.b.toNat, i.c.toNat, i.i⟩
theorem Ri.Ok.fi {i : Ri} {n k : Nat} (h : i.Ok n k) (hi : i.Is) : i.fi.Ok n k ∧ i.fi.vals = i.vals := by
  obtain ⟨h1, h2, h3⟩ := h
  obtain ⟨ha, hb, hc0, hc⟩ := h2
  refine ⟨⟨h1, ?_, ?_, ?_, hi.im, h3.1, h3.2⟩, ?_⟩
  · show i.a.toNat < 16
    omega
  · show i.b.toNat < 16
    omega
  · show i.c.toNat < 16 ∨ 70 ≤ i.op ∧ i.c.toNat ≤ 255
    split at hc <;> omega
  · show [Value.int .u8 i.op, .int .i64 (i.a.toNat : Int), .int .i64 (i.b.toNat : Int), .int .i64 (i.c.toNat : Int), .int .u64 i.i] = _
    rw [Int.toNat_of_nonneg ha.1, Int.toNat_of_nonneg hb.1, Int.toNat_of_nonneg hc0]
    rfl
set_option maxRecDepth 100000 in
set_option maxHeartbeats 4000000 in
theorem isWithin_no (n lo hi : Int) (w : World) (h : ¬ (lo ≤ n ∧ n ≤ hi)) :
    Calls Try.prog 21 #[.int .i64 n, .int .i64 lo, .int .i64 hi] w fun x w' => x = .returned (.bool false) ∧ w' = w := by
  by_cases h1 : lo ≤ n
  · have h2 : ¬ n ≤ hi := fun q => h ⟨h1, q⟩
    clear h
    go_enter Try.func21, Try.ntmps21
    go_wp2_with fail
    go_ret
    exact ⟨rfl, rfl⟩
  · clear h
    go_enter Try.func21, Try.ntmps21
    go_wp2_with fail
    go_ret
    exact ⟨rfl, rfl⟩
set_option maxRecDepth 100000 in
set_option maxHeartbeats 4000000 in
theorem isNamed_no (op : Int) (w : World) (h : 0 ≤ op ∧ op < 256) (hn : ¬ Named op) :
    Calls Try.prog 28 #[.int .u8 op] w fun x w' => x = .returned (.bool false) ∧ w' = w := by
  have hc : (14 ≤ op ∧ op ≤ 19) ∨ (25 ≤ op ∧ op ≤ 26) ∨ (33 ≤ op ∧ op ≤ 59) ∨ (66 ≤ op ∧ op ≤ 69) ∨ (73 ≤ op ∧ op ≤ 255) := by unfold Named at hn; omega
  clear hn h
  rcases hc with hc | hc | hc | hc | hc
  · skip
    have n13 : ¬ op ≤ 13 := by omega
    have y24 : op ≤ 24 := by omega
    have l20 : ¬ 20 ≤ op := by omega
    clear hc
    go_enter Try.func28, Try.ntmps28
    go_wp2_with fail
    go_ret
    exact ⟨rfl, rfl⟩
  · skip
    have n13 : ¬ op ≤ 13 := by omega
    have n24 : ¬ op ≤ 24 := by omega
    have y32 : op ≤ 32 := by omega
    have l27 : ¬ 27 ≤ op := by omega
    clear hc
    go_enter Try.func28, Try.ntmps28
    go_wp2_with fail
    go_ret
    exact ⟨rfl, rfl⟩
  · skip
    have n13 : ¬ op ≤ 13 := by omega
    have n24 : ¬ op ≤ 24 := by omega
    have n32 : ¬ op ≤ 32 := by omega
    have y65 : op ≤ 65 := by omega
    have l60 : ¬ 60 ≤ op := by omega
    clear hc
    go_enter Try.func28, Try.ntmps28
    go_wp2_with fail
    go_ret
    exact ⟨rfl, rfl⟩
  · skip
    have n13 : ¬ op ≤ 13 := by omega
    have n24 : ¬ op ≤ 24 := by omega
    have n32 : ¬ op ≤ 32 := by omega
    have n65 : ¬ op ≤ 65 := by omega
    have l70 : ¬ 70 ≤ op := by omega
    clear hc
    go_enter Try.func28, Try.ntmps28
    go_wp2_with fail
    go_ret
    exact ⟨rfl, rfl⟩
  · skip
    have n13 : ¬ op ≤ 13 := by omega
    have n24 : ¬ op ≤ 24 := by omega
    have n32 : ¬ op ≤ 32 := by omega
    have n65 : ¬ op ≤ 65 := by omega
    have y70 : 70 ≤ op := by omega
    have n72 : ¬ op ≤ 72 := by omega
    clear hc
    go_enter Try.func28, Try.ntmps28
    go_wp2_with fail
    go_ret
    exact ⟨rfl, rfl⟩
set_option maxRecDepth 100000 in
set_option maxHeartbeats 4000000 in
theorem fields_any (i : Ri) (w : World) :
    Calls Try.prog 29 #[.agg #[.int .u8 i.op, .int .i64 i.a, .int .i64 i.b, .int .i64 i.c, .int .u64 i.i]] w fun x w' => Says i.Fl x ∧ Gr w w' := by
  by_cases h70 : 70 ≤ i.op
  · skip
    by_cases ha : 0 ≤ i.a ∧ i.a ≤ 15
    · by_cases hb : 0 ≤ i.b ∧ i.b ≤ 15
      · by_cases hc : 0 ≤ i.c ∧ i.c ≤ 255
        · skip
          go_enter Try.func29, Try.ntmps29
          go_wp2_with fail
          refine (isWithin_ok _ _ _ _ (by omega) (by omega)).mono ?_
          rintro r w1 ⟨rfl, e1⟩
          subst e1
          go_wp2_with fail
          refine (isWithin_ok _ _ _ _ (by omega) (by omega)).mono ?_
          rintro r w1 ⟨rfl, e1⟩
          subst e1
          go_wp2_with fail
          refine (isWithin_ok _ _ _ _ (by omega) (by omega)).mono ?_
          rintro r w1 ⟨rfl, e1⟩
          subst e1
          go_wp2_with fail
          go_ret
          refine ⟨⟨true, rfl, ?_⟩, (Gr.refl w).alloc _⟩
          unfold Ri.Fl
          rw [if_pos h70]
          exact iff_of_true rfl ⟨ha, hb, hc⟩
        · skip
          go_enter Try.func29, Try.ntmps29
          go_wp2_with fail
          refine (isWithin_ok _ _ _ _ (by omega) (by omega)).mono ?_
          rintro r w1 ⟨rfl, e1⟩
          subst e1
          go_wp2_with fail
          refine (isWithin_ok _ _ _ _ (by omega) (by omega)).mono ?_
          rintro r w1 ⟨rfl, e1⟩
          subst e1
          go_wp2_with fail
          refine (isWithin_no _ _ _ _ (by omega)).mono ?_
          rintro r w1 ⟨rfl, e1⟩
          subst e1
          go_wp2_with fail
          go_ret
          refine ⟨⟨false, rfl, ?_⟩, (Gr.refl w).alloc _⟩
          unfold Ri.Fl
          rw [if_pos h70]
          refine iff_of_false (by decide) (fun q => ?_)
          exact absurd q.2.2 hc
      · skip
        go_enter Try.func29, Try.ntmps29
        go_wp2_with fail
        refine (isWithin_ok _ _ _ _ (by omega) (by omega)).mono ?_
        rintro r w1 ⟨rfl, e1⟩
        subst e1
        go_wp2_with fail
        refine (isWithin_no _ _ _ _ (by omega)).mono ?_
        rintro r w1 ⟨rfl, e1⟩
        subst e1
        go_wp2_with fail
        go_ret
        refine ⟨⟨false, rfl, ?_⟩, (Gr.refl w).alloc _⟩
        unfold Ri.Fl
        rw [if_pos h70]
        refine iff_of_false (by decide) (fun q => ?_)
        exact absurd q.2.1 hb
    · skip
      go_enter Try.func29, Try.ntmps29
      go_wp2_with fail
      refine (isWithin_no _ _ _ _ (by omega)).mono ?_
      rintro r w1 ⟨rfl, e1⟩
      subst e1
      go_wp2_with fail
      go_ret
      refine ⟨⟨false, rfl, ?_⟩, (Gr.refl w).alloc _⟩
      unfold Ri.Fl
      rw [if_pos h70]
      refine iff_of_false (by decide) (fun q => ?_)
      exact absurd q.1 ha
  · skip
    by_cases ha : 0 ≤ i.a ∧ i.a ≤ 15
    · by_cases hb : 0 ≤ i.b ∧ i.b ≤ 15
      · by_cases hc : 0 ≤ i.c ∧ i.c ≤ 15
        · skip
          go_enter Try.func29, Try.ntmps29
          go_wp2_with fail
          refine (isWithin_ok _ _ _ _ (by omega) (by omega)).mono ?_
          rintro r w1 ⟨rfl, e1⟩
          subst e1
          go_wp2_with fail
          refine (isWithin_ok _ _ _ _ (by omega) (by omega)).mono ?_
          rintro r w1 ⟨rfl, e1⟩
          subst e1
          go_wp2_with fail
          refine (isWithin_ok _ _ _ _ (by omega) (by omega)).mono ?_
          rintro r w1 ⟨rfl, e1⟩
          subst e1
          go_wp2_with fail
          go_ret
          refine ⟨⟨true, rfl, ?_⟩, (Gr.refl w).alloc _⟩
          unfold Ri.Fl
          rw [if_neg (show ¬ 70 ≤ i.op by omega)]
          exact iff_of_true rfl ⟨ha, hb, hc⟩
        · skip
          go_enter Try.func29, Try.ntmps29
          go_wp2_with fail
          refine (isWithin_ok _ _ _ _ (by omega) (by omega)).mono ?_
          rintro r w1 ⟨rfl, e1⟩
          subst e1
          go_wp2_with fail
          refine (isWithin_ok _ _ _ _ (by omega) (by omega)).mono ?_
          rintro r w1 ⟨rfl, e1⟩
          subst e1
          go_wp2_with fail
          refine (isWithin_no _ _ _ _ (by omega)).mono ?_
          rintro r w1 ⟨rfl, e1⟩
          subst e1
          go_wp2_with fail
          go_ret
          refine ⟨⟨false, rfl, ?_⟩, (Gr.refl w).alloc _⟩
          unfold Ri.Fl
          rw [if_neg (show ¬ 70 ≤ i.op by omega)]
          refine iff_of_false (by decide) (fun q => ?_)
          exact absurd q.2.2 hc
      · skip
        go_enter Try.func29, Try.ntmps29
        go_wp2_with fail
        refine (isWithin_ok _ _ _ _ (by omega) (by omega)).mono ?_
        rintro r w1 ⟨rfl, e1⟩
        subst e1
        go_wp2_with fail
        refine (isWithin_no _ _ _ _ (by omega)).mono ?_
        rintro r w1 ⟨rfl, e1⟩
        subst e1
        go_wp2_with fail
        go_ret
        refine ⟨⟨false, rfl, ?_⟩, (Gr.refl w).alloc _⟩
        unfold Ri.Fl
        rw [if_neg (show ¬ 70 ≤ i.op by omega)]
        refine iff_of_false (by decide) (fun q => ?_)
        exact absurd q.2.1 hb
    · skip
      go_enter Try.func29, Try.ntmps29
      go_wp2_with fail
      refine (isWithin_no _ _ _ _ (by omega)).mono ?_
      rintro r w1 ⟨rfl, e1⟩
      subst e1
      go_wp2_with fail
      go_ret
      refine ⟨⟨false, rfl, ?_⟩, (Gr.refl w).alloc _⟩
      unfold Ri.Fl
      rw [if_neg (show ¬ 70 ≤ i.op by omega)]
      refine iff_of_false (by decide) (fun q => ?_)
      exact absurd q.1 ha
set_option maxRecDepth 100000 in
set_option maxHeartbeats 4000000 in
theorem there_any (i : Ri) (n k : Nat) (w : World) (hl : n ≤ 1000 ∧ k ≤ 1000) :
    Calls Try.prog 30 #[.agg #[.int .u8 i.op, .int .i64 i.a, .int .i64 i.b, .int .i64 i.c, .int .u64 i.i], .int .i64 n, .int .i64 k] w fun x w' => Says (i.Th n k) x ∧ Gr w w' := by
  obtain ⟨op, ia, ib, ic, im⟩ := i
  dsimp only at *
  have hn : IntKind.u64.wrap (n : Int) = (n : Int) := by simp [IntKind.wrap, IntKind.bits, IntKind.signed]; omega
  have hk : IntKind.u64.wrap (k : Int) = (k : Int) := by simp [IntKind.wrap, IntKind.bits, IntKind.signed]; omega
  replace hl := Hz.mk hl
  by_cases e20 : op = 20
  · subst e20
    by_cases y : im < (n : Int)
    · have z : Hz (Says (Ri.Th ⟨20, ia, ib, ic, im⟩ n k) (.returned (.bool true))) := Hz.mk ⟨true, rfl, iff_of_true rfl (by unfold Ri.Th; dsimp only; omega)⟩
      go_enter Try.func30, Try.ntmps30
      go_wp2_with fail
      go_ret
      exact ⟨z.out, (Gr.refl w).alloc _⟩
    · have z : Hz (Says (Ri.Th ⟨20, ia, ib, ic, im⟩ n k) (.returned (.bool false))) := Hz.mk ⟨false, rfl, iff_of_false (by decide) (by unfold Ri.Th; dsimp only; omega)⟩
      go_enter Try.func30, Try.ntmps30
      go_wp2_with fail
      go_ret
      exact ⟨z.out, (Gr.refl w).alloc _⟩
  by_cases e21 : op = 21
  · subst e21
    by_cases y : im < (n : Int)
    · have z : Hz (Says (Ri.Th ⟨21, ia, ib, ic, im⟩ n k) (.returned (.bool true))) := Hz.mk ⟨true, rfl, iff_of_true rfl (by unfold Ri.Th; dsimp only; omega)⟩
      go_enter Try.func30, Try.ntmps30
      go_wp2_with fail
      go_ret
      exact ⟨z.out, (Gr.refl w).alloc _⟩
    · have z : Hz (Says (Ri.Th ⟨21, ia, ib, ic, im⟩ n k) (.returned (.bool false))) := Hz.mk ⟨false, rfl, iff_of_false (by decide) (by unfold Ri.Th; dsimp only; omega)⟩
      go_enter Try.func30, Try.ntmps30
      go_wp2_with fail
      go_ret
      exact ⟨z.out, (Gr.refl w).alloc _⟩
  by_cases e22 : op = 22
  · subst e22
    by_cases y : im < (n : Int)
    · have z : Hz (Says (Ri.Th ⟨22, ia, ib, ic, im⟩ n k) (.returned (.bool true))) := Hz.mk ⟨true, rfl, iff_of_true rfl (by unfold Ri.Th; dsimp only; omega)⟩
      go_enter Try.func30, Try.ntmps30
      go_wp2_with fail
      go_ret
      exact ⟨z.out, (Gr.refl w).alloc _⟩
    · have z : Hz (Says (Ri.Th ⟨22, ia, ib, ic, im⟩ n k) (.returned (.bool false))) := Hz.mk ⟨false, rfl, iff_of_false (by decide) (by unfold Ri.Th; dsimp only; omega)⟩
      go_enter Try.func30, Try.ntmps30
      go_wp2_with fail
      go_ret
      exact ⟨z.out, (Gr.refl w).alloc _⟩
  by_cases e23 : op = 23
  · subst e23
    by_cases y : im < (n : Int)
    · have z : Hz (Says (Ri.Th ⟨23, ia, ib, ic, im⟩ n k) (.returned (.bool true))) := Hz.mk ⟨true, rfl, iff_of_true rfl (by unfold Ri.Th; dsimp only; omega)⟩
      go_enter Try.func30, Try.ntmps30
      go_wp2_with fail
      go_ret
      exact ⟨z.out, (Gr.refl w).alloc _⟩
    · have z : Hz (Says (Ri.Th ⟨23, ia, ib, ic, im⟩ n k) (.returned (.bool false))) := Hz.mk ⟨false, rfl, iff_of_false (by decide) (by unfold Ri.Th; dsimp only; omega)⟩
      go_enter Try.func30, Try.ntmps30
      go_wp2_with fail
      go_ret
      exact ⟨z.out, (Gr.refl w).alloc _⟩
  by_cases e24 : op = 24
  · subst e24
    by_cases y : im < (n : Int)
    · have z : Hz (Says (Ri.Th ⟨24, ia, ib, ic, im⟩ n k) (.returned (.bool true))) := Hz.mk ⟨true, rfl, iff_of_true rfl (by unfold Ri.Th; dsimp only; omega)⟩
      go_enter Try.func30, Try.ntmps30
      go_wp2_with fail
      go_ret
      exact ⟨z.out, (Gr.refl w).alloc _⟩
    · have z : Hz (Says (Ri.Th ⟨24, ia, ib, ic, im⟩ n k) (.returned (.bool false))) := Hz.mk ⟨false, rfl, iff_of_false (by decide) (by unfold Ri.Th; dsimp only; omega)⟩
      go_enter Try.func30, Try.ntmps30
      go_wp2_with fail
      go_ret
      exact ⟨z.out, (Gr.refl w).alloc _⟩
  by_cases e31 : op = 31
  · subst e31
    by_cases y : im < (k : Int)
    · have z : Hz (Says (Ri.Th ⟨31, ia, ib, ic, im⟩ n k) (.returned (.bool true))) := Hz.mk ⟨true, rfl, iff_of_true rfl (by unfold Ri.Th; dsimp only; omega)⟩
      go_enter Try.func30, Try.ntmps30
      go_wp2_with fail
      go_ret
      exact ⟨z.out, (Gr.refl w).alloc _⟩
    · have z : Hz (Says (Ri.Th ⟨31, ia, ib, ic, im⟩ n k) (.returned (.bool false))) := Hz.mk ⟨false, rfl, iff_of_false (by decide) (by unfold Ri.Th; dsimp only; omega)⟩
      go_enter Try.func30, Try.ntmps30
      go_wp2_with fail
      go_ret
      exact ⟨z.out, (Gr.refl w).alloc _⟩
  have z : Hz (Says (Ri.Th ⟨op, ia, ib, ic, im⟩ n k) (.returned (.bool true))) := Hz.mk ⟨true, rfl, iff_of_true rfl (by unfold Ri.Th; dsimp only; omega)⟩
  have f20 : (op == 20) = false := by simpa using e20
  have f21 : (op == 21) = false := by simpa using e21
  have f22 : (op == 22) = false := by simpa using e22
  have f23 : (op == 23) = false := by simpa using e23
  have f24 : (op == 24) = false := by simpa using e24
  have f31 : (op == 31) = false := by simpa using e31
  clear e20 e21 e22 e23 e24 e31
  go_enter Try.func30, Try.ntmps30
  go_wp2_with fail
  go_ret
  exact ⟨z.out, (Gr.refl w).alloc _⟩
end Z
end Go.Proofs.Ytimiofkiadlnbaa
