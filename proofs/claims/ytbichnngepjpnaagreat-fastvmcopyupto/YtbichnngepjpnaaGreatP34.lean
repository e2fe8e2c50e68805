import Derived.Test.YtbichnngepjpnaaGreatP33
import Derived.Test.YtbichnngepjpnaaGreatP21
/-
  Stage 13, fastvm: what is in order stays so.
-/
namespace Go.Proofs.YtbichnngepjpnaaGreat
namespace Z
open Go.RowKit
open T (Sep Ob Kp Mf FlIn boxOb)

/-- Is a number a word? -/
def Wd (n : Int) : Prop := 0 ≤ n ∧ n < 18446744073709551616
theorem wd_wrap (n : Int) : Wd (IntKind.u64.wrap n) := by unfold Wd; rw [IntKind.wrap_u64]; omega
theorem wd_bits (op : BinOp) (a b : Int) : Wd (bits op .u64 a b) := by
  have h := bits_within op .u64 a b
  simp only [IntKind.min, IntKind.max, IntKind.signed, IntKind.bits, Bool.false_eq_true, if_false] at h
  exact ⟨h.1, by have := h.2; omega⟩
theorem wd_ld (m : Nat → UInt8) (n k : Nat) (hk : k ≤ 8) : Wd ((T.ldV m n k : Nat) : Int) := by
  unfold T.ldV
  split
  · have h := T.leB_lt m n k
    have h2 : 2 ^ (8 * k) ≤ 2 ^ 64 := Nat.pow_le_pow_right (by omega) (by omega)
    exact ⟨by omega, by have : T.leB m n k < 18446744073709551616 := Nat.lt_of_lt_of_le h h2; omega⟩
  · exact ⟨by decide, by decide⟩
theorem wd_div {n : Int} (h : Wd n) (k : Nat) : Wd (n / 2 ^ k) := by
  have hp : (0 : Int) < 2 ^ k := Int.pow_pos (by decide)
  exact ⟨Int.ediv_nonneg h.1 (Int.le_of_lt hp), Int.lt_of_le_of_lt (Int.ediv_le_self _ h.1) h.2⟩
theorem wd_01 (p : Prop) [Decidable p] : Wd (if p then 1 else 0) := by split <;> exact ⟨by decide, by decide⟩
theorem wd_upd {r : Nat → Int} (h : ∀ k, Wd (r k)) (i : Nat) {v : Int} (hv : Wd v) : ∀ k, Wd (updR r i v k) := by
  intro k
  unfold updR
  split
  · exact hv
  · exact h k
theorem wd_ent (g : Fg) (n : Nat) {A : Nat → Int} (hg : ∀ k, Wd (g.r k)) (hA : ∀ k, Wd (A k)) : ∀ k, Wd (entR g n A k) := by
  intro k
  unfold entR
  split
  · exact hA _
  · exact hg k
/-- A state in order, behind at most so many steps. -/
structure Fm.Okn (P : Pr) (n : Nat) (s : Fm) : Prop where
  g : s.g < P.code.length
  p : s.p ≤ 400
  r : ∀ k, Wd (s.r k)
  st : (s.st.length : Int) ≤ P.dep
  fr : ∀ f ∈ s.st, f.g < P.code.length ∧ f.p ≤ 400 ∧ ∀ k, Wd (f.r k)
  inp : ∀ n ∈ s.inp, Wd n
  il : s.inp.length ≤ 140737488355328
  out : ∀ n ∈ s.out, Wd n
  ol : s.out.length ≤ n
  tl : s.tc.length ≤ n
  v : Wd s.v
theorem Fm.Okn.ok {P : Pr} {n : Nat} {s : Fm} (h : s.Okn P n) (hn : n ≤ 1000000) : s.Ok P := ⟨h.g, h.p, h.r, h.st, h.fr, h.inp, h.il, Nat.le_trans h.ol hn, Nat.le_trans h.tl hn⟩
theorem Fm.Okn.mono {P : Pr} {n m : Nat} {s : Fm} (h : s.Okn P n) (hn : n ≤ m) : s.Okn P m := ⟨h.g, h.p, h.r, h.st, h.fr, h.inp, h.il, h.out, Nat.le_trans h.ol hn, Nat.le_trans h.tl hn, h.v⟩
/-- The ending alone. -/
theorem Fm.Okn.end {P : Pr} {n : Nat} {s : Fm} (h : s.Okn P n) (e f : Int) {v : Int} (hv : Wd v) : ({ s with e := e, v := v, f := f } : Fm).Okn P n := ⟨h.g, h.p, h.r, h.st, h.fr, h.inp, h.il, h.out, h.ol, h.tl, hv⟩
/-- Where it goes on alone. -/
theorem Fm.Okn.at {P : Pr} {n : Nat} {s : Fm} (h : s.Okn P n) {p : Nat} (hp : p ≤ 400) : ({ s with p := p } : Fm).Okn P n := ⟨h.g, hp, h.r, h.st, h.fr, h.inp, h.il, h.out, h.ol, h.tl, h.v⟩
theorem Fm.Okn.lay {P : Pr} {n : Nat} {s : Fm} (h : s.Okn P n) (i : Nat) {v : Int} (hv : Wd v) {p : Nat} (hp : p ≤ 400) : ({ s with r := updR s.r i v, p := p } : Fm).Okn P n := ⟨h.g, hp, wd_upd h.r i hv, h.st, h.fr, h.inp, h.il, h.out, h.ol, h.tl, h.v⟩
theorem wd0 : Wd 0 := ⟨by decide, by decide⟩
def Pr.Rr (P : Pr) : Prop := ∀ k, ∀ j, Wd ((P.gate k).r j)
set_option maxHeartbeats 4000000 in
theorem okn_step (P : Pr) (ok : P.Ok) (rr : P.Rr) (s : Fm) (i : Fi) (n m : Nat) (hs : s.Okn P n) (hm : m ≤ 400) (ho : i.Ok m P.gates.length) (hp : s.p < m) : (stepI P i s).Okn P (n + 1) := by
  have h1 := hs.mono (Nat.le_succ n)
  have h2 : s.p + 1 ≤ 400 := by omega
  have hgs : P.code.length = P.gates.length := ok.nc
  have hc : i.op = 0 ∨ i.op = 1 ∨ i.op = 2 ∨ i.op = 3 ∨ i.op = 4 ∨ i.op = 5 ∨ i.op = 6 ∨ i.op = 7 ∨ i.op = 8 ∨ i.op = 9 ∨ i.op = 10 ∨ i.op = 11 ∨ i.op = 12 ∨ i.op = 13 ∨ i.op = 20 ∨ i.op = 21 ∨ i.op = 22 ∨ i.op = 23 ∨ i.op = 24 ∨ i.op = 27 ∨ i.op = 28 ∨ i.op = 29 ∨ i.op = 30 ∨ i.op = 31 ∨ i.op = 32 ∨ i.op = 60 ∨ i.op = 61 ∨ i.op = 62 ∨ i.op = 63 ∨ i.op = 64 ∨ i.op = 65 ∨ i.op = 70 ∨ i.op = 71 ∨ i.op = 72 := by have := ho.op; unfold Named at this; omega
  rcases hc with e | e | e | e | e | e | e | e | e | e | e | e | e | e | e | e | e | e | e | e | e | e | e | e | e | e | e | e | e | e | e | e | e | e
  · skip
    rw [show stepI P i s = stp0 s by unfold stepI; rw [e]; rfl]
    exact h1.at h2
  · skip
    rw [show stepI P i s = stp1 i s by unfold stepI; rw [e]; rfl]
    exact h1.lay _ ho.im h2
  · skip
    rw [show stepI P i s = stp2 i s by unfold stepI; rw [e]; rfl]
    exact h1.lay _ (hs.r _) h2
  · skip
    rw [show stepI P i s = stp3 i s by unfold stepI; rw [e]; rfl]
    exact h1.lay _ (wd_wrap _) h2
  · skip
    rw [show stepI P i s = stp4 i s by unfold stepI; rw [e]; rfl]
    exact h1.lay _ (wd_wrap _) h2
  · skip
    rw [show stepI P i s = stp5 i s by unfold stepI; rw [e]; rfl]
    exact h1.lay _ (wd_wrap _) h2
  · skip
    rw [show stepI P i s = stp6 i s by unfold stepI; rw [e]; rfl]
    exact h1.lay _ (wd_bits _ _ _) h2
  · skip
    rw [show stepI P i s = stp7 i s by unfold stepI; rw [e]; rfl]
    exact h1.lay _ (wd_bits _ _ _) h2
  · skip
    rw [show stepI P i s = stp8 i s by unfold stepI; rw [e]; rfl]
    exact h1.lay _ (wd_bits _ _ _) h2
  · skip
    rw [show stepI P i s = stp9 i s by unfold stepI; rw [e]; rfl]
    exact h1.lay _ (wd_wrap _) h2
  · skip
    rw [show stepI P i s = stp10 i s by unfold stepI; rw [e]; rfl]
    exact h1.lay _ (wd_div (hs.r _) _) h2
  · skip
    rw [show stepI P i s = stp11 i s by unfold stepI; rw [e]; rfl]
    exact h1.lay _ (wd_wrap _) h2
  · skip
    rw [show stepI P i s = stp12 i s by unfold stepI; rw [e]; rfl]
    exact h1.lay _ (wd_01 _) h2
  · skip
    rw [show stepI P i s = stp13 i s by unfold stepI; rw [e]; rfl]
    exact h1.lay _ (wd_01 _) h2
  · skip
    rw [show stepI P i s = stp20 i s by unfold stepI; rw [e]; rfl]
    have hj : i.i.toNat ≤ 400 := by have := ho.jm ⟨by omega, by omega⟩; have := ho.im; omega
    exact h1.at hj
  · skip
    rw [show stepI P i s = stp21 i s by unfold stepI; rw [e]; rfl]
    have hj : i.i.toNat ≤ 400 := by have := ho.jm ⟨by omega, by omega⟩; have := ho.im; omega
    unfold stp21
    refine h1.at ?_
    split
    · exact hj
    · exact h2
  · skip
    rw [show stepI P i s = stp22 i s by unfold stepI; rw [e]; rfl]
    have hj : i.i.toNat ≤ 400 := by have := ho.jm ⟨by omega, by omega⟩; have := ho.im; omega
    unfold stp22
    refine h1.at ?_
    split
    · exact hj
    · exact h2
  · skip
    rw [show stepI P i s = stp23 i s by unfold stepI; rw [e]; rfl]
    have hj : i.i.toNat ≤ 400 := by have := ho.jm ⟨by omega, by omega⟩; have := ho.im; omega
    unfold stp23
    refine h1.at ?_
    split
    · exact hj
    · exact h2
  · skip
    rw [show stepI P i s = stp24 i s by unfold stepI; rw [e]; rfl]
    have hj : i.i.toNat ≤ 400 := by have := ho.jm ⟨by omega, by omega⟩; have := ho.im; omega
    unfold stp24
    refine h1.at ?_
    split
    · exact hj
    · exact h2
  · skip
    rw [show stepI P i s = stp27 i s by unfold stepI; rw [e]; rfl]
    exact h1.end _ _ (hs.r _)
  · skip
    rw [show stepI P i s = stp28 i s by unfold stepI; rw [e]; rfl]
    exact h1.end _ _ ho.im
  · skip
    rw [show stepI P i s = stp29 i s by unfold stepI; rw [e]; rfl]
    cases hi : s.inp with
    | nil =>
      rw [show stp29 i s = { s with e := 6, v := 0, f := 0 } by simp [stp29, hi]]
      exact h1.end _ _ wd0
    | cons x L =>
      rw [show stp29 i s = { s with inp := L, r := updR s.r i.a x, p := s.p + 1 } by simp [stp29, hi]]
      exact ⟨h1.g, h2, wd_upd h1.r _ (hs.inp x (by simp [hi])), h1.st, h1.fr, fun y hy => hs.inp y (by simp [hi, hy]), by have := hs.il; rw [hi] at this; simp at this; show L.length ≤ _; omega, h1.out, h1.ol, h1.tl, h1.v⟩
  · skip
    rw [show stepI P i s = stp30 i s by unfold stepI; rw [e]; rfl]
    refine ⟨h1.g, h2, h1.r, h1.st, h1.fr, h1.inp, h1.il, fun y hy => ?_, by have := hs.ol; simp [stp30]; omega, h1.tl, h1.v⟩
    simp only [stp30, List.mem_append, List.mem_singleton] at hy
    rcases hy with hy | rfl
    · exact hs.out y hy
    · exact hs.r _
  · skip
    rw [show stepI P i s = stp31 P i s by unfold stepI; rw [e]; rfl]
    unfold stp31
    split
    · exact h1.end _ _ wd0
    · rename_i hd
      have hcl := ho.cl e
      have him := ho.im.1
      have hgl : i.i.toNat < P.gates.length := by omega
      have hgc : i.i.toNat < P.code.length := by omega
      have hge := (ok.gate _ hgl hgc).1
      have hr4 := (ok.row _ (List.getElem_mem hgc)).1.2
      refine ⟨hgc, ?_, wd_ent _ _ (rr _) (fun k => hs.r (k + 1)), ?_, fun f hf => ?_, h1.inp, h1.il, h1.out, h1.ol, h1.tl, h1.v⟩
      · show (P.gate i.i.toNat).e ≤ 400
        rw [P.gate_at _ hgl]
        omega
      · show ((s.st ++ [_]).length : Int) ≤ P.dep
        rw [List.length_append]
        simp
        omega
      · rcases List.mem_append.1 hf with hf | hf
        · exact hs.fr f hf
        · rw [List.mem_singleton.1 hf]
          exact ⟨hs.g, h2, hs.r⟩
  · skip
    rw [show stepI P i s = stp32 P s by unfold stepI; rw [e]; rfl]
    have hsl := hs.st
    rcases List.eq_nil_or_concat s.st with hz | ⟨L, t, hz⟩
    · rw [show stp32 P s = { s with e := 1, v := if (P.gate s.g).s = 0 then 0 else s.r 1, f := 0 } by simp [stp32, hz]]
      refine h1.end _ _ ?_
      split
      · exact wd0
      · exact hs.r _
    · rw [List.concat_eq_append] at hz
      rw [show stp32 P s = { s with g := t.g, p := t.p, r := entR ⟨t.p, 0, 0, t.r⟩ (P.gate s.g).s (fun k => s.r (k + 1)), st := L } by simp [stp32, hz]]
      have ht := hs.fr t (by simp [hz])
      exact ⟨ht.1, ht.2.1, wd_ent _ _ ht.2.2 (fun k => hs.r (k + 1)), by rw [hz, List.length_append] at hsl; simp at hsl; show (L.length : Int) ≤ P.dep; omega, fun f hf => hs.fr f (by simp [hz, hf]), h1.inp, h1.il, h1.out, h1.ol, h1.tl, h1.v⟩
  · skip
    rw [show stepI P i s = stp60 i s by unfold stepI; rw [e]; rfl]
    unfold stp60
    split
    · exact h1.end _ _ wd0
    · exact ⟨h1.g, h2, wd_upd h1.r _ (wd_ld _ _ _ (by omega)), h1.st, h1.fr, h1.inp, h1.il, h1.out, h1.ol, by have := hs.tl; simp; omega, h1.v⟩
  · skip
    rw [show stepI P i s = stp61 i s by unfold stepI; rw [e]; rfl]
    unfold stp61
    split
    · exact h1.end _ _ wd0
    · exact ⟨h1.g, h2, wd_upd h1.r _ (wd_ld _ _ _ (by omega)), h1.st, h1.fr, h1.inp, h1.il, h1.out, h1.ol, by have := hs.tl; simp; omega, h1.v⟩
  · skip
    rw [show stepI P i s = stp62 i s by unfold stepI; rw [e]; rfl]
    unfold stp62
    split
    · exact h1.end _ _ wd0
    · exact ⟨h1.g, h2, h1.r, h1.st, h1.fr, h1.inp, h1.il, h1.out, h1.ol, by have := hs.tl; simp; omega, h1.v⟩
  · skip
    rw [show stepI P i s = stp63 i s by unfold stepI; rw [e]; rfl]
    unfold stp63
    split
    · exact h1.end _ _ wd0
    · exact ⟨h1.g, h2, h1.r, h1.st, h1.fr, h1.inp, h1.il, h1.out, h1.ol, by have := hs.tl; simp; omega, h1.v⟩
  · skip
    rw [show stepI P i s = stp64 i s by unfold stepI; rw [e]; rfl]
    unfold stp64
    split
    · exact h1.end _ _ wd0
    · exact ⟨h1.g, h2, wd_upd h1.r _ (wd_ld _ _ _ (by omega)), h1.st, h1.fr, h1.inp, h1.il, h1.out, h1.ol, by have := hs.tl; simp; omega, h1.v⟩
  · skip
    rw [show stepI P i s = stp65 i s by unfold stepI; rw [e]; rfl]
    unfold stp65
    split
    · exact h1.end _ _ wd0
    · exact ⟨h1.g, h2, h1.r, h1.st, h1.fr, h1.inp, h1.il, h1.out, h1.ol, by have := hs.tl; simp; omega, h1.v⟩
  · skip
    rw [show stepI P i s = stp70 i s by unfold stepI; rw [e]; rfl]
    unfold stp70
    split
    · exact h1.at h2
    · exact h1.end _ _ (wd_wrap _)
  · skip
    rw [show stepI P i s = stp71 i s by unfold stepI; rw [e]; rfl]
    unfold stp71
    split
    · exact h1.at h2
    · exact h1.end _ _ (wd_wrap _)
  · skip
    rw [show stepI P i s = stp72 i s by unfold stepI; rw [e]; rfl]
    exact h1.end _ _ (wd_wrap _)
/-- What one step does. -/
def stepM (P : Pr) (s : Fm) : Fm := match (P.code.getD s.g [])[s.p]? with | some i => stepI P i s | none => { s with e := 7, v := 0, f := 8 }
theorem goes_all (P : Pr) (ok : P.Ok) (s : Fm) (hs : s.Ok P) : Goes P s (stepM P s) := by
  have hg := hs.g
  have e1 : P.code.getD s.g [] = P.code[s.g] := by simp [hg]
  by_cases hp : s.p < P.code[s.g].length
  · have hi : stepM P s = stepI P P.code[s.g][s.p] s := by
      unfold stepM
      rw [e1, List.getElem?_eq_getElem hp]
    rw [hi]
    have hr := ok.row _ (List.getElem_mem hg)
    have ho := hr.2 _ (List.getElem_mem hp)
    exact goes_of P.code[s.g][s.p] hg hp rfl ho.op (fun B V a l h => step_all P ok s _ hs ⟨_, hr.1.2, ho⟩ B V a l h)
  · have hi : stepM P s = { s with e := 7, v := 0, f := 8 } := by
      unfold stepM
      rw [e1, List.getElem?_eq_none (by omega)]
    rw [hi]
    exact fun B W a l h => do_out B W a P s l h hg (by omega)
theorem okn_stepM (P : Pr) (ok : P.Ok) (rr : P.Rr) (s : Fm) (n : Nat) (hs : s.Okn P n) : (stepM P s).Okn P (n + 1) := by
  have hg := hs.g
  have e1 : P.code.getD s.g [] = P.code[s.g] := by simp [hg]
  by_cases hp : s.p < P.code[s.g].length
  · have hi : stepM P s = stepI P P.code[s.g][s.p] s := by
      unfold stepM
      rw [e1, List.getElem?_eq_getElem hp]
    rw [hi]
    have hr := ok.row _ (List.getElem_mem hg)
    exact okn_step P ok rr s _ n _ hs hr.1.2 (hr.2 _ (List.getElem_mem hp)) hp
  · have hi : stepM P s = { s with e := 7, v := 0, f := 8 } := by
      unfold stepM
      rw [e1, List.getElem?_eq_none (by omega)]
    rw [hi]
    exact (hs.mono (Nat.le_succ n)).end _ _ wd0
/-- So many steps, until it ends. -/
def stepsM (P : Pr) (s : Fm) : Nat → Fm
  | 0 => s
  | k + 1 => if (stepsM P s k).e = 0 then stepM P (stepsM P s k) else stepsM P s k
theorem okn_stepsM (P : Pr) (ok : P.Ok) (rr : P.Rr) (s : Fm) (n : Nat) (hs : s.Okn P n) (k : Nat) : (stepsM P s k).Okn P (n + k) := by
  induction k with
  | zero => exact hs
  | succ k ih =>
    unfold stepsM
    split
    · exact okn_stepM P ok rr _ _ ih
    · exact ih.mono (by omega)
theorem stepsM_over (P : Pr) (s : Fm) (k j : Nat) (h : (stepsM P s k).e ≠ 0) : stepsM P s (k + j) = stepsM P s k := by
  induction j with
  | zero => rfl
  | succ j ih =>
    show (if (stepsM P s (k + j)).e = 0 then stepM P (stepsM P s (k + j)) else stepsM P s (k + j)) = _
    rw [ih, if_neg h]
/-- Where the steps of a run stop. -/
theorem stops (P : Pr) (s : Fm) (n : Nat) : ∃ m, m ≤ n ∧ (∀ k, k < m → (stepsM P s k).e = 0) ∧ (m = n ∨ (stepsM P s m).e ≠ 0) ∧ stepsM P s m = stepsM P s n := by
  induction n with
  | zero => exact ⟨0, Nat.le_refl _, fun k h => absurd h (Nat.not_lt_zero _), .inl rfl, rfl⟩
  | succ n ih =>
    obtain ⟨m, h1, h2, h3, h4⟩ := ih
    by_cases he : (stepsM P s m).e = 0
    · have hmn : m = n := by
        rcases h3 with q | q
        · exact q
        · exact absurd he q
      subst hmn
      refine ⟨m + 1, Nat.le_refl _, fun k hk => ?_, .inl rfl, rfl⟩
      by_cases hkm : k < m
      · exact h2 k hkm
      · rw [show k = m by omega]
        exact he
    · refine ⟨m, by omega, h2, .inr he, ?_⟩
      rw [h4]
      rw [h4] at he
      exact (stepsM_over P s n 1 he).symm
theorem steps_goes (P : Pr) (ok : P.Ok) (rr : P.Rr) (s : Fm) (c n m : Nat) (hs : s.Okn P c) (hn : c + n ≤ 1000000) (hm : m ≤ n) (h0 : ∀ k, k < m → (stepsM P s k).e = 0) : ∀ k, k < m → Goes P (stepsM P s k) (stepsM P s (k + 1)) := by
  intro k hk
  have e : stepsM P s (k + 1) = stepM P (stepsM P s k) := by
    show (if (stepsM P s k).e = 0 then stepM P (stepsM P s k) else stepsM P s k) = _
    rw [if_pos (h0 k hk)]
  rw [e]
  exact goes_all P ok _ ((okn_stepsM P ok rr s c hs k).ok (by omega))
/-- How a run of so much fuel is over. -/
def runM (P : Pr) (s : Fm) (n : Nat) : Fm := if (stepsM P s n).e = 0 then sp (stepsM P s n) else stepsM P s n
def Fm.outc (s : Fm) : Value := .agg #[.int .i64 s.e, .int .u64 s.v, .int .i64 s.f, .int .i64 s.g, .int .i64 s.p]
theorem steps_all (P : Pr) (ok : P.Ok) (rr : P.Rr) (s : Fm) (c n : Nat) (hs : s.Okn P c) (hn : c + n ≤ 1000000) (B : Nat) (W : World) (a : Nat) (l : List Ob) (h : MIn B W a P s l) :
    Calls Tryz.prog 21 #[.pointer (some ⟨a, 0, none⟩), .int .i64 n] W fun x w' => x = .returned (.tuple #[]) ∧ MIn B w' a P (stepsM P s n) l ∧ Below B W w' := by
  obtain ⟨m, h1, h2, h3, h4⟩ := stops P s n
  rw [← h4]
  exact steps_any B W a P l n m (stepsM P s) h h1 h2 (steps_goes P ok rr s c n m hs hn h1 h2) h3 (by omega)
theorem run_all (P : Pr) (ok : P.Ok) (rr : P.Rr) (s : Fm) (c n : Nat) (hs : s.Okn P c) (hn : c + n ≤ 1000000) (hn2 : n ≤ 100000) (B : Nat) (W : World) (a : Nat) (l : List Ob) (h : MIn B W a P s l) :
    Calls Tryz.prog 10 #[.pointer (some ⟨a, 0, none⟩), .int .i64 n] W fun x w' => x = .returned (runM P s n).outc ∧ MIn B w' a P (runM P s n) l ∧ Below B W w' := by
  obtain ⟨m, h1, h2, h3, h4⟩ := stops P s n
  unfold runM
  rw [← h4]
  have hG := steps_goes P ok rr s c n m hs hn h1 h2
  by_cases he : (stepsM P s m).e = 0
  · rw [if_pos he]
    exact run_spent B W a P l n m (stepsM P s) h h1 h2 hG h3 hn2 he
  · rw [if_neg he]
    exact run_end B W a P l n m (stepsM P s) h h1 h2 hG h3 hn2 he
end Z
end Go.Proofs.YtbichnngepjpnaaGreat


/-
  Stage 13, fastvm: Step and Memory.
-/
namespace Go.Proofs.YtbichnngepjpnaaGreat
namespace Z
open Go.RowKit
open T (Sep Ob Kp Mf FlIn boxOb)

set_option maxRecDepth 100000 in
set_option maxHeartbeats 4000000 in
theorem step_fn (B : Nat) (W : World) (a : Nat) (P : Pr) (l : List Ob) (m : Nat) (f : Nat → Fm) (h : MIn B W a P (f 0) l) (hm : m ≤ 1) (h0 : ∀ k, k < m → (f k).e = 0) (hG : ∀ k, k < m → Goes P (f k) (f (k + 1))) (hE : m = 1 ∨ (f m).e ≠ 0) :
    Calls Tryz.prog 6 #[.pointer (some ⟨a, 0, none⟩)] W fun x w' => x = .returned (.agg #[.int .i64 (f m).e, .int .u64 (f m).v, .int .i64 (f m).f, .int .i64 (f m).g, .int .i64 (f m).p]) ∧ MIn B w' a P (f m) l ∧ Below B W w' := by
  have h2 := Hz.mk (h.new #[.int .i64 0, .int .u64 0, .int .i64 0, .int .i64 0, .int .i64 0] 34)
  clear h
  go_enter Tryz.func6, Tryz.ntmps6
  go_upto_region 1 with fail
  refine wp_world (fun V => MIn B V a P (f 0) (boxOb W.heap.size #[.int .i64 0, .int .u64 0, .int .i64 0, .int .i64 0, .int .i64 0] :: l) ∧ Below B W V) h2.out ?_
  rintro V ⟨h, hB⟩
  replace h := Hz.mk h
  replace hB := Hz.mk hB
  clear h2
  generalize hkr : W.heap.size = kr at *
  clear hkr
  have hst : Hz (Calls Tryz.prog 21 #[.pointer (some ⟨a, 0, none⟩), .int .i64 1] V fun x w' => x = .returned (.tuple #[]) ∧ MIn B w' a P (f m) (boxOb kr #[.int .i64 0, .int .u64 0, .int .i64 0, .int .i64 0, .int .i64 0] :: l) ∧ Below B V w') := Hz.mk (steps_any B V a P _ 1 m f h.out hm h0 hG hE (by omega))
  replace h0 := Hz.mk h0
  replace hG := Hz.mk hG
  replace hE := Hz.mk hE
  go_wp2_with fail
  refine hst.out.mono ?_
  rintro r V8 ⟨rfl, h8, hB8⟩
  replace hB := Hz.mk (hB.out.trans hB8)
  replace h8 := Hz.mk h8
  clear h hst hB8
  have hsd := Hz.mk (stands_any B V8 a P (f m) _ h8.out)
  go_upto_region 4 with fail
  have hle8 := h8.out.le
  refine wp_region_lit ?_
  refine wpList_plain rfl (fun K hK => ?_)
  go_simp
  with_reducible refine hK _ _ ?_
  clear hK K
  try simp only [Act.put, List.setIfInBounds_toArray, List.set_cons_zero, List.set_cons_succ]
  refine wpList_plain rfl (fun K hK => ?_)
  go_simp
  (refine hsd.out.mono ?_; rintro r V9 ⟨rfl, g9⟩)
  with_reducible refine hK _ _ ?_
  clear hK K
  try simp only [Act.put, List.setIfInBounds_toArray, List.set_cons_zero, List.set_cons_succ]
  replace h8 := Hz.mk (h8.out.gro g9)
  replace hB : Hz (Below B W V9) := Hz.mk (hB.out.trans (g9.below.mono hle8))
  have hA9 : At V9 kr #[.int .i64 0, .int .u64 0, .int .i64 0, .int .i64 0, .int .i64 0] := h8.out.there (boxOb kr #[.int .i64 0, .int .u64 0, .int .i64 0, .int .i64 0, .int .i64 0]) (.head _)
  have hth := Hz.mk (At.there (cs := [Value.int .i64 0, .int .u64 0, .int .i64 0, .int .i64 0, .int .i64 0]) hA9 0 5 (by decide))
  have hA10 := Hz.mk (At.setAll (cs := [Value.int .i64 0, .int .u64 0, .int .i64 0, .int .i64 0, .int .i64 0]) hA9 [Value.int .i64 (f m).e, .int .u64 (f m).v, .int .i64 (f m).f, .int .i64 (f m).g, .int .i64 (f m).p] rfl)
  have hk10 : Kp (fun k => k = kr) V9 (V9.setCells kr 0 [Value.int .i64 (f m).e, .int .u64 (f m).v, .int .i64 (f m).f, .int .i64 (f m).g, .int .i64 (f m).p]) := kp_setsZ V9 kr [Value.int .i64 (f m).e, .int .u64 (f m).v, .int .i64 (f m).f, .int .i64 (f m).g, .int .i64 (f m).p] 0
  have h10 := h8.out.side (o' := boxOb kr (List.toArray [Value.int .i64 (f m).e, .int .u64 (f m).v, .int .i64 (f m).f, .int .i64 (f m).g, .int .i64 (f m).p])) hA10.out hk10 (fun _ r => .inl r)
  replace hB := Hz.mk (hB.out.trans h10.2)
  replace h10 := Hz.mk h10.1
  clear h8 hA9 hk10 hsd g9
  refine wpList_plain rfl (fun K hK => ?_)
  refine wp_store_mid _ _ _ rfl _ _ (List.toArray [Value.int .i64 (f m).e, .int .u64 (f m).v, .int .i64 (f m).f, .int .i64 (f m).g, .int .i64 (f m).p]) rfl rfl hth.out (by kernel_rfl) (by simp [Value.oneCell']) (hK _ _ ?_)
  clear hK K
  try simp only [Act.put]
  generalize World.setCells _ _ _ _ = V11 at *
  have hrun := Hz.mk (run_loadVar_mid (P := Tryz.prog) V11 kr 0 34 [Value.int .i64 (f m).e, .int .u64 (f m).v, .int .i64 (f m).f, .int .i64 (f m).g, .int .i64 (f m).p] _ (fun j v q => by rw [Nat.zero_add]; exact (hA10.out.2.1 j).trans (by simpa using q)) Tryz.underlying34 rfl (by kernel_rfl))
  go_wp2_with fail
  refine bodyPost_ret (v := .agg #[.int .i64 (f m).e, .int .u64 (f m).v, .int .i64 (f m).f, .int .i64 (f m).g, .int .i64 (f m).p]) ?_ rfl ⟨rfl, h10.out.drop, hB.out⟩
  exact results_rowZ Tryz.results6 _ _ rfl hrun.out
theorem step_op (P : Pr) (ok : P.Ok) (rr : P.Rr) (s : Fm) (c : Nat) (hs : s.Okn P c) (hn : c + 1 ≤ 1000000) (B : Nat) (W : World) (a : Nat) (l : List Ob) (h : MIn B W a P s l) :
    Calls Tryz.prog 6 #[.pointer (some ⟨a, 0, none⟩)] W fun x w' => x = .returned (stepsM P s 1).outc ∧ MIn B w' a P (stepsM P s 1) l ∧ Below B W w' := by
  obtain ⟨m, h1, h2, h3, h4⟩ := stops P s 1
  rw [← h4]
  exact step_fn B W a P l m (stepsM P s) h h1 h2 (steps_goes P ok rr s c 1 m hs hn h1 h2) h3
set_option maxRecDepth 100000 in
set_option maxHeartbeats 4000000 in
theorem memory_any (B : Nat) (W : World) (a : Nat) (P : Pr) (s : Fm) (l : List Ob) (h : MIn B W a P s l) :
    Calls Tryz.prog 15 #[.pointer (some ⟨a, 0, none⟩)] W fun x w' => x = .returned (.string ⟨(T.rowB s.m 0 65536).toArray⟩) ∧ Below W.heap.size W w' := by
  obtain ⟨mp, c3, hb⟩ : ∃ mp : Nat, W.cell? ⟨a, 3, none⟩ = some (.pointer (some ⟨mp, 0, none⟩)) ∧ Calls Tryz.prog 26 #[.pointer (some ⟨mp, 0, none⟩)] W fun x w' => x = .returned (.string ⟨(T.rowB s.m 0 65536).toArray⟩) ∧ Below W.heap.size W w' := by
    obtain ⟨⟨q, h1⟩, le⟩ := h
    have hb := h1.ins (bxOb a (bxOf P s q)) (by simp [obs])
    exact ⟨q.mp, hb.at_ 3 (by omega), T.flBytes_any q.F q.mp s.m W (h1.ins (flOb q.F q.mp s.m) (by simp [obs]))⟩
  replace hb := Hz.mk hb
  generalize (T.rowB s.m 0 65536).toArray = RR at *
  clear h
  go_enter Tryz.func15, Tryz.ntmps15
  go_wp2_with fail
  refine hb.out.mono ?_
  rintro x w' ⟨rfl, h2⟩
  replace h2 := Hz.mk h2
  go_wp2_with fail
  go_ret
  exact ⟨rfl, h2.out⟩
def snV (g p d : Int) (r : Nat → Int) : List Value := .int .i64 g :: .int .i64 p :: .int .i64 d :: regs r
theorem snV_len (g p d : Int) (r : Nat → Int) : (snV g p d r).length = 19 := by simp [snV, regs_len]
theorem snV_one (g p d : Int) (r : Nat → Int) : (snV g p d r).toArray.all (fun x => x.oneCell') = true := by
  rw [Array.all_eq_true_iff_forall_mem]
  intro u hu
  simp only [List.mem_toArray, snV, List.mem_cons] at hu
  rcases hu with rfl | rfl | rfl | hu
  · rfl
  · rfl
  · rfl
  · exact regs_one r u hu
theorem build_sn (g p d : Int) (r : Nat → Int) (W : World) : (Instr.build 39 #[(0, .int .i64 g), (1, .int .i64 p), (2, .int .i64 d), (3, .agg (regs r).toArray)]).run Tryz.prog W = .ok (.agg (snV g p d r).toArray) W := by kernel_rfl
theorem yields_sn {ops : Array Oper} {S : World → Prop} {op : Oper} {a : Act} (hw : Region.wanted op (yielded ops a.tmps) = true) (x0 x1 x2 x3 : Operand) (ho : op.op = .build 39 #[(0, x0), (1, x1), (2, x2), (3, x3)])
    (g p d : Int) (r : Nat → Int) (h0 : a.eval x0 = .int .i64 g) (h1 : a.eval x1 = .int .i64 p) (h2 : a.eval x2 = .int .i64 d) (h3 : a.eval x3 = .agg (regs r).toArray) :
    YieldsIf Tryz.prog ops S op (.agg (snV g p d r).toArray) a :=
  .inl ⟨hw, fun w _ => by
    unfold execOp
    simp only [ho, List.map_toArray, List.map_cons, List.map_nil, h0, h1, h2, h3, build_sn, Sem.run_bind, Sem.run_pure, Result.andThen_ok]⟩
theorem MIn.snap {B : Nat} {W : World} {a : Nat} {P : Pr} {s : Fm} {l : List Ob} (h : MIn B W a P s l) : ∃ sa sc, ∀ V, Gr W V → V.cell? ⟨a, 4, none⟩ = some (.int .i64 s.g) ∧ V.cell? ⟨a, 5, none⟩ = some (.int .i64 s.p) ∧ V.cell? ⟨a, 22, none⟩ = some (.slice sa s.st.length sc) ∧ V.rangeAt a 6 (regs s.r) := by
  obtain ⟨⟨q, h1⟩, le⟩ := h
  have hb := h1.ins (bxOb a (bxOf P s q)) (by simp [obs])
  have hO := h1.ins (stOb B q.sv s.st) (by simp [obs])
  obtain ⟨sa, sc, e⟩ : ∃ sa sc, q.sv = .slice sa s.st.length sc := by
    rcases hO.2 with ⟨e1, e2⟩ | ⟨g, cap, cur, e1, _⟩
    · exact ⟨none, 0, by rw [e1, e2]⟩
    · exact ⟨_, _, e1⟩
  refine ⟨sa, sc, fun V g => ?_⟩
  have hk := fun j => T.cell_of_block (g.below.block a hb.1) j
  refine ⟨(hk _).trans (hb.at_ 4 (by omega)), (hk _).trans (hb.at_ 5 (by omega)), ?_, fun j v qv => ?_⟩
  · rw [← e]
    exact (hk _).trans (hb.at_ 22 (by omega))
  · have hj : j < 16 := by have := (List.getElem?_eq_some_iff.1 qv).1; rwa [regs_len] at this
    rw [regs_at s.r j hj] at qv
    refine (hk _).trans ((hb.at_ (6 + j) (by omega)).trans ?_)
    rw [Fx.reg _ j hj]
    exact qv
set_option maxRecDepth 100000 in
set_option maxHeartbeats 4000000 in
theorem snap_any (B : Nat) (W : World) (a : Nat) (P : Pr) (s : Fm) (l : List Ob) (h : MIn B W a P s l) :
    Calls Tryz.prog 8 #[.pointer (some ⟨a, 0, none⟩)] W fun x w' => x = .returned (.agg (snV s.g s.p s.st.length s.r).toArray) ∧ Gr W w' := by
  obtain ⟨sa, sc, KS⟩ := h.snap
  replace KS := Hz.mk KS
  clear h
  go_enter Tryz.func8, Tryz.ntmps8
  go_upto_region 1 with fail
  refine wp_world (fun V => At V W.heap.size (List.toArray [Value.int .i64 0, .int .i64 0, .int .i64 0, .int .u64 0, .int .u64 0, .int .u64 0, .int .u64 0, .int .u64 0, .int .u64 0, .int .u64 0, .int .u64 0, .int .u64 0, .int .u64 0, .int .u64 0, .int .u64 0, .int .u64 0, .int .u64 0, .int .u64 0, .int .u64 0]) ∧ Gr W V) ⟨At.new W _ _, (Gr.refl _).alloc _⟩ ?_
  rintro V ⟨hA, G⟩
  have hkW : W.heap.size ≤ W.heap.size := Nat.le_refl _
  generalize hk : W.heap.size = kr at hA hkW ⊢
  go_upto_region 3 with fail
  have hAd : At V.drew kr (List.toArray [Value.int .i64 0, .int .i64 0, .int .i64 0, .int .u64 0, .int .u64 0, .int .u64 0, .int .u64 0, .int .u64 0, .int .u64 0, .int .u64 0, .int .u64 0, .int .u64 0, .int .u64 0, .int .u64 0, .int .u64 0, .int .u64 0, .int .u64 0, .int .u64 0, .int .u64 0]) := hA.gr (Gr.refl V).drew
  have Gd := G.drew
  have hth := Hz.mk (At.there (cs := [Value.int .i64 0, .int .i64 0, .int .i64 0, .int .u64 0, .int .u64 0, .int .u64 0, .int .u64 0, .int .u64 0, .int .u64 0, .int .u64 0, .int .u64 0, .int .u64 0, .int .u64 0, .int .u64 0, .int .u64 0, .int .u64 0, .int .u64 0, .int .u64 0, .int .u64 0]) hAd 0 19 (by decide))
  have hA2 := Hz.mk (At.setAll (cs := [Value.int .i64 0, .int .i64 0, .int .i64 0, .int .u64 0, .int .u64 0, .int .u64 0, .int .u64 0, .int .u64 0, .int .u64 0, .int .u64 0, .int .u64 0, .int .u64 0, .int .u64 0, .int .u64 0, .int .u64 0, .int .u64 0, .int .u64 0, .int .u64 0, .int .u64 0]) hAd (snV s.g s.p s.st.length s.r) (by rw [snV_len]; rfl))
  have G2 := Hz.mk (Gr.setCells Gd kr (by omega) (snV s.g s.p s.st.length s.r) 0)
  rw [← snV_len s.g s.p s.st.length s.r] at hth
  clear hA hAd G
  refine wp_region_held_drew (S := (fun W => W.cell? ⟨a, 4, none⟩ = some (.int .i64 s.g) ∧ W.cell? ⟨a, 5, none⟩ = some (.int .i64 s.p) ∧ W.cell? ⟨a, 22, none⟩ = some (.slice sa s.st.length sc) ∧ W.rangeAt a 6 (regs s.r))) (by kernel_rfl) (KS.out _ Gd) (fun hHeld => ?_)
  refine wpAnyH_take (i := 0) (oi := { dst := some 6, op := Op.move (Operand.tmp 0), type := 28, pos := "fastvm.go:69", after := #[], guard := none }) (v := ?_) rfl (by kernel_rfl) (by kernel_rfl) (by kernel_rfl) (fun _ _ _ h => h) (Or.inl ⟨by rfl, ?_⟩) (by assumption) ?_
  rotate_left
  · intro w hSw; (try dsimp only at hSw); go_simp; first | done | with_reducible rfl
  try simp only [Act.put, List.setIfInBounds_toArray, List.set_cons_zero, List.set_cons_succ]
  refine wpAnyH_take (i := 1) (oi := { dst := some 7, op := Op.nilCheck (Operand.tmp 6), type := 0, pos := "fastvm.go:69", after := #[{ on := 0, ground := Ground.data }], guard := none }) (v := ?_) rfl (by kernel_rfl) (by kernel_rfl) (by kernel_rfl) (fun _ _ _ h => h) (Or.inl ⟨by rfl, ?_⟩) (by assumption) ?_
  rotate_left
  · intro w hSw; (try dsimp only at hSw); go_simp; first | done | with_reducible rfl
  try simp only [Act.put, List.setIfInBounds_toArray, List.set_cons_zero, List.set_cons_succ]
  refine wpAnyH_take (i := 2) (oi := { dst := some 8, op := Op.fieldAddr 74 (Operand.tmp 7) 4, type := 0, pos := "fastvm.go:69", after := #[{ on := 1, ground := Ground.data }], guard := none }) (v := ?_) rfl (by kernel_rfl) (by kernel_rfl) (by kernel_rfl) (fun _ _ _ h => h) (Or.inl ⟨by rfl, ?_⟩) (by assumption) ?_
  rotate_left
  · intro w hSw; (try dsimp only at hSw); go_simp; first | done | with_reducible rfl
  try simp only [Act.put, List.setIfInBounds_toArray, List.set_cons_zero, List.set_cons_succ]
  refine wpAnyH_take (i := 3) (oi := { dst := some 9, op := Op.fieldAddr 69 (Operand.tmp 8) 0, type := 0, pos := "fastvm.go:69", after := #[{ on := 2, ground := Ground.data }], guard := none }) (v := ?_) rfl (by kernel_rfl) (by kernel_rfl) (by kernel_rfl) (fun _ _ _ h => h) (Or.inl ⟨by rfl, ?_⟩) (by assumption) ?_
  rotate_left
  · intro w hSw; (try dsimp only at hSw); go_simp; first | done | with_reducible rfl
  try simp only [Act.put, List.setIfInBounds_toArray, List.set_cons_zero, List.set_cons_succ]
  refine wpAnyH_take (i := 4) (oi := { dst := some 10, op := Op.load 3 (Operand.tmp 9), type := 3, pos := "fastvm.go:69", after := #[{ on := 3, ground := Ground.data }], guard := none }) (v := ?_) rfl (by kernel_rfl) (by kernel_rfl) (by kernel_rfl) (fun _ _ _ h => h) (Or.inl ⟨by rfl, ?_⟩) (by assumption) ?_
  rotate_left
  · intro w hSw; (try dsimp only at hSw); go_simp; first | done | with_reducible rfl
  try simp only [Act.put, List.setIfInBounds_toArray, List.set_cons_zero, List.set_cons_succ]
  refine wpAnyH_take (i := 5) (oi := { dst := some 11, op := Op.move (Operand.tmp 0), type := 28, pos := "fastvm.go:69", after := #[], guard := none }) (v := ?_) rfl (by kernel_rfl) (by kernel_rfl) (by kernel_rfl) (fun _ _ _ h => h) (Or.inl ⟨by rfl, ?_⟩) (by assumption) ?_
  rotate_left
  · intro w hSw; (try dsimp only at hSw); go_simp; first | done | with_reducible rfl
  try simp only [Act.put, List.setIfInBounds_toArray, List.set_cons_zero, List.set_cons_succ]
  refine wpAnyH_take (i := 6) (oi := { dst := some 12, op := Op.nilCheck (Operand.tmp 11), type := 0, pos := "fastvm.go:69", after := #[{ on := 5, ground := Ground.data }], guard := none }) (v := ?_) rfl (by kernel_rfl) (by kernel_rfl) (by kernel_rfl) (fun _ _ _ h => h) (Or.inl ⟨by rfl, ?_⟩) (by assumption) ?_
  rotate_left
  · intro w hSw; (try dsimp only at hSw); go_simp; first | done | with_reducible rfl
  try simp only [Act.put, List.setIfInBounds_toArray, List.set_cons_zero, List.set_cons_succ]
  refine wpAnyH_take (i := 7) (oi := { dst := some 13, op := Op.fieldAddr 74 (Operand.tmp 12) 4, type := 0, pos := "fastvm.go:69", after := #[{ on := 6, ground := Ground.data }], guard := none }) (v := ?_) rfl (by kernel_rfl) (by kernel_rfl) (by kernel_rfl) (fun _ _ _ h => h) (Or.inl ⟨by rfl, ?_⟩) (by assumption) ?_
  rotate_left
  · intro w hSw; (try dsimp only at hSw); go_simp; first | done | with_reducible rfl
  try simp only [Act.put, List.setIfInBounds_toArray, List.set_cons_zero, List.set_cons_succ]
  refine wpAnyH_take (i := 8) (oi := { dst := some 14, op := Op.fieldAddr 69 (Operand.tmp 13) 1, type := 0, pos := "fastvm.go:69", after := #[{ on := 7, ground := Ground.data }], guard := none }) (v := ?_) rfl (by kernel_rfl) (by kernel_rfl) (by kernel_rfl) (fun _ _ _ h => h) (Or.inl ⟨by rfl, ?_⟩) (by assumption) ?_
  rotate_left
  · intro w hSw; (try dsimp only at hSw); go_simp; first | done | with_reducible rfl
  try simp only [Act.put, List.setIfInBounds_toArray, List.set_cons_zero, List.set_cons_succ]
  refine wpAnyH_take (i := 9) (oi := { dst := some 15, op := Op.load 3 (Operand.tmp 14), type := 3, pos := "fastvm.go:69", after := #[{ on := 8, ground := Ground.data }], guard := none }) (v := ?_) rfl (by kernel_rfl) (by kernel_rfl) (by kernel_rfl) (fun _ _ _ h => h) (Or.inl ⟨by rfl, ?_⟩) (by assumption) ?_
  rotate_left
  · intro w hSw; (try dsimp only at hSw); go_simp; first | done | with_reducible rfl
  try simp only [Act.put, List.setIfInBounds_toArray, List.set_cons_zero, List.set_cons_succ]
  refine wpAnyH_take (i := 10) (oi := { dst := some 16, op := Op.move (Operand.tmp 0), type := 28, pos := "fastvm.go:69", after := #[], guard := none }) (v := ?_) rfl (by kernel_rfl) (by kernel_rfl) (by kernel_rfl) (fun _ _ _ h => h) (Or.inl ⟨by rfl, ?_⟩) (by assumption) ?_
  rotate_left
  · intro w hSw; (try dsimp only at hSw); go_simp; first | done | with_reducible rfl
  try simp only [Act.put, List.setIfInBounds_toArray, List.set_cons_zero, List.set_cons_succ]
  refine wpAnyH_take (i := 11) (oi := { dst := some 17, op := Op.nilCheck (Operand.tmp 16), type := 0, pos := "fastvm.go:69", after := #[{ on := 10, ground := Ground.data }], guard := none }) (v := ?_) rfl (by kernel_rfl) (by kernel_rfl) (by kernel_rfl) (fun _ _ _ h => h) (Or.inl ⟨by rfl, ?_⟩) (by assumption) ?_
  rotate_left
  · intro w hSw; (try dsimp only at hSw); go_simp; first | done | with_reducible rfl
  try simp only [Act.put, List.setIfInBounds_toArray, List.set_cons_zero, List.set_cons_succ]
  refine wpAnyH_take (i := 12) (oi := { dst := some 18, op := Op.fieldAddr 74 (Operand.tmp 17) 5, type := 0, pos := "fastvm.go:69", after := #[{ on := 11, ground := Ground.data }], guard := none }) (v := ?_) rfl (by kernel_rfl) (by kernel_rfl) (by kernel_rfl) (fun _ _ _ h => h) (Or.inl ⟨by rfl, ?_⟩) (by assumption) ?_
  rotate_left
  · intro w hSw; (try dsimp only at hSw); go_simp; first | done | with_reducible rfl
  try simp only [Act.put, List.setIfInBounds_toArray, List.set_cons_zero, List.set_cons_succ]
  refine wpAnyH_take (i := 13) (oi := { dst := some 19, op := Op.load 70 (Operand.tmp 18), type := 70, pos := "fastvm.go:69", after := #[{ on := 12, ground := Ground.data }], guard := none }) (v := ?_) rfl (by kernel_rfl) (by kernel_rfl) (by kernel_rfl) (fun _ _ _ h => h) (Or.inl ⟨by rfl, ?_⟩) (by assumption) ?_
  rotate_left
  · intro w hSw; (try dsimp only at hSw); go_simp; first | done | with_reducible rfl
  try simp only [Act.put, List.setIfInBounds_toArray, List.set_cons_zero, List.set_cons_succ]
  refine wpAnyH_take (i := 14) (oi := { dst := some 20, op := Op.call { callee := Callee.builtin Builtin.len, args := #[Operand.tmp 19], argTypes := #[70] }, type := 3, pos := "fastvm.go:69", after := #[{ on := 13, ground := Ground.data }], guard := none }) (v := ?_) rfl (by kernel_rfl) (by kernel_rfl) (by kernel_rfl) (fun _ _ _ h => h) (Or.inl ⟨by rfl, ?_⟩) (by assumption) ?_
  rotate_left
  · intro w hSw; (try dsimp only at hSw); go_simp; first | done | with_reducible rfl
  try simp only [Act.put, List.setIfInBounds_toArray, List.set_cons_zero, List.set_cons_succ]
  refine wpAnyH_take (i := 15) (oi := { dst := some 21, op := Op.move (Operand.tmp 0), type := 28, pos := "fastvm.go:69", after := #[], guard := none }) (v := ?_) rfl (by kernel_rfl) (by kernel_rfl) (by kernel_rfl) (fun _ _ _ h => h) (Or.inl ⟨by rfl, ?_⟩) (by assumption) ?_
  rotate_left
  · intro w hSw; (try dsimp only at hSw); go_simp; first | done | with_reducible rfl
  try simp only [Act.put, List.setIfInBounds_toArray, List.set_cons_zero, List.set_cons_succ]
  refine wpAnyH_take (i := 16) (oi := { dst := some 22, op := Op.nilCheck (Operand.tmp 21), type := 0, pos := "fastvm.go:69", after := #[{ on := 15, ground := Ground.data }], guard := none }) (v := ?_) rfl (by kernel_rfl) (by kernel_rfl) (by kernel_rfl) (fun _ _ _ h => h) (Or.inl ⟨by rfl, ?_⟩) (by assumption) ?_
  rotate_left
  · intro w hSw; (try dsimp only at hSw); go_simp; first | done | with_reducible rfl
  try simp only [Act.put, List.setIfInBounds_toArray, List.set_cons_zero, List.set_cons_succ]
  refine wpAnyH_take (i := 17) (oi := { dst := some 23, op := Op.fieldAddr 74 (Operand.tmp 22) 4, type := 0, pos := "fastvm.go:69", after := #[{ on := 16, ground := Ground.data }], guard := none }) (v := ?_) rfl (by kernel_rfl) (by kernel_rfl) (by kernel_rfl) (fun _ _ _ h => h) (Or.inl ⟨by rfl, ?_⟩) (by assumption) ?_
  rotate_left
  · intro w hSw; (try dsimp only at hSw); go_simp; first | done | with_reducible rfl
  try simp only [Act.put, List.setIfInBounds_toArray, List.set_cons_zero, List.set_cons_succ]
  refine wpAnyH_take (i := 18) (oi := { dst := some 24, op := Op.fieldAddr 69 (Operand.tmp 23) 2, type := 0, pos := "fastvm.go:69", after := #[{ on := 17, ground := Ground.data }], guard := none }) (v := ?_) rfl (by kernel_rfl) (by kernel_rfl) (by kernel_rfl) (fun _ _ _ h => h) (Or.inl ⟨by rfl, ?_⟩) (by assumption) ?_
  rotate_left
  · intro w hSw; (try dsimp only at hSw); go_simp; first | done | with_reducible rfl
  try simp only [Act.put, List.setIfInBounds_toArray, List.set_cons_zero, List.set_cons_succ]
  refine wpAnyH_take (i := 19) (oi := { dst := some 25, op := Op.load 37 (Operand.tmp 24), type := 37, pos := "fastvm.go:69", after := #[{ on := 18, ground := Ground.data }], guard := none }) (v := _) rfl (by kernel_rfl) (by kernel_rfl) (by kernel_rfl) (fun _ _ _ h => h) (yieldsIf_load_mid (by rfl) _ _ rfl _ _ rfl _ _ (fun _ h => h.2.2.2) Tryz.underlying37 rfl (by rw [regs_len]; kernel_rfl)) (by assumption) ?_
  try simp only [Act.put, List.setIfInBounds_toArray, List.set_cons_zero, List.set_cons_succ]
  refine wpAnyH_take (i := 20) (oi := { dst := some 26, op := Op.build 39 #[(0, Operand.tmp 10), (1, Operand.tmp 15), (2, Operand.tmp 20), (3, Operand.tmp 25)], type := 39, pos := "fastvm.go:69", after := #[{ on := 4, ground := Ground.data }, { on := 9, ground := Ground.data }, { on := 14, ground := Ground.data }, { on := 19, ground := Ground.data }], guard := none }) (v := _) rfl (by kernel_rfl) (by kernel_rfl) (by kernel_rfl) (fun _ _ _ h => h) (yields_sn (by rfl) _ _ _ _ rfl _ _ _ s.r (by rfl) (by rfl) (by rfl) (by rfl)) (by assumption) ?_
  try simp only [Act.put, List.setIfInBounds_toArray, List.set_cons_zero, List.set_cons_succ]
  refine wpAnyH_ready (rs := [21]) (by kernel_rfl) (by simp) ?_
  refine AllReadyH.cons (o := { dst := none, op := Op.store 39 (Operand.tmp 2) (Operand.tmp 26), type := 0, pos := "fastvm.go:69", after := #[{ on := 20, ground := Ground.data }, { on := 0, ground := Ground.phase }, { on := 1, ground := Ground.phase }, { on := 2, ground := Ground.phase }, { on := 3, ground := Ground.phase }, { on := 4, ground := Ground.phase }, { on := 5, ground := Ground.phase }, { on := 6, ground := Ground.phase }, { on := 7, ground := Ground.phase }, { on := 8, ground := Ground.phase }, { on := 9, ground := Ground.phase }, { on := 10, ground := Ground.phase }, { on := 11, ground := Ground.phase }, { on := 12, ground := Ground.phase }, { on := 13, ground := Ground.phase }, { on := 14, ground := Ground.phase }, { on := 15, ground := Ground.phase }, { on := 16, ground := Ground.phase }, { on := 17, ground := Ground.phase }, { on := 18, ground := Ground.phase }, { on := 19, ground := Ground.phase }, { on := 20, ground := Ground.phase }], guard := none }) rfl (fun K hK => ?_) AllReadyH.nil
  rw [if_pos (by rfl)]
  refine wp_store_mid _ _ _ rfl _ _ (List.toArray (snV s.g s.p s.st.length s.r)) rfl rfl (hth.out) (by rw [List.size_toArray, snV_len]; kernel_rfl) (snV_one _ _ _ _) ?_
  refine hK.out _ _ (KS.out _ G2.out) (fun hHeld => ?_)
  clear hK K
  try simp only [Act.put]
  refine wpAnyH_done (by kernel_rfl) ?_ _
  clear hHeld
  generalize World.setCells _ _ _ _ = Z at *
  have hrun := Hz.mk (run_loadVar_mid (P := Tryz.prog) Z kr 0 39 (snV s.g s.p s.st.length s.r) _ (fun j v q => by rw [Nat.zero_add]; exact (hA2.out.2.1 j).trans (by simpa using q)) Tryz.underlying39 rfl (by rw [snV_len]; kernel_rfl))
  go_wp2_with fail
  refine bodyPost_ret (v := .agg (snV s.g s.p s.st.length s.r).toArray) ?_ rfl ⟨rfl, G2.out⟩
  exact results_rowZ Tryz.results8 _ _ rfl hrun.out
end Z
end Go.Proofs.YtbichnngepjpnaaGreat


/-
  Stage 13, fastvm: raw instructions and gates.
-/
namespace Go.Proofs.YtbichnngepjpnaaGreat
namespace Z
open Go.RowKit
open T (Sep Ob Kp Mf FlIn boxOb)

/-- An instruction as it comes in. -/
structure Ri where
  op : Int
  a : Int
  b : Int
  c : Int
  i : Int
def Ri.vals (i : Ri) : List Value := [.int .u8 i.op, .int .i64 i.a, .int .i64 i.b, .int .i64 i.c, .int .u64 i.i]
/-- What a value of its type is. -/
structure Ri.Is (i : Ri) : Prop where
  op : 0 ≤ i.op ∧ i.op < 256
  im : 0 ≤ i.i ∧ i.i < 18446744073709551616
def Ri.Fl (i : Ri) : Prop := (0 ≤ i.a ∧ i.a ≤ 15) ∧ (0 ≤ i.b ∧ i.b ≤ 15) ∧ 0 ≤ i.c ∧ i.c ≤ if 70 ≤ i.op then 255 else 15
def Ri.Th (i : Ri) (n k : Nat) : Prop := (20 ≤ i.op ∧ i.op ≤ 24 → i.i < n) ∧ (i.op = 31 → i.i < k)
structure Ri.Ok (i : Ri) (n k : Nat) : Prop where
  op : Named i.op
  fl : i.Fl
  th : i.Th n k
/-- An answer tells whether something is so. -/
def Says (p : Prop) (x : Ending) : Prop := ∃ b : Bool, x = .returned (.bool b) ∧ (b = true ↔ p)
def Ri.fi (i : Ri) : Fi := ⟨i.op, i.a.toNat, i.b.toNat, i.c.toNat, i.i⟩
theorem Ri.Ok.fi {i : Ri} {n k : Nat} (h : i.Ok n k) (hi : i.Is) : i.fi.Ok n k ∧ i.fi.vals = i.vals := by
  obtain ⟨h1, h2, h3⟩ := h
  obtain ⟨ha, hb, hc0, hc⟩ := h2
  refine ⟨⟨h1, ?_, ?_, ?_, hi.im, h3.1, h3.2⟩, ?_⟩
  · show i.a.toNat < 16
    omega
  · show i.b.toNat < 16
    omega
  · show i.c.toNat < 16 ∨ 70 ≤ i.op ∧ i.c.toNat ≤ 255
    split at hc <;> omega
  · show [Value.int .u8 i.op, .int .i64 (i.a.toNat : Int), .int .i64 (i.b.toNat : Int), .int .i64 (i.c.toNat : Int), .int .u64 i.i] = _
    rw [Int.toNat_of_nonneg ha.1, Int.toNat_of_nonneg hb.1, Int.toNat_of_nonneg hc0]
    rfl
set_option maxRecDepth 100000 in
set_option maxHeartbeats 4000000 in
theorem isWithin_no (n lo hi : Int) (w : World) (h : ¬ (lo ≤ n ∧ n ≤ hi)) :
    Calls Tryz.prog 39 #[.int .i64 n, .int .i64 lo, .int .i64 hi] w fun x w' => x = .returned (.bool false) ∧ w' = w := by
  by_cases h1 : lo ≤ n
  · have h2 : ¬ n ≤ hi := fun q => h ⟨h1, q⟩
    clear h
    go_enter Tryz.func39, Tryz.ntmps39
    go_wp2_with fail
    go_ret
    exact ⟨rfl, rfl⟩
  · clear h
    go_enter Tryz.func39, Tryz.ntmps39
    go_wp2_with fail
    go_ret
    exact ⟨rfl, rfl⟩
set_option maxRecDepth 100000 in
set_option maxHeartbeats 4000000 in
theorem isNamed_no (op : Int) (w : World) (h : 0 ≤ op ∧ op < 256) (hn : ¬ Named op) :
    Calls Tryz.prog 48 #[.int .u8 op] w fun x w' => x = .returned (.bool false) ∧ w' = w := by
  have hc : (14 ≤ op ∧ op ≤ 19) ∨ (25 ≤ op ∧ op ≤ 26) ∨ (33 ≤ op ∧ op ≤ 59) ∨ (66 ≤ op ∧ op ≤ 69) ∨ (73 ≤ op ∧ op ≤ 255) := by unfold Named at hn; omega
  clear hn h
  rcases hc with hc | hc | hc | hc | hc
  · skip
    have n13 : ¬ op ≤ 13 := by omega
    have y24 : op ≤ 24 := by omega
    have l20 : ¬ 20 ≤ op := by omega
    clear hc
    go_enter Tryz.func48, Tryz.ntmps48
    go_wp2_with fail
    go_ret
    exact ⟨rfl, rfl⟩
  · skip
    have n13 : ¬ op ≤ 13 := by omega
    have n24 : ¬ op ≤ 24 := by omega
    have y32 : op ≤ 32 := by omega
    have l27 : ¬ 27 ≤ op := by omega
    clear hc
    go_enter Tryz.func48, Tryz.ntmps48
    go_wp2_with fail
    go_ret
    exact ⟨rfl, rfl⟩
  · skip
    have n13 : ¬ op ≤ 13 := by omega
    have n24 : ¬ op ≤ 24 := by omega
    have n32 : ¬ op ≤ 32 := by omega
    have y65 : op ≤ 65 := by omega
    have l60 : ¬ 60 ≤ op := by omega
    clear hc
    go_enter Tryz.func48, Tryz.ntmps48
    go_wp2_with fail
    go_ret
    exact ⟨rfl, rfl⟩
  · skip
    have n13 : ¬ op ≤ 13 := by omega
    have n24 : ¬ op ≤ 24 := by omega
    have n32 : ¬ op ≤ 32 := by omega
    have n65 : ¬ op ≤ 65 := by omega
    have l70 : ¬ 70 ≤ op := by omega
    clear hc
    go_enter Tryz.func48, Tryz.ntmps48
    go_wp2_with fail
    go_ret
    exact ⟨rfl, rfl⟩
  · skip
    have n13 : ¬ op ≤ 13 := by omega
    have n24 : ¬ op ≤ 24 := by omega
    have n32 : ¬ op ≤ 32 := by omega
    have n65 : ¬ op ≤ 65 := by omega
    have y70 : 70 ≤ op := by omega
    have n72 : ¬ op ≤ 72 := by omega
    clear hc
    go_enter Tryz.func48, Tryz.ntmps48
    go_wp2_with fail
    go_ret
    exact ⟨rfl, rfl⟩
set_option maxRecDepth 100000 in
set_option maxHeartbeats 4000000 in
theorem fields_any (i : Ri) (w : World) :
    Calls Tryz.prog 49 #[.agg #[.int .u8 i.op, .int .i64 i.a, .int .i64 i.b, .int .i64 i.c, .int .u64 i.i]] w fun x w' => Says i.Fl x ∧ Gr w w' := by
  by_cases h70 : 70 ≤ i.op
  · skip
    by_cases ha : 0 ≤ i.a ∧ i.a ≤ 15
    · by_cases hb : 0 ≤ i.b ∧ i.b ≤ 15
      · by_cases hc : 0 ≤ i.c ∧ i.c ≤ 255
        · skip
          go_enter Tryz.func49, Tryz.ntmps49
          go_wp2_with fail
          refine (isWithin_ok _ _ _ _ (by omega) (by omega)).mono ?_
          rintro r w1 ⟨rfl, e1⟩
          subst e1
          go_wp2_with fail
          refine (isWithin_ok _ _ _ _ (by omega) (by omega)).mono ?_
          rintro r w1 ⟨rfl, e1⟩
          subst e1
          go_wp2_with fail
          refine (isWithin_ok _ _ _ _ (by omega) (by omega)).mono ?_
          rintro r w1 ⟨rfl, e1⟩
          subst e1
          go_wp2_with fail
          go_ret
          refine ⟨⟨true, rfl, ?_⟩, (Gr.refl w).alloc _⟩
          unfold Ri.Fl
          rw [if_pos h70]
          exact iff_of_true rfl ⟨ha, hb, hc⟩
        · skip
          go_enter Tryz.func49, Tryz.ntmps49
          go_wp2_with fail
          refine (isWithin_ok _ _ _ _ (by omega) (by omega)).mono ?_
          rintro r w1 ⟨rfl, e1⟩
          subst e1
          go_wp2_with fail
          refine (isWithin_ok _ _ _ _ (by omega) (by omega)).mono ?_
          rintro r w1 ⟨rfl, e1⟩
          subst e1
          go_wp2_with fail
          refine (isWithin_no _ _ _ _ (by omega)).mono ?_
          rintro r w1 ⟨rfl, e1⟩
          subst e1
          go_wp2_with fail
          go_ret
          refine ⟨⟨false, rfl, ?_⟩, (Gr.refl w).alloc _⟩
          unfold Ri.Fl
          rw [if_pos h70]
          refine iff_of_false (by decide) (fun q => ?_)
          exact absurd q.2.2 hc
      · skip
        go_enter Tryz.func49, Tryz.ntmps49
        go_wp2_with fail
        refine (isWithin_ok _ _ _ _ (by omega) (by omega)).mono ?_
        rintro r w1 ⟨rfl, e1⟩
        subst e1
        go_wp2_with fail
        refine (isWithin_no _ _ _ _ (by omega)).mono ?_
        rintro r w1 ⟨rfl, e1⟩
        subst e1
        go_wp2_with fail
        go_ret
        refine ⟨⟨false, rfl, ?_⟩, (Gr.refl w).alloc _⟩
        unfold Ri.Fl
        rw [if_pos h70]
        refine iff_of_false (by decide) (fun q => ?_)
        exact absurd q.2.1 hb
    · skip
      go_enter Tryz.func49, Tryz.ntmps49
      go_wp2_with fail
      refine (isWithin_no _ _ _ _ (by omega)).mono ?_
      rintro r w1 ⟨rfl, e1⟩
      subst e1
      go_wp2_with fail
      go_ret
      refine ⟨⟨false, rfl, ?_⟩, (Gr.refl w).alloc _⟩
      unfold Ri.Fl
      rw [if_pos h70]
      refine iff_of_false (by decide) (fun q => ?_)
      exact absurd q.1 ha
  · skip
    by_cases ha : 0 ≤ i.a ∧ i.a ≤ 15
    · by_cases hb : 0 ≤ i.b ∧ i.b ≤ 15
      · by_cases hc : 0 ≤ i.c ∧ i.c ≤ 15
        · skip
          go_enter Tryz.func49, Tryz.ntmps49
          go_wp2_with fail
          refine (isWithin_ok _ _ _ _ (by omega) (by omega)).mono ?_
          rintro r w1 ⟨rfl, e1⟩
          subst e1
          go_wp2_with fail
          refine (isWithin_ok _ _ _ _ (by omega) (by omega)).mono ?_
          rintro r w1 ⟨rfl, e1⟩
          subst e1
          go_wp2_with fail
          refine (isWithin_ok _ _ _ _ (by omega) (by omega)).mono ?_
          rintro r w1 ⟨rfl, e1⟩
          subst e1
          go_wp2_with fail
          go_ret
          refine ⟨⟨true, rfl, ?_⟩, (Gr.refl w).alloc _⟩
          unfold Ri.Fl
          rw [if_neg (show ¬ 70 ≤ i.op by omega)]
          exact iff_of_true rfl ⟨ha, hb, hc⟩
        · skip
          go_enter Tryz.func49, Tryz.ntmps49
          go_wp2_with fail
          refine (isWithin_ok _ _ _ _ (by omega) (by omega)).mono ?_
          rintro r w1 ⟨rfl, e1⟩
          subst e1
          go_wp2_with fail
          refine (isWithin_ok _ _ _ _ (by omega) (by omega)).mono ?_
          rintro r w1 ⟨rfl, e1⟩
          subst e1
          go_wp2_with fail
          refine (isWithin_no _ _ _ _ (by omega)).mono ?_
          rintro r w1 ⟨rfl, e1⟩
          subst e1
          go_wp2_with fail
          go_ret
          refine ⟨⟨false, rfl, ?_⟩, (Gr.refl w).alloc _⟩
          unfold Ri.Fl
          rw [if_neg (show ¬ 70 ≤ i.op by omega)]
          refine iff_of_false (by decide) (fun q => ?_)
          exact absurd q.2.2 hc
      · skip
        go_enter Tryz.func49, Tryz.ntmps49
        go_wp2_with fail
        refine (isWithin_ok _ _ _ _ (by omega) (by omega)).mono ?_
        rintro r w1 ⟨rfl, e1⟩
        subst e1
        go_wp2_with fail
        refine (isWithin_no _ _ _ _ (by omega)).mono ?_
        rintro r w1 ⟨rfl, e1⟩
        subst e1
        go_wp2_with fail
        go_ret
        refine ⟨⟨false, rfl, ?_⟩, (Gr.refl w).alloc _⟩
        unfold Ri.Fl
        rw [if_neg (show ¬ 70 ≤ i.op by omega)]
        refine iff_of_false (by decide) (fun q => ?_)
        exact absurd q.2.1 hb
    · skip
      go_enter Tryz.func49, Tryz.ntmps49
      go_wp2_with fail
      refine (isWithin_no _ _ _ _ (by omega)).mono ?_
      rintro r w1 ⟨rfl, e1⟩
      subst e1
      go_wp2_with fail
      go_ret
      refine ⟨⟨false, rfl, ?_⟩, (Gr.refl w).alloc _⟩
      unfold Ri.Fl
      rw [if_neg (show ¬ 70 ≤ i.op by omega)]
      refine iff_of_false (by decide) (fun q => ?_)
      exact absurd q.1 ha
set_option maxRecDepth 100000 in
set_option maxHeartbeats 4000000 in
theorem there_any (i : Ri) (n k : Nat) (w : World) (hl : n ≤ 1000 ∧ k ≤ 1000) :
    Calls Tryz.prog 50 #[.agg #[.int .u8 i.op, .int .i64 i.a, .int .i64 i.b, .int .i64 i.c, .int .u64 i.i], .int .i64 n, .int .i64 k] w fun x w' => Says (i.Th n k) x ∧ Gr w w' := by
  obtain ⟨op, ia, ib, ic, im⟩ := i
  dsimp only at *
  have hn : IntKind.u64.wrap (n : Int) = (n : Int) := by simp [IntKind.wrap, IntKind.bits, IntKind.signed]; omega
  have hk : IntKind.u64.wrap (k : Int) = (k : Int) := by simp [IntKind.wrap, IntKind.bits, IntKind.signed]; omega
  replace hl := Hz.mk hl
  by_cases e20 : op = 20
  · subst e20
    by_cases y : im < (n : Int)
    · have z : Hz (Says (Ri.Th ⟨20, ia, ib, ic, im⟩ n k) (.returned (.bool true))) := Hz.mk ⟨true, rfl, iff_of_true rfl (by unfold Ri.Th; dsimp only; omega)⟩
      go_enter Tryz.func50, Tryz.ntmps50
      go_wp2_with fail
      go_ret
      exact ⟨z.out, (Gr.refl w).alloc _⟩
    · have z : Hz (Says (Ri.Th ⟨20, ia, ib, ic, im⟩ n k) (.returned (.bool false))) := Hz.mk ⟨false, rfl, iff_of_false (by decide) (by unfold Ri.Th; dsimp only; omega)⟩
      go_enter Tryz.func50, Tryz.ntmps50
      go_wp2_with fail
      go_ret
      exact ⟨z.out, (Gr.refl w).alloc _⟩
  by_cases e21 : op = 21
  · subst e21
    by_cases y : im < (n : Int)
    · have z : Hz (Says (Ri.Th ⟨21, ia, ib, ic, im⟩ n k) (.returned (.bool true))) := Hz.mk ⟨true, rfl, iff_of_true rfl (by unfold Ri.Th; dsimp only; omega)⟩
      go_enter Tryz.func50, Tryz.ntmps50
      go_wp2_with fail
      go_ret
      exact ⟨z.out, (Gr.refl w).alloc _⟩
    · have z : Hz (Says (Ri.Th ⟨21, ia, ib, ic, im⟩ n k) (.returned (.bool false))) := Hz.mk ⟨false, rfl, iff_of_false (by decide) (by unfold Ri.Th; dsimp only; omega)⟩
      go_enter Tryz.func50, Tryz.ntmps50
      go_wp2_with fail
      go_ret
      exact ⟨z.out, (Gr.refl w).alloc _⟩
  by_cases e22 : op = 22
  · subst e22
    by_cases y : im < (n : Int)
    · have z : Hz (Says (Ri.Th ⟨22, ia, ib, ic, im⟩ n k) (.returned (.bool true))) := Hz.mk ⟨true, rfl, iff_of_true rfl (by unfold Ri.Th; dsimp only; omega)⟩
      go_enter Tryz.func50, Tryz.ntmps50
      go_wp2_with fail
      go_ret
      exact ⟨z.out, (Gr.refl w).alloc _⟩
    · have z : Hz (Says (Ri.Th ⟨22, ia, ib, ic, im⟩ n k) (.returned (.bool false))) := Hz.mk ⟨false, rfl, iff_of_false (by decide) (by unfold Ri.Th; dsimp only; omega)⟩
      go_enter Tryz.func50, Tryz.ntmps50
      go_wp2_with fail
      go_ret
      exact ⟨z.out, (Gr.refl w).alloc _⟩
  by_cases e23 : op = 23
  · subst e23
    by_cases y : im < (n : Int)
    · have z : Hz (Says (Ri.Th ⟨23, ia, ib, ic, im⟩ n k) (.returned (.bool true))) := Hz.mk ⟨true, rfl, iff_of_true rfl (by unfold Ri.Th; dsimp only; omega)⟩
      go_enter Tryz.func50, Tryz.ntmps50
      go_wp2_with fail
      go_ret
      exact ⟨z.out, (Gr.refl w).alloc _⟩
    · have z : Hz (Says (Ri.Th ⟨23, ia, ib, ic, im⟩ n k) (.returned (.bool false))) := Hz.mk ⟨false, rfl, iff_of_false (by decide) (by unfold Ri.Th; dsimp only; omega)⟩
      go_enter Tryz.func50, Tryz.ntmps50
      go_wp2_with fail
      go_ret
      exact ⟨z.out, (Gr.refl w).alloc _⟩
  by_cases e24 : op = 24
  · subst e24
    by_cases y : im < (n : Int)
    · have z : Hz (Says (Ri.Th ⟨24, ia, ib, ic, im⟩ n k) (.returned (.bool true))) := Hz.mk ⟨true, rfl, iff_of_true rfl (by unfold Ri.Th; dsimp only; omega)⟩
      go_enter Tryz.func50, Tryz.ntmps50
      go_wp2_with fail
      go_ret
      exact ⟨z.out, (Gr.refl w).alloc _⟩
    · have z : Hz (Says (Ri.Th ⟨24, ia, ib, ic, im⟩ n k) (.returned (.bool false))) := Hz.mk ⟨false, rfl, iff_of_false (by decide) (by unfold Ri.Th; dsimp only; omega)⟩
      go_enter Tryz.func50, Tryz.ntmps50
      go_wp2_with fail
      go_ret
      exact ⟨z.out, (Gr.refl w).alloc _⟩
  by_cases e31 : op = 31
  · subst e31
    by_cases y : im < (k : Int)
    · have z : Hz (Says (Ri.Th ⟨31, ia, ib, ic, im⟩ n k) (.returned (.bool true))) := Hz.mk ⟨true, rfl, iff_of_true rfl (by unfold Ri.Th; dsimp only; omega)⟩
      go_enter Tryz.func50, Tryz.ntmps50
      go_wp2_with fail
      go_ret
      exact ⟨z.out, (Gr.refl w).alloc _⟩
    · have z : Hz (Says (Ri.Th ⟨31, ia, ib, ic, im⟩ n k) (.returned (.bool false))) := Hz.mk ⟨false, rfl, iff_of_false (by decide) (by unfold Ri.Th; dsimp only; omega)⟩
      go_enter Tryz.func50, Tryz.ntmps50
      go_wp2_with fail
      go_ret
      exact ⟨z.out, (Gr.refl w).alloc _⟩
  have z : Hz (Says (Ri.Th ⟨op, ia, ib, ic, im⟩ n k) (.returned (.bool true))) := Hz.mk ⟨true, rfl, iff_of_true rfl (by unfold Ri.Th; dsimp only; omega)⟩
  have f20 : (op == 20) = false := by simpa using e20
  have f21 : (op == 21) = false := by simpa using e21
  have f22 : (op == 22) = false := by simpa using e22
  have f23 : (op == 23) = false := by simpa using e23
  have f24 : (op == 24) = false := by simpa using e24
  have f31 : (op == 31) = false := by simpa using e31
  clear e20 e21 e22 e23 e24 e31
  go_enter Tryz.func50, Tryz.ntmps50
  go_wp2_with fail
  go_ret
  exact ⟨z.out, (Gr.refl w).alloc _⟩
end Z
end Go.Proofs.YtbichnngepjpnaaGreat
