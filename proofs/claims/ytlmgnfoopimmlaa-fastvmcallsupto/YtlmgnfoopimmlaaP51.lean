import Derived.Test.YtlmgnfoopimmlaaP37
import Derived.Test.YtlmgnfoopimmlaaP42
import Derived.Test.YtlmgnfoopimmlaaP38
import Derived.Test.YtlmgnfoopimmlaaP49
/-
  Stage 13, fastvm: what a step that goes on does to registers and stack. No Go in sight.
-/
namespace Go.Proofs.Ytlmgnfoopimmlaa
namespace Z
open Go.RowKit
open T (Sep Ob Kp Mf FlIn boxOb)

/-- Neither a call nor a return. -/
structure ElOk (i : Fi) (s t : Fm) : Prop where
  g : t.g = s.g
  st : t.st = s.st
  r : ∀ k, k ≠ i.a → t.r k = s.r k
structure ClOk (P : Pr) (i : Fi) (s t : Fm) : Prop where
  g : t.g = i.i.toNat
  p : t.p = (P.gate i.i.toNat).e
  r : t.r = entR (P.gate i.i.toNat) (P.gate i.i.toNat).a (fun k => s.r (k + 1))
  st : t.st = s.st ++ [⟨s.g, s.p + 1, s.r⟩]
structure RtOk (P : Pr) (s t : Fm) (L : List Fr) (f : Fr) : Prop where
  sst : s.st = L ++ [f]
  g : t.g = f.g
  p : t.p = f.p
  r : t.r = entR ⟨f.p, 0, 0, f.r⟩ (P.gate s.g).s (fun k => s.r (k + 1))
  st : t.st = L
def StOk (P : Pr) (i : Fi) (s t : Fm) : Prop := t.e = 0 → (i.op ≠ 31 ∧ i.op ≠ 32 ∧ ElOk i s t) ∨ (i.op = 31 ∧ ClOk P i s t) ∨ (i.op = 32 ∧ ∃ L f, RtOk P s t L f)
theorem upd_ne {r : Nat → Int} {a : Nat} {v : Int} : ∀ k, k ≠ a → updR r a v k = r k := fun k h => by unfold updR; rw [if_neg h]
theorem st31 (P : Pr) (i : Fi) (s : Fm) (e : i.op = 31) : StOk P i s (stp31 P i s) := by
  unfold stp31; split
  · intro q; exact absurd (show (5 : Int) = 0 from q) (by decide)
  · exact fun _ => .inr (.inl ⟨e, rfl, rfl, rfl, rfl⟩)
theorem st32 (P : Pr) (i : Fi) (s : Fm) (e : i.op = 32) : StOk P i s (stp32 P s) := by
  rcases List.eq_nil_or_concat s.st with hz | ⟨L, f, hz⟩
  · rw [show stp32 P s = { s with e := 1, v := if (P.gate s.g).s = 0 then 0 else s.r 1, f := 0 } by simp [stp32, hz]]
    intro q; exact absurd (show (1 : Int) = 0 from q) (by decide)
  · rw [List.concat_eq_append] at hz
    rw [show stp32 P s = { s with g := f.g, p := f.p, r := entR ⟨f.p, 0, 0, f.r⟩ (P.gate s.g).s (fun k => s.r (k + 1)), st := L } by simp [stp32, hz]]
    exact fun _ => .inr (.inr ⟨e, L, f, hz, rfl, rfl, rfl, rfl⟩)
theorem stepI_st (P : Pr) (i : Fi) (s : Fm) : StOk P i s (stepI P i s) := by
  have hc : i.op ≠ 31 → i.op ≠ 32 → StOk P i s s := fun a b => fun _ => .inl ⟨a, b, rfl, rfl, fun _ _ => rfl⟩
  refine stepI_cases P i s (fun r => (i.op = 31 → r = stp31 P i s) → (i.op = 32 → r = stp32 P s) → StOk P i s r) ?_ ?_ ?_ ?_ ?_ ?_ ?_ ?_ ?_ ?_ ?_ ?_ ?_ ?_ ?_ ?_ ?_ ?_ ?_ ?_ ?_ ?_ ?_ ?_ ?_ ?_ ?_ ?_ ?_ ?_ ?_ ?_ ?_ ?_ ?_ (fun e => by unfold stepI; rw [e]; rfl) (fun e => by unfold stepI; rw [e]; rfl)
  · intro e _ _; exact fun _ => .inl ⟨by omega, by omega, rfl, rfl, fun _ _ => rfl⟩
  · intro e _ _; exact fun _ => .inl ⟨by omega, by omega, rfl, rfl, upd_ne⟩
  · intro e _ _; exact fun _ => .inl ⟨by omega, by omega, rfl, rfl, upd_ne⟩
  · intro e _ _; exact fun _ => .inl ⟨by omega, by omega, rfl, rfl, upd_ne⟩
  · intro e _ _; exact fun _ => .inl ⟨by omega, by omega, rfl, rfl, upd_ne⟩
  · intro e _ _; exact fun _ => .inl ⟨by omega, by omega, rfl, rfl, upd_ne⟩
  · intro e _ _; exact fun _ => .inl ⟨by omega, by omega, rfl, rfl, upd_ne⟩
  · intro e _ _; exact fun _ => .inl ⟨by omega, by omega, rfl, rfl, upd_ne⟩
  · intro e _ _; exact fun _ => .inl ⟨by omega, by omega, rfl, rfl, upd_ne⟩
  · intro e _ _; exact fun _ => .inl ⟨by omega, by omega, rfl, rfl, upd_ne⟩
  · intro e _ _; exact fun _ => .inl ⟨by omega, by omega, rfl, rfl, upd_ne⟩
  · intro e _ _; exact fun _ => .inl ⟨by omega, by omega, rfl, rfl, upd_ne⟩
  · intro e _ _; exact fun _ => .inl ⟨by omega, by omega, rfl, rfl, upd_ne⟩
  · intro e _ _; exact fun _ => .inl ⟨by omega, by omega, rfl, rfl, upd_ne⟩
  · intro e _ _; exact fun _ => .inl ⟨by omega, by omega, rfl, rfl, fun _ _ => rfl⟩
  · intro e _ _; exact fun _ => .inl ⟨by omega, by omega, rfl, rfl, fun _ _ => rfl⟩
  · intro e _ _; exact fun _ => .inl ⟨by omega, by omega, rfl, rfl, fun _ _ => rfl⟩
  · intro e _ _; exact fun _ => .inl ⟨by omega, by omega, rfl, rfl, fun _ _ => rfl⟩
  · intro e _ _; exact fun _ => .inl ⟨by omega, by omega, rfl, rfl, fun _ _ => rfl⟩
  · intro e _ _; intro q; exact absurd (show (1 : Int) = 0 from q) (by decide)
  · intro e _ _; intro q; exact absurd (show (3 : Int) = 0 from q) (by decide)
  · intro e _ _; unfold stp29; split
    · intro q; exact absurd (show (6 : Int) = 0 from q) (by decide)
    · exact fun _ => .inl ⟨by omega, by omega, rfl, rfl, upd_ne⟩
  · intro e _ _; exact fun _ => .inl ⟨by omega, by omega, rfl, rfl, fun _ _ => rfl⟩
  · intro e _ _; exact st31 P i s e
  · intro e _ _; exact st32 P i s e
  · intro e _ _; unfold stp60; split
    · intro q; exact absurd (show (7 : Int) = 0 from q) (by decide)
    · exact fun _ => .inl ⟨by omega, by omega, rfl, rfl, upd_ne⟩
  · intro e _ _; unfold stp61; split
    · intro q; exact absurd (show (7 : Int) = 0 from q) (by decide)
    · exact fun _ => .inl ⟨by omega, by omega, rfl, rfl, upd_ne⟩
  · intro e _ _; unfold stp62; split
    · intro q; exact absurd (show (7 : Int) = 0 from q) (by decide)
    · exact fun _ => .inl ⟨by omega, by omega, rfl, rfl, fun _ _ => rfl⟩
  · intro e _ _; unfold stp63; split
    · intro q; exact absurd (show (7 : Int) = 0 from q) (by decide)
    · exact fun _ => .inl ⟨by omega, by omega, rfl, rfl, fun _ _ => rfl⟩
  · intro e _ _; unfold stp64; split
    · intro q; exact absurd (show (7 : Int) = 0 from q) (by decide)
    · exact fun _ => .inl ⟨by omega, by omega, rfl, rfl, upd_ne⟩
  · intro e _ _; unfold stp65; split
    · intro q; exact absurd (show (7 : Int) = 0 from q) (by decide)
    · exact fun _ => .inl ⟨by omega, by omega, rfl, rfl, fun _ _ => rfl⟩
  · intro e _ _; unfold stp70; split
    · exact fun _ => .inl ⟨by omega, by omega, rfl, rfl, fun _ _ => rfl⟩
    · intro q; exact absurd (show (2 : Int) = 0 from q) (by decide)
  · intro e _ _; unfold stp71; split
    · exact fun _ => .inl ⟨by omega, by omega, rfl, rfl, fun _ _ => rfl⟩
    · intro q; exact absurd (show (2 : Int) = 0 from q) (by decide)
  · intro e _ _; intro q; exact absurd (show (2 : Int) = 0 from q) (by decide)
  · intro h31 h32
    by_cases q1 : i.op = 31
    · exact Eq.mpr (congrArg (StOk P i s) (h31 q1)) (st31 P i s q1)
    · by_cases q2 : i.op = 32
      · exact Eq.mpr (congrArg (StOk P i s) (h32 q2)) (st32 P i s q2)
      · exact hc q1 q2
/-- A step that goes on: the instruction is there. -/
theorem step_at (P : Pr) (ok : P.Ok) (s : Fm) (n : Nat) (hs : s.Okn P n) (ht : (stepM P s).e = 0) : ∃ (h1 : s.g < P.code.length) (h2 : s.p < P.code[s.g].length), P.code[s.g][s.p].Ok P.code[s.g].length P.gates.length ∧ ((P.code[s.g][s.p].op ≠ 31 ∧ P.code[s.g][s.p].op ≠ 32 ∧ ElOk P.code[s.g][s.p] s (stepM P s)) ∨ (P.code[s.g][s.p].op = 31 ∧ ClOk P P.code[s.g][s.p] s (stepM P s)) ∨ (P.code[s.g][s.p].op = 32 ∧ ∃ L f, RtOk P s (stepM P s) L f)) := by
  have h1 := hs.g
  have e1 : P.code.getD s.g [] = P.code[s.g] := by simp [h1]
  by_cases h2 : s.p < P.code[s.g].length
  · have hok := (ok.row _ (List.getElem_mem h1)).2 _ (List.getElem_mem h2)
    have e2 : stepM P s = stepI P P.code[s.g][s.p] s := by
      unfold stepM
      rw [e1, List.getElem?_eq_getElem h2]
    rw [e2] at ht ⊢
    exact ⟨h1, h2, hok, stepI_st P _ s ht⟩
  · exfalso
    have e2 : stepM P s = { s with e := 7, v := 0, f := 8 } := by
      unfold stepM
      rw [e1, List.getElem?_eq_none (by omega)]
    rw [e2] at ht
    exact absurd (show (7 : Int) = 0 from ht) (by decide)
/-- What is wanted of registers, up to the j-th. -/
def Wn (b : Nat → Int) (s : Nat → Int) (j : Nat) : Nat → Int := fun k => if 1 ≤ k ∧ k < j then s k else b k
theorem Wn_one (b s : Nat → Int) : Wn b s 1 = b := by
  funext k
  unfold Wn
  rw [if_neg (by omega)]
theorem Wn_succ (b s : Nat → Int) (j : Nat) (h : 1 ≤ j) : Wn b s (j + 1) = updR (Wn b s j) j (s j) := by
  funext k
  show (if 1 ≤ k ∧ k < j + 1 then s k else b k) = if k = j then s j else if 1 ≤ k ∧ k < j then s k else b k
  by_cases e : k = j
  · subst e; rw [if_pos (by omega), if_pos rfl]
  · rw [if_neg e]
    by_cases q : 1 ≤ k ∧ k < j
    · rw [if_pos q, if_pos (by omega)]
    · rw [if_neg q, if_neg (by omega)]
theorem Wn_ent (g : Fg) (s : Nat → Int) (n : Nat) : entR g n (fun k => s (k + 1)) = Wn g.r s (n + 1) := by
  funext k
  show (if 1 ≤ k ∧ k ≤ n then s (k - 1 + 1) else g.r k) = if 1 ≤ k ∧ k < n + 1 then s k else g.r k
  by_cases q : 1 ≤ k ∧ k ≤ n
  · rw [if_pos q, if_pos (by omega), show k - 1 + 1 = k by omega]
  · rw [if_neg q, if_neg (by omega)]
theorem el_r {i : Fi} {s t : Fm} (h : ElOk i s t) : t.r = updR s.r i.a (t.r i.a) := by
  funext k
  unfold updR
  by_cases e : k = i.a
  · rw [if_pos e, e]
  · rw [if_neg e]; exact h.r k e
/-- A snap on the statement's own stack. -/
structure Sk where
  g : Nat
  p : Nat
  d : Nat
  r : Nat → Int
def Sk.vals (k : Sk) : List Value := snV k.g k.p k.d k.r
def Sk.fr (k : Sk) : Fr := ⟨k.g, k.p + 1, k.r⟩
theorem Sk.len (k : Sk) : k.vals.length = 19 := snV_len _ _ _ _
def stkOb (B : Nat) (v : Value) (K : List Sk) : Ob := rowOb B 34 19 v K.length (K.flatMap Sk.vals)
theorem sks_len (K : List Sk) : (K.flatMap Sk.vals).length = K.length * 19 := by
  induction K with
  | nil => rfl
  | cons k K ih => rw [List.flatMap_cons, List.length_append, ih, Sk.len, List.length_cons]; omega
theorem sk_last {L : List Fr} {f : Fr} {K : List Sk} (h : K.map Sk.fr = L ++ [f]) : ∃ K' k, K = K' ++ [k] ∧ K'.map Sk.fr = L ∧ k.fr = f := by
  rcases List.eq_nil_or_concat K with hz | ⟨K', k, hz⟩
  · subst hz
    have := congrArg List.length h
    simp at this
  · rw [List.concat_eq_append] at hz
    subst hz
    rw [List.map_append] at h
    have h2 := List.append_inj' h rfl
    refine ⟨K', k, rfl, h2.1, ?_⟩
    have := h2.2
    simpa using this
end Z
end Go.Proofs.Ytlmgnfoopimmlaa


/-
  Stage 13, fastvm: boxes beside a machine; registers in a box.
-/
namespace Go.Proofs.Ytlmgnfoopimmlaa
namespace Z
open Go.RowKit
open T (Sep Ob Kp Mf FlIn boxOb)

theorem MIn.sideL {B : Nat} {W W' : World} {a : Nat} {P : Pr} {s : Fm} (l1 l2 : List Ob) {o o' : Ob} (h : MIn B W a P s (l1 ++ o :: l2)) (hi : o'.In W') (hk : Kp o.S W W') (hn : ∀ k, o'.S k → o.S k ∨ W.heap.size ≤ k) : MIn B W' a P s (l1 ++ o' :: l2) ∧ Below B W W' := by
  obtain ⟨⟨q, h1⟩, le⟩ := h
  have e : ∀ x : Ob, obs B a P s q ++ (l1 ++ x :: l2) = (obs B a P s q ++ l1) ++ x :: l2 := fun x => (List.append_assoc _ _ _).symm
  rw [e] at h1
  refine ⟨⟨⟨q, ?_⟩, Nat.le_trans le hk.size⟩, sep_below (l1 := obs B a P s q ++ l1) (o := o) (l2 := l2) h1 hk le⟩
  rw [e]
  exact sep_change (l1 := obs B a P s q ++ l1) (o := o) (o' := o') (l2 := l2) h1 hi hk hn le
theorem RwIn.bel {V W : World} {B : Nat} {ca ga : Option Addr} {P : Pr} (h : RwIn V ca ga P) (hB : V.heap.size = B) (g : Below B V W) : RwIn W ca ga P := by
  subst hB
  refine ⟨fun k hk => ?_, fun k hk => ?_⟩
  · obtain ⟨b, off, ra, rc, e1, e2, e3, e4⟩ := h.code k hk
    exact ⟨b, off, ra, rc, e1, Nat.lt_of_lt_of_le e2 g.size, (T.cell_of_block (g.block b e2) _).trans e3, e4.below g⟩
  · obtain ⟨b, off, e1, e2, e3⟩ := h.gate k hk
    exact ⟨b, off, e1, Nat.lt_of_lt_of_le e2 g.size, fun i v q => (T.cell_of_block (g.block b e2) _).trans (e3 i v q)⟩
theorem regs_set (r : Nat → Int) (j : Nat) (v : Int) (hj : j < 16) : (regs r).set j (.int .u64 v) = regs (updR r j v) := by
  apply List.ext_getElem?
  intro i
  rw [List.getElem?_set]
  by_cases e : j = i
  · subst e
    rw [if_pos rfl, if_pos (by rw [regs_len]; exact hj), regs_at _ j hj]
    unfold updR
    rw [if_pos rfl]
  · rw [if_neg e]
    by_cases hi : i < 16
    · rw [regs_at _ i hi, regs_at _ i hi]
      unfold updR
      rw [if_neg (fun q => e q.symm)]
    · rw [List.getElem?_eq_none (by rw [regs_len]; omega), List.getElem?_eq_none (by rw [regs_len]; omega)]
theorem at_regs {w : World} {k : Nat} {r : Nat → Int} (h : At w k (regs r).toArray) (j : Nat) (hj : j < 16) (v : Int) : At (w.setCell ⟨k, j, none⟩ (.int .u64 v)) k (regs (updR r j v)).toArray := by
  have q := h.set j (.int .u64 v) (by rw [List.size_toArray, regs_len]; exact hj)
  rw [← regs_set r j v hj]
  simpa using q
theorem regs_ones (r : Nat → Int) : (regs r).toArray.all (fun x => x.oneCell') = true := by
  rw [Array.all_eq_true_iff_forall_mem]
  intro u hu
  simp only [List.mem_toArray] at hu
  exact regs_one r u hu
theorem at_range {w : World} {k : Nat} {cs : List Value} (h : At w k cs.toArray) : w.rangeAt k 0 cs := fun j v q => by
  rw [Nat.zero_add]
  exact (h.2.1 j).trans (by simpa using q)
theorem at_regs3 {w : World} {k : Nat} {g p d : Int} {r : Nat → Int} (h : At w k (snV g p d r).toArray) : w.rangeAt k 3 (regs r) := fun j v q => by
  rw [h.2.1, List.getElem?_toArray, show 3 + j = j + 3 by omega]
  exact q
theorem at_gregs3 {w : World} {k : Nat} {g : Fg} (h : At w k g.vals.toArray) : w.rangeAt k 3 (regs g.r) := fun j v q => by
  rw [h.2.1, List.getElem?_toArray, show 3 + j = j + 3 by omega]
  exact q
/-- A box beside a machine, laid out of an answer of many cells. -/
theorem MIn.layC {B : Nat} {W : World} {a : Nat} {P : Pr} {s : Fm} {l : List Ob} (h : MIn B W a P s l) (cs vs : List Value) (ty : TypeId) (hl : vs.length = cs.length) :
    MIn B ((W.alloc (.cells cs.toArray ty)).setCells W.heap.size 0 vs) a P s (boxOb W.heap.size vs.toArray :: l) ∧ Below B W ((W.alloc (.cells cs.toArray ty)).setCells W.heap.size 0 vs) ∧ (W.alloc (.cells cs.toArray ty)).there W.heap.size 0 vs.length ∧ Below W.heap.size W ((W.alloc (.cells cs.toArray ty)).setCells W.heap.size 0 vs) := by
  obtain ⟨h2, b2⟩ := h.new cs.toArray ty
  have hA := At.new W cs.toArray ty
  have hA9 := At.setAll hA vs hl
  obtain ⟨h3, b3⟩ := h2.side (o' := boxOb W.heap.size vs.toArray) hA9 (kp_setsZ _ W.heap.size vs 0) (fun _ r => .inl r)
  have k1 := kp_setsZ (W.alloc (.cells cs.toArray ty)) W.heap.size vs 0
  have b4 : Below W.heap.size W (W.alloc (.cells cs.toArray ty)) := (Below.refl _ W).alloc (Nat.le_refl _) _
  exact ⟨h3, b2.trans b3, hA.there 0 vs.length (by omega), b4.trans ⟨k1.os, k1.tape, k1.output, k1.size, fun b hb => k1.block b (Nat.lt_of_lt_of_le hb b4.size) (by omega)⟩⟩
/-- A box is stored into as a whole. -/
theorem MIn.into {B : Nat} {W : World} {a : Nat} {P : Pr} {s : Fm} (l1 l2 : List Ob) {k : Nat} {cs : List Value} (h : MIn B W a P s (l1 ++ boxOb k cs.toArray :: l2)) (vs : List Value) (hl : vs.length = cs.length) : MIn B (W.setCells k 0 vs) a P s (l1 ++ boxOb k vs.toArray :: l2) ∧ Below B W (W.setCells k 0 vs) ∧ W.there k 0 vs.length := by
  have hA : At W k cs.toArray := h.there (boxOb k cs.toArray) (by simp)
  obtain ⟨h3, b3⟩ := h.sideL l1 l2 (o' := boxOb k vs.toArray) (At.setAll hA vs hl) (kp_setsZ _ k vs 0) (fun _ r => .inl r)
  exact ⟨h3, b3, hA.there 0 vs.length (by omega)⟩
/-- A register in a box is stored. -/
theorem MIn.intoR {B : Nat} {W : World} {a : Nat} {P : Pr} {s : Fm} (l1 l2 : List Ob) {k : Nat} {r : Nat → Int} (h : MIn B W a P s (l1 ++ boxOb k (regs r).toArray :: l2)) (j : Nat) (hj : j < 16) (v : Int) : MIn B (W.setCell ⟨k, j, none⟩ (.int .u64 v)) a P s (l1 ++ boxOb k (regs (updR r j v)).toArray :: l2) ∧ Below B W (W.setCell ⟨k, j, none⟩ (.int .u64 v)) ∧ W.cell? ⟨k, j, none⟩ = some (.int .u64 (r j)) ∧ W.frozen? ⟨k, j, none⟩ = false := by
  have hA : At W k (regs r).toArray := h.there (boxOb k (regs r).toArray) (by simp)
  obtain ⟨h3, b3⟩ := h.sideL l1 l2 (o' := boxOb k (regs (updR r j v)).toArray) (at_regs hA j hj v) (Kp.set (S := fun b => b = k) W ⟨k, j, none⟩ _ rfl) (fun _ r => .inl r)
  exact ⟨h3, b3, (hA.2.1 j).trans (by rw [List.getElem?_toArray]; exact regs_at r j hj), hA.2.2 j⟩
/-- A snap more on the stack. -/
theorem MIn.pushK {B : Nat} {W W' : World} {a : Nat} {P : Pr} {s : Fm} (l1 : List Ob) {v : Value} {K : List Sk} (k : Sk) (h : MIn B W a P s (l1 ++ [stkOb B v K])) {g cap : Nat} (hown : W'.ownsRow B 34 19 (.slice (some ⟨g, 0, none⟩) (K.length + 1) cap) (K.length + 1) (K.flatMap Sk.vals ++ k.vals)) (gr : W.grownBy W' v.ownBlock) (hg : v.ownBlock = some g ∨ g = W.heap.size) :
    MIn B W' a P s (l1 ++ [stkOb B (.slice (some ⟨g, 0, none⟩) (K.length + 1) cap) (K ++ [k])]) ∧ Below B W W' := by
  refine h.sideL l1 [] (o' := stkOb B (.slice (some ⟨g, 0, none⟩) (K.length + 1) cap) (K ++ [k])) ?_ (kp_grown gr) (fun b r => ?_)
  · show W'.ownsRow B _ 19 _ (K ++ [k]).length ((K ++ [k]).flatMap Sk.vals)
    rw [List.length_append, List.flatMap_append]
    simpa using hown
  · have e : g = b := by simpa [stkOb, rowOb, Value.ownBlock] using r
    rcases hg with u | u
    · exact .inl (e ▸ u)
    · exact .inr (by omega)
/-- The top of the stack, and the stack without it. -/
theorem MIn.topK {B : Nat} {W : World} {a : Nat} {P : Pr} {s : Fm} (l1 : List Ob) {va : Option Addr} {vc : Nat} {K : List Sk} {k : Sk} (h : MIn B W a P s (l1 ++ [stkOb B (.slice va (K ++ [k]).length vc) (K ++ [k])])) :
    ∃ g, va = some ⟨g, 0, none⟩ ∧ W.rangeAt g (K.length * 19) k.vals ∧ K.length ≤ vc ∧ MIn B W a P s (l1 ++ [stkOb B (.slice va K.length vc) K]) := by
  have hO : W.ownsRow B 34 19 (.slice va (K ++ [k]).length vc) (K ++ [k]).length ((K ++ [k]).flatMap Sk.vals) := h.there (stkOb B (.slice va (K ++ [k]).length vc) (K ++ [k])) (by simp)
  obtain ⟨g, cap, e, hg, hc⟩ := own_at hO (by simp)
  injection e with e1 e2 e3
  subst e1
  have hpop := own_pop (n := K.length) (ys := K.flatMap Sk.vals) (a := some ⟨g, 0, none⟩) (c := vc) (by rw [List.length_append] at hO; exact hO) (by rfl) (by rw [List.flatMap_append, List.take_append_of_le_length (by rw [sks_len]; exact Nat.le_refl _), List.take_of_length_le (by rw [sks_len]; exact Nat.le_refl _)])
  refine ⟨g, rfl, fun j u q => ?_, ?_, ?_⟩
  · refine hc _ u ?_
    rw [List.flatMap_append, List.getElem?_append_right (by rw [sks_len]; omega), sks_len, show K.length * 19 + j - K.length * 19 = j by omega]
    simpa using q
  · rcases hpop.2 with ⟨_, hz⟩ | ⟨g2, cap2, cur, e4, _, _, hle, _⟩
    · omega
    · injection e4 with _ _ e5
      omega
  · refine (h.sideL l1 [] (o' := stkOb B (.slice (some ⟨g, 0, none⟩) K.length vc) K) hpop (Kp.refl _ W) (fun b r => .inl r)).1
theorem build_sks (k : Sk) (W : World) : (Instr.buildSlice 30 1 #[(0, .agg (Sk.vals k).toArray)]).run Try.prog W = .ok (.slice (some ⟨W.heap.size, 0, none⟩) 1 1) (W.alloc (.cells (Sk.vals k).toArray 34)) := by kernel_rfl
theorem wp_build_sks {o : Oper} {a : Act} {K : Act → World → Prop} {Q : Exit → Act → World → Prop} {w : World} (x : Operand) (ho : o.op = .buildSlice 30 1 #[(0, x)]) (k : Sk) (hx : a.eval x = .agg (Sk.vals k).toArray)
    (h : K (a.put o.dst (.slice (some ⟨w.heap.size, 0, none⟩) 1 1)) (w.alloc (.cells (Sk.vals k).toArray 34))) : o.wp Try.prog a w K Q := by
  unfold Oper.wp execOp
  simp only [ho, List.map_toArray, List.map_cons, List.map_nil, hx, build_sks, Sem.run_bind, Sem.run_pure, Result.andThen_ok]
  exact h
theorem sk_one (k : Sk) : ∀ u ∈ k.vals, u.oneCell' = true := fun u hu => by
  have := snV_one k.g k.p k.d k.r
  rw [Array.all_eq_true_iff_forall_mem] at this
  exact this u (List.mem_toArray.2 hu)
end Z
end Go.Proofs.Ytlmgnfoopimmlaa
