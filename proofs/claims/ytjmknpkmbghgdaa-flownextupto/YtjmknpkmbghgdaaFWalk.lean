/-
  Stage 8, flow: the walk of comeTo, in memory.
-/
import Derived.Test.YtjmknpkmbghgdaaFMath
import Derived.Deep.AppendLies
namespace Go.Proofs.Ytjmknpkmbghgdaa
namespace F
open Go.RowKit
open T

theorem addr_add (b off k : Nat) : (⟨b, off, none⟩ : Addr).add k = ⟨b, off + k, none⟩ := by by_cases h : k = 0 <;> simp [Addr.add, h]
/-- A row of numbers that the call owns. -/
def IOwn (w : World) (base : Nat) (v : Value) (L : List Int) : Prop := w.ownsRow base 3 1 v L.length (L.map (Value.int .i64))
/-- One number appended to a row that is owned. -/
theorem wpList_append_int {ops : Array Oper} {rest : List Oper} {o : Oper} {a : Act} {Q : Exit → Act → World → Prop} {w : World} (hgd : o.guard = none) (s x : Operand)
    (ho : o.op = .call { callee := .builtin .append, args := #[s, x], argTypes := #[23, 23] })
    (base : Nat) (v : Value) (L : List Int) (y : Int) (hs : a.eval s = v) (hL : IOwn w base v L)
    (X : Nat) (hx : a.eval x = .slice (some ⟨X, 0, none⟩) 1 1) (hX : At w X #[.int .i64 y]) (hlen : L.length ≤ 8000000) (hbase : base ≤ w.heap.size)
    (h : ∀ g cap w', IOwn w' base (.slice (some ⟨g, 0, none⟩) (L.length + 1) cap) (L ++ [y]) → w.grownBy w' v.ownBlock → (v.ownBlock = some g ∨ g = w.heap.size) → g < w'.heap.size → wpList Try.prog ops Q rest (a.put o.dst (.slice (some ⟨g, 0, none⟩) (L.length + 1) cap)) w') :
    wpList Try.prog ops Q (o :: rest) a w := by
  obtain ⟨i0, hi, hz0, hz1, hz2⟩ := info_parts' (t := 3) (z := .int .i64 0) (s := 1) (b := 8) (by kernel_rfl)
  have hn : ∀ j u, [Value.int .i64 y][j]? = some u → w.cell? ((⟨X, 0, none⟩ : Addr).add j) = some u := by
    intro j u hj
    rw [addr_add, hX.2.1]
    simpa using hj
  refine wpList_append_lies _ hgd s x 23 ho base 3 i0 (.int .i64 0) 1 8 Try.underlying23 hi hz0 hz1 hz2 rfl (by decide) v L.length (L.map (Value.int .i64)) hs hL ⟨X, 0, none⟩ 1 1 [.int .i64 y] hx rfl hn (by simp [Value.oneCell']) (by decide) (by unfold maxLen; omega) (by omega) hbase _ rfl ?_
  intro g cap w' h1 h2 h3 h4
  exact h g cap w' (by unfold IOwn; rw [List.length_append, List.map_append]; exact h1) h2 h3 h4
/-- Where what the walk knows lies. -/
structure CP where
  lo : Nat
  bw : Nat
  bs : Nat
  bc : Nat
  bk : Nat
  X : Nat
  cc : Nat
  ca : Option Addr
def bp (k : Nat) : Value := .pointer (some ⟨k, 0, none⟩)
def CP.fv (p : CP) : Value := .func (.func 47) #[] #[.pointer (some ⟨p.bw, 0, none⟩), .pointer (some ⟨p.bs, 0, none⟩), .pointer (some ⟨p.bc, 0, none⟩), .pointer (some ⟨p.bk, 0, none⟩)]
structure CS (p : CP) (L : List Ins) (w : World) (v : Value) (s : Nat → Bool) (W : List Int) : Prop where
  iw : At w p.bw #[v]
  row : IOwn w p.lo v W
  is_ : At w p.bs #[.slice (some ⟨p.X, 0, none⟩) ((L.length + 63) / 64) ((L.length + 63) / 64), .int .i64 L.length]
  ic : At w p.bc #[.slice p.ca L.length p.cc]
  ik : At w p.bk #[p.fv]
  st : SIn w p.X L.length s
  co : LIn p.lo w p.ca L
  ne : p.bw ≠ p.bs ∧ p.bw ≠ p.bc ∧ p.bw ≠ p.bk ∧ p.bw ≠ p.X ∧ p.X ≠ p.bs ∧ p.X ≠ p.bc ∧ p.X ≠ p.bk
  nv : ∀ g, v.ownBlock = some g → g ≠ p.bw ∧ g ≠ p.bs ∧ g ≠ p.bc ∧ g ≠ p.bk ∧ g ≠ p.X
  lo : p.lo ≤ p.X ∧ p.lo ≤ p.bw ∧ p.lo ≤ w.heap.size
theorem at_kp {S : Nat → Prop} {w w1 : World} {k : Nat} {cs : Array Value} (h : At w k cs) (hb : Kp S w w1) (hk : ¬ S k) : At w1 k cs :=
  ⟨Nat.lt_of_lt_of_le h.1 hb.size, fun o => (cell_of_block (hb.block k h.1 hk) o).trans (h.2.1 o), fun o => (frozen_of_block (hb.block k h.1 hk) o).trans (h.2.2 o)⟩
theorem own_kp {S : Nat → Prop} {w w1 : World} {base e size n : Nat} {v : Value} {xs : List Value} (h : w.ownsRow base e size v n xs) (hb : Kp S w w1) (hk : ∀ g, v.ownBlock = some g → ¬ S g) : w1.ownsRow base e size v n xs := by
  refine ⟨h.1, ?_⟩
  rcases h.2 with h2 | ⟨g, cap, cur, hv, hbg, hg, rest⟩
  · exact .inl h2
  · have hlt : g < w.heap.size := (Array.getElem?_eq_some_iff.1 hg).1
    exact .inr ⟨g, cap, cur, hv, hbg, (hb.block g hlt (hk g (by rw [hv]; rfl))).trans hg, rest⟩
theorem sin_kp {S : Nat → Prop} {w w1 : World} {X room : Nat} {s : Nat → Bool} (h : SIn w X room s) (hb : Kp S w w1) (hk : ¬ S X) : SIn w1 X room s := by
  obtain ⟨W, h1, h2, h3, h4⟩ := h
  exact ⟨W, h1, at_kp h2 hb hk, h3, h4⟩
theorem CS.below {p : CP} {L : List Ins} {w w1 : World} {v : Value} {s : Nat → Bool} {W : List Int} (h : CS p L w v s W) (hb : Below w.heap.size w w1) : CS p L w1 v s W :=
  ⟨at_below h.iw hb h.iw.1, own_below h.row hb, at_below h.is_ hb h.is_.1, at_below h.ic hb h.ic.1, at_below h.ik hb h.ik.1, h.st.below hb h.st.lt, h.co.below (hb.mono h.lo.2.2), h.ne, h.nv, h.lo.1, h.lo.2.1, Nat.le_trans h.lo.2.2 hb.size⟩
theorem CS.same {p : CP} {L : List Ins} {w : World} {v : Value} {s s' : Nat → Bool} {W : List Int} (h : CS p L w v s W) (e : ∀ q, q < L.length → s q = s' q) : CS p L w v s' W :=
  ⟨h.iw, h.row, h.is_, h.ic, h.ik, h.st.same (fun n hn => (e n hn).symm), h.co, h.ne, h.nv, h.lo⟩
/-- The set has changed. -/
theorem CS.sets {p : CP} {L : List Ins} {w w1 : World} {v : Value} {s s1 : Nat → Bool} {W : List Int} (h : CS p L w v s W) (hs : SIn w1 p.X L.length s1) (hb : Kp (fun k => k = p.X) w w1) : CS p L w1 v s1 W ∧ Below p.lo w w1 := by
  have hB : Below p.lo w w1 := hb.below h.lo.2.2 (fun k q => by have := h.lo.1; omega)
  obtain ⟨n1, n2, n3, n4, n5, n6, n7⟩ := h.ne
  exact ⟨⟨at_kp h.iw hb n4, own_kp h.row hb (fun g q => (h.nv g q).2.2.2.2), at_kp h.is_ hb (fun q => n5 q.symm), at_kp h.ic hb (fun q => n6 q.symm), at_kp h.ik hb (fun q => n7 q.symm), hs, h.co.below hB, h.ne, h.nv, h.lo.1, h.lo.2.1, Nat.le_trans h.lo.2.2 hb.size⟩, hB⟩
/-- One more waits. -/
theorem CS.push {p : CP} {L : List Ins} {w w1 w2 : World} {v : Value} {s : Nat → Bool} {W : List Int} {g cap : Nat} {y : Int} (h : CS p L w v s W) (h1 : Below w.heap.size w w1)
    (ho : IOwn w2 p.lo (.slice (some ⟨g, 0, none⟩) (W.length + 1) cap) (W ++ [y])) (hg : w1.grownBy w2 v.ownBlock) (hgg : v.ownBlock = some g ∨ g = w1.heap.size) :
    CS p L (w2.setCell ⟨p.bw, 0, none⟩ (.slice (some ⟨g, 0, none⟩) (W.length + 1) cap)) (.slice (some ⟨g, 0, none⟩) (W.length + 1) cap) s (W ++ [y]) ∧ Below p.lo w (w2.setCell ⟨p.bw, 0, none⟩ (.slice (some ⟨g, 0, none⟩) (W.length + 1) cap)) := by
  have q := h.below h1
  have hk : Kp (fun k => v.ownBlock = some k) w1 w2 := ⟨hg.os, hg.tape, hg.output, hg.size, fun k hk hn => hg.block k hk (fun e => hn e.symm)⟩
  obtain ⟨n1, n2, n3, n4, n5, n6, n7⟩ := h.ne
  have hgn : g ≠ p.bw ∧ g ≠ p.bs ∧ g ≠ p.bc ∧ g ≠ p.bk ∧ g ≠ p.X := by
    rcases hgg with r | r
    · exact h.nv g r
    · have a1 := q.iw.1
      have a2 := q.is_.1
      have a3 := q.ic.1
      have a4 := q.ik.1
      have a5 := q.st.lt
      refine ⟨?_, ?_, ?_, ?_, ?_⟩ <;> omega
  have iw := at_kp q.iw hk (fun r => (h.nv _ r).1 rfl)
  have hs : Kp (fun k => k = p.bw) w2 (w2.setCell ⟨p.bw, 0, none⟩ (.slice (some ⟨g, 0, none⟩) (W.length + 1) cap)) := Kp.set (S := fun k => k = p.bw) w2 _ _ rfl
  have hB : Below p.lo w2 (w2.setCell ⟨p.bw, 0, none⟩ (.slice (some ⟨g, 0, none⟩) (W.length + 1) cap)) := (Below.refl _ _).setCell h.lo.2.1 _
  have hB1 : Below p.lo w1 w2 := Below.of_grown hg q.lo.2.2 (fun k r => by
    rcases h.row.2 with ⟨rfl, _⟩ | ⟨g', cap', cur, rfl, hbg, hh, rest⟩
    · cases r
    · have : g' = k := by simpa [Value.ownBlock] using r
      omega)
  refine ⟨⟨?_, ?_, at_kp (at_kp q.is_ hk (fun r => (h.nv _ r).2.1 rfl)) hs (fun r => n1 r.symm), at_kp (at_kp q.ic hk (fun r => (h.nv _ r).2.2.1 rfl)) hs (fun r => n2 r.symm), at_kp (at_kp q.ik hk (fun r => (h.nv _ r).2.2.2.1 rfl)) hs (fun r => n3 r.symm), sin_kp (sin_kp q.st hk (fun r => (h.nv _ r).2.2.2.2 rfl)) hs (fun r => n4 r.symm), (q.co.below hB1).below hB, h.ne, ?_, h.lo.1, h.lo.2.1, ?_⟩, ((h1.mono h.lo.2.2).trans hB1).trans hB⟩
  · have := iw.set 0 (.slice (some ⟨g, 0, none⟩) (W.length + 1) cap) (by simp)
    simpa using this
  · have e : (W ++ [y]).length = W.length + 1 := by simp
    unfold IOwn at *
    exact own_kp ho hs (fun k r => by
      have : g = k := by simpa [Value.ownBlock] using r
      rw [← this]; exact hgn.1)
  · intro k r
    have : g = k := by simpa [Value.ownBlock] using r
    rw [← this]; exact hgn
  · have := hg.size
    have := q.lo.2.2
    simp
    omega
/-- The set that lies in memory. -/
def setOf (w : World) (X : Nat) : Nat → Bool := fun n => match w.cell? ⟨X, n / 64, none⟩ with | some (.int _ v) => Nat.testBit v.toNat (n % 64) | _ => false
theorem setOf_eq {w : World} {X room : Nat} {s : Nat → Bool} (h : SIn w X room s) : ∀ n, n < room → setOf w X n = s n := fun n hn => by
  obtain ⟨x, x1, x2, x3⟩ := h.word hn
  rw [x3]
  simp [setOf, x2]
theorem cnt_set {w : World} {X room : Nat} {s : Nat → Bool} (h : SIn w X room s) : cnt room (setOf w X) = cnt room s := cnt_congr room (setOf_eq h)
end F
end Go.Proofs.Ytjmknpkmbghgdaa
