import Derived.Test.YtimiofkiadlnbaaP34
import Derived.Test.YtimiofkiadlnbaaZReady
import Derived.Test.YtimiofkiadlnbaaP35
/-
  Stage 13, fastvm: touches that are the same.
-/
namespace Go.Proofs.Ytimiofkiadlnbaa
namespace Z
open Go.RowKit
open T (Sep Ob Kp Mf FlIn boxOb)

theorem eat3 {w W : World} {a : Option Addr} {L : List Tc} (h : T.EIn 3 Tc.vals w a L) (g : Gr w W) (j : Nat) (hj : j < L.length) : ∃ b off : Nat, a = some ⟨b, off, none⟩ ∧ b < W.heap.size ∧ W.rangeAt b (off + j * 3) L[j].vals := by
  obtain ⟨b, off, e1, e2, e3⟩ := h j hj
  exact ⟨b, off, e1, Nat.lt_of_lt_of_le e2 g.below.size, fun i v q => (T.cell_of_block (g.below.block b e2) _).trans (e3 i v q)⟩
end Z
end Go.Proofs.Ytimiofkiadlnbaa


/-
  Stage 13, fastvm: a program that is lent: rows made one by one.
-/
namespace Go.Proofs.Ytimiofkiadlnbaa
namespace Z
open Go.RowKit
open T (Sep Ob Kp Mf FlIn boxOb)

/-- Rows that are lent, up to the k-th; the outer row has eight places more. -/
structure Lnt (W1 wr : World) (g : Nat) (C : List (List Ri)) (k : Nat) (V : Nat → Value) : Prop where
  row : FRow wr g (C.length + 8) V
  done : ∀ j (_ : j < k) (h2 : j < C.length), ∃ gk, V j = .slice (some ⟨gk, 0, none⟩) C[j].length (C[j].length + 8) ∧ W1.heap.size ≤ gk ∧ gk ≠ g ∧ gk < wr.heap.size ∧ T.EIn 5 Ri.vals wr (some ⟨gk, 0, none⟩) C[j]
  bel : Below W1.heap.size W1 wr
  new : W1.heap.size ≤ g
/-- What only makes new blocks, or writes into blocks that are none of these, leaves it. -/
theorem Lnt.keep {W1 wr W : World} {g k : Nat} {C : List (List Ri)} {V : Nat → Value} {S : Nat → Prop} (h : Lnt W1 wr g C k V) (q : Kp S wr W) (hg : ¬ S g) (hS : ∀ b, S b → W1.heap.size ≤ b) (hr : ∀ j (_ : j < k) (h2 : j < C.length), ∀ gk, V j = .slice (some ⟨gk, 0, none⟩) C[j].length (C[j].length + 8) → ¬ S gk) : Lnt W1 W g C k V := by
  refine ⟨⟨Nat.lt_of_lt_of_le h.row.lt q.size, fun j hj => (T.cell_of_block (q.block g h.row.lt hg) j).trans (h.row.at_ j hj), fun j => (T.frozen_of_block (q.block g h.row.lt hg) j).trans (h.row.fr j)⟩, fun j hj h2 => ?_, ?_, h.new⟩
  · obtain ⟨gk, e1, e2, e3, e4, e5⟩ := h.done j hj h2
    refine ⟨gk, e1, e2, e3, Nat.lt_of_lt_of_le e4 q.size, fun i hi => ?_⟩
    obtain ⟨b, off, f1, f2, f3⟩ := e5 i hi
    injection f1 with f1
    injection f1 with f1 f4
    subst f1 f4
    exact ⟨gk, 0, rfl, Nat.lt_of_lt_of_le f2 q.size, fun m v r => (T.cell_of_block (q.block gk e4 (hr j hj h2 gk e1)) _).trans (f3 m v r)⟩
  · refine h.bel.trans ⟨q.os, q.tape, q.output, q.size, fun b hb => ?_⟩
    exact q.block b (Nat.lt_of_lt_of_le hb h.bel.size) (fun r => by have := hS b r; omega)
/-- One row more is laid in. -/
theorem Lnt.lay {W1 wr : World} {g k gk : Nat} {C : List (List Ri)} {V : Nat → Value} (h : Lnt W1 wr g C k V) (hk : k < C.length) (h1 : W1.heap.size ≤ gk) (h2 : gk ≠ g) (h3 : gk < wr.heap.size) (h4 : T.EIn 5 Ri.vals wr (some ⟨gk, 0, none⟩) C[k]) : Lnt W1 (wr.setCell ⟨g, k, none⟩ (.slice (some ⟨gk, 0, none⟩) C[k].length (C[k].length + 8))) g C (k + 1) (updF V k (.slice (some ⟨gk, 0, none⟩) C[k].length (C[k].length + 8))) := by
  have hset : ∀ b : Nat, b ≠ g → ∀ (L : List Ri), T.EIn 5 Ri.vals wr (some ⟨b, 0, none⟩) L → T.EIn 5 Ri.vals (wr.setCell ⟨g, k, none⟩ (.slice (some ⟨gk, 0, none⟩) C[k].length (C[k].length + 8))) (some ⟨b, 0, none⟩) L := fun b hb L hL i hi => by
    obtain ⟨b2, off, f1, f2, f3⟩ := hL i hi
    injection f1 with f1
    injection f1 with f1 f4
    subst f1 f4
    exact ⟨b, 0, rfl, by simpa using f2, fun m v r => by rw [T.cso (fun e => absurd e.symm hb)]; exact f3 m v r⟩
  have hkp : Kp (fun b => b = g) wr (wr.setCell ⟨g, k, none⟩ (.slice (some ⟨gk, 0, none⟩) C[k].length (C[k].length + 8))) := Kp.set (S := fun b => b = g) wr ⟨g, k, none⟩ _ rfl
  refine ⟨h.row.set k _ (by omega), fun j hj q2 => ?_, h.bel.trans ⟨hkp.os, hkp.tape, hkp.output, hkp.size, fun b hb => hkp.block b (Nat.lt_of_lt_of_le hb h.bel.size) (fun e => by have := h.new; omega)⟩, h.new⟩
  by_cases e : j = k
  · subst e
    exact ⟨gk, by unfold updF; rw [if_pos rfl], h1, h2, by simpa using h3, hset gk h2 _ h4⟩
  · obtain ⟨gj, e1, e2, e3, e4, e5⟩ := h.done j (by omega) q2
    exact ⟨gj, by unfold updF; rw [if_neg e]; exact e1, e2, e3, by simpa using e4, hset gj e3 _ e5⟩
/-- All rows are lent: the program's code as it is handed on. -/
theorem Lnt.code {W1 wr : World} {g : Nat} {C : List (List Ri)} {V : Nat → Value} (h : Lnt W1 wr g C C.length V) : ∀ k (hk : k < C.length), ∃ (b off : Nat) (ra : Option Addr) (rc : Nat), (some (⟨g, 0, none⟩ : Addr)) = some ⟨b, off, none⟩ ∧ b < wr.heap.size ∧ wr.cell? ⟨b, off + k, none⟩ = some (.slice ra C[k].length rc) ∧ T.EIn 5 Ri.vals wr ra C[k] := fun k hk => by
  obtain ⟨gk, e1, _, _, _, e5⟩ := h.done k hk hk
  refine ⟨g, 0, some ⟨gk, 0, none⟩, C[k].length + 8, rfl, h.row.lt, ?_, e5⟩
  rw [Nat.zero_add, ← e1]
  exact h.row.at_ k (by omega)
end Z
end Go.Proofs.Ytimiofkiadlnbaa
