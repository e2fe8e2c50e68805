import Derived.Test.YthblllanofnmmaaP30
/-
  Books of lists that came out: the book.
-/
namespace Go.Proofs.Ythblllanofnmmaa
namespace U
open Go.RowKit
open B

/-- A list of marks. -/
def MkL (lo i : Nat) (w : World) (v : Value) : Prop := ∃ n, n ≤ 1048640 ∧ w.ownsRow lo 42 (mkI i).length v n (mks (mkI i) n)
theorem MkL.below {lo i : Nat} {w w' : World} {v : Value} (h : MkL lo i w v) (g : Below w.heap.size w w') : MkL lo i w' v := by
  obtain ⟨n, h1, h2⟩ := h
  exact ⟨n, h1, own_below h2 g⟩
theorem MkL.form {lo i : Nat} {w : World} {v : Value} (h : MkL lo i w v) : ∃ a n c, v = .slice a n c ∧ n ≤ 1048640 ∧ ∀ q, q < n → ∃ g, a = some ⟨g, 0, none⟩ ∧ w.cell? ⟨g, q, none⟩ = some (.int .u64 (mkN i)) := by
  obtain ⟨n, h1, h2⟩ := h
  rcases h2.2 with ⟨rfl, rfl⟩ | ⟨g, cap, cur, rfl, _⟩
  · exact ⟨none, 0, 0, rfl, h1, fun q hq => absurd hq (Nat.not_lt_zero q)⟩
  · refine ⟨some ⟨g, 0, none⟩, n, cap, rfl, h1, fun q hq => ⟨g, rfl, ?_⟩⟩
    have hu := own_marks h2 q hq 0 (Nat.succ_pos 0)
    rw [show q * (mkI i).length + 0 = q from Nat.mul_one q] at hu
    exact hu
theorem gr_cell {w W : World} {b o : Nat} {v : Value} (G : Gr w W) (h : w.cell? ⟨b, o, none⟩ = some v) : W.cell? ⟨b, o, none⟩ = some v := (cell_blk (G.below.block b (World.block_lt_of_cell? w _ h)) o).trans h
theorem gr_range {w W : World} {b o : Nat} {cs : List Value} (G : Gr w W) (h : w.rangeAt b o cs) : W.rangeAt b o cs := fun j v q => gr_cell G (h j v q)
theorem nx_w2 {i n : Nat} (hi : i < n) (h : n ≤ 1048640) : wrap64 ((i : Int) + 1) = ((i + 1 : Nat) : Int) := by unfold wrap64; omega
/-- The book. -/
structure Bk (lo kb K : Nat) (w : World) (ov_ : Value) (rows : List Value) : Prop where
  box : At w kb #[ov_]
  own : w.ownsRow lo 82 1 ov_ K rows
  row : ∀ i, i < K → ∃ M v0 v1 v2 v3, rows[i]? = some (.slice (some ⟨M, 0, none⟩) 4 4) ∧ At w M #[v0, v1, v2, v3] ∧ MkL lo i w v0 ∧ MkL lo i w v1 ∧ MkL lo i w v2 ∧ MkL lo i w v3
theorem Bk.gr {lo kb K : Nat} {w w' : World} {ov_ : Value} {rows : List Value} (h : Bk lo kb K w ov_ rows) (g : Gr w w') : Bk lo kb K w' ov_ rows := by
  refine ⟨h.box.gr g, own_below h.own g.below, fun i hi => ?_⟩
  obtain ⟨M, v0, v1, v2, v3, q, hA, m0, m1, m2, m3⟩ := h.row i hi
  exact ⟨M, v0, v1, v2, v3, q, hA.gr g, m0.below g.below, m1.below g.below, m2.below g.below, m3.below g.below⟩
theorem Bk.slice {lo kb K : Nat} {w : World} {ov_ : Value} {rows : List Value} (h : Bk lo kb K w ov_ rows) : ∃ a c, ov_ = .slice a K c ∧ ∀ i, i < K → ∃ g M, a = some ⟨g, 0, none⟩ ∧ w.cell? ⟨g, i, none⟩ = some (.slice (some ⟨M, 0, none⟩) 4 4) ∧ ∀ k, k < 4 → ∃ v, w.cell? ⟨M, k, none⟩ = some v ∧ MkL lo i w v := by
  rcases h.own.2 with ⟨rfl, rfl⟩ | ⟨g, cap, cur, rfl, _⟩
  · exact ⟨none, 0, rfl, fun q hq => absurd hq (Nat.not_lt_zero q)⟩
  · refine ⟨some ⟨g, 0, none⟩, cap, rfl, fun i hi => ?_⟩
    obtain ⟨M, v0, v1, v2, v3, q, hA, m0, m1, m2, m3⟩ := h.row i hi
    refine ⟨g, M, rfl, row_cell h.own i _ q, fun k hk => ?_⟩
    match k, hk with
    | 0, _ => exact ⟨v0, hA.2.1 0, m0⟩
    | 1, _ => exact ⟨v1, hA.2.1 1, m1⟩
    | 2, _ => exact ⟨v2, hA.2.1 2, m2⟩
    | 3, _ => exact ⟨v3, hA.2.1 3, m3⟩
end U
end Go.Proofs.Ythblllanofnmmaa
