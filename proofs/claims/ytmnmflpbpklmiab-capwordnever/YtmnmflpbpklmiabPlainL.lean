/-
  Stage 1, capword: a list of capabilities that the call owns. No Go in sight.
-/
import Derived.Test.YtmnmflpbpklmiabPlainE
import Derived.Deep.AppendLies
namespace Go.Proofs.Ytmnmflpbpklmiab
open Go.RowKit

/-- A capability's five numbers. -/
structure Kap where
  b : Int
  e : Int
  c : Int
  p : Int
  s : Int
def Kap.vals (k : Kap) : List Value := [.int .u64 k.b, .int .u64 k.e, .int .u64 k.c, .int .u8 k.p, .int .i64 k.s]
def flat (L : List Kap) : List Value := L.flatMap Kap.vals
theorem flat_snoc (L : List Kap) (k : Kap) : flat (L ++ [k]) = flat L ++ k.vals := by simp [flat]
theorem flat_length (L : List Kap) : (flat L).length = L.length * 5 := by
  induction L with
  | nil => rfl
  | cons a l ih => simp only [flat, List.flatMap_cons, List.length_append] at ih ⊢; rw [ih]; simp [Kap.vals]; omega
theorem flat_get (L : List Kap) (i j : Nat) (hi : i < L.length) (hj : j < 5) : (flat L)[i * 5 + j]? = (L[i]).vals[j]? := by
  induction L generalizing i with
  | nil => simp at hi
  | cons a l ih =>
    have e : flat (a :: l) = a.vals ++ flat l := by simp [flat]
    rw [e]
    cases i with
    | zero => rw [List.getElem?_append_left (by simp [Kap.vals]; omega)]; simp
    | succ i =>
      rw [List.getElem?_append_right (by simp [Kap.vals]; omega)]
      have : (i + 1) * 5 + j - a.vals.length = i * 5 + j := by simp [Kap.vals]; omega
      rw [this, ih i (by simpa using hi)]
      simp

/-- The slice at block 'g' owns these capabilities. -/
def LAt (w : World) (base g cap : Nat) (L : List Kap) : Prop := w.ownsRow base 25 5 (.slice (some ⟨g, 0, none⟩) L.length cap) L.length (flat L)

theorem LAt.one (w : World) (base : Nat) (k : Kap) (hb : base ≤ w.heap.size) : LAt (w.alloc (.cells k.vals.toArray 25)) base w.heap.size 1 [k] :=
  ⟨by simp [flat, Kap.vals], .inr ⟨w.heap.size, 1, k.vals.toArray, rfl, hb, (MapKept.heap_alloc w _).1, by simp, by simp [maxLen], by simp [Kap.vals], by simp [flat, Kap.vals]⟩⟩
theorem LAt.lt {w : World} {base g cap : Nat} {L : List Kap} (h : LAt w base g cap L) : base ≤ g ∧ g < w.heap.size := World.ownsRow.lt h g rfl
theorem LAt.below {w w1 : World} {base g cap : Nat} {L : List Kap} (h : LAt w base g cap L) (hb : Below w.heap.size w w1) : LAt w1 base g cap L := by
  have hlt := h.lt
  refine ⟨h.1, ?_⟩
  rcases h.2 with ⟨h1, _⟩ | ⟨g', cap', cur, hv, hbg, hg, rest⟩
  · simp at h1
  · obtain ⟨rfl, rfl⟩ : g' = g ∧ cap' = cap := by simp at hv; exact ⟨hv.1.symm, hv.2.symm⟩
    exact .inr ⟨g', cap', cur, rfl, hbg, (hb.block g' hlt.2).trans hg, rest⟩
theorem LAt.alloc {w : World} {base g cap : Nat} {L : List Kap} (h : LAt w base g cap L) (o : Obj) : LAt (w.alloc o) base g cap L := h.below (below_one w o)
theorem LAt.drew {w : World} {base g cap : Nat} {L : List Kap} (h : LAt w base g cap L) : LAt w.drew base g cap L := h
theorem LAt.cell {w : World} {base g cap : Nat} {L : List Kap} (h : LAt w base g cap L) (i j : Nat) (hi : i < L.length) (hj : j < 5) : w.cell? ⟨g, i * 5 + j, none⟩ = (L[i]).vals[j]? := by
  have hc := World.ownsRow.cells h (g := g) rfl (i * 5 + j) ((L[i]).vals[j]'(by simpa [Kap.vals] using hj)) (by rw [flat_get L i j hi hj]; simp)
  have ea : (⟨g, 0, none⟩ : Addr).add (i * 5 + j) = ⟨g, i * 5 + j, none⟩ := by generalize i * 5 + j = m; by_cases h0 : m = 0 <;> simp [Addr.add, h0]
  rw [ea] at hc
  rw [hc]; simp
theorem LAt.five {w : World} {base g cap : Nat} {L : List Kap} (h : LAt w base g cap L) (i : Nat) (hi : i < L.length) {k : Kap} (hk : L[i] = k) :
    w.cell? ⟨g, i * 5, none⟩ = some (.int .u64 k.b) ∧ w.cell? ⟨g, i * 5 + 1, none⟩ = some (.int .u64 k.e) ∧ w.cell? ⟨g, i * 5 + 1 + 1, none⟩ = some (.int .u64 k.c) ∧ w.cell? ⟨g, i * 5 + 1 + 1 + 1, none⟩ = some (.int .u8 k.p) ∧ w.cell? ⟨g, i * 5 + 1 + 1 + 1 + 1, none⟩ = some (.int .i64 k.s) := by
  subst hk
  exact ⟨h.cell i 0 hi (by omega), h.cell i 1 hi (by omega), h.cell i 2 hi (by omega), h.cell i 3 hi (by omega), h.cell i 4 hi (by omega)⟩
theorem LAt.snoc {w : World} {base g cap n : Nat} {L : List Kap} {k : Kap} (hn : n = L.length + 1) (h : w.ownsRow base 25 5 (.slice (some ⟨g, 0, none⟩) n cap) n (flat L ++ k.vals)) : LAt w base g cap (L ++ [k]) := by
  subst hn
  unfold LAt
  rw [flat_snoc]
  simpa using h
theorem At.grown {w w1 : World} {k : Nat} {row : Option Nat} {cs : Array Value} (h : At w k cs) (hg : w.grownBy w1 row) (hne : some k ≠ row) : At w1 k cs := by
  have hb := hg.block k h.1 hne
  exact ⟨Nat.lt_of_lt_of_le h.1 hg.size, fun o => (World.cell?_of_block (a := ⟨k, o, none⟩) hb).trans (h.2.1 o), fun o => (World.frozen?_of_block (a := ⟨k, o, none⟩) hb).trans (h.2.2 o)⟩
end Go.Proofs.Ytmnmflpbpklmiab
