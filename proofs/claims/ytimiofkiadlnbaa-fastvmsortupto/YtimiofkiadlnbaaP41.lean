import Derived.Test.YtimiofkiadlnbaaP38
import Derived.Test.YtimiofkiadlnbaaP39
import Derived.Test.YtimiofkiadlnbaaP26
/-
  Stage 13, fastvm: lists that are the same.
-/
namespace Go.Proofs.Ytimiofkiadlnbaa
namespace Z
open Go.RowKit
open T (Sep Ob Kp Mf FlIn boxOb)

/-- Numbers that lie in a row. -/
def WIn (w : World) (a : Option Addr) (L : List Int) : Prop := ∀ i (h : i < L.length), ∃ b off : Nat, a = some ⟨b, off, none⟩ ∧ b < w.heap.size ∧ w.cell? ⟨b, off + i, none⟩ = some (.int .u64 L[i])
theorem WIn.gr {w W : World} {a : Option Addr} {L : List Int} (h : WIn w a L) (g : Gr w W) : WIn W a L := fun i hi => by
  obtain ⟨b, off, e1, e2, e3⟩ := h i hi
  exact ⟨b, off, e1, Nat.lt_of_lt_of_le e2 g.below.size, (T.cell_of_block (g.below.block b e2) _).trans e3⟩
end Z
end Go.Proofs.Ytimiofkiadlnbaa


/-
  Stage 13, fastvm: where a raw program begins.
-/
namespace Go.Proofs.Ytimiofkiadlnbaa
namespace Z
open Go.RowKit
open T (Sep Ob Kp Mf FlIn boxOb)

theorem own_monoZ {w : World} {lo lo2 e s n : Nat} {v : Value} {xs : List Value} (h : w.ownsRow lo e s v n xs) (hl : lo2 ≤ lo) : w.ownsRow lo2 e s v n xs := by
  refine ⟨h.1, ?_⟩
  rcases h.2 with q | ⟨g, cap, cur, e1, e2, e3⟩
  · exact .inl q
  · exact .inr ⟨g, cap, cur, e1, Nat.le_trans hl e2, e3⟩
def entL (A : List Int) (n : Nat) : List Int := (List.range n).map fun i => A.getD i (i : Int)
theorem entL_len (A : List Int) (n : Nat) : (entL A n).length = n := by simp [entL]
theorem entL_succ (A : List Int) (n : Nat) : entL A (n + 1) = entL A n ++ [A.getD n (n : Int)] := by simp [entL, List.range_succ]
end Z
end Go.Proofs.Ytimiofkiadlnbaa
