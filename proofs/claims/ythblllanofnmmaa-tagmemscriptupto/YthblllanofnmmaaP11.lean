import Derived.Test.YthblllanofnmmaaP02
import Derived.Test.YthblllanofnmmaaP09
import Derived.Deep.MidRow
/-
  Lists that lie in memory. No Go in sight.
-/
namespace Go.Proofs.Ythblllanofnmmaa
namespace T
open Go.RowKit

/-- A list that came in, of elements of 'k' cells. -/
def EIn {α : Type} (k : Nat) (vals : α → List Value) (w : World) (a : Option Addr) (L : List α) : Prop := ∀ i (h : i < L.length), ∃ b off : Nat, a = some ⟨b, off, none⟩ ∧ b < w.heap.size ∧ ∀ j v, (vals L[i])[j]? = some v → w.cell? ⟨b, off + i * k + j, none⟩ = some v
theorem EIn.below {α : Type} {k : Nat} {vals : α → List Value} {w w1 : World} {a : Option Addr} {L : List α} (h : EIn k vals w a L) (hb : Below w.heap.size w w1) : EIn k vals w1 a L := fun i hi => by
  obtain ⟨b, off, h1, h2, h3⟩ := h i hi
  exact ⟨b, off, h1, Nat.lt_of_lt_of_le h2 hb.size, fun j v q => (hb.cell (p := ⟨b, _, none⟩) h2).trans (h3 j v q)⟩
end T
end Go.Proofs.Ythblllanofnmmaa


/-
  Ranges of cells: a row of values stored at once. No Go in sight.
-/
namespace Go.Proofs.Ythblllanofnmmaa
namespace T
open Go.RowKit

theorem setCells_size (k : Nat) : ∀ (vs : List Value) (o : Nat) (w : World), (w.setCells k o vs).heap.size = w.heap.size
  | [], _, _ => rfl
  | v :: r, o, w => by rw [World.setCells, setCells_size k r (o + 1)]; simp
theorem kp_setCells (S : Nat → Prop) (k : Nat) (h : S k) : ∀ (vs : List Value) (o : Nat) (w : World), Kp S w (w.setCells k o vs)
  | [], _, w => Kp.refl S w
  | v :: r, o, w => (Kp.set (S := S) w ⟨k, o, none⟩ v h).trans (kp_setCells S k h r (o + 1) _) (fun _ q => .inl q)
theorem at_setCells {w : World} {k : Nat} {cs : Array Value} (h : At w k cs) (vs : List Value) (hl : vs.length = cs.size) : At (w.setCells k 0 vs) k vs.toArray := by
  refine ⟨by rw [setCells_size]; exact h.1, fun o => ?_, fun o => by rw [World.frozen?_setCells]; exact h.2.2 o⟩
  by_cases q : o < vs.length
  · have := World.cell?_setCells_in k vs 0 w (fun j hj => by rw [Nat.zero_add, h.2.1 j, Array.getElem?_eq_getElem (by omega)]; rfl) o q
    rw [Nat.zero_add] at this
    rw [this]
    simp [q]
  · rw [World.cell?_setCells_out k vs 0 w _ (fun _ _ => .inr (by simpa using q)), h.2.1 o]
    simp [show cs.size ≤ o by omega, show vs.length ≤ o by omega]
end T
end Go.Proofs.Ythblllanofnmmaa
