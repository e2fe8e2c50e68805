/-
  Stage 2, span: a world that has grown by new blocks alone. No Go in sight.
-/
import Derived.WalkKit
import Derived.Below
namespace Go.Proofs.YtijmjmefdedojaaGreat
open Go.RowKit

/-- The world with some more blocks, one behind the other, and some draws between. -/
def grow (w : World) : List (Option Obj) → World
  | [] => w
  | some o :: l => grow (w.alloc o) l
  | none :: l => grow w.drew l
theorem grow_below : ∀ (l : List (Option Obj)) (w : World), Below w.heap.size w (grow w l)
  | [], w => Below.refl _ w
  | some o :: l, w => ((Below.refl _ w).alloc (Nat.le_refl _) o).trans ((grow_below l (w.alloc o)).mono (by simp))
  | none :: l, w => (Below.drew (Below.refl _ w)).trans ((grow_below l w.drew).mono (by simp))
theorem grow_size (w : World) (l : List (Option Obj)) : w.heap.size ≤ (grow w l).heap.size := (grow_below l w).size
theorem grow_cell (w : World) (l : List (Option Obj)) (k o : Nat) (h : k < w.heap.size) : (grow w l).cell? ⟨k, o, none⟩ = w.cell? ⟨k, o, none⟩ := (grow_below l w).cell (p := ⟨k, o, none⟩) h
theorem grow_frozen (w : World) (l : List (Option Obj)) (k o : Nat) (h : k < w.heap.size) : (grow w l).frozen? ⟨k, o, none⟩ = w.frozen? ⟨k, o, none⟩ := (grow_below l w).frozen (p := ⟨k, o, none⟩) h
theorem grow_set (w : World) (l : List (Option Obj)) (k o : Nat) (v : Value) (h : k < w.heap.size) : (grow w l).setCell ⟨k, o, none⟩ v = grow (w.setCell ⟨k, o, none⟩ v) l := by
  induction l generalizing w with
  | nil => rfl
  | cons ob l ih =>
    cases ob with
    | none => rw [grow, grow, ih _ (by simpa using h)]; rfl
    | some ob => rw [grow, grow, ih _ (by simp; omega), World.setCell_alloc_past _ _ _ _ h]
/-- A block of the world, behind growth. -/
theorem grow_lt (w : World) (l : List (Option Obj)) (k : Nat) (h : k < w.heap.size) : k < (grow w l).heap.size := Nat.lt_of_lt_of_le h (grow_size w l)
theorem grow_ne (w : World) (l : List (Option Obj)) (k : Nat) (h : k < w.heap.size) : ((grow w l).heap.size = k) = False := by
  have := grow_size w l; simp; omega
theorem grow_ne' (w : World) (l : List (Option Obj)) (k : Nat) (h : k < w.heap.size) : (k = (grow w l).heap.size) = False := by
  have := grow_size w l; simp; omega
/-- One world is the other with some more blocks. -/
def Gr (w w' : World) : Prop := ∃ l, grow w l = w'
theorem Gr.refl (w : World) : Gr w w := ⟨[], rfl⟩
theorem grow_app : ∀ (l m : List (Option Obj)) (w : World), grow w (l ++ m) = grow (grow w l) m
  | [], _, _ => rfl
  | some _ :: l, m, _ => grow_app l m _
  | none :: l, m, _ => grow_app l m _
theorem Gr.grow {w W : World} (h : Gr w W) (m : List (Option Obj)) : Gr w (grow W m) := by
  obtain ⟨l, rfl⟩ := h; exact ⟨l ++ m, grow_app l m w⟩
theorem Gr.alloc {w W : World} (h : Gr w W) (o : Obj) : Gr w (W.alloc o) := h.grow [some o]
theorem Gr.drew {w W : World} (h : Gr w W) : Gr w W.drew := h.grow [none]
theorem Gr.below {w W : World} (h : Gr w W) : Below w.heap.size w W := by
  obtain ⟨l, rfl⟩ := h; exact grow_below l w
theorem Gr.trans {a b c : World} (h : Gr a b) (k : Gr b c) : Gr a c := by
  obtain ⟨m, rfl⟩ := k; exact h.grow m
theorem Gr.of_alloc {W w' : World} {o : Obj} (h : Gr (W.alloc o) w') : Gr W w' := ((Gr.refl W).alloc o).trans h
theorem Gr.of_grow {W w' : World} {l : List (Option Obj)} (h : Gr (Go.Proofs.YtijmjmefdedojaaGreat.grow W l) w') : Gr W w' := ((Gr.refl W).grow l).trans h
theorem Gr.of_drew {W w' : World} (h : Gr W.drew w') : Gr W w' := (Gr.refl W).drew.trans h
/-- Small facts that a walk asks at every block, each with nothing left to ask. -/
theorem lt1 (n : Nat) : n < n + 1 := by omega
theorem lt2 (n : Nat) : n < n + 1 + 1 := by omega
theorem lt3 (n : Nat) : n < n + 1 + 1 + 1 := by omega
theorem lt4 (n : Nat) : n < n + 1 + 1 + 1 + 1 := by omega
theorem lt5 (n : Nat) : n < n + 1 + 1 + 1 + 1 + 1 := by omega
theorem lt6 (n : Nat) : n < n + 1 + 1 + 1 + 1 + 1 + 1 := by omega
theorem lt7 (n : Nat) : n < n + 1 + 1 + 1 + 1 + 1 + 1 + 1 := by omega
theorem lt8 (n : Nat) : n < n + 1 + 1 + 1 + 1 + 1 + 1 + 1 + 1 := by omega
theorem glt1 (w : World) (l : List (Option Obj)) (k : Nat) (h : k < w.heap.size) : k < (grow w l).heap.size + 1 := by have := grow_lt w l k h; omega
theorem glt2 (w : World) (l : List (Option Obj)) (k : Nat) (h : k < w.heap.size) : k < (grow w l).heap.size + 1 + 1 := by have := grow_lt w l k h; omega
theorem glt3 (w : World) (l : List (Option Obj)) (k : Nat) (h : k < w.heap.size) : k < (grow w l).heap.size + 1 + 1 + 1 := by have := grow_lt w l k h; omega
theorem glt4 (w : World) (l : List (Option Obj)) (k : Nat) (h : k < w.heap.size) : k < (grow w l).heap.size + 1 + 1 + 1 + 1 := by have := grow_lt w l k h; omega
theorem glt5 (w : World) (l : List (Option Obj)) (k : Nat) (h : k < w.heap.size) : k < (grow w l).heap.size + 1 + 1 + 1 + 1 + 1 := by have := grow_lt w l k h; omega
theorem glt6 (w : World) (l : List (Option Obj)) (k : Nat) (h : k < w.heap.size) : k < (grow w l).heap.size + 1 + 1 + 1 + 1 + 1 + 1 := by have := grow_lt w l k h; omega
end Go.Proofs.YtijmjmefdedojaaGreat
