import Derived.WalkKit
import Derived.Below
/-
  Stage 2, span: a world that has grown by new blocks alone. No Go in sight.
-/
namespace Go.Proofs.YtdmkedpnkejpbaaDoor
open Go.RowKit

/-- The world with some more blocks, one behind the other, and some draws between. -/
def grow (w : World) : List (Option Obj) → World
  | [] => w
  | some o :: l => grow (w.alloc o) l
  | none :: l => grow w.drew l
theorem grow_below : ∀ (l : List (Option Obj)) (w : World), Below w.heap.size w (grow w l)
  | [], w => Below.refl _ w
  | some o :: l, w => ((Below.refl _ w).alloc (Nat.le_refl _) o).trans ((grow_below l (w.alloc o)).mono (by simp))
  | none :: l, w => (Below.drew (Below.refl _ w)).trans ((grow_below l w.drew).mono (by simp))
theorem grow_size (w : World) (l : List (Option Obj)) : w.heap.size ≤ (grow w l).heap.size := (grow_below l w).size
theorem grow_cell (w : World) (l : List (Option Obj)) (k o : Nat) (h : k < w.heap.size) : (grow w l).cell? ⟨k, o, none⟩ = w.cell? ⟨k, o, none⟩ := (grow_below l w).cell (p := ⟨k, o, none⟩) h
theorem grow_frozen (w : World) (l : List (Option Obj)) (k o : Nat) (h : k < w.heap.size) : (grow w l).frozen? ⟨k, o, none⟩ = w.frozen? ⟨k, o, none⟩ := (grow_below l w).frozen (p := ⟨k, o, none⟩) h
theorem grow_set (w : World) (l : List (Option Obj)) (k o : Nat) (v : Value) (h : k < w.heap.size) : (grow w l).setCell ⟨k, o, none⟩ v = grow (w.setCell ⟨k, o, none⟩ v) l := by
  induction l generalizing w with
  | nil => rfl
  | cons ob l ih =>
    cases ob with
    | none => rw [grow, grow, ih _ (by simpa using h)]; rfl
    | some ob => rw [grow, grow, ih _ (by simp; omega), World.setCell_alloc_past _ _ _ _ h]
/-- A block of the world, behind growth. -/
theorem grow_lt (w : World) (l : List (Option Obj)) (k : Nat) (h : k < w.heap.size) : k < (grow w l).heap.size := Nat.lt_of_lt_of_le h (grow_size w l)
theorem grow_ne (w : World) (l : List (Option Obj)) (k : Nat) (h : k < w.heap.size) : ((grow w l).heap.size = k) = False := by
  have := grow_size w l; simp; omega
theorem grow_ne' (w : World) (l : List (Option Obj)) (k : Nat) (h : k < w.heap.size) : (k = (grow w l).heap.size) = False := by
  have := grow_size w l; simp; omega
/-- One world is the other with some more blocks. -/
def Gr (w w' : World) : Prop := ∃ l, grow w l = w'
theorem Gr.refl (w : World) : Gr w w := ⟨[], rfl⟩
theorem grow_app : ∀ (l m : List (Option Obj)) (w : World), grow w (l ++ m) = grow (grow w l) m
  | [], _, _ => rfl
  | some _ :: l, m, _ => grow_app l m _
  | none :: l, m, _ => grow_app l m _
theorem Gr.grow {w W : World} (h : Gr w W) (m : List (Option Obj)) : Gr w (grow W m) := by
  obtain ⟨l, rfl⟩ := h; exact ⟨l ++ m, grow_app l m w⟩
theorem Gr.alloc {w W : World} (h : Gr w W) (o : Obj) : Gr w (W.alloc o) := h.grow [some o]
theorem Gr.drew {w W : World} (h : Gr w W) : Gr w W.drew := h.grow [none]
theorem Gr.below {w W : World} (h : Gr w W) : Below w.heap.size w W := by
  obtain ⟨l, rfl⟩ := h; exact grow_below l w
theorem Gr.trans {a b c : World} (h : Gr a b) (k : Gr b c) : Gr a c := by
  obtain ⟨m, rfl⟩ := k; exact h.grow m
theorem Gr.of_alloc {W w' : World} {o : Obj} (h : Gr (W.alloc o) w') : Gr W w' := ((Gr.refl W).alloc o).trans h
theorem Gr.of_grow {W w' : World} {l : List (Option Obj)} (h : Gr (Go.Proofs.YtdmkedpnkejpbaaDoor.grow W l) w') : Gr W w' := ((Gr.refl W).grow l).trans h
theorem Gr.of_drew {W w' : World} (h : Gr W.drew w') : Gr W w' := (Gr.refl W).drew.trans h
/-- Small facts that a walk asks at every block, each with nothing left to ask. -/
theorem lt1 (n : Nat) : n < n + 1 := by omega
theorem lt2 (n : Nat) : n < n + 1 + 1 := by omega
theorem lt3 (n : Nat) : n < n + 1 + 1 + 1 := by omega
theorem lt4 (n : Nat) : n < n + 1 + 1 + 1 + 1 := by omega
theorem lt5 (n : Nat) : n < n + 1 + 1 + 1 + 1 + 1 := by omega
theorem lt6 (n : Nat) : n < n + 1 + 1 + 1 + 1 + 1 + 1 := by omega
theorem lt7 (n : Nat) : n < n + 1 + 1 + 1 + 1 + 1 + 1 + 1 := by omega
theorem lt8 (n : Nat) : n < n + 1 + 1 + 1 + 1 + 1 + 1 + 1 + 1 := by omega
theorem glt1 (w : World) (l : List (Option Obj)) (k : Nat) (h : k < w.heap.size) : k < (grow w l).heap.size + 1 := by have := grow_lt w l k h; omega
theorem glt2 (w : World) (l : List (Option Obj)) (k : Nat) (h : k < w.heap.size) : k < (grow w l).heap.size + 1 + 1 := by have := grow_lt w l k h; omega
theorem glt3 (w : World) (l : List (Option Obj)) (k : Nat) (h : k < w.heap.size) : k < (grow w l).heap.size + 1 + 1 + 1 := by have := grow_lt w l k h; omega
theorem glt4 (w : World) (l : List (Option Obj)) (k : Nat) (h : k < w.heap.size) : k < (grow w l).heap.size + 1 + 1 + 1 + 1 := by have := grow_lt w l k h; omega
theorem glt5 (w : World) (l : List (Option Obj)) (k : Nat) (h : k < w.heap.size) : k < (grow w l).heap.size + 1 + 1 + 1 + 1 + 1 := by have := grow_lt w l k h; omega
theorem glt6 (w : World) (l : List (Option Obj)) (k : Nat) (h : k < w.heap.size) : k < (grow w l).heap.size + 1 + 1 + 1 + 1 + 1 + 1 := by have := grow_lt w l k h; omega
end Go.Proofs.YtdmkedpnkejpbaaDoor


/-
  Stage 2, span: a block that is known ('At'), behind growth and stores. No Go in sight.
-/
namespace Go.Proofs.YtdmkedpnkejpbaaDoor
open Go.RowKit

/-- Block 'k' holds just these cells, and may be written. -/
def At (w : World) (k : Nat) (cs : Array Value) : Prop :=
  k < w.heap.size ∧ (∀ o, w.cell? ⟨k, o, none⟩ = cs[o]?) ∧ (∀ o, w.frozen? ⟨k, o, none⟩ = false)
theorem At.new (w : World) (cs : Array Value) (t : TypeId) : At (w.alloc (.cells cs t)) w.heap.size cs :=
  ⟨by simp, fun o => World.cell?_alloc_new w cs t o, fun o => by
    have e : (w.alloc (.cells cs t)).heap[w.heap.size]? = some (.cells cs t) := (MapKept.heap_alloc w _).1
    simp only [World.frozen?]; rw [e]; simp⟩
theorem At.gr {w w1 : World} {k : Nat} {cs : Array Value} (h : At w k cs) (hb : Gr w w1) : At w1 k cs := by
  obtain ⟨l, rfl⟩ := hb
  exact ⟨grow_lt w l k h.1, fun o => (grow_cell w l k o h.1).trans (h.2.1 o), fun o => (grow_frozen w l k o h.1).trans (h.2.2 o)⟩
theorem At.alloc {w : World} {k : Nat} {cs : Array Value} (h : At w k cs) (ob : Obj) : At (w.alloc ob) k cs := h.gr ((Gr.refl w).alloc ob)
theorem At.drew {w : World} {k : Nat} {cs : Array Value} (h : At w k cs) : At w.drew k cs := ⟨h.1, h.2.1, h.2.2⟩
theorem At.next (w : World) (ob : Obj) (cs : Array Value) (t : TypeId) : At ((w.alloc ob).alloc (.cells cs t)) (w.heap.size + 1) cs := by
  have := At.new (w.alloc ob) cs t
  rwa [World.size_alloc] at this
theorem At.set {w : World} {k : Nat} {cs : Array Value} (h : At w k cs) (j : Nat) (v : Value) (hj : j < cs.size) : At (w.setCell ⟨k, j, none⟩ v) k (cs.setIfInBounds j v) := by
  refine ⟨by simpa using h.1, fun o => ?_, fun o => by simpa using h.2.2 o⟩
  by_cases ho : j = o
  · subst ho
    rw [World.cell?_setCell_same w _ v (u := cs[j]) (by rw [h.2.1]; simp [hj])]
    simp [hj]
  · rw [World.cell?_setCell_other (w := w) (a := ⟨k, j, none⟩) (v := v) (b := ⟨k, o, none⟩) (by simp), h.2.1, Array.getElem?_setIfInBounds_ne ho]
theorem At.set_other {w : World} {k k' j : Nat} {cs : Array Value} (h : At w k cs) (v : Value) (hk : k' ≠ k) : At (w.setCell ⟨k', j, none⟩ v) k cs := by
  refine ⟨by simpa using h.1, fun o => ?_, fun o => by simpa using h.2.2 o⟩
  rw [World.cell?_setCell_other (w := w) (a := ⟨k', j, none⟩) (v := v) (b := ⟨k, o, none⟩) (by simp), h.2.1]
theorem At.grown {w : World} {k : Nat} {cs : Array Value} (h : At w k cs) (l : List (Option Obj)) (o : Nat) : (grow w.drew l).cell? ⟨k, o, none⟩ = cs[o]? := (grow_cell w.drew l k o h.1).trans (h.2.1 o)
/-- The world is forgotten but for what is said of it. -/
theorem wp_world {P : Program} {code : Code} {Q : Exit → Act → World → Prop} {a : Act} {W : World} (R : World → Prop) (hR : R W) (h : ∀ w', R w' → Code.wp P code Q a w') : Code.wp P code Q a W := h W hR
end Go.Proofs.YtdmkedpnkejpbaaDoor
