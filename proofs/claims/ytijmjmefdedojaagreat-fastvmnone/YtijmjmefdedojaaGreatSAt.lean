/-
  Stage 2, span: a block that is known ('At'), behind growth and stores. No Go in sight.
-/
import Derived.Test.YtijmjmefdedojaaGreatSGrow
namespace Go.Proofs.YtijmjmefdedojaaGreat
open Go.RowKit

/-- Block 'k' holds just these cells, and may be written. -/
def At (w : World) (k : Nat) (cs : Array Value) : Prop :=
  k < w.heap.size ∧ (∀ o, w.cell? ⟨k, o, none⟩ = cs[o]?) ∧ (∀ o, w.frozen? ⟨k, o, none⟩ = false)
theorem At.new (w : World) (cs : Array Value) (t : TypeId) : At (w.alloc (.cells cs t)) w.heap.size cs :=
  ⟨by simp, fun o => World.cell?_alloc_new w cs t o, fun o => by
    have e : (w.alloc (.cells cs t)).heap[w.heap.size]? = some (.cells cs t) := (MapKept.heap_alloc w _).1
    simp only [World.frozen?]; rw [e]; simp⟩
theorem At.gr {w w1 : World} {k : Nat} {cs : Array Value} (h : At w k cs) (hb : Gr w w1) : At w1 k cs := by
  obtain ⟨l, rfl⟩ := hb
  exact ⟨grow_lt w l k h.1, fun o => (grow_cell w l k o h.1).trans (h.2.1 o), fun o => (grow_frozen w l k o h.1).trans (h.2.2 o)⟩
theorem At.alloc {w : World} {k : Nat} {cs : Array Value} (h : At w k cs) (ob : Obj) : At (w.alloc ob) k cs := h.gr ((Gr.refl w).alloc ob)
theorem At.drew {w : World} {k : Nat} {cs : Array Value} (h : At w k cs) : At w.drew k cs := ⟨h.1, h.2.1, h.2.2⟩
theorem At.next (w : World) (ob : Obj) (cs : Array Value) (t : TypeId) : At ((w.alloc ob).alloc (.cells cs t)) (w.heap.size + 1) cs := by
  have := At.new (w.alloc ob) cs t
  rwa [World.size_alloc] at this
theorem At.set {w : World} {k : Nat} {cs : Array Value} (h : At w k cs) (j : Nat) (v : Value) (hj : j < cs.size) : At (w.setCell ⟨k, j, none⟩ v) k (cs.setIfInBounds j v) := by
  refine ⟨by simpa using h.1, fun o => ?_, fun o => by simpa using h.2.2 o⟩
  by_cases ho : j = o
  · subst ho
    rw [World.cell?_setCell_same w _ v (u := cs[j]) (by rw [h.2.1]; simp [hj])]
    simp [hj]
  · rw [World.cell?_setCell_other (w := w) (a := ⟨k, j, none⟩) (v := v) (b := ⟨k, o, none⟩) (by simp), h.2.1, Array.getElem?_setIfInBounds_ne ho]
theorem At.set_other {w : World} {k k' j : Nat} {cs : Array Value} (h : At w k cs) (v : Value) (hk : k' ≠ k) : At (w.setCell ⟨k', j, none⟩ v) k cs := by
  refine ⟨by simpa using h.1, fun o => ?_, fun o => by simpa using h.2.2 o⟩
  rw [World.cell?_setCell_other (w := w) (a := ⟨k', j, none⟩) (v := v) (b := ⟨k, o, none⟩) (by simp), h.2.1]
theorem At.grown {w : World} {k : Nat} {cs : Array Value} (h : At w k cs) (l : List (Option Obj)) (o : Nat) : (grow w.drew l).cell? ⟨k, o, none⟩ = cs[o]? := (grow_cell w.drew l k o h.1).trans (h.2.1 o)
/-- The world is forgotten but for what is said of it. -/
theorem wp_world {P : Program} {code : Code} {Q : Exit → Act → World → Prop} {a : Act} {W : World} (R : World → Prop) (hR : R W) (h : ∀ w', R w' → Code.wp P code Q a w') : Code.wp P code Q a W := h W hR
end Go.Proofs.YtijmjmefdedojaaGreat
