import Derived.Test.YtimiofkiadlnbaaP01
/-
  Stage 2, span: a store into a new block leaves a world that has grown. No Go in sight.
-/
namespace Go.Proofs.Ytimiofkiadlnbaa
open Go.RowKit

theorem modify_past {α : Type} (h : Array α) (k : Nat) (f : α → α) (hk : h.size ≤ k) : h.modify k f = h := by
  apply Array.ext_getElem?
  intro i
  rw [Array.getElem?_modify]
  by_cases e : k = i
  · subst e
    rw [if_pos rfl, Array.getElem?_eq_none hk]; rfl
  · rw [if_neg e]
theorem modify_last {α : Type} (h : Array α) (x : α) (f : α → α) : (h.push x).modify h.size f = h.push (f x) := by
  apply Array.ext_getElem?
  intro i
  rw [Array.getElem?_modify]
  by_cases e : h.size = i
  · subst e
    simp
  · have e' : ¬ i = h.size := fun q => e q.symm
    simp [e, e', Array.getElem?_push]
theorem set_past (w : World) (k o : Nat) (v : Value) (h : w.heap.size ≤ k) : w.setCell ⟨k, o, none⟩ v = w := by
  unfold World.setCell
  rw [modify_past w.heap k _ h]
theorem alloc_set (w : World) (ob : Obj) (o : Nat) (v : Value) : ∃ ob', (w.alloc ob).setCell ⟨w.heap.size, o, none⟩ v = w.alloc ob' := by
  unfold World.setCell World.alloc
  exact ⟨_, by rw [modify_last]⟩
theorem Gr.setCell {w W : World} (h : Gr w W) (k o : Nat) (v : Value) (hk : w.heap.size ≤ k) : Gr w (W.setCell ⟨k, o, none⟩ v) := by
  obtain ⟨l, rfl⟩ := h
  induction l generalizing w with
  | nil => exact ⟨[], (set_past w k o v hk).symm⟩
  | cons ob l ih =>
    cases ob with
    | none =>
      obtain ⟨m, hm⟩ := ih (w := w.drew) (by simpa using hk)
      exact ⟨none :: m, hm⟩
    | some ob =>
      rcases Nat.eq_or_lt_of_le hk with e | e
      · subst e
        obtain ⟨ob', hob⟩ := alloc_set w ob o v
        refine ⟨some ob' :: l, ?_⟩
        show Go.Proofs.Ytimiofkiadlnbaa.grow (w.alloc ob') l = (Go.Proofs.Ytimiofkiadlnbaa.grow (w.alloc ob) l).setCell _ v
        rw [grow_set _ _ _ _ _ (by simp), hob]
      · obtain ⟨m, hm⟩ := ih (w := w.alloc ob) (by simp; omega)
        exact ⟨some ob :: m, hm⟩
theorem At.at_ (w : World) (cs : Array Value) (t : TypeId) {k : Nat} (h : w.heap.size = k) : At (w.alloc (.cells cs t)) k cs := h ▸ At.new w cs t
end Go.Proofs.Ytimiofkiadlnbaa
