import Derived.Test.YtdmkedpnkejpbaaDoorP02
import Derived.Test.YtdmkedpnkejpbaaDoorChecked
import Derived.Test.YtdmkedpnkejpbaaDoorP01
import Derived.WalkKit
import Derived.WalkSpells
import Derived.WalkLawsBesides
import Derived.Laws.Shifts
import Derived.Lib.OthersKept
import Derived.Deep.DeepCutAuto
import Derived.Deep.Light
/-
  Stage 2, span: a store into a new block leaves a world that has grown. No Go in sight.
-/
namespace Go.Proofs.YtdmkedpnkejpbaaDoor
open Go.RowKit

theorem modify_past {α : Type} (h : Array α) (k : Nat) (f : α → α) (hk : h.size ≤ k) : h.modify k f = h := by
  apply Array.ext_getElem?
  intro i
  rw [Array.getElem?_modify]
  by_cases e : k = i
  · subst e
    rw [if_pos rfl, Array.getElem?_eq_none hk]; rfl
  · rw [if_neg e]
theorem modify_last {α : Type} (h : Array α) (x : α) (f : α → α) : (h.push x).modify h.size f = h.push (f x) := by
  apply Array.ext_getElem?
  intro i
  rw [Array.getElem?_modify]
  by_cases e : h.size = i
  · subst e
    simp
  · have e' : ¬ i = h.size := fun q => e q.symm
    simp [e, e', Array.getElem?_push]
theorem set_past (w : World) (k o : Nat) (v : Value) (h : w.heap.size ≤ k) : w.setCell ⟨k, o, none⟩ v = w := by
  unfold World.setCell
  rw [modify_past w.heap k _ h]
theorem alloc_set (w : World) (ob : Obj) (o : Nat) (v : Value) : ∃ ob', (w.alloc ob).setCell ⟨w.heap.size, o, none⟩ v = w.alloc ob' := by
  unfold World.setCell World.alloc
  exact ⟨_, by rw [modify_last]⟩
theorem Gr.setCell {w W : World} (h : Gr w W) (k o : Nat) (v : Value) (hk : w.heap.size ≤ k) : Gr w (W.setCell ⟨k, o, none⟩ v) := by
  obtain ⟨l, rfl⟩ := h
  induction l generalizing w with
  | nil => exact ⟨[], (set_past w k o v hk).symm⟩
  | cons ob l ih =>
    cases ob with
    | none =>
      obtain ⟨m, hm⟩ := ih (w := w.drew) (by simpa using hk)
      exact ⟨none :: m, hm⟩
    | some ob =>
      rcases Nat.eq_or_lt_of_le hk with e | e
      · subst e
        obtain ⟨ob', hob⟩ := alloc_set w ob o v
        refine ⟨some ob' :: l, ?_⟩
        show Go.Proofs.YtdmkedpnkejpbaaDoor.grow (w.alloc ob') l = (Go.Proofs.YtdmkedpnkejpbaaDoor.grow (w.alloc ob) l).setCell _ v
        rw [grow_set _ _ _ _ _ (by simp), hob]
      · obtain ⟨m, hm⟩ := ih (w := w.alloc ob) (by simp; omega)
        exact ⟨some ob :: m, hm⟩
theorem At.at_ (w : World) (cs : Array Value) (t : TypeId) {k : Nat} (h : w.heap.size = k) : At (w.alloc (.cells cs t)) k cs := h ▸ At.new w cs t
end Go.Proofs.YtdmkedpnkejpbaaDoor


/-
  Stage 3, instr: a world in which the two tables lie; Name, Shape, register, ends.
-/
namespace Go.Proofs.YtdmkedpnkejpbaaDoor
open Go.RowKit

/-- The program's two tables lie in this world. -/
structure TabIn (w : World) : Prop where
  size : 2 ≤ w.heap.size
  name : ∀ i : Nat, i < 76 → w.cell? ⟨0, i, none⟩ = some (.string (str (nameL.getD i [])))
  shape : ∀ i : Nat, i < 76 → w.cell? ⟨1, i, none⟩ = some (.string (str (shapeL.getD i [])))
theorem TabIn.below {w w' : World} {n : Nat} (h : TabIn w) (hb : Below n w w') (hn : 2 ≤ n) : TabIn w' :=
  ⟨Nat.le_trans h.size hb.size, fun i hi => (hb.cell (p := ⟨0, i, none⟩) (show 0 < n by omega)).trans (h.name i hi), fun i hi => (hb.cell (p := ⟨1, i, none⟩) (show 1 < n by omega)).trans (h.shape i hi)⟩
theorem TabIn.gr {w w' : World} (h : TabIn w) (hb : Gr w w') : TabIn w' := h.below hb.below h.size
theorem TabIn.nameAt {w : World} (h : TabIn w) (op : Int) (h0 : 0 ≤ op) (h1 : op < 76) : w.cell? ⟨0, op.toNat, none⟩ = some (.string (str (nameOf op))) := h.name op.toNat (by omega)
theorem TabIn.shapeAt {w : World} (h : TabIn w) (op : Int) (h0 : 0 ≤ op) (h1 : op < 76) : w.cell? ⟨1, op.toNat, none⟩ = some (.string (str (shapeOf op))) := h.shape op.toNat (by omega)
theorem nameOf_past (op : Int) (h : 76 ≤ op) : nameOf op = [] := by
  unfold nameOf; rw [List.getD_eq_getElem?_getD, List.getElem?_eq_none (by rw [nameL_len]; omega)]; rfl
theorem shapeOf_past (op : Int) (h : 76 ≤ op) : shapeOf op = [] := by
  unfold shapeOf; rw [List.getD_eq_getElem?_getD, List.getElem?_eq_none (by rw [shapeL_len]; omega)]; rfl
theorem str_nil : str [] = ⟨#[]⟩ := rfl

set_option maxHeartbeats 400000 in
theorem Name_any (op : Int) (w : World) (ht : TabIn w) (h0 : 0 ≤ op) (h1 : op < 256) :
    Calls Tryd.prog 94 #[.int .u8 op] w fun x w' => x = .returned (.string (str (nameOf op))) ∧ w = w' := by
  by_cases h : 76 ≤ op
  · rw [nameOf_past op h, str_nil]
    go_enter Tryd.func94, Tryd.ntmps94
    go_wp2_with fail
    go_ret
    exact ⟨rfl, rfl⟩
  · have c := ht.nameAt op h0 (by omega)
    have h' : decide (76 ≤ op) = false := by simpa using h
    have h2 : op < 76 := by omega
    go_enter Tryd.func94, Tryd.ntmps94
    go_wp2_with fail
    go_ret
    exact ⟨rfl, rfl⟩
set_option maxHeartbeats 400000 in
theorem Shape_any (op : Int) (w : World) (ht : TabIn w) (h0 : 0 ≤ op) (h1 : op < 256) :
    Calls Tryd.prog 98 #[.int .u8 op] w fun x w' => x = .returned (.string (str (shapeOf op))) ∧ w = w' := by
  by_cases h : 76 ≤ op
  · rw [shapeOf_past op h, str_nil]
    go_enter Tryd.func98, Tryd.ntmps98
    go_wp2_with fail
    go_ret
    exact ⟨rfl, rfl⟩
  · have c := ht.shapeAt op h0 (by omega)
    have h' : decide (76 ≤ op) = false := by simpa using h
    have h2 : op < 76 := by omega
    go_enter Tryd.func98, Tryd.ntmps98
    go_wp2_with fail
    go_ret
    exact ⟨rfl, rfl⟩
/-- Which field a register's number names. -/
def regNo (n : Int) : Nat := if n = 0 then 1 else if n = 1 then 2 else 3
set_option maxHeartbeats 400000 in
theorem register_any (k : Nat) (n : Int) (w : World) :
    Calls Tryd.prog 99 #[.pointer (some ⟨k, 0, none⟩), .int .i64 n] w fun x w' => x = .returned (.pointer (some ⟨k, regNo n, none⟩)) ∧ w = w' := by
  go_enter Tryd.func99, Tryd.ntmps99
  go_wp2_with fail
  all_goals go_ret
  all_goals go_light
  all_goals simp_all [regNo]
set_option maxHeartbeats 400000 in
theorem ends_any (op l : Int) (w : World) :
    Calls Tryd.prog 100 #[.int .u8 op, .int .i32 l] w fun x w' => x = .returned (.tuple #[.int .i64 (loE op l), .int .i64 (hiE l)]) ∧ w = w' := by
  go_enter Tryd.func100, Tryd.ntmps100
  go_wp2_with fail
  all_goals simp [bodyPost, results, Tryd.results100, go_sem]
  all_goals go_light
  all_goals simp_all [loE, hiE]
end Go.Proofs.YtdmkedpnkejpbaaDoor
