import Derived.Test.YthblllanofnmmaaChecked
import Derived.Test.YthblllanofnmmaaP13
import Derived.Test.YthblllanofnmmaaP02
import Derived.WalkKit
import Derived.WalkSpells
import Derived.WalkLawsBesides
import Derived.Laws.Shifts
import Derived.Lib.OthersKept
import Derived.Deep.DeepCutAuto
import Derived.Deep.Light
/-
  Stage 3, instr: a world in which the two tables lie; Name, Shape, register, ends.
-/
namespace Go.Proofs.Ythblllanofnmmaa
open Go.RowKit

/-- The program's two tables lie in this world. -/
structure TabIn (w : World) : Prop where
  size : 2 ≤ w.heap.size
  name : ∀ i : Nat, i < 76 → w.cell? ⟨0, i, none⟩ = some (.string (str (nameL.getD i [])))
  shape : ∀ i : Nat, i < 76 → w.cell? ⟨1, i, none⟩ = some (.string (str (shapeL.getD i [])))
theorem TabIn.below {w w' : World} {n : Nat} (h : TabIn w) (hb : Below n w w') (hn : 2 ≤ n) : TabIn w' :=
  ⟨Nat.le_trans h.size hb.size, fun i hi => (hb.cell (p := ⟨0, i, none⟩) (show 0 < n by omega)).trans (h.name i hi), fun i hi => (hb.cell (p := ⟨1, i, none⟩) (show 1 < n by omega)).trans (h.shape i hi)⟩
theorem TabIn.gr {w w' : World} (h : TabIn w) (hb : Gr w w') : TabIn w' := h.below hb.below h.size
theorem TabIn.nameAt {w : World} (h : TabIn w) (op : Int) (h0 : 0 ≤ op) (h1 : op < 76) : w.cell? ⟨0, op.toNat, none⟩ = some (.string (str (nameOf op))) := h.name op.toNat (by omega)
theorem TabIn.shapeAt {w : World} (h : TabIn w) (op : Int) (h0 : 0 ≤ op) (h1 : op < 76) : w.cell? ⟨1, op.toNat, none⟩ = some (.string (str (shapeOf op))) := h.shape op.toNat (by omega)
theorem nameOf_past (op : Int) (h : 76 ≤ op) : nameOf op = [] := by
  unfold nameOf; rw [List.getD_eq_getElem?_getD, List.getElem?_eq_none (by rw [nameL_len]; omega)]; rfl
theorem shapeOf_past (op : Int) (h : 76 ≤ op) : shapeOf op = [] := by
  unfold shapeOf; rw [List.getD_eq_getElem?_getD, List.getElem?_eq_none (by rw [shapeL_len]; omega)]; rfl
theorem str_nil : str [] = ⟨#[]⟩ := rfl

/-- Which field a register's number names. -/
def regNo (n : Int) : Nat := if n = 0 then 1 else if n = 1 then 2 else 3
end Go.Proofs.Ythblllanofnmmaa
