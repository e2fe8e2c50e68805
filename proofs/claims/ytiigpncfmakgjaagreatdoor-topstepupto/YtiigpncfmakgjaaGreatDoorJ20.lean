import Derived.Test.YtiigpncfmakgjaaGreatDoorJ19
import Derived.Test.YtiigpncfmakgjaaGreatDoorJ16
import Derived.Test.YtiigpncfmakgjaaGreatDoorJ17
import Derived.Maps.RangeWalk
import Derived.Test.YtiigpncfmakgjaaGreatDoorJ18
namespace Go.Proofs.YtiigpncfmakgjaaGreatDoor
open Go.RowKit

end Go.Proofs.YtiigpncfmakgjaaGreatDoor


namespace Go.Proofs.YtiigpncfmakgjaaGreatDoor
open Go.RowKit

theorem infoComp : (Tryz.prog.info? 53).map (fun i => (i.zero, i.size, i.bytes)) = some (some (.agg #[.slice none 0 0, .slice none 0 0]), 2, 48) := by kernel_rfl
theorem infoGate : (Tryz.prog.info? 56).map (fun i => (i.zero, i.size, i.bytes)) = some (some (.agg #[.int .i64 0, .int .i64 0, .slice none 0 0, .slice none 0 0]), 4, 64) := by kernel_rfl
theorem own_base {w : World} {base base' e size n : Nat} {v : Value} {xs : List Value} (h : w.ownsRow base e size v n xs) (hb : base' ≤ base) : w.ownsRow base' e size v n xs := by
 refine ⟨h.1, ?_⟩
 rcases h.2 with h2 | ⟨g, c, cur, e1, e2, e3⟩
 · exact .inl h2
 · exact .inr ⟨g, c, cur, e1, Nat.le_trans hb e2, e3⟩
theorem own_setBox {w : World} {base e size n k o : Nat} {v u : Value} {xs : List Value} {cs : Array Value} {t : TypeId} (h : w.ownsRow base e size v n xs) (hb : Box w k cs t) (ht : t ≠ e) : (w.setCell ⟨k, o, none⟩ u).ownsRow base e size v n xs :=
 ownsRow_setCell_other h (a := ⟨k, o, none⟩) (own_ne h hb ht) u
end Go.Proofs.YtiigpncfmakgjaaGreatDoor


namespace Go.Proofs.YtiigpncfmakgjaaGreatDoor
open Go.RowKit

theorem grown_below {w w' : World} (h : w.grownBy w' none) : Below w.heap.size w w' := ⟨h.os, h.tape, h.output, h.size, fun k hk => h.block k hk (by simp)⟩
end Go.Proofs.YtiigpncfmakgjaaGreatDoor


namespace Go.Proofs.YtiigpncfmakgjaaGreatDoor
open Go.RowKit

def setRow (w : World) (k : Nat) : Nat → List Value → World
 | _, [] => w
 | j, v :: vs => setRow (w.setCell ⟨k, j, none⟩ v) k (j + 1) vs
theorem setRow_box {k : Nat} {t : TypeId} : ∀ (vs : List Value) (w : World) (j : Nat) (pre post : List Value), Box w k (pre ++ post).toArray t → pre.length = j → vs.length ≤ post.length → Box (setRow w k j vs) k (pre ++ vs ++ post.drop vs.length).toArray t
 | [], w, j, pre, post, h, _, _ => by simpa [setRow] using h
 | v :: vs, w, j, pre, [], h, _, hl => by simp at hl
 | v :: vs, w, j, pre, u :: post, h, hj, hl => by
   rw [setRow]
   have h1 := h.set j v
   have e : (pre ++ u :: post).toArray.setIfInBounds j v = ((pre ++ [v]) ++ post).toArray := by
     subst hj
     simp
   rw [e] at h1
   have := setRow_box vs _ (j + 1) (pre ++ [v]) post h1 (by simp; omega) (by simpa using hl)
   simpa using this
theorem Box.setRow {w : World} {k : Nat} {cs : Array Value} {t : TypeId} (h : Box w k cs t) (vs : List Value) (hl : cs.size = vs.length) : Box (Go.Proofs.YtiigpncfmakgjaaGreatDoor.setRow w k 0 vs) k vs.toArray t := by
 have h1 : Box w k ([] ++ cs.toList).toArray t := by simpa using h
 have := setRow_box vs w 0 [] cs.toList h1 rfl (by simp [hl])
 have hd : cs.toList.drop vs.length = [] := by rw [List.drop_eq_nil_iff]; simp [hl]
 rw [hd] at this
 simpa using this
theorem own_row {base e size n k : Nat} {v : Value} {xs : List Value} {t : TypeId} : ∀ (vs : List Value) {w : World} {j : Nat} {cs : Array Value}, w.ownsRow base e size v n xs → Box w k cs t → t ≠ e → (setRow w k j vs).ownsRow base e size v n xs
 | [], _, _, _, h, _, _ => h
 | u :: vs, _, j, _, h, hb, ht => own_row vs (own_setBox (o := j) (u := u) h hb ht) (hb.set j u) ht
end Go.Proofs.YtiigpncfmakgjaaGreatDoor
