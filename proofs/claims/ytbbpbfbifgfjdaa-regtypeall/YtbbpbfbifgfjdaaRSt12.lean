/-
  Stage 9, regtype: a row of twelve cells, stored.
-/
import Derived.Test.YtbbpbfbifgfjdaaRProU
namespace Go.Proofs.Ytbbpbfbifgfjdaa
namespace R
open Go.RowKit

/-- A row of twelve cells, stored. -/
def st12 (W : World) (k : Nat) (v0 v1 v2 v3 v4 v5 v6 v7 v8 v9 v10 v11 : Value) : World := ((((((((((((W).setCell ⟨k, 0, none⟩ v0).setCell ⟨k, 1, none⟩ v1).setCell ⟨k, 2, none⟩ v2).setCell ⟨k, 3, none⟩ v3).setCell ⟨k, 4, none⟩ v4).setCell ⟨k, 5, none⟩ v5).setCell ⟨k, 6, none⟩ v6).setCell ⟨k, 7, none⟩ v7).setCell ⟨k, 8, none⟩ v8).setCell ⟨k, 9, none⟩ v9).setCell ⟨k, 10, none⟩ v10).setCell ⟨k, 11, none⟩ v11
theorem st12_new {W : World} {k : Nat} {z0 z1 z2 z3 z4 z5 z6 z7 z8 z9 z10 z11 : Value} (h : At W k #[z0, z1, z2, z3, z4, z5, z6, z7, z8, z9, z10, z11]) (v0 v1 v2 v3 v4 v5 v6 v7 v8 v9 v10 v11 : Value) : At (st12 W k v0 v1 v2 v3 v4 v5 v6 v7 v8 v9 v10 v11) k #[v0, v1, v2, v3, v4, v5, v6, v7, v8, v9, v10, v11] := by
  replace h := h.set 0 v0 (by simp)
  simp only [List.setIfInBounds_toArray, List.set_cons_zero] at h
  replace h := h.set 1 v1 (by simp)
  simp only [List.setIfInBounds_toArray, List.set_cons_zero, List.set_cons_succ] at h
  replace h := h.set 2 v2 (by simp)
  simp only [List.setIfInBounds_toArray, List.set_cons_zero, List.set_cons_succ] at h
  replace h := h.set 3 v3 (by simp)
  simp only [List.setIfInBounds_toArray, List.set_cons_zero, List.set_cons_succ] at h
  replace h := h.set 4 v4 (by simp)
  simp only [List.setIfInBounds_toArray, List.set_cons_zero, List.set_cons_succ] at h
  replace h := h.set 5 v5 (by simp)
  simp only [List.setIfInBounds_toArray, List.set_cons_zero, List.set_cons_succ] at h
  replace h := h.set 6 v6 (by simp)
  simp only [List.setIfInBounds_toArray, List.set_cons_zero, List.set_cons_succ] at h
  replace h := h.set 7 v7 (by simp)
  simp only [List.setIfInBounds_toArray, List.set_cons_zero, List.set_cons_succ] at h
  replace h := h.set 8 v8 (by simp)
  simp only [List.setIfInBounds_toArray, List.set_cons_zero, List.set_cons_succ] at h
  replace h := h.set 9 v9 (by simp)
  simp only [List.setIfInBounds_toArray, List.set_cons_zero, List.set_cons_succ] at h
  replace h := h.set 10 v10 (by simp)
  simp only [List.setIfInBounds_toArray, List.set_cons_zero, List.set_cons_succ] at h
  replace h := h.set 11 v11 (by simp)
  simp only [List.setIfInBounds_toArray, List.set_cons_zero, List.set_cons_succ] at h
  exact h
theorem st12_old {W : World} {k k' : Nat} {cs : Array Value} (h : At W k' cs) (hk : k ≠ k') (v0 v1 v2 v3 v4 v5 v6 v7 v8 v9 v10 v11 : Value) : At (st12 W k v0 v1 v2 v3 v4 v5 v6 v7 v8 v9 v10 v11) k' cs :=
  ((((((((((((h).set_other v0 hk).set_other v1 hk).set_other v2 hk).set_other v3 hk).set_other v4 hk).set_other v5 hk).set_other v6 hk).set_other v7 hk).set_other v8 hk).set_other v9 hk).set_other v10 hk).set_other v11 hk
theorem st12_gr {w W : World} {k : Nat} (h : Gr w W) (hk : w.heap.size ≤ k) (v0 v1 v2 v3 v4 v5 v6 v7 v8 v9 v10 v11 : Value) : Gr w (st12 W k v0 v1 v2 v3 v4 v5 v6 v7 v8 v9 v10 v11) :=
  ((((((((((((h).setCell k 0 v0 hk).setCell k 1 v1 hk).setCell k 2 v2 hk).setCell k 3 v3 hk).setCell k 4 v4 hk).setCell k 5 v5 hk).setCell k 6 v6 hk).setCell k 7 v7 hk).setCell k 8 v8 hk).setCell k 9 v9 hk).setCell k 10 v10 hk).setCell k 11 v11 hk
theorem new_gr {R0 W w1 : World} {k : Nat} {zs cs : Array Value} {t : TypeId} (g : Gr R0 W) (hx : At R0 k zs) (q : Gr (W.alloc (.cells cs t)) w1) : At w1 W.heap.size cs ∧ k < W.heap.size ∧ R0.heap.size ≤ W.heap.size :=
  ⟨(At.new _ _ _).gr q, (hx.gr g).1, g.below.size⟩
end R
end Go.Proofs.Ytbbpbfbifgfjdaa
