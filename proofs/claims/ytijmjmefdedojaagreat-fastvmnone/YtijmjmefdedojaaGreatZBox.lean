/-
  Stage 13, fastvm: what lies beside a machine.
-/
import Derived.Test.YtijmjmefdedojaaGreatZTou
namespace Go.Proofs.YtijmjmefdedojaaGreat
namespace Z
open Go.RowKit
open T (Sep Ob Kp Mf FlIn boxOb)

theorem sep_perm {B : Nat} {W : World} {l l' : List Ob} (h : Sep B W l) (p : l.Perm l') : Sep B W l' :=
  ⟨fun o ho => h.ins o (p.mem_iff.2 ho), (List.Perm.pairwise_iff (fun q k hb ha => q k ha hb) p).1 h.dis, fun o ho => h.ge o (p.mem_iff.2 ho)⟩
theorem sep_tail {B : Nat} {W : World} {o : Ob} {l : List Ob} (h : Sep B W (o :: l)) : Sep B W l :=
  ⟨fun p hp => h.ins p (List.mem_cons_of_mem _ hp), (List.pairwise_cons.1 h.dis).2, fun p hp => h.ge p (List.mem_cons_of_mem _ hp)⟩
section
variable {B : Nat} {W W' : World} {a : Nat} {P : Pr} {s : Fm} {l : List Ob}
theorem MIn.add (h : MIn B W a P s l) (o : Ob) (hi : o.In W') (hn : ∀ k, o.S k → W.heap.size ≤ k) (hb : Below W.heap.size W W') : MIn B W' a P s (o :: l) := by
  obtain ⟨⟨q, h1⟩, le⟩ := h
  exact ⟨⟨q, sep_perm (h1.add o hi hn hb le) List.perm_middle.symm⟩, Nat.le_trans le hb.size⟩
theorem MIn.drop {o : Ob} (h : MIn B W a P s (o :: l)) : MIn B W a P s l := by
  obtain ⟨⟨q, h1⟩, le⟩ := h
  exact ⟨⟨q, sep_tail (sep_perm h1 List.perm_middle)⟩, le⟩
theorem MIn.swap {o p : Ob} (h : MIn B W a P s (o :: p :: l)) : MIn B W a P s (p :: o :: l) := by
  obtain ⟨⟨q, h1⟩, le⟩ := h
  exact ⟨⟨q, sep_perm h1 (List.Perm.append_left _ (.swap _ _ _))⟩, le⟩
theorem MIn.new (h : MIn B W a P s l) (cs : Array Value) (t : TypeId) : MIn B (W.alloc (.cells cs t)) a P s (boxOb W.heap.size cs :: l) ∧ Below B W (W.alloc (.cells cs t)) :=
  ⟨h.add (boxOb W.heap.size cs) (At.new W cs t) (fun k q => by have : k = W.heap.size := q; omega) ((Below.refl _ W).alloc (Nat.le_refl _) _), ((Below.refl _ W).alloc (Nat.le_refl _) _).mono h.le⟩
/-- Another thing beside it has changed. -/
theorem MIn.side {o o' : Ob} (h : MIn B W a P s (o :: l)) (hi : o'.In W') (hk : Kp o.S W W') (hn : ∀ k, o'.S k → o.S k ∨ W.heap.size ≤ k) : MIn B W' a P s (o' :: l) ∧ Below B W W' := by
  obtain ⟨⟨q, h1⟩, le⟩ := h
  exact ⟨⟨⟨q, sep_change (l1 := obs B a P s q) (o := o) (o' := o') (l2 := l) h1 hi hk hn le⟩, Nat.le_trans le hk.size⟩, sep_below (l1 := obs B a P s q) (o := o) (l2 := l) h1 hk le⟩
end
end Z
end Go.Proofs.YtijmjmefdedojaaGreat
