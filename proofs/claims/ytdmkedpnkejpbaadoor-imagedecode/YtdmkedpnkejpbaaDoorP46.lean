import Derived.Test.YtdmkedpnkejpbaaDoorP45
import Derived.BigFrame
/-
  Programs that are lent: mark, types.
-/
namespace Go.Proofs.YtdmkedpnkejpbaaDoor
namespace Q
open Go.RowKit

/-- Slots while they are marked. -/
structure M77 (w0 : World) (g : Nat) (pre : List PSlot) (n i : Nat) (l : List PSlot) (W : World) : Prop where
  gr : Gr w0 W
  at_ : At W g (rowV [] PSlot.vals (pre ++ l)).toArray
  len : l.length = n
  done : ∀ j, j < i → l[j]? = some slot77
  rest : ∀ j, i ≤ j → j < n → l[j]? = some slotZ
theorem M77.all {w0 : World} {g : Nat} {pre : List PSlot} {n : Nat} {l : List PSlot} {W : World} (h : M77 w0 g pre n n l W) : l = List.replicate n slot77 := by
  apply List.ext_getElem?
  intro j
  by_cases q : j < n
  · rw [h.done j q]; simp [q]
  · rw [List.getElem?_eq_none (by rw [h.len]; omega), List.getElem?_eq_none (by simp; omega)]
theorem M77.cell {w0 : World} {g : Nat} {pre : List PSlot} {n i : Nat} {l : List PSlot} {W : World} (h : M77 w0 g pre n i l W) (hi : i < n) (o : Nat) (ho : o = pre.length * 8) : W.cell? ⟨g, o + i * 8 + 7, none⟩ = some (.int .u64 0) := by
  have e := h.rest i (Nat.le_refl _) hi
  have q : (pre ++ l)[pre.length + i]? = some slotZ := by rw [List.getElem?_append_right (by omega), Nat.add_sub_cancel_left]; exact e
  have r := elem_atL slt_len h.at_ _ _ q 7 _ rfl
  rw [show o + i * 8 + 7 = (pre.length + i) * 8 + 7 by omega]
  exact r
theorem M77.next {w0 : World} {g : Nat} {pre : List PSlot} {n i : Nat} {l : List PSlot} {W : World} (h : M77 w0 g pre n i l W) (hi : i < n) (hg : w0.heap.size ≤ g) (o : Nat) (ho : o = pre.length * 8) : M77 w0 g pre n (i + 1) (l.set i slot77) (W.setCell ⟨g, o + i * 8 + 7, none⟩ (.int .u64 77)) := by
  have e := h.rest i (Nat.le_refl _) hi
  have hl : i < l.length := by rw [h.len]; exact hi
  have q : (pre ++ l)[pre.length + i]? = some slotZ := by rw [List.getElem?_append_right (by omega), Nat.add_sub_cancel_left]; exact e
  obtain ⟨hlt, q'⟩ := List.getElem?_eq_some_iff.1 q
  refine ⟨h.gr.setCell g _ _ hg, ?_, by rw [List.length_set]; exact h.len, fun j hj => ?_, fun j hj hn => ?_⟩
  · have r := At.setOne slt_len h.at_ (pre.length + i) hlt slot77 7 (.int .u64 77) (by omega) (by rw [q']; rfl) (o + i * 8 + 7) (by omega)
    rw [List.set_append_right _ _ (by omega), Nat.add_sub_cancel_left] at r
    exact r
  · by_cases e2 : j = i
    · subst e2; simp [hl]
    · rw [List.getElem?_set_ne (fun r => e2 r.symm)]; exact h.done j (by omega)
  · rw [List.getElem?_set_ne (by omega)]; exact h.rest j (by omega) hn
end Q
end Go.Proofs.YtdmkedpnkejpbaaDoor


/-
  Programs that are lent: lent, walked.
-/
namespace Go.Proofs.YtdmkedpnkejpbaaDoor
namespace Q
open Go.RowKit

/-- The boxes of lent. -/
structure Ls (w : World) (im out : List Value) (W : World) : Prop where
  m : At W w.heap.size im.toArray
  res : At W (w.heap.size + 1) (List.toArray [Value.slice none 0 0, .slice none 0 0, .slice none 0 0, .int .i64 0])
  o : At W (w.heap.size + 1 + 1) out.toArray
  gr : Gr w W
theorem Ls.grow {w : World} {im out : List Value} {W W' : World} (h : Ls w im out W) (q : Gr W W') : Ls w im out W' := ⟨h.m.gr q, h.res.gr q, h.o.gr q, h.gr.trans q⟩
theorem Ls.sets {w : World} {im out : List Value} {W : World} (h : Ls w im out W) (b o : Nat) (vs : List Value) (hb : w.heap.size + 1 + 1 < b) : Ls w im out (W.setCells b o vs) :=
  ⟨h.m.other (by omega) o vs, h.res.other (by omega) o vs, h.o.other (by omega) o vs, h.gr.setCells b (by omega) vs o⟩
theorem Ls.set {w : World} {im out : List Value} {W : World} (h : Ls w im out W) (b o : Nat) (v : Value) (hb : w.heap.size + 1 + 1 < b) : Ls w im out (W.setCell ⟨b, o, none⟩ v) := h.sets b o [v] hb
theorem Ls.setO {w : World} {im out : List Value} {W : World} (h : Ls w im out W) (i : Nat) (hi : i < out.length) (v : Value) : Ls w im (out.set i v) (W.setCell ⟨w.heap.size + 1 + 1, i, none⟩ v) :=
  ⟨h.m.other (by omega) i [v], h.res.other (by omega) i [v], by have := h.o.set i v (by simpa using hi); simpa using this, h.gr.setCells (w.heap.size + 1 + 1) (by omega) [v] i⟩
theorem results_rowL {fn : Func} {p : Tmp} {ty : TypeId} {v : Value} {a : Addr} (h : fn.results = #[.cell p ty]) (tmps : Array Value) (w : World) (ht : tmps.getD p undef = .pointer (some a)) (hl : (loadVar ty a).run Tryd.prog w = .ok v w) :
    (results fn tmps).run Tryd.prog w = .ok v w := by
  have ht' : tmps[p]?.getD undef = .pointer (some a) := by simpa using ht
  simp [results, h, ht', asAddr, hl]
theorem w8_of (n : Nat) (h : n ≤ 281474976710648) : wrap64 ((n : Int) + 8) = (n : Int) + 8 := by unfold wrap64; omega
theorem x8_of (n : Nat) (h : n ≤ 281474976710648) : IntKind.i64.wrap ((n : Int) + 8) = (n : Int) + 8 := by rw [IntKind.wrap_i64]; omega
theorem Done.imp {α β : Type} {ok ok' : World → α → β → Prop} {mk : World → β → Prop} {W : World} {L : List α} {l : List β} {i : Nat} (h : Done ok mk W L l i) (k : ∀ a b, ok W a b → ok' W a b) : Done ok' mk W L l i := fun j hj => by
  refine ⟨fun q => ?_, fun q => (h j hj).2 q⟩
  obtain ⟨v, h1, h2⟩ := (h j hj).1 q
  exact ⟨v, h1, k _ _ h2⟩
theorem range4L {W : World} {b o : Nat} {v0 v1 v2 v3 : Value} (h0 : W.cell? ⟨b, o, none⟩ = some v0) (h1 : W.cell? ⟨b, o + 1, none⟩ = some v1) (h2 : W.cell? ⟨b, o + 1 + 1, none⟩ = some v2) (h3 : W.cell? ⟨b, o + 1 + 1 + 1, none⟩ = some v3) : W.rangeAt b o [v0, v1, v2, v3] := fun j v q => by
  match j with
  | 0 => simp at q; subst q; exact h0
  | 1 => simp at q; subst q; exact h1
  | 2 => simp at q; subst q; exact h2
  | 3 => simp at q; subst q; exact h3
  | j + 4 => simp at q
theorem cell_set_other {W : World} {k j k' j' : Nat} {v : Value} (h : k' ≠ k) : (W.setCell ⟨k, j, none⟩ v).cell? ⟨k', j', none⟩ = W.cell? ⟨k', j', none⟩ := by
  rw [World.cell?_of_block (a := ⟨k', j', none⟩) (setCell_block W k j k' v (Ne.symm h))]
end Q
end Go.Proofs.YtdmkedpnkejpbaaDoor
