/-
  Books of lists that came out: what keep leaves.
-/
import Derived.Test.YtknefcpfmggonaaDoorBWt
import Derived.Test.YtknefcpfmggonaaDoorIDec
namespace Go.Proofs.YtknefcpfmggonaaDoor
namespace B
open Go.RowKit

theorem infoRow : (Tryd.prog.info? 41).map (fun i => (i.zero, i.size, i.bytes)) = some (some (.slice none 0 0), 1, 24) := by kernel_rfl
/-- One list of lists more. -/
theorem wp_append_1 {o : Oper} {a : Act} {K : Act → World → Prop} {Q : Exit → Act → World → Prop} {w : World} (s x : Operand)
    (ho : o.op = .call { callee := .builtin .append, args := #[s, x], argTypes := #[23, 23] })
    (base : Nat) (v : Value) (n : Nat) (xs : List Value) (u : Value) (hs : a.eval s = v) (hown : w.ownsRow base 41 1 v n xs) (X : Nat) (hx : a.eval x = .slice (some ⟨X, 0, none⟩) 1 1) (hX : At w X #[u]) (h1 : u.oneCell' = true)
    (hlen : n ≤ 1048576) (hbase : base ≤ w.heap.size)
    (h : ∀ g cap w', w'.ownsRow base 41 1 (.slice (some ⟨g, 0, none⟩) (n + 1) cap) (n + 1) (xs ++ [u]) → w.grownBy w' v.ownBlock → (v.ownBlock = some g ∨ g = w.heap.size) → K (a.put o.dst (.slice (some ⟨g, 0, none⟩) (n + 1) cap)) w') : o.wp Tryd.prog a w K Q := by
  obtain ⟨i0, hi0, hz0, hz1, hz2⟩ := info_parts infoRow
  refine wp_append_lies _ s x 23 ho base 41 i0 _ 1 24 Tryd.underlying23 hi0 hz0 hz1 hz2 rfl (by decide) v n xs hs hown ⟨X, 0, none⟩ 1 1 [u] hx rfl (news_at hX) (fun u' hu => by cases List.mem_singleton.1 hu; exact h1) (by decide) (by unfold maxLen; omega) (by omega) hbase _ rfl ?_
  intro g cap w' k1 k2 k3 _
  exact h g cap w' k1 k2 k3
theorem own_blk {W W' : World} {lo e s n : Nat} {v : Value} {xs : List Value} (h : W.ownsRow lo e s v n xs) (hk : ∀ g, v.ownBlock = some g → W'.heap[g]? = W.heap[g]?) : W'.ownsRow lo e s v n xs := by
  refine ⟨h.1, ?_⟩
  rcases h.2 with q | ⟨g, cap, cur, rfl, hb, hg, r⟩
  · exact .inl q
  · exact .inr ⟨g, cap, cur, rfl, hb, (hk g rfl).trans hg, r⟩
theorem at_blk {W W' : World} {k : Nat} {cs : Array Value} (h : At W k cs) (e : W'.heap[k]? = W.heap[k]?) : At W' k cs := by
  refine ⟨?_, fun i => by rw [World.cell?_of_block (a := ⟨k, i, none⟩) e]; exact h.2.1 i, fun i => by rw [World.frozen?_of_block (a := ⟨k, i, none⟩) e]; exact h.2.2 i⟩
  rw [Array.getElem?_eq_getElem h.1] at e
  exact (Array.getElem?_eq_some_iff.1 e).1
/-- What keep leaves. -/
structure Kb (w : World) (lo K n kb : Nat) (v ov_ : Value) (rows : List Value) (w' : World) (gO cO M g1 c1 g2 c2 : Nat) (lv : Value) : Prop where
  kq : Kq (fun b => v.ownBlock = some b ∨ ov_.ownBlock = some b ∨ b = kb) w w'
  box : At w' kb #[.slice (some ⟨gO, 0, none⟩) (K + 1) cO]
  out : w'.ownsRow lo 41 1 (.slice (some ⟨gO, 0, none⟩) (K + 1) cO) (K + 1) (rows ++ [.slice (some ⟨M, 0, none⟩) 4 4])
  pO : ov_.ownBlock = some gO ∨ w.heap.size ≤ gO
  mid : At w' M #[v, .slice (some ⟨g1, 0, none⟩) (n + 1) c1, .slice (some ⟨g2, 0, none⟩) (n + 3) c2, lv]
  pM : w.heap.size ≤ M
  nM : gO ≠ M
  v0 : w'.ownsRow lo 35 (mkI K).length v n (mks (mkI K) n)
  v1 : w'.ownsRow lo 35 (mkI K).length (.slice (some ⟨g1, 0, none⟩) (n + 1) c1) (n + 1) (mks (mkI K) (n + 1))
  v2 : w'.ownsRow lo 35 (mkI K).length (.slice (some ⟨g2, 0, none⟩) (n + 3) c2) (n + 3) (mks (mkI K) (n + 3))
  v3 : w'.ownsRow lo 35 (mkI K).length lv (n + 60) (mks (mkI K) (n + 60))
  p1 : v.ownBlock = some g1 ∨ w.heap.size ≤ g1
  p2 : v.ownBlock = some g2 ∨ w.heap.size ≤ g2
  p3 : ∀ g, lv.ownBlock = some g → v.ownBlock = some g ∨ w.heap.size ≤ g
theorem St.fin {w : World} {lo K n kb km g1 c1 g2 c2 M XX gO cO : Nat} {v lv ov_ : Value} {X1 X3 : Option Nat} {rows : List Value} {W W2 : World} (h : St w lo K n 0 v lv (n + 60) km X1 X3 (some (g1, c1)) (some (g2, c2)) (some M) (some XX) W) (A0 : At w kb #[ov_]) (hO : w.ownsRow lo 41 1 ov_ K rows) (hkv : ∀ g, v.ownBlock = some g → g ≠ kb) (hko : ∀ g, ov_.ownBlock = some g → g ≠ kb ∧ v.ownBlock ≠ some g) (hl3 : ∀ g, lv.ownBlock = some g → (v.ownBlock = some g ∨ w.heap.size ≤ g) ∧ g ≠ km)
    (k1 : W2.ownsRow lo 41 1 (.slice (some ⟨gO, 0, none⟩) (K + 1) cO) (K + 1) (rows ++ [.slice (some ⟨M, 0, none⟩) 4 4])) (k2 : W.grownBy W2 ov_.ownBlock) (k3 : ov_.ownBlock = some gO ∨ gO = W.heap.size) : Kb w lo K n kb v ov_ rows (W2.setCell ⟨kb, 0, none⟩ (.slice (some ⟨gO, 0, none⟩) (K + 1) cO)) gO cO M g1 c1 g2 c2 lv := by
  have hok : ∀ g, ov_.ownBlock = some g → g < w.heap.size := fun g q => (hO.lt g q).2
  have hkb := A0.1
  have hsz := h.kq.size
  have hgO : gO ≠ kb := by
    rcases k3 with q | q
    · exact (hko gO q).1
    · omega
  have far : ∀ k, k ≠ kb → (W2.setCell ⟨kb, 0, none⟩ (.slice (some ⟨gO, 0, none⟩) (K + 1) cO)).heap[k]? = W2.heap[k]? := fun k hk => Below.heap_setCell W2 ⟨kb, 0, none⟩ _ k hk
  have blk : ∀ k, k < W.heap.size → k ≠ kb → ov_.ownBlock ≠ some k → (W2.setCell ⟨kb, 0, none⟩ (.slice (some ⟨gO, 0, none⟩) (K + 1) cO)).heap[k]? = W.heap[k]? := fun k hk h1 h2 => (far k h1).trans (k2.block k hk (fun e => h2 e.symm))
  have new : ∀ g, (v.ownBlock = some g ∨ w.heap.size ≤ g) → g ≠ kb ∧ ov_.ownBlock ≠ some g := by
    rintro g (q | q)
    · exact ⟨hkv g q, fun e => (hko g e).2 q⟩
    · exact ⟨by omega, fun e => by have := hok g e; omega⟩
  have one : ∀ {m : Nat} {u : Value}, W.ownsRow lo 35 (mkI K).length u m (mks (mkI K) m) → (∀ g, u.ownBlock = some g → v.ownBlock = some g ∨ w.heap.size ≤ g) → (W2.setCell ⟨kb, 0, none⟩ (.slice (some ⟨gO, 0, none⟩) (K + 1) cO)).ownsRow lo 35 (mkI K).length u m (mks (mkI K) m) := fun q p => own_blk q (fun g e => blk g (q.lt g e).2 (new g (p g e)).1 (new g (p g e)).2)
  obtain ⟨o1, p1⟩ := h.o1 g1 c1 rfl
  obtain ⟨o2, p2⟩ := h.o2 g2 c2 rfl
  obtain ⟨a1, b1, a2, b2, e1, e2, hM, pM⟩ := h.xM M rfl
  cases e1
  cases e2
  refine ⟨⟨?_, ?_, ?_, ?_, fun k hk hp => ?_⟩, ?_, own_blk k1 (fun g e => far g (by cases e; exact hgO)), k3.imp_right (fun e => by omega), at_blk hM (blk M hM.1 (new M (.inr pM)).1 (new M (.inr pM)).2), pM, (by
    have hm := hM.1
    rcases k3 with q | q
    · have := hok gO q; omega
    · omega), one h.ov (fun g e => .inl e), one o1 (fun g e => by cases e; exact p1), one o2 (fun g e => by cases e; exact p2), one h.ol (fun g e => (hl3 g e).1), p1, p2, fun g e => (hl3 g e).1⟩
  · exact k2.os.trans h.kq.os
  · exact k2.tape.trans h.kq.tape
  · exact k2.output.trans h.kq.output
  · have := k2.size; simp; omega
  · exact (blk k (Nat.lt_of_lt_of_le hk hsz) (fun e => hp (.inr (.inr e))) (fun e => hp (.inr (.inl e)))).trans (h.kq.block k hk (fun e => hp (.inl e)))
  · exact (at_grown (h.kq.at_ A0 (fun q => hkv kb q rfl)) k2 (fun q => (hko kb q).1 rfl)).set 0 _ (by simp)
end B
end Go.Proofs.YtknefcpfmggonaaDoor
