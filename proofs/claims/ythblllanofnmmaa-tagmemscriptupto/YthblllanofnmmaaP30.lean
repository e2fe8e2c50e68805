import Derived.Test.YthblllanofnmmaaP29
import Derived.Test.YthblllanofnmmaaP02
/-
  Books of lists that came out: a list written over with marks; marks put behind it one by one.
-/
namespace Go.Proofs.Ythblllanofnmmaa
namespace U
open Go.RowKit
open B

structure Hd (p : Prop) : Prop where
  out : p
theorem there_own {w : World} {lo e size n c g : Nat} {xs : List Value} (h : w.ownsRow lo e size (.slice (some ⟨g, 0, none⟩) n c) n xs) {k : Nat} (hk : k < n) : w.there g (k * size) size := by
  rcases h.2 with ⟨q, _⟩ | ⟨g', cap, cur, q, hb, hg, hn, hc, hz, ht⟩
  · cases q
  · cases q
    intro j hj
    unfold World.cell? World.frozen?
    simp only [hg]
    have hlt : k * size + j < cur.size := by
      rw [hz]
      have h1 : (k + 1) * size ≤ c * size := Nat.mul_le_mul_right _ (Nat.le_trans hk hn)
      rw [Nat.add_mul] at h1
      omega
    simp [hlt]
/-- The first k elements of a list are written over. -/
structure Wt (w : World) (lo K n : Nat) (v : Value) (k : Nat) (W : World) : Prop where
  kq : Kq (fun b => v.ownBlock = some b) w W
  sh : ∃ xs, W.ownsRow lo 42 (mkI K).length v n xs
  cs : ∀ g, v.ownBlock = some g → ∀ q, q < k → ∀ j, j < (mkI K).length → W.cell? ⟨g, q * (mkI K).length + j, none⟩ = (mkI K)[j]?
theorem kq_sets {P : Nat → Prop} {w W : World} (h : Kq P w W) (g o : Nat) (vs : List Value) (hg : P g) : Kq P w (W.setCells g o vs) := by
  have k0 := World.keptBut_setCells g (may := fun _ => True) vs o W (fun _ _ => trivial)
  have hne : ∀ k, ¬ P k → k ≠ g := fun k hp e => hp (by rw [e]; exact hg)
  have kt : ∀ (vs : List Value) (o : Nat) (W : World), (W.setCells g o vs).tape = W.tape := by
    intro vs
    induction vs with
    | nil => intro _ _; rfl
    | cons v r ih => intro o W; exact (ih (o + 1) _).trans rfl
  exact ⟨k0.1.trans h.os, (kt vs o W).trans h.tape, k0.2.1.trans h.output, by rw [setCells_size]; exact h.size, fun k hk hp => (sets_other g vs o W (hne k hp)).trans (h.block k hk hp)⟩
theorem Wt.write {w : World} {lo K n k g c : Nat} {W : World} (h : Wt w lo K n (.slice (some ⟨g, 0, none⟩) n c) k W) (hk : k < n) : Wt w lo K n (.slice (some ⟨g, 0, none⟩) n c) (k + 1) (W.setCells g (k * (mkI K).length) (mkI K)) := by
  obtain ⟨xs, hx⟩ := h.sh
  have th := there_own hx hk
  refine ⟨kq_sets h.kq g _ _ rfl, own_shape hx (fun k' cur q r => by cases q; exact sets_heap g _ _ r), fun g' e q hq j hj => ?_⟩
  cases e
  by_cases e : q = k
  · subst e
    rw [World.cell?_setCells_in g (mkI K) _ W (fun j hj => (th j hj).1) j hj, List.getElem?_eq_getElem hj]
  · have hqk : q < k := by omega
    have h1 : (q + 1) * (mkI K).length ≤ k * (mkI K).length := Nat.mul_le_mul_right _ hqk
    rw [Nat.add_mul] at h1
    rw [World.cell?_setCells_out g _ _ W ⟨g, q * (mkI K).length + j, none⟩ (fun _ _ => .inl (by show q * (mkI K).length + j < k * (mkI K).length; omega))]
    exact h.cs g rfl q hqk j hj
theorem Wt.full {w : World} {lo K n : Nat} {v : Value} {W : World} (h : Wt w lo K n v n W) : W.ownsRow lo 42 (mkI K).length v n (mks (mkI K) n) := by
  obtain ⟨xs, hx⟩ := h.sh
  rcases hx.2 with ⟨rfl, rfl⟩ | ⟨g, cap, cur, rfl, _⟩
  · exact ⟨by simp [mks], .inl ⟨rfl, rfl⟩⟩
  · exact own_of_cells ⟨xs, hx⟩ (h.cs g rfl) (mkI_pos K)
theorem Wt.start {w W1 : World} {lo K n : Nat} {v : Value} (h : ∃ xs, w.ownsRow lo 42 (mkI K).length v n xs) (G : Gr w W1) : Wt w lo K n v 0 W1 := by
  have g := G
  obtain ⟨xs, hx⟩ := h
  exact ⟨(Kq.refl _ w).gr g, ⟨xs, own_below hx g.below⟩, fun g e q hq => absurd hq (Nat.not_lt_zero q)⟩
theorem own_form {W : World} {lo e s n c : Nat} {a : Option Addr} (h : ∃ xs, W.ownsRow lo e s (.slice a n c) n xs) (hn : 0 < n) : ∃ g, a = some ⟨g, 0, none⟩ := by
  obtain ⟨xs, h⟩ := h
  rcases h.2 with ⟨q, _⟩ | ⟨g, cap, cur, q, _⟩
  · cases q; omega
  · cases q; exact ⟨g, rfl⟩
theorem nx_w {i n : Nat} (hi : i < n) (h : n ≤ 1048576) : IntKind.i64.wrap ((i : Int) + 1) = ((i + 1 : Nat) : Int) := by rw [IntKind.wrap_i64]; omega
theorem nx_m {i n : Nat} (hi : i < n) : n - (i + 1) < n - i := by omega
theorem nx_m2 {k n : Nat} (h : k < n) : n - (intOf (.int .i64 ((k + 1 : Nat) : Int))).toNat < n - (intOf (.int .i64 (k : Int))).toNat := by simp [intOf]; omega
/-- Marks are put behind it one by one. -/
structure Lg (w : World) (lo K n : Nat) (v : Value) (lv : Value) (m : Nat) (W : World) : Prop where
  kq : Kq (fun b => v.ownBlock = some b) w W
  ov : W.ownsRow lo 42 (mkI K).length v n (mks (mkI K) n)
  ol : W.ownsRow lo 42 (mkI K).length lv m (mks (mkI K) m)
  pos : ∀ g, lv.ownBlock = some g → v.ownBlock = some g ∨ w.heap.size ≤ g
theorem Wt.lg {w : World} {lo K n : Nat} {v : Value} {W : World} (h : Wt w lo K n v n W) : Lg w lo K n v v n W :=
  ⟨h.kq, h.full, h.full, fun _ e => .inl e⟩
theorem Lg.step {w : World} {lo K n m g c : Nat} {v lv : Value} {W W' : World} {o : Obj} (h : Lg w lo K n v lv m W) (k1 : W'.ownsRow lo 42 (mkI K).length (.slice (some ⟨g, 0, none⟩) (m + 1) c) (m + 1) (mks (mkI K) (m + 1))) (k2 : (W.alloc o).grownBy W' lv.ownBlock) (k3 : lv.ownBlock = some g ∨ g = (W.alloc o).heap.size) (k5 : Mine (mkI K) (W.alloc o) W') (k6 : ∀ (k : Nat) (cur : Array Value), lv.ownBlock = some k → (W.alloc o).heap[k]? = some (Obj.cells cur 42 (0, 0)) → ∃ cur' : Array Value, W'.heap[k]? = some (Obj.cells cur' 42 (0, 0)) ∧ cur'.size = cur.size) : Lg w lo K n v (.slice (some ⟨g, 0, none⟩) (m + 1) c) (m + 1) W' := by
  have g0 : Gr W (W.alloc o) := (Gr.refl W).alloc o
  have sh := shp_app k2 k6
  refine ⟨(h.kq.gr g0).step k2 (fun k q => h.pos k q), own_mine (mkI_pos K) (own_below h.ov g0.below) k5 (fun k cur _ q => sh k cur q), k1, fun g' e => ?_⟩
  have e' : g = g' := by simpa [Value.ownBlock] using e
  subst e'
  rcases k3 with q | q
  · exact h.pos g q
  · refine .inr ?_
    have := h.kq.size; have := g0.below.size; omega
theorem Lg.st {w : World} {lo K n m : Nat} {v lv : Value} {W : World} (h : Lg w lo K n v lv m W) : St w lo K n 0 v lv m none none none none none none W :=
  ⟨h.kq, h.ov, h.ol, fun x q => (by cases q), fun x q => (by cases q), fun a b q => (by cases q), fun a b q => (by cases q), fun x q => (by cases q), fun x q => (by cases q)⟩
end U
end Go.Proofs.Ythblllanofnmmaa


/-
  Books of lists that came out: what keep leaves.
-/
namespace Go.Proofs.Ythblllanofnmmaa
namespace U
open Go.RowKit
open B

theorem infoRow : (Try.prog.info? 82).map (fun i => (i.zero, i.size, i.bytes)) = some (some (.slice none 0 0), 1, 24) := by kernel_rfl
/-- One list of lists more. -/
theorem wp_append_1 {o : Oper} {a : Act} {K : Act → World → Prop} {Q : Exit → Act → World → Prop} {w : World} (s x : Operand)
    (ho : o.op = .call { callee := .builtin .append, args := #[s, x], argTypes := #[38, 38] })
    (base : Nat) (v : Value) (n : Nat) (xs : List Value) (u : Value) (hs : a.eval s = v) (hown : w.ownsRow base 82 1 v n xs) (X : Nat) (hx : a.eval x = .slice (some ⟨X, 0, none⟩) 1 1) (hX : At w X #[u]) (h1 : u.oneCell' = true)
    (hlen : n ≤ 1048576) (hbase : base ≤ w.heap.size)
    (h : ∀ g cap w', w'.ownsRow base 82 1 (.slice (some ⟨g, 0, none⟩) (n + 1) cap) (n + 1) (xs ++ [u]) → w.grownBy w' v.ownBlock → (v.ownBlock = some g ∨ g = w.heap.size) → K (a.put o.dst (.slice (some ⟨g, 0, none⟩) (n + 1) cap)) w') : o.wp Try.prog a w K Q := by
  obtain ⟨i0, hi0, hz0, hz1, hz2⟩ := info_parts infoRow
  refine wp_append_lies _ s x 38 ho base 82 i0 _ 1 24 Try.underlying38 hi0 hz0 hz1 hz2 rfl (by decide) v n xs hs hown ⟨X, 0, none⟩ 1 1 [u] hx rfl (news_at hX) (fun u' hu => by cases List.mem_singleton.1 hu; exact h1) (by decide) (by unfold maxLen; omega) (by omega) hbase _ rfl ?_
  intro g cap w' k1 k2 k3 _
  exact h g cap w' k1 k2 k3
theorem own_blk {W W' : World} {lo e s n : Nat} {v : Value} {xs : List Value} (h : W.ownsRow lo e s v n xs) (hk : ∀ g, v.ownBlock = some g → W'.heap[g]? = W.heap[g]?) : W'.ownsRow lo e s v n xs := by
  refine ⟨h.1, ?_⟩
  rcases h.2 with q | ⟨g, cap, cur, rfl, hb, hg, r⟩
  · exact .inl q
  · exact .inr ⟨g, cap, cur, rfl, hb, (hk g rfl).trans hg, r⟩
theorem at_blk {W W' : World} {k : Nat} {cs : Array Value} (h : At W k cs) (e : W'.heap[k]? = W.heap[k]?) : At W' k cs := by
  refine ⟨?_, fun i => by rw [World.cell?_of_block (a := ⟨k, i, none⟩) e]; exact h.2.1 i, fun i => by rw [World.frozen?_of_block (a := ⟨k, i, none⟩) e]; exact h.2.2 i⟩
  rw [Array.getElem?_eq_getElem h.1] at e
  exact (Array.getElem?_eq_some_iff.1 e).1
/-- What keep leaves. -/
structure Kb (w : World) (lo K n kb : Nat) (v ov_ : Value) (rows : List Value) (w' : World) (gO cO M g1 c1 g2 c2 : Nat) (lv : Value) : Prop where
  kq : Kq (fun b => v.ownBlock = some b ∨ ov_.ownBlock = some b ∨ b = kb) w w'
  box : At w' kb #[.slice (some ⟨gO, 0, none⟩) (K + 1) cO]
  out : w'.ownsRow lo 82 1 (.slice (some ⟨gO, 0, none⟩) (K + 1) cO) (K + 1) (rows ++ [.slice (some ⟨M, 0, none⟩) 4 4])
  pO : ov_.ownBlock = some gO ∨ w.heap.size ≤ gO
  mid : At w' M #[v, .slice (some ⟨g1, 0, none⟩) (n + 1) c1, .slice (some ⟨g2, 0, none⟩) (n + 3) c2, lv]
  pM : w.heap.size ≤ M
  nM : gO ≠ M
  v0 : w'.ownsRow lo 42 (mkI K).length v n (mks (mkI K) n)
  v1 : w'.ownsRow lo 42 (mkI K).length (.slice (some ⟨g1, 0, none⟩) (n + 1) c1) (n + 1) (mks (mkI K) (n + 1))
  v2 : w'.ownsRow lo 42 (mkI K).length (.slice (some ⟨g2, 0, none⟩) (n + 3) c2) (n + 3) (mks (mkI K) (n + 3))
  v3 : w'.ownsRow lo 42 (mkI K).length lv (n + 60) (mks (mkI K) (n + 60))
  p1 : v.ownBlock = some g1 ∨ w.heap.size ≤ g1
  p2 : v.ownBlock = some g2 ∨ w.heap.size ≤ g2
  p3 : ∀ g, lv.ownBlock = some g → v.ownBlock = some g ∨ w.heap.size ≤ g
theorem St.fin {w : World} {lo K n kb g1 c1 g2 c2 M XX gO cO : Nat} {v lv ov_ : Value} {X1 X3 : Option Nat} {rows : List Value} {W W2 : World} (h : St w lo K n 0 v lv (n + 60) X1 X3 (some (g1, c1)) (some (g2, c2)) (some M) (some XX) W) (A0 : At w kb #[ov_]) (hO : w.ownsRow lo 82 1 ov_ K rows) (hkv : ∀ g, v.ownBlock = some g → g ≠ kb) (hko : ∀ g, ov_.ownBlock = some g → g ≠ kb ∧ v.ownBlock ≠ some g) (hl3 : ∀ g, lv.ownBlock = some g → v.ownBlock = some g ∨ w.heap.size ≤ g)
    (k1 : W2.ownsRow lo 82 1 (.slice (some ⟨gO, 0, none⟩) (K + 1) cO) (K + 1) (rows ++ [.slice (some ⟨M, 0, none⟩) 4 4])) (k2 : W.grownBy W2 ov_.ownBlock) (k3 : ov_.ownBlock = some gO ∨ gO = W.heap.size) : Kb w lo K n kb v ov_ rows (W2.setCell ⟨kb, 0, none⟩ (.slice (some ⟨gO, 0, none⟩) (K + 1) cO)) gO cO M g1 c1 g2 c2 lv := by
  have hok : ∀ g, ov_.ownBlock = some g → g < w.heap.size := fun g q => (hO.lt g q).2
  have hkb := A0.1
  have hsz := h.kq.size
  have hgO : gO ≠ kb := by
    rcases k3 with q | q
    · exact (hko gO q).1
    · omega
  have far : ∀ k, k ≠ kb → (W2.setCell ⟨kb, 0, none⟩ (.slice (some ⟨gO, 0, none⟩) (K + 1) cO)).heap[k]? = W2.heap[k]? := fun k hk => Below.heap_setCell W2 ⟨kb, 0, none⟩ _ k hk
  have blk : ∀ k, k < W.heap.size → k ≠ kb → ov_.ownBlock ≠ some k → (W2.setCell ⟨kb, 0, none⟩ (.slice (some ⟨gO, 0, none⟩) (K + 1) cO)).heap[k]? = W.heap[k]? := fun k hk h1 h2 => (far k h1).trans (k2.block k hk (fun e => h2 e.symm))
  have new : ∀ g, (v.ownBlock = some g ∨ w.heap.size ≤ g) → g ≠ kb ∧ ov_.ownBlock ≠ some g := by
    rintro g (q | q)
    · exact ⟨hkv g q, fun e => (hko g e).2 q⟩
    · exact ⟨by omega, fun e => by have := hok g e; omega⟩
  have one : ∀ {m : Nat} {u : Value}, W.ownsRow lo 42 (mkI K).length u m (mks (mkI K) m) → (∀ g, u.ownBlock = some g → v.ownBlock = some g ∨ w.heap.size ≤ g) → (W2.setCell ⟨kb, 0, none⟩ (.slice (some ⟨gO, 0, none⟩) (K + 1) cO)).ownsRow lo 42 (mkI K).length u m (mks (mkI K) m) := fun q p => own_blk q (fun g e => blk g (q.lt g e).2 (new g (p g e)).1 (new g (p g e)).2)
  obtain ⟨o1, p1⟩ := h.o1 g1 c1 rfl
  obtain ⟨o2, p2⟩ := h.o2 g2 c2 rfl
  obtain ⟨a1, b1, a2, b2, e1, e2, hM, pM⟩ := h.xM M rfl
  cases e1
  cases e2
  refine ⟨⟨?_, ?_, ?_, ?_, fun k hk hp => ?_⟩, ?_, own_blk k1 (fun g e => far g (by cases e; exact hgO)), k3.imp_right (fun e => by omega), at_blk hM (blk M hM.1 (new M (.inr pM)).1 (new M (.inr pM)).2), pM, (by
    have hm := hM.1
    rcases k3 with q | q
    · have := hok gO q; omega
    · omega), one h.ov (fun g e => .inl e), one o1 (fun g e => by cases e; exact p1), one o2 (fun g e => by cases e; exact p2), one h.ol (fun g e => hl3 g e), p1, p2, fun g e => hl3 g e⟩
  · exact k2.os.trans h.kq.os
  · exact k2.tape.trans h.kq.tape
  · exact k2.output.trans h.kq.output
  · have := k2.size; simp; omega
  · exact (blk k (Nat.lt_of_lt_of_le hk hsz) (fun e => hp (.inr (.inr e))) (fun e => hp (.inr (.inl e)))).trans (h.kq.block k hk (fun e => hp (.inl e)))
  · exact (at_grown (h.kq.at_ A0 (fun q => hkv kb q rfl)) k2 (fun q => (hko kb q).1 rfl)).set 0 _ (by simp)
end U
end Go.Proofs.Ythblllanofnmmaa
