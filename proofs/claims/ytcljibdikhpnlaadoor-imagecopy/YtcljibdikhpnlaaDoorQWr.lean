import Derived.Test.YtcljibdikhpnlaaDoorQLentS
import Derived.Test.YtcljibdikhpnlaaDoorP35
import Derived.Lib.BufferMore
import Derived.BigFrame
/-
  Programs whose owner writes over them: what may be written, what stays.
-/
namespace Go.Proofs.YtcljibdikhpnlaaDoor
namespace Q
open Go.RowKit

/-- A block and what became of it: the same, or as many cells of the same type. -/
def Shp (o o' : Option Obj) : Prop := o' = o ∨ ∃ cur cur' t f, o = some (.cells cur t f) ∧ o' = some (.cells cur' t f) ∧ cur'.size = cur.size
theorem Shp.trans {a b c : Option Obj} (h : Shp a b) (g : Shp b c) : Shp a c := by
  rcases h with rfl | ⟨x, x', t, f, e1, e2, e3⟩
  · exact g
  · rcases g with rfl | ⟨y, y', t', f', q1, q2, q3⟩
    · exact .inr ⟨x, x', t, f, e1, e2, e3⟩
    · rw [e2] at q1
      cases q1
      exact .inr ⟨x, y', t, f, e1, q2, q3.trans e3⟩
theorem shp_set (w : World) (b o : Nat) (v : Value) (k : Nat) : Shp w.heap[k]? (w.setCell ⟨b, o, none⟩ v).heap[k]? := by
  by_cases e : k = b
  · subst e
    unfold World.setCell
    simp only [Array.getElem?_modify]
    cases h : w.heap[k]? with
    | none => exact .inl (by simp)
    | some x =>
      cases x with
      | cells cur t f => exact .inr ⟨cur, _, t, f, rfl, rfl, by simp⟩
      | _ => exact .inl (by simp)
  · exact .inl (Below.heap_setCell w ⟨b, o, none⟩ v k e)
theorem shp_sets (b k : Nat) : ∀ (vs : List Value) (o : Nat) (w : World), Shp w.heap[k]? (w.setCells b o vs).heap[k]?
  | [], _, _ => .inl rfl
  | v :: r, o, w => (shp_set w b o v k).trans (shp_sets b k r (o + 1) (w.setCell ⟨b, o, none⟩ v))
theorem Shp.there {w w' : World} {b o n : Nat} (h : Shp w.heap[b]? w'.heap[b]?) (ht : w.there b o n) : w'.there b o n := fun j hj => by
  have q := ht j hj
  rcases h with e | ⟨cur, cur', t, f, e1, e2, e3⟩
  · rw [World.cell?_of_block (a := ⟨b, o + j, none⟩) e, World.frozen?_of_block (a := ⟨b, o + j, none⟩) e]
    exact q
  · obtain ⟨f1, f2⟩ := f
    unfold World.cell? World.frozen? at q ⊢
    simp only [e1, e2] at q ⊢
    refine ⟨?_, q.2⟩
    have q1 := q.1
    simp only [Option.isSome_none, Bool.false_eq_true, if_false] at q1 ⊢
    rw [Option.isSome_iff_exists] at q1 ⊢
    obtain ⟨y, hy⟩ := q1
    obtain ⟨hlt, _⟩ := Array.getElem?_eq_some_iff.1 hy
    exact ⟨_, Array.getElem?_eq_getElem (by rw [e3]; exact hlt)⟩
theorem Shp.own {w w' : World} {lo e size n : Nat} {v : Value} {xs : List Value} (h : w.ownsRow lo e size v n xs) (hs : ∀ g, v.ownBlock = some g → Shp w.heap[g]? w'.heap[g]?) : ∃ xs', w'.ownsRow lo e size v n xs' := by
  rcases h.2 with ⟨rfl, rfl⟩ | ⟨g, cap, cur, rfl, hb, hg, hn, hc, hz, ht⟩
  · exact ⟨[], by simp, .inl ⟨rfl, rfl⟩⟩
  · rcases hs g rfl with q | ⟨x, x', t, f, q1, q2, q3⟩
    · exact ⟨xs, h.1, .inr ⟨g, cap, cur, rfl, hb, q.trans hg, hn, hc, hz, ht⟩⟩
    · rw [hg] at q1
      cases q1
      refine ⟨x'.toList.take (n * size), ?_, .inr ⟨g, cap, x', rfl, hb, q2, hn, hc, q3.trans hz, rfl⟩⟩
      rw [List.length_take, Array.length_toList, q3, hz]
      exact Nat.min_eq_left (Nat.mul_le_mul_right _ hn)
theorem own_there {w : World} {lo e size n c g : Nat} {xs : List Value} (h : w.ownsRow lo e size (.slice (some ⟨g, 0, none⟩) n c) n xs) : w.there g 0 (n * size) := by
  rcases h.2 with ⟨q, _⟩ | ⟨g', cap, cur, q, hb, hg, hn, hc, hz, ht⟩
  · cases q
  · cases q
    intro j hj
    unfold World.cell? World.frozen?
    simp only [hg, Nat.zero_add]
    have hlt : j < cur.size := by
      rw [hz]
      exact Nat.lt_of_lt_of_le hj (Nat.mul_le_mul_right _ hn)
    simp [hlt]
/-- Only what lies from 'lo' to 'hi', and what is new, has been written since 'W0'; cells of 'H' have not. -/
structure Wr (lo hi : Nat) (H : Nat → Nat → Prop) (W0 W : World) : Prop where
  os : W.os = W0.os
  tape : W.tape = W0.tape
  output : W.output = W0.output
  size : W0.heap.size ≤ W.heap.size
  out : ∀ b, b < W0.heap.size → b < lo ∨ hi ≤ b → W.heap[b]? = W0.heap[b]?
  sh : ∀ b, b < W0.heap.size → Shp W0.heap[b]? W.heap[b]?
  hd : ∀ b o, b < W0.heap.size → H b o → W.cell? ⟨b, o, none⟩ = W0.cell? ⟨b, o, none⟩
theorem Wr.refl (lo hi : Nat) (H : Nat → Nat → Prop) (W : World) : Wr lo hi H W W := ⟨rfl, rfl, rfl, Nat.le_refl _, fun _ _ _ => rfl, fun _ _ => .inl rfl, fun _ _ _ _ => rfl⟩
theorem Wr.weak {lo hi : Nat} {H H' : Nat → Nat → Prop} {W0 W : World} (h : Wr lo hi H W0 W) (q : ∀ b o, H' b o → H b o) : Wr lo hi H' W0 W := ⟨h.os, h.tape, h.output, h.size, h.out, h.sh, fun b o hb k => h.hd b o hb (q b o k)⟩
theorem Wr.sets {lo hi : Nat} {H H' : Nat → Nat → Prop} {W0 W : World} (h : Wr lo hi H W0 W) (b o : Nat) (vs : List Value) (hb : lo ≤ b ∧ b < hi ∨ W0.heap.size ≤ b) (q : ∀ b o, H' b o → H b o) (hn : ∀ o', H' b o' → o' < o ∨ o + vs.length ≤ o') : Wr lo hi H' W0 (W.setCells b o vs) := by
  have hx : ∀ c, c ≠ b → (W.setCells b o vs).heap[c]? = W.heap[c]? := fun c hc => setCells_block b c (Ne.symm hc) vs o W
  have hw : ∀ (vs : List Value) (o : Nat) (W : World), (W.setCells b o vs).os = W.os ∧ (W.setCells b o vs).tape = W.tape ∧ (W.setCells b o vs).output = W.output := by
    intro vs
    induction vs with
    | nil => exact fun _ _ => ⟨rfl, rfl, rfl⟩
    | cons v r ih => exact fun o W => ih (o + 1) (W.setCell ⟨b, o, none⟩ v)
  refine ⟨(hw vs o W).1.trans h.os, (hw vs o W).2.1.trans h.tape, (hw vs o W).2.2.trans h.output, by rw [setCells_size]; exact h.size, fun c hc k => ?_, fun c hc => (h.sh c hc).trans (shp_sets b c vs o W), fun c p hc k => ?_⟩
  · rw [hx c (by omega)]
    exact h.out c hc k
  · rw [← h.hd c p hc (q c p k)]
    by_cases e : c = b
    · subst e
      exact World.cell?_setCells_out c vs o W ⟨c, p, none⟩ (fun _ _ => hn p k)
    · exact World.cell?_of_block (a := ⟨c, p, none⟩) (hx c e)
theorem Wr.grown {lo hi : Nat} {H : Nat → Nat → Prop} {W0 W W' : World} {row : Option Nat} (h : Wr lo hi H W0 W) (g : W.grownBy W' row) (hr : ∀ k, row = some k → (lo ≤ k ∧ k < hi ∨ W0.heap.size ≤ k) ∧ (∀ o, ¬ H k o) ∧ Shp W.heap[k]? W'.heap[k]?) : Wr lo hi H W0 W' := by
  refine ⟨g.os.trans h.os, g.tape.trans h.tape, g.output.trans h.output, Nat.le_trans h.size g.size, fun c hc k => ?_, fun c hc => ?_, fun c p hc k => ?_⟩
  · rw [g.block c (Nat.lt_of_lt_of_le hc h.size) (fun e => by have := (hr c e.symm).1; omega)]
    exact h.out c hc k
  · by_cases e : row = some c
    · exact (h.sh c hc).trans (hr c e).2.2
    · have := g.block c (Nat.lt_of_lt_of_le hc h.size) (fun q => e q.symm)
      rw [this]
      exact h.sh c hc
  · rw [← h.hd c p hc k]
    exact World.cell?_of_block (a := ⟨c, p, none⟩) (g.block c (Nat.lt_of_lt_of_le hc h.size) (fun q => (hr c q.symm).2.1 p k))
theorem Wr.gr {lo hi : Nat} {H : Nat → Nat → Prop} {W0 W W' : World} (h : Wr lo hi H W0 W) (g : Gr W W') : Wr lo hi H W0 W' :=
  h.grown (row := none) ⟨g.below.os, g.below.tape, g.below.output, g.below.size, fun k hk _ => g.below.block k hk⟩ (fun k e => by cases e)
theorem Wr.at_ {lo hi : Nat} {H : Nat → Nat → Prop} {W0 W : World} (h : Wr lo hi H W0 W) {k : Nat} {cs : Array Value} (hA : At W0 k cs) (hk : k < lo ∨ hi ≤ k) : At W k cs := by
  have e := h.out k hA.1 hk
  refine ⟨Nat.lt_of_lt_of_le hA.1 h.size, fun i => by rw [World.cell?_of_block (a := ⟨k, i, none⟩) e]; exact hA.2.1 i, fun i => by rw [World.frozen?_of_block (a := ⟨k, i, none⟩) e]; exact hA.2.2 i⟩
theorem Wr.th {lo hi : Nat} {H : Nat → Nat → Prop} {W0 W : World} (h : Wr lo hi H W0 W) {b o n : Nat} (q : W0.there b o n) : W.there b o n := fun j hj => by
  have hb : b < W0.heap.size := by
    obtain ⟨y, hy⟩ := Option.isSome_iff_exists.1 (q j hj).1
    exact World.block_lt_of_cell? W0 ⟨b, o + j, none⟩ hy
  exact (h.sh b hb).there q j hj
theorem Wr.own {lo hi : Nat} {H : Nat → Nat → Prop} {W0 W : World} (h : Wr lo hi H W0 W) {l e size n : Nat} {v : Value} (q : ∃ xs, W0.ownsRow l e size v n xs) : ∃ xs, W.ownsRow l e size v n xs := by
  obtain ⟨xs, q⟩ := q
  exact Shp.own q (fun g e => h.sh g (own_block q g e).2)
theorem own_sets {w : World} {l e size n : Nat} {v : Value} (q : ∃ xs, w.ownsRow l e size v n xs) (b o : Nat) (vs : List Value) : ∃ xs, (w.setCells b o vs).ownsRow l e size v n xs := by
  obtain ⟨xs, q⟩ := q
  exact Shp.own q (fun g _ => shp_sets b g vs o w)
/-- An append onto a row of one's own: how the row's block stays. -/
theorem run_append_shp (w : World) (t ty : TypeId) (base : Nat) (e : TypeId) (i : TypeInfo) (z : Value) (size bytes : Nat) (ht : Tryd.prog.underlying t = some (.slice e)) (hi : Tryd.prog.info? e = some i) (hz : i.zero = some z)
    (hsize : i.size = size) (hby : i.bytes = bytes) (hzs : z.cells.size = size) (hsz : 0 < size)
    (v : Value) (n : Nat) (xs : List Value) (hown : w.ownsRow base e size v n xs)
    (ad : Addr) (m c : Nat) (news : List Value) (hl : news.length = m * size) (hnews : ∀ j u, news[j]? = some u → w.cell? (ad.add j) = some u) (h1 : ∀ u ∈ news, u.oneCell' = true)
    (hm : 0 < m) (h63 : n + m ≤ maxLen) (hbytes : (n + m) * bytes ≤ 140737488355328) (hbase : base ≤ w.heap.size) :
    ∃ g cap w', (Builtin.append_ #[t, t] ty #[v, .slice (some ad) m c]).run Tryd.prog w = .ok (.slice (some ⟨g, 0, none⟩) (n + m) cap) w' ∧
      w'.ownsRow base e size (.slice (some ⟨g, 0, none⟩) (n + m) cap) (n + m) (xs ++ news) ∧ w.grownBy w' v.ownBlock ∧ (v.ownBlock = some g ∨ g = w.heap.size) ∧ (∀ k, v.ownBlock = some k → Shp w.heap[k]? w'.heap[k]?) := by
  obtain ⟨g, cap', w', hr, h2, h3, h4, _⟩ := run_append_lies (P := Tryd.prog) w t ty base e i z size bytes ht hi hz hsize hby hzs hsz v n xs hown ad m c news hl hnews h1 hm h63 hbytes hbase _ rfl
  refine ⟨g, cap', w', hr, h2, h3, h4, fun k hv => ?_⟩
  subst hsize
  subst hby
  rcases hown.2 with ⟨rfl, _⟩ | ⟨g', cap, cur, rfl, hbg, hg, hnc, hcm, hcs, htake⟩
  · cases hv
  · have hv' : g' = k := by simpa [Value.ownBlock] using hv
    subst hv'
    by_cases hroom : n + m ≤ cap
    · have hfit : n * i.size + news.length ≤ cur.size := by rw [hl, hcs, ← Nat.add_mul]; exact Nat.mul_le_mul_right _ hroom
      have hrr := run_append_room (P := Tryd.prog) w t ty e i ht hi g' n cap cur hg ad m c news hl hnews h1 hroom hfit
      rw [hr] at hrr
      injection hrr with e1 e2
      subst e2
      refine .inr ⟨cur, _, e, (0, 0), hg, setRow_heap w g' cur _ e _ hg, ?_⟩
      simp only [List.size_toArray, List.length_append, List.length_take, List.length_drop, Array.length_toList]
      omega
    · have holds : ∀ j u, xs[j]? = some u → w.cell? ((⟨g', 0, none⟩ : Addr).add j) = some u := World.ownsRow.cells hown (g := g') rfl
      have hrr := run_append_grow (P := Tryd.prog) w t ty e i z ht hi hz ⟨g', 0, none⟩ n cap xs hown.1 holds ad m c news hl hnews (by omega) (by simp only [maxLen] at h63; omega) (growslice_fits (by omega) hbytes)
      rw [hr] at hrr
      injection hrr with e1 e2
      subst e2
      exact .inl (heap_alloc_old w.drew _ (Array.getElem?_eq_some_iff.1 hg).1)
theorem wpList_append_wr {ops : Array Oper} {rest : List Oper} {o : Oper} {a : Act} {Q : Exit → Act → World → Prop} {w : World} (hgd : o.guard = none) (s x : Operand) (t e : TypeId) (z : Value) (size bytes : Nat)
    (ho : o.op = .call { callee := .builtin .append, args := #[s, x], argTypes := #[t, t] }) (ht : Tryd.prog.underlying t = some (.slice e))
    (hi : (Tryd.prog.info? e).map (fun i => (i.zero, i.size, i.bytes)) = some (some z, size, bytes)) (hz : z.cells.size = size) (hsz : 0 < size) (hby : 0 < bytes)
    (lo hi' : Nat) (H : Nat → Nat → Prop) (W0 : World) (hW : Wr lo hi' H W0 w) (hlo : lo ≤ W0.heap.size)
    (v : Value) (n : Nat) (hs : a.eval s = v) (hown : ∃ xs, w.ownsRow lo e size v n xs) (hb : ∀ g, v.ownBlock = some g → g < hi' ∧ ∀ o, ¬ H g o)
    (X : Nat) (cs : List Value) (hx : a.eval x = .slice (some ⟨X, 0, none⟩) 2 2) (hX : At w X cs.toArray) (hc : cs.length = 2 * size) (h1 : ∀ u ∈ cs, u.oneCell' = true) (hlen : (n + 2) * bytes ≤ 140737488355328)
    (h : ∀ g cap w', (∃ xs, w'.ownsRow lo e size (.slice (some ⟨g, 0, none⟩) (n + 2) cap) (n + 2) xs) → Wr lo hi' H W0 w' → ((lo ≤ g ∧ g < hi' ∧ ∀ o, ¬ H g o) ∨ W0.heap.size ≤ g) → wpList Tryd.prog ops Q rest (a.put o.dst (.slice (some ⟨g, 0, none⟩) (n + 2) cap)) w') :
    wpList Tryd.prog ops Q (o :: rest) a w := by
  obtain ⟨i0, hi0, hz0, hz1, hz2⟩ := info_parts hi
  obtain ⟨xs, hown⟩ := hown
  have hb1 := Nat.le_mul_of_pos_right (n + 2) hby
  refine wpList_plain hgd fun K hK => ?_
  obtain ⟨g, c, w', hr, k1, k2, k3, k4⟩ := run_append_shp w t o.type lo e i0 z size bytes ht hi0 hz0 hz1 hz2 hz hsz v n xs hown ⟨X, 0, none⟩ 2 2 cs (by omega) (news_at hX) h1 (by decide) (by unfold maxLen; omega) hlen (Nat.le_trans hlo hW.size)
  unfold Oper.wp execOp
  simp only [ho, resolve, invoke, builtin, Sem.run_bind, Sem.run_pure, Result.andThen_ok, List.map_toArray, List.map_cons, List.map_nil, hs, hx, hr]
  refine hK _ _ (h g c w' ⟨_, k1⟩ (hW.grown k2 (fun k q => ⟨.inl ⟨(own_block hown k q).1, (hb k q).1⟩, (hb k q).2, k4 k q⟩)) ?_)
  rcases k3 with q | q
  · exact .inl ⟨(own_block hown g q).1, (hb g q).1, (hb g q).2⟩
  · exact .inr (by rw [q]; exact hW.size)
end Q
end Go.Proofs.YtcljibdikhpnlaaDoor
