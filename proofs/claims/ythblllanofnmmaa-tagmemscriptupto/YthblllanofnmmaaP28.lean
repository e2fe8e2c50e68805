import Derived.Test.YthblllanofnmmaaP27
import Derived.Deep.AppendLies
import Derived.Laws.Rows
/-
  Books of lists that came out: marks, and appends of marks onto marks.
-/
namespace Go.Proofs.Ythblllanofnmmaa
namespace B
open Go.RowKit

/-- So many marks in a row. -/
def mks (mv : List Value) (n : Nat) : List Value := (List.replicate n mv).flatten
theorem mks_len (mv : List Value) (n : Nat) : (mks mv n).length = n * mv.length := by
  unfold mks
  induction n with
  | zero => simp
  | succ n ih => rw [List.replicate_succ, List.flatten_cons, List.length_append, ih, Nat.add_mul]; omega
theorem mks_add (mv : List Value) (n m : Nat) : mks mv (n + m) = mks mv n ++ mks mv m := by
  unfold mks
  rw [← List.replicate_append_replicate, List.flatten_append]
theorem mks_at (mv : List Value) : ∀ (n q j : Nat), q < n → j < mv.length → (mks mv n)[q * mv.length + j]? = mv[j]?
  | n + 1, 0, j, _, hj => by
    unfold mks
    rw [List.replicate_succ, List.flatten_cons, Nat.zero_mul, Nat.zero_add, List.getElem?_append_left hj]
  | n + 1, q + 1, j, hq, hj => by
    have := mks_at mv n q j (by omega) hj
    unfold mks at this ⊢
    rw [List.replicate_succ, List.flatten_cons, List.getElem?_append_right (by rw [Nat.add_mul]; omega), show (q + 1) * mv.length + j - mv.length = q * mv.length + j by rw [Nat.add_mul]; omega]
    exact this
theorem mks_one (mv : List Value) (n : Nat) (h : ∀ u ∈ mv, u.oneCell' = true) : ∀ u ∈ mks mv n, u.oneCell' = true := by
  intro u hu
  unfold mks at hu
  obtain ⟨l, hl, hu⟩ := List.mem_flatten.1 hu
  rw [(List.mem_replicate.1 hl).2] at hu
  exact h u hu
/-- What is a mark stays one. -/
def Mine (mv : List Value) (w w' : World) : Prop := ∀ b q, (∀ j, j < mv.length → w.cell? ⟨b, q * mv.length + j, none⟩ = mv[j]?) → ∀ j, j < mv.length → w'.cell? ⟨b, q * mv.length + j, none⟩ = mv[j]?
theorem Mine.refl (mv : List Value) (w : World) : Mine mv w w := fun _ _ h => h
theorem Mine.trans {mv : List Value} {w w1 w2 : World} (h : Mine mv w w1) (g : Mine mv w1 w2) : Mine mv w w2 := fun b q k => g b q (h b q k)
theorem cell_blk {w w' : World} {k : Nat} (h : w'.heap[k]? = w.heap[k]?) (o : Nat) : w'.cell? ⟨k, o, none⟩ = w.cell? ⟨k, o, none⟩ := World.cell?_of_block (a := ⟨k, o, none⟩) h
theorem cell_ltB {mv : List Value} (h0 : 0 < mv.length) {w : World} {b q : Nat} (h : ∀ j, j < mv.length → w.cell? ⟨b, q * mv.length + j, none⟩ = mv[j]?) : b < w.heap.size := by
  have := h 0 h0
  rw [List.getElem?_eq_getElem h0] at this
  exact World.block_lt_of_cell? w ⟨b, q * mv.length + 0, none⟩ this
theorem Mine.below {mv : List Value} (h0 : 0 < mv.length) {w w' : World} (h : Below w.heap.size w w') : Mine mv w w' := fun b q k j hj => by
  rw [cell_blk (h.block b (cell_ltB h0 k))]
  exact k j hj
theorem cell_row (w : World) (g o : Nat) (cur : Array Value) (e : TypeId) (fr : Nat × Nat) (h : w.heap[g]? = some (.cells cur e fr)) : w.cell? ⟨g, o, none⟩ = cur[o]? := by
  simp [World.cell?, h]
theorem run_append_m (mv : List Value) (w : World) (t ty : TypeId) (base : Nat) (e : TypeId) (i : TypeInfo) (z : Value) (bytes : Nat) (ht : Try.prog.underlying t = some (.slice e)) (hi : Try.prog.info? e = some i) (hz : i.zero = some z)
    (hsize : i.size = mv.length) (hby : i.bytes = bytes) (hzs : z.cells.size = mv.length) (hsz : 0 < mv.length) (h1 : ∀ u ∈ mv, u.oneCell' = true)
    (v : Value) (n : Nat) (hown : w.ownsRow base e mv.length v n (mks mv n)) (X m c : Nat) (hX : At w X (mks mv m).toArray)
    (hm : 0 < m) (h63 : n + m ≤ maxLen) (hbytes : (n + m) * bytes ≤ 140737488355328) (hbase : base ≤ w.heap.size) :
    ∃ g cap w', (Builtin.append_ #[t, t] ty #[v, .slice (some ⟨X, 0, none⟩) m c]).run Try.prog w = .ok (.slice (some ⟨g, 0, none⟩) (n + m) cap) w' ∧
      w'.ownsRow base e mv.length (.slice (some ⟨g, 0, none⟩) (n + m) cap) (n + m) (mks mv (n + m)) ∧ w.grownBy w' v.ownBlock ∧ (v.ownBlock = some g ∨ g = w.heap.size) ∧ g < w'.heap.size ∧ Mine mv w w' ∧ (∀ k cur, v.ownBlock = some k → w.heap[k]? = some (.cells cur e (0, 0)) → ∃ cur', w'.heap[k]? = some (.cells cur' e (0, 0)) ∧ cur'.size = cur.size) := by
  have hl : (mks mv m).length = m * mv.length := mks_len mv m
  have hnews := news_at hX
  have h1' := mks_one mv m h1
  obtain ⟨g, cap', w', hr, h2, h3, h4, h5⟩ := run_append_lies (P := Try.prog) w t ty base e i z mv.length bytes ht hi hz hsize hby hzs hsz v n (mks mv n) hown ⟨X, 0, none⟩ m c (mks mv m) hl hnews h1' hm h63 hbytes hbase _ rfl
  rw [← mks_add] at h2
  refine ⟨g, cap', w', hr, h2, h3, h4, h5, fun b q k j hj => ?_, fun k cur0 hv hk0 => ?_⟩
  rotate_left
  · rcases hown.2 with ⟨rfl, _⟩ | ⟨g', cap, cur, rfl, hbg, hg, hnc, hcm, hcs, htake⟩
    · cases hv
    · have hv' : g' = k := by simpa [Value.ownBlock] using hv
      subst hv'
      rw [hg] at hk0
      cases hk0
      by_cases hroom : n + m ≤ cap
      · have hfit : n * i.size + (mks mv m).length ≤ cur0.size := by rw [hl, hcs, hsize, ← Nat.add_mul]; exact Nat.mul_le_mul_right _ hroom
        have hrr := run_append_room (P := Try.prog) w t ty e i ht hi g' n cap cur0 hg ⟨X, 0, none⟩ m c (mks mv m) (by rw [hsize]; exact hl) hnews h1' hroom hfit
        have e2 := (Result.ok.inj (hr.symm.trans hrr)).2
        subst e2
        refine ⟨_, setRow_heap w g' cur0 _ e _ hg, ?_⟩
        simp only [List.size_toArray, List.length_append, List.length_take, List.length_drop, Array.length_toList]
        omega
      · have holds : ∀ j u, (mks mv n)[j]? = some u → w.cell? ((⟨g', 0, none⟩ : Addr).add j) = some u := World.ownsRow.cells hown (g := g') rfl
        have hrr := run_append_grow (P := Try.prog) w t ty e i z ht hi hz ⟨g', 0, none⟩ n cap (mks mv n) (by rw [hsize]; exact mks_len mv n) holds ⟨X, 0, none⟩ m c (mks mv m) (by rw [hsize]; exact hl) hnews (by omega) (by simp only [maxLen] at h63; omega) (by rw [hby]; exact growslice_fits (by omega) hbytes)
        have e2 := (Result.ok.inj (hr.symm.trans hrr)).2
        subst e2
        exact ⟨cur0, (heap_alloc_old w.drew _ (Array.getElem?_eq_some_iff.1 hg).1).trans hg, rfl⟩
  have hbl := cell_ltB hsz k
  by_cases hv : v.ownBlock = some b
  · rcases hown.2 with ⟨rfl, _⟩ | ⟨g', cap, cur, rfl, hbg, hg, hnc, hcm, hcs, htake⟩
    · cases hv
    · have hv' : g' = b := by simpa [Value.ownBlock] using hv
      subst hv'
      by_cases hroom : n + m ≤ cap
      · have hfit : n * i.size + (mks mv m).length ≤ cur.size := by rw [hl, hcs, hsize, ← Nat.add_mul]; exact Nat.mul_le_mul_right _ hroom
        have hrr := run_append_room (P := Try.prog) w t ty e i ht hi g' n cap cur hg ⟨X, 0, none⟩ m c (mks mv m) (by rw [hsize]; exact hl) hnews h1' hroom hfit
        have e2 := (Result.ok.inj (hr.symm.trans hrr)).2
        subst e2
        have hsr := setRow_heap w g' cur (cur.toList.take (n * i.size) ++ mks mv m ++ cur.toList.drop (n * i.size + (mks mv m).length)).toArray e _ hg
        have kj := k j hj
        rw [cell_row w g' _ cur _ _ hg] at kj
        rw [cell_row _ g' _ _ _ _ hsr, List.getElem?_toArray, hsize]
        have hlt : (cur.toList.take (n * mv.length)).length = n * mv.length := by
          have h9 : cur.toList.length = cap * mv.length := (Array.length_toList (xs := cur)).trans hcs
          rw [List.length_take, h9]
          exact Nat.min_eq_left (Nat.mul_le_mul_right _ hnc)
        have hq1 : ∀ a b : Nat, a < b → a * mv.length + mv.length ≤ b * mv.length := fun a b h => by
          have : (a + 1) * mv.length ≤ b * mv.length := Nat.mul_le_mul_right _ h
          rwa [Nat.add_mul, Nat.one_mul] at this
        by_cases c1 : q < n
        · have := hq1 q n c1
          rw [List.append_assoc, List.getElem?_append_left (by omega), List.getElem?_take_of_lt (by omega)]
          simpa using kj
        · have hge : n * mv.length ≤ q * mv.length := Nat.mul_le_mul_right _ (by omega)
          rw [List.append_assoc, List.getElem?_append_right (by omega), hlt]
          by_cases c2 : q < n + m
          · have e3 : q * mv.length + j - n * mv.length = (q - n) * mv.length + j := by rw [Nat.sub_mul]; omega
            have := hq1 (q - n) m (by omega)
            rw [e3, List.getElem?_append_left (by rw [hl]; omega)]
            exact mks_at mv m (q - n) j (by omega) hj
          · have hge2 : (n + m) * mv.length ≤ q * mv.length := Nat.mul_le_mul_right _ (by omega)
            rw [Nat.add_mul] at hge2
            rw [List.getElem?_append_right (by rw [hl]; omega), List.getElem?_drop, hl]
            have e3 : n * mv.length + m * mv.length + (q * mv.length + j - n * mv.length - m * mv.length) = q * mv.length + j := by omega
            rw [e3]
            simpa using kj
      · have holds : ∀ j u, (mks mv n)[j]? = some u → w.cell? ((⟨g', 0, none⟩ : Addr).add j) = some u := World.ownsRow.cells hown (g := g') rfl
        have hrr := run_append_grow (P := Try.prog) w t ty e i z ht hi hz ⟨g', 0, none⟩ n cap (mks mv n) (by rw [hsize]; exact mks_len mv n) holds ⟨X, 0, none⟩ m c (mks mv m) (by rw [hsize]; exact hl) hnews (by omega) (by simp only [maxLen] at h63; omega) (by rw [hby]; exact growslice_fits (by omega) hbytes)
        have e2 := (Result.ok.inj (hr.symm.trans hrr)).2
        subst e2
        rw [cell_blk (heap_alloc_old w.drew _ hbl)]
        exact k j hj
  · rw [cell_blk (h3.block b hbl (fun q => hv q.symm))]
    exact k j hj
/-- At an operation, for the walk. -/
theorem wp_append_m {o : Oper} {a : Act} {K : Act → World → Prop} {Q : Exit → Act → World → Prop} {w : World} (mv : List Value) (s x : Operand) (t e : TypeId) (z : Value) (bytes : Nat)
    (ho : o.op = .call { callee := .builtin .append, args := #[s, x], argTypes := #[t, t] }) (ht : Try.prog.underlying t = some (.slice e))
    (hi : (Try.prog.info? e).map (fun i => (i.zero, i.size, i.bytes)) = some (some z, mv.length, bytes)) (hzs : z.cells.size = mv.length) (hsz : 0 < mv.length) (h1 : ∀ u ∈ mv, u.oneCell' = true)
    (base : Nat) (v : Value) (n : Nat) (hs : a.eval s = v) (hown : w.ownsRow base e mv.length v n (mks mv n)) (X m c : Nat) (hx : a.eval x = .slice (some ⟨X, 0, none⟩) m c) (hX : At w X (mks mv m).toArray)
    (hm : 0 < m) (h63 : n + m ≤ maxLen) (hbytes : (n + m) * bytes ≤ 140737488355328) (hbase : base ≤ w.heap.size)
    (h : ∀ g cap w', w'.ownsRow base e mv.length (.slice (some ⟨g, 0, none⟩) (n + m) cap) (n + m) (mks mv (n + m)) → w.grownBy w' v.ownBlock → (v.ownBlock = some g ∨ g = w.heap.size) → g < w'.heap.size → Mine mv w w' → (∀ k cur, v.ownBlock = some k → w.heap[k]? = some (.cells cur e (0, 0)) → ∃ cur', w'.heap[k]? = some (.cells cur' e (0, 0)) ∧ cur'.size = cur.size) → K (a.put o.dst (.slice (some ⟨g, 0, none⟩) (n + m) cap)) w') : o.wp Try.prog a w K Q := by
  obtain ⟨i0, hi0, hz0, hz1, hz2⟩ := info_parts hi
  obtain ⟨g, c', w', hr, k1, k2, k3, k4, k5, k6⟩ := run_append_m mv w t o.type base e i0 z bytes ht hi0 hz0 hz1 hz2 hzs hsz h1 v n hown X m c hX hm h63 hbytes hbase
  unfold Oper.wp execOp
  simp only [ho, resolve, invoke, builtin, Sem.run_bind, Sem.run_pure, Result.andThen_ok, List.map_toArray, List.map_cons, List.map_nil, hs, hx, hr]
  exact h g c' w' k1 k2 k3 k4 k5 k6
/-- A row of marks, out of its shape and its cells. -/
theorem own_of_cells {mv : List Value} {W : World} {lo e n c g : Nat} (h : ∃ xs, W.ownsRow lo e mv.length (.slice (some ⟨g, 0, none⟩) n c) n xs) (hc : ∀ q, q < n → ∀ j, j < mv.length → W.cell? ⟨g, q * mv.length + j, none⟩ = mv[j]?) (h0 : 0 < mv.length) : W.ownsRow lo e mv.length (.slice (some ⟨g, 0, none⟩) n c) n (mks mv n) := by
  obtain ⟨xs, h⟩ := h
  have e : xs = mks mv n := by
    apply List.ext_getElem?
    intro o
    by_cases ho : o < n * mv.length
    · have en : o = o / mv.length * mv.length + o % mv.length := by
        have := Nat.div_add_mod o mv.length
        rw [Nat.mul_comm] at this
        omega
      have hd : o / mv.length < n := by rw [Nat.div_lt_iff_lt_mul h0]; exact ho
      have hm := Nat.mod_lt o h0
      have hx : o < xs.length := by rw [h.1]; exact ho
      have q1 := row_cell h o xs[o] (List.getElem?_eq_getElem hx)
      have q2 := hc _ hd _ hm
      rw [← en, q1] at q2
      rw [en, mks_at mv n _ _ hd hm, ← q2, ← en, List.getElem?_eq_getElem hx]
    · rw [List.getElem?_eq_none (by rw [h.1]; omega), List.getElem?_eq_none (by rw [mks_len]; omega)]
  rw [← e]
  exact h
theorem own_marks {mv : List Value} {W : World} {lo e n c g : Nat} (h : W.ownsRow lo e mv.length (.slice (some ⟨g, 0, none⟩) n c) n (mks mv n)) : ∀ q, q < n → ∀ j, j < mv.length → W.cell? ⟨g, q * mv.length + j, none⟩ = mv[j]? := fun q hq j hj => by
  have hs := mks_at mv n q j hq hj
  rw [List.getElem?_eq_getElem hj] at hs ⊢
  exact row_cell h _ _ hs
theorem own_shape {W W' : World} {lo e s n : Nat} {v : Value} {xs : List Value} (h : W.ownsRow lo e s v n xs) (hs : ∀ k cur, v.ownBlock = some k → W.heap[k]? = some (.cells cur e (0, 0)) → ∃ cur', W'.heap[k]? = some (.cells cur' e (0, 0)) ∧ cur'.size = cur.size) : ∃ xs', W'.ownsRow lo e s v n xs' := by
  rcases h.2 with ⟨rfl, rfl⟩ | ⟨g, cap, cur, rfl, hb, hg, hn, hc, hz, ht⟩
  · exact ⟨[], by simp, .inl ⟨rfl, rfl⟩⟩
  · obtain ⟨cur', q1, q2⟩ := hs g cur rfl hg
    refine ⟨cur'.toList.take (n * s), ?_, .inr ⟨g, cap, cur', rfl, hb, q1, hn, hc, q2.trans hz, rfl⟩⟩
    have h9 : cur'.toList.length = cap * s := ((Array.length_toList (xs := cur')).trans q2).trans hz
    rw [List.length_take, h9]
    exact Nat.min_eq_left (Nat.mul_le_mul_right _ hn)
theorem own_mine {mv : List Value} (h0 : 0 < mv.length) {W W' : World} {lo e n : Nat} {v : Value} (h : W.ownsRow lo e mv.length v n (mks mv n)) (hm : Mine mv W W') (hs : ∀ k cur, v.ownBlock = some k → W.heap[k]? = some (.cells cur e (0, 0)) → ∃ cur', W'.heap[k]? = some (.cells cur' e (0, 0)) ∧ cur'.size = cur.size) : W'.ownsRow lo e mv.length v n (mks mv n) := by
  have h2 := own_shape h hs
  rcases h.2 with ⟨rfl, rfl⟩ | ⟨g, cap, cur, rfl, _⟩
  · exact ⟨by simp [mks], .inl ⟨rfl, rfl⟩⟩
  · exact own_of_cells h2 (fun q hq => hm g q (own_marks h q hq)) h0
theorem sets_heap (g : Nat) : ∀ (vs : List Value) (o : Nat) {w : World} {cur : Array Value} {e : TypeId}, w.heap[g]? = some (.cells cur e (0, 0)) → ∃ cur', (w.setCells g o vs).heap[g]? = some (.cells cur' e (0, 0)) ∧ cur'.size = cur.size
  | [], _, _, cur, _, h => ⟨cur, h, rfl⟩
  | v :: r, o, w, cur, e, h => by
    obtain ⟨c', h1, h2⟩ := sets_heap g r (o + 1) (heap_setCell_same w g o cur e v h)
    exact ⟨c', h1, by rw [h2]; simp⟩
theorem sets_other (g : Nat) (vs : List Value) (o : Nat) (w : World) {k : Nat} (hk : k ≠ g) : (w.setCells g o vs).heap[k]? = w.heap[k]? := by
  induction vs generalizing o w with
  | nil => rfl
  | cons v r ih => exact (ih (o + 1) (w.setCell ⟨g, o, none⟩ v)).trans (Below.heap_setCell w ⟨g, o, none⟩ v k hk)
end B
end Go.Proofs.Ythblllanofnmmaa


/-
  Books of lists that came out: all but some blocks stay.
-/
namespace Go.Proofs.Ythblllanofnmmaa
namespace B
open Go.RowKit

/-- The world but for the blocks of P and new ones. -/
structure Kq (P : Nat → Prop) (w w' : World) : Prop where
  os : w'.os = w.os
  tape : w'.tape = w.tape
  output : w'.output = w.output
  size : w.heap.size ≤ w'.heap.size
  block : ∀ k, k < w.heap.size → ¬ P k → w'.heap[k]? = w.heap[k]?
theorem Kq.refl (P : Nat → Prop) (w : World) : Kq P w w := ⟨rfl, rfl, rfl, Nat.le_refl _, fun _ _ _ => rfl⟩
theorem Kq.step {P : Nat → Prop} {w w1 w2 : World} {row : Option Nat} (h : Kq P w w1) (g : w1.grownBy w2 row) (hr : ∀ k, row = some k → P k ∨ w.heap.size ≤ k) : Kq P w w2 :=
  ⟨g.os.trans h.os, g.tape.trans h.tape, g.output.trans h.output, Nat.le_trans h.size g.size, fun k hk hp => (g.block k (Nat.lt_of_lt_of_le hk h.size) (fun e => by
    rcases hr k e.symm with q | q
    · exact hp q
    · omega)).trans (h.block k hk hp)⟩
theorem Kq.gr {P : Nat → Prop} {w w1 w2 : World} (h : Kq P w w1) (g : Gr w1 w2) : Kq P w w2 := h.step (row := none) ⟨g.below.os, g.below.tape, g.below.output, g.below.size, fun k hk _ => g.below.block k hk⟩ (fun k e => by cases e)
theorem Kq.at_ {P : Nat → Prop} {w w1 : World} (h : Kq P w w1) {k : Nat} {cs : Array Value} (hA : At w k cs) (hk : ¬ P k) : At w1 k cs := by
  have e := h.block k hA.1 hk
  exact ⟨Nat.lt_of_lt_of_le hA.1 h.size, fun i => by rw [World.cell?_of_block (a := ⟨k, i, none⟩) e]; exact hA.2.1 i, fun i => by rw [World.frozen?_of_block (a := ⟨k, i, none⟩) e]; exact hA.2.2 i⟩
theorem Kq.own {P : Nat → Prop} {w w1 : World} (h : Kq P w w1) {lo e s n : Nat} {v : Value} {xs : List Value} (q : w.ownsRow lo e s v n xs) (hk : ∀ g, v.ownBlock = some g → ¬ P g) : w1.ownsRow lo e s v n xs := by
  refine ⟨q.1, ?_⟩
  rcases q.2 with q2 | ⟨g, cap, cur, rfl, hb, hg, r⟩
  · exact .inl q2
  · exact .inr ⟨g, cap, cur, rfl, hb, (h.block g (Array.getElem?_eq_some_iff.1 hg).1 (hk g rfl)).trans hg, r⟩
theorem at_grown {w w' : World} {k : Nat} {cs : Array Value} {row : Option Nat} (h : At w k cs) (g : w.grownBy w' row) (hr : row = some k → False) : At w' k cs := by
  have e := g.block k h.1 (fun q => hr q.symm)
  exact ⟨Nat.lt_of_lt_of_le h.1 g.size, fun i => by rw [World.cell?_of_block (a := ⟨k, i, none⟩) e]; exact h.2.1 i, fun i => by rw [World.frozen?_of_block (a := ⟨k, i, none⟩) e]; exact h.2.2 i⟩
theorem shp_app {t : TypeId} {v : Value} {w w' : World} (g : w.grownBy w' v.ownBlock) (h : ∀ (k : Nat) (cur : Array Value), v.ownBlock = some k → w.heap[k]? = some (Obj.cells cur t (0, 0)) → ∃ cur' : Array Value, w'.heap[k]? = some (Obj.cells cur' t (0, 0)) ∧ cur'.size = cur.size) : ∀ (k : Nat) (cur : Array Value), w.heap[k]? = some (Obj.cells cur t (0, 0)) → ∃ cur' : Array Value, w'.heap[k]? = some (Obj.cells cur' t (0, 0)) ∧ cur'.size = cur.size := fun k cur q => by
  by_cases hv : v.ownBlock = some k
  · exact h k cur hv q
  · exact ⟨cur, (g.block k (Array.getElem?_eq_some_iff.1 q).1 (fun e => hv e.symm)).trans q, rfl⟩
end B
end Go.Proofs.Ythblllanofnmmaa
