import Derived.Test.YtikbbolgobhmiaaTLent
import Derived.Laws.Rows
/-
  Stage 6, tagmem: regions that are lent: one slot written over.
-/
namespace Go.Proofs.Ytikbbolgobhmiaa
namespace T
open Go.RowKit

theorem sets_heap (g : Nat) : ∀ (vs : List Value) (o : Nat) {w : World} {cur : Array Value} {e : TypeId}, w.heap[g]? = some (.cells cur e (0, 0)) → ∃ cur', (w.setCells g o vs).heap[g]? = some (.cells cur' e (0, 0)) ∧ cur'.size = cur.size
  | [], _, _, cur, _, h => ⟨cur, h, rfl⟩
  | v :: r, o, w, cur, e, h => by
    obtain ⟨c', h1, h2⟩ := sets_heap g r (o + 1) (heap_setCell_same w g o cur e v h)
    exact ⟨c', h1, by rw [h2]; simp⟩
theorem sets_other (g : Nat) (vs : List Value) (o : Nat) (w : World) {k : Nat} (hk : k ≠ g) : (w.setCells g o vs).heap[k]? = w.heap[k]? := by
  induction vs generalizing o w with
  | nil => rfl
  | cons v r ih => exact (ih (o + 1) (w.setCell ⟨g, o, none⟩ v)).trans (Below.heap_setCell w ⟨g, o, none⟩ v k hk)
theorem own_setsNe {lo e s n q : Nat} {v : Value} {xs : List Value} {w : World} (h : w.ownsRow lo e s v n xs) (hq : ∀ g, v.ownBlock = some g → g ≠ q) (vs : List Value) (o : Nat) : (w.setCells q o vs).ownsRow lo e s v n xs := by
  refine ⟨h.1, ?_⟩
  rcases h.2 with q2 | ⟨g, cap, cur, rfl, hb, hg, r⟩
  · exact .inl q2
  · exact .inr ⟨g, cap, cur, rfl, hb, (sets_other q vs o w (hq g rfl)).trans hg, r⟩
theorem own_setElem {α : Type} {f : α → List Value} {s : Nat} (hf : ∀ x, (f x).length = s) {w : World} {lo e n c g : Nat} {L : List α} (h : w.ownsRow lo e s (.slice (some ⟨g, 0, none⟩) n c) n (L.flatMap f)) (hn : L.length = n) (i : Nat) (hi : i < L.length) (x : α) :
    (w.setCells g (i * s) (f x)).ownsRow lo e s (.slice (some ⟨g, 0, none⟩) n c) n ((L.set i x).flatMap f) := by
  rcases h.2 with ⟨q, _⟩ | ⟨g', cap, cur, q, hb, hg, hnc, hc, hz, ht⟩
  · cases q
  · cases q
    obtain ⟨cur', h1, h2⟩ := sets_heap g (f x) (i * s) hg
    have hlt : g < w.heap.size := (Array.getElem?_eq_some_iff.1 hg).1
    have hlen : (L.flatMap f).length = n * s := h.1
    have hlen2 : ((L.set i x).flatMap f).length = n * s := by rw [flat_len hf, List.length_set, hn]
    have hcur : cur.toList = L.flatMap f ++ cur.toList.drop (n * s) := by rw [← ht, List.take_append_drop]
    have hA : At w g (L.flatMap f ++ cur.toList.drop (n * s)).toArray := by
      rw [← hcur]
      refine ⟨hlt, fun o => ?_, fun o => ?_⟩
      · simp [World.cell?, hg]
      · simp [World.frozen?, hg]
    have hi1 : (i + 1) * s ≤ L.length * s := Nat.mul_le_mul_right s hi
    rw [Nat.add_mul, hn] at hi1
    have hA2 := At.setRange (ds := (L.set i x).flatMap f ++ cur.toList.drop (n * s)) hA (i * s) (f x) (by rw [List.length_append, List.length_append, hlen, hlen2]) (by rw [List.length_append, hlen, hf]; omega)
      (fun j hj => by
        rw [hf] at hj
        rw [List.getElem?_append_left (by rw [hlen2]; omega), flat_at' hf (L.set i x) i (by simpa using hi) j hj]
        simp)
      (fun j hj => by
        rw [hf] at hj
        by_cases q : j < n * s
        · rw [List.getElem?_append_left (by rw [hlen2]; exact q), List.getElem?_append_left (by rw [hlen]; exact q)]
          have hs0 : 0 < s := by
            rcases Nat.eq_zero_or_pos s with e0 | e0
            · subst e0; simp at q
            · exact e0
          have en : j = j / s * s + j % s := by
            have := Nat.div_add_mod j s
            rw [Nat.mul_comm] at this
            omega
          have hd : j / s < L.length := by rw [Nat.div_lt_iff_lt_mul hs0, hn]; exact q
          have hm := Nat.mod_lt j hs0
          have hne : i ≠ j / s := by
            intro e'
            rw [← e'] at en
            omega
          rw [en, flat_at' hf (L.set i x) _ (by simpa using hd) _ hm, flat_at' hf L _ hd _ hm, List.getElem_set_ne hne]
        · rw [List.getElem?_append_right (by rw [hlen2]; omega), List.getElem?_append_right (by rw [hlen]; omega), hlen, hlen2])
    refine ⟨hlen2, .inr ⟨g, c, cur', rfl, hb, h1, hnc, hc, h2.trans hz, ?_⟩⟩
    have hall : cur'.toList = (L.set i x).flatMap f ++ cur.toList.drop (n * s) := by
      apply List.ext_getElem?
      intro j
      have := hA2.2.1 j
      rw [List.getElem?_toArray] at this
      rw [← this]
      simp [World.cell?, h1]
    rw [hall, ← hlen2]
    exact List.take_left
/-- What stays of a lent region when its slots are written over. -/
structure SameZ (Z Z' : List Zr) : Prop where
  len : Z'.length = Z.length
  at_ : ∀ i (h : i < Z.length) (h' : i < Z'.length), Z'[i].g = Z[i].g ∧ Z'[i].c = Z[i].c ∧ Z'[i].r.b = Z[i].r.b ∧ Z'[i].r.n = Z[i].r.n ∧ Z'[i].r.data = Z[i].r.data ∧ Z'[i].r.slots.length = Z[i].r.slots.length
  sl : ∀ z ∈ Z', ∀ x ∈ z.r.slots, x.c < 18446744073709551616
theorem SameZ.refl {Z : List Zr} (h : ∀ z ∈ Z, ∀ x ∈ z.r.slots, x.c < 18446744073709551616) : SameZ Z Z := ⟨rfl, fun _ _ _ => ⟨rfl, rfl, rfl, rfl, rfl, rfl⟩, h⟩
def Zr.put (z : Zr) (k : Nat) : Zr := { z with r := { z.r with slots := z.r.slots.set k s5 } }
theorem SameZ.put {Z Z' : List Zr} (h : SameZ Z Z') (i k : Nat) (hi : i < Z'.length) : SameZ Z (Z'.set i (Z'[i].put k)) := by
  refine ⟨by rw [List.length_set]; exact h.len, fun j hj hj' => ?_, fun z hz x hx => ?_⟩
  · have hj2 : j < Z'.length := by simpa using hj'
    have q := h.at_ j hj hj2
    by_cases e : i = j
    · subst e
      rw [List.getElem_set_self]
      unfold Zr.put
      refine ⟨q.1, q.2.1, q.2.2.1, q.2.2.2.1, q.2.2.2.2.1, ?_⟩
      rw [List.length_set]
      exact q.2.2.2.2.2
    · rw [List.getElem_set_ne e]
      exact q
  · rcases List.mem_or_eq_of_mem_set hz with q | q
    · exact h.sl z q x hx
    · subst q
      unfold Zr.put at hx
      rcases List.mem_or_eq_of_mem_set hx with q | q
      · exact h.sl _ (List.getElem_mem hi) x q
      · subst q
        decide
theorem flat_reg {Z : List Zr} {i k : Nat} (hi : i < Z.length) : (Z.set i (Z[i].put k)).flatMap Zr.reg = Z.flatMap Zr.reg := by
  have e : (Z.set i (Z[i].put k)).map Zr.reg = Z.map Zr.reg := by
    rw [List.map_set]
    have : Zr.reg (Z[i].put k) = (Z.map Zr.reg)[i]'(by simpa using hi) := by simp [Zr.reg, Zr.put]
    rw [this, List.set_getElem_self]
  rw [List.flatMap_def, List.flatMap_def, e]
theorem flat_row {Z : List Zr} {i k : Nat} (hi : i < Z.length) : (Z.set i (Z[i].put k)).flatMap Zr.row = Z.flatMap Zr.row := by
  have e : (Z.set i (Z[i].put k)).map Zr.row = Z.map Zr.row := by
    rw [List.map_set]
    have : Zr.row (Z[i].put k) = (Z.map Zr.row)[i]'(by simpa using hi) := by simp [Zr.row, Zr.put]
    rw [this, List.set_getElem_self]
  rw [List.flatMap_def, List.flatMap_def, e]
theorem LtIn.put {lo : Nat} {W : World} {av rv : Value} {Z : List Zr} {n : Nat} (h : LtIn lo W av rv Z n) (i k : Nat) (hi : i < Z.length) (hk : k < Z[i].r.slots.length) : LtIn lo (W.setCells Z[i].g (k * 8) (Sl.vals s5)) av rv (Z.set i (Z[i].put k)) n := by
  have hz := h.sl _ (List.getElem_mem hi)
  have hne : ∀ j (hj : j < Z.length), j ≠ i → Z[j].g ≠ Z[i].g := fun j hj q => by
    rcases Nat.lt_or_gt_of_ne q with q | q
    · exact List.pairwise_iff_getElem.1 h.ne j i hj hi q
    · exact fun e => List.pairwise_iff_getElem.1 h.ne i j hi hj q e.symm
  refine ⟨?_, ?_, fun z hz2 => ?_, ?_⟩
  · rw [flat_reg hi, List.length_set]
    exact own_setsNe h.all (fun g e q => own_part h.all hz (by decide) e (by rw [q]; rfl)) _ _
  · rw [flat_row hi, List.length_set]
    exact own_setsNe h.rows (fun g e q => own_part h.rows hz (by decide) e (by rw [q]; rfl)) _ _
  · obtain ⟨j, hj, e⟩ := List.getElem_of_mem hz2
    have hj2 : j < Z.length := by simpa using hj
    by_cases q : j = i
    · subst q
      rw [List.getElem_set_self] at e
      subst e
      unfold Zr.own slR Zr.val Zr.put
      unfold Zr.own slR Zr.val at hz
      have e1 : (Z[j].r.slots ++ List.replicate 6 s77).set k s5 = Z[j].r.slots.set k s5 ++ List.replicate 6 s77 := by rw [List.set_append_left _ _ hk]
      have := own_setElem sl_len (L := Z[j].r.slots ++ List.replicate 6 s77) (n := Z[j].r.slots.length + 6) (by simpa using hz) (by simp) k (by simp; omega) s5
      rw [e1] at this
      simpa using this
    · rw [List.getElem_set_ne (fun e => q e.symm)] at e
      subst e
      exact own_setsNe (h.sl _ (List.getElem_mem hj2)) (fun g e2 => by
        have : Z[j].g = g := by simpa [Zr.val, Value.ownBlock] using e2
        rw [← this]
        exact hne j hj2 q) _ _
  · have e : (Z.set i (Z[i].put k)).map Zr.g = Z.map Zr.g := by
      rw [List.map_set]
      have : Zr.g (Z[i].put k) = (Z.map Zr.g)[i]'(by simpa using hi) := by simp [Zr.put]
      rw [this, List.set_getElem_self]
    have h2 : (Z.map Zr.g).Pairwise (· ≠ ·) := List.pairwise_map.2 h.ne
    rw [← e] at h2
    exact List.pairwise_map.1 h2
end T
end Go.Proofs.Ytikbbolgobhmiaa
