/-
  Stage 8, flow: the book's ownAll, first half: all lists are written full.
-/
import Derived.Test.YtjmknpkmbghgdaaFInts
namespace Go.Proofs.Ytjmknpkmbghgdaa
namespace F
open Go.RowKit
open T

/-- A list of its own, of a colour, its first elements written. -/
def Ls (w : World) (c : Nat → Int) (v : Value) (m : Int) (k : Nat) : Prop := ∃ l : List Int, w.ownsRow 0 3 1 v l.length (l.map (Value.int .i64)) ∧ l.length ≤ 1900000 ∧ Cl c v m ∧ ∀ q, q < k → q < l.length → l[q]? = some (-m)
theorem Ls.slice {w : World} {c : Nat → Int} {v : Value} {m : Int} {k : Nat} (h : Ls w c v m k) : ∃ a n cp, v = .slice a n cp ∧ n ≤ 1900000 := by
  obtain ⟨l, h1, h2, _⟩ := h
  obtain ⟨a, cp, rfl⟩ := row_slice h1
  exact ⟨a, l.length, cp, rfl, h2⟩
theorem Ls.stp {w w1 : World} {c c1 : Nat → Int} {v : Value} {m m' : Int} {k : Nat} (h : Ls w c v m k) (hs : Stp m' w w1 c c1) (hne : m ≠ m') : Ls w1 c1 v m k := by
  obtain ⟨l, h1, h2, h3, h4⟩ := h
  obtain ⟨g1, g2⟩ := hs.own h1 h3 hne
  exact ⟨l, g1, h2, g2, h4⟩
theorem Ls.below {w w1 : World} {c : Nat → Int} {v : Value} {m : Int} {k : Nat} (h : Ls w c v m k) (hs : Below w.heap.size w w1) : Ls w1 c v m k := by
  obtain ⟨l, h1, h2, h3, h4⟩ := h
  exact ⟨l, own_below h1 hs, h2, h3, h4⟩
theorem Ls.full {w : World} {c : Nat → Int} {a : Option Addr} {n cp : Nat} {m : Int} {k : Nat} (h : Ls w c (.slice a n cp) m k) (hk : n ≤ k) : XI 0 w (.slice a n cp) n (-m) ∧ Cl c (.slice a n cp) m := by
  obtain ⟨l, h1, h2, h3, h4⟩ := h
  obtain ⟨a', cp', e⟩ := row_slice h1
  simp only [Value.slice.injEq] at e
  obtain ⟨rfl, rfl, rfl⟩ := e
  refine ⟨?_, h3⟩
  have el : l = List.replicate l.length (-m) := by
    apply List.ext_getElem?
    intro q
    by_cases hq : q < l.length
    · rw [h4 q (by omega) hq]; simp [hq]
    · rw [List.getElem?_eq_none (by omega), List.getElem?_eq_none (by simp; omega)]
  unfold XI
  have e2 : l.map (Value.int .i64) = List.replicate l.length (.int .i64 (-m)) := by
    rw [el]; simp
  rw [e2] at h1
  exact h1
theorem Ls.more {w : World} {c : Nat → Int} {a : Option Addr} {n cp : Nat} {m : Int} {k k' : Nat} (h : Ls w c (.slice a n cp) m k) (hk : n ≤ k) : Ls w c (.slice a n cp) m k' := by
  obtain ⟨l, h1, h2, h3, h4⟩ := h
  obtain ⟨a', cp', e⟩ := row_slice h1
  simp only [Value.slice.injEq] at e
  obtain ⟨rfl, rfl, rfl⟩ := e
  exact ⟨l, h1, h2, h3, fun q _ hq => h4 q (by omega) hq⟩
theorem Ls.store {w : World} {c : Nat → Int} {a : Option Addr} {n cp : Nat} {m : Int} {k : Nat} (h : Ls w c (.slice a n cp) m k) (hk : k < n) :
    ∃ g, a = some ⟨g, 0, none⟩ ∧ g < w.heap.size ∧ c g = m ∧ (∃ y, w.cell? ⟨g, k, none⟩ = some y) ∧ w.frozen? ⟨g, k, none⟩ = false ∧ Ls (w.setCell ⟨g, k, none⟩ (.int .i64 (-m))) c (.slice a n cp) m (k + 1) := by
  obtain ⟨l, h1, h2, h3, h4⟩ := h
  obtain ⟨a', cp', e⟩ := row_slice h1
  simp only [Value.slice.injEq] at e
  obtain ⟨rfl, rfl, rfl⟩ := e
  obtain ⟨g, cap, e, hg, hc⟩ := row_cell h1 k (by simpa using hk)
  simp only [Value.slice.injEq] at e
  obtain ⟨rfl, _, rfl⟩ := e
  refine ⟨g, rfl, hg, h3 g rfl, ⟨_, hc⟩, World.ownsRow.frozenAt h1 k, l.set k (-m), ?_, by simpa using h2, h3, fun q hq hl => ?_⟩
  · have := (World.ownsRow.stored h1 k (.int .i64 (-m))).1
    rw [List.length_set, List.map_set]
    exact this
  · by_cases e : q = k
    · subst e; simp [hk]
    · rw [List.getElem?_set_ne (fun r => e r.symm)]
      exact h4 q (by omega) (by simpa using hl)
/-- What the book's owner has at hand: the box, the list of lists, each list. -/
structure Sh (w0 : World) (bB : Nat) (V : Value) (vs : List Value) (c : Nat → Int) (f : Nat → Nat) (w : World) : Prop where
  box : At w bB #[.int .i64 0, .slice none 0 0, .slice none 0 0]
  row : w.ownsRow 0 23 1 V vs.length vs
  ls : ∀ j (h : j < vs.length), Ls w c vs[j] ((j : Int) + 1) (f j)
  kp : Kp (fun k => k = bB ∨ 0 < c k) w0 w
theorem Sh.drewN {w0 : World} {bB : Nat} {V : Value} {vs : List Value} {c : Nat → Int} {f : Nat → Nat} {w w1 : World} (h : Sh w0 bB V vs c f w) (hb : Below w.heap.size w w1) : Sh w0 bB V vs c f w1 :=
  ⟨at_below h.box hb h.box.1, own_below h.row hb, fun j hj => (h.ls j hj).below hb, h.kp.trans (Kp.of_below (S := fun _ => False) hb) (fun _ r => r.elim)⟩
theorem Sh.store {w0 : World} {bB : Nat} {V : Value} {vs : List Value} {c : Nat → Int} {f f' : Nat → Nat} {w : World} (h : Sh w0 bB V vs c f w) (hB : c bB = -3) (hV : Cl c V 0) (i : Nat) (hi : i < vs.length) (a : Option Addr) (n cp : Nat) (hv : vs[i] = .slice a n cp) (k : Nat) (hk : k < n) (hf : f i = k) (hf1 : f' i = k + 1) (hfo : ∀ j, j ≠ i → f' j = f j) :
    ∃ g, a = some ⟨g, 0, none⟩ ∧ g < w.heap.size ∧ (∃ y, w.cell? ⟨g, k, none⟩ = some y) ∧ w.frozen? ⟨g, k, none⟩ = false ∧ Sh w0 bB V vs c f' (w.setCell ⟨g, k, none⟩ (.int .i64 (-((i : Int) + 1)))) := by
  have h1 := h.ls i hi
  rw [hv, hf] at h1
  obtain ⟨g, rfl, g1, g2, g3, g4, g5⟩ := h1.store hk
  have hs := Stp.set (m := (i : Int) + 1) w ⟨g, k, none⟩ (.int .i64 (-((i : Int) + 1))) c g2
  refine ⟨g, rfl, g1, g3, g4, ⟨(hs.at h.box hB (by omega)).1, (hs.own h.row hV (by omega)).1, fun j hj => ?_, h.kp.trans hs.1 (fun k' q => .inl (.inr (by omega)))⟩⟩
  by_cases e : j = i
  · subst e
    rw [hv, hf1]
    exact g5
  · rw [hfo j e]
    exact (h.ls j hj).stp hs (by omega)
theorem Sh.congr {w0 : World} {bB : Nat} {V : Value} {vs : List Value} {c : Nat → Int} {f f' : Nat → Nat} {w : World} (h : Sh w0 bB V vs c f w) (hf : ∀ j (hj : j < vs.length), Ls w c vs[j] ((j : Int) + 1) (f j) → Ls w c vs[j] ((j : Int) + 1) (f' j)) : Sh w0 bB V vs c f' w :=
  ⟨h.box, h.row, fun j hj => hf j hj (h.ls j hj), h.kp⟩
def fu (i k j : Nat) : Nat := if j < i then 2000000 else if j = i then k else 0
theorem fu_here (i k : Nat) : fu i k i = k := by simp [fu]
theorem fu_other (i k k' j : Nat) (h : j ≠ i) : fu i k' j = fu i k j := by simp [fu, h]
/-- The same in the second half: what was handed on so far. -/
structure Sc (w0 : World) (bB : Nat) (V : Value) (vs : List Value) (c0 : Nat → Int) (p : Nat) (v1 v2 : Value) (A : List Value) (B : List Int) (c : Nat → Int) (w : World) : Prop where
  box : At w bB #[.int .i64 0, v1, v2]
  r1 : w.ownsRow 0 23 1 v1 A.length A
  r2 : w.ownsRow 0 3 1 v2 B.length (B.map (Value.int .i64))
  c1 : Cl c v1 (-1)
  c2 : Cl c v2 (-2)
  cB : c bB = -3
  row : w.ownsRow 0 23 1 V vs.length vs
  cV : Cl c V 0
  ls : ∀ j (h : j < vs.length), p ≤ j → Ls w c vs[j] ((j : Int) + 1) 2000000
  same : ∀ k, k < w0.heap.size → c k = c0 k
  kp : Kp (fun k => k = bB ∨ 0 < c0 k) w0 w
def Rds (i : Int) (T : List (Value × Int)) (c : Nat → Int) (w : World) : Prop := ∀ t ∈ T, 0 < t.2 ∧ t.2 ≤ i ∧ Rd w c t.1 t.2
section
variable {w0 : World} {bB : Nat} {V : Value} {vs : List Value} {c0 : Nat → Int} {p : Nat} {v1 v2 : Value} {A : List Value} {B : List Int} {c : Nat → Int} {w : World}
theorem Sc.same_stp {m : Int} {w1 : World} {c1 : Nat → Int} (h : Sc w0 bB V vs c0 p v1 v2 A B c w) (hs : Stp m w w1 c c1) : ∀ k, k < w0.heap.size → c1 k = c0 k := fun k hk =>
  (hs.2 k (Nat.lt_of_lt_of_le hk h.kp.size)).trans (h.same k hk)
theorem Sc.stp {m : Int} {w1 : World} {c1 : Nat → Int} (h : Sc w0 bB V vs c0 p v1 v2 A B c w) (hs : Stp m w w1 c c1) (hm : 0 < m) (hp : ∀ j, p ≤ j → (j : Int) + 1 ≠ m) : Sc w0 bB V vs c0 p v1 v2 A B c1 w1 := by
  obtain ⟨b1, b2⟩ := hs.at h.box h.cB (by omega)
  obtain ⟨d1, d2⟩ := hs.own h.r1 h.c1 (by omega)
  obtain ⟨e1, e2⟩ := hs.own h.r2 h.c2 (by omega)
  obtain ⟨f1, f2⟩ := hs.own h.row h.cV (by omega)
  refine ⟨b1, d1, e1, d2, e2, b2, f1, f2, fun j hj hp' => (h.ls j hj hp').stp hs (hp j hp'), h.same_stp hs, h.kp.trans hs.1 (fun k q => ?_)⟩
  by_cases hk : k < w0.heap.size
  · left; right
    rw [← h.same k hk, q]
    exact hm
  · exact .inr (by omega)
theorem Sc.below {w1 : World} (h : Sc w0 bB V vs c0 p v1 v2 A B c w) (hb : Below w.heap.size w w1) : Sc w0 bB V vs c0 p v1 v2 A B c w1 :=
  ⟨at_below h.box hb h.box.1, own_below h.r1 hb, own_below h.r2 hb, h.c1, h.c2, h.cB, own_below h.row hb, h.cV, fun j hj hp => (h.ls j hj hp).below hb, h.same, h.kp.trans (Kp.of_below (S := fun _ => False) hb) (fun _ r => r.elim)⟩
theorem Sc.skip {p' : Nat} (h : Sc w0 bB V vs c0 p v1 v2 A B c w) (hp : p ≤ p') : Sc w0 bB V vs c0 p' v1 v2 A B c w :=
  ⟨h.box, h.r1, h.r2, h.c1, h.c2, h.cB, h.row, h.cV, fun j hj q => h.ls j hj (by omega), h.same, h.kp⟩
theorem Rds.stp {i m : Int} {T : List (Value × Int)} {w1 : World} {c1 : Nat → Int} (h : Rds i T c w) (hs : Stp m w w1 c c1) (hm : m ≤ 0 ∨ i < m) : Rds i T c1 w1 := fun t ht => by
  obtain ⟨h1, h2, h3⟩ := h t ht
  exact ⟨h1, h2, h3.stp hs (by omega)⟩
theorem Rds.below {i : Int} {T : List (Value × Int)} {w1 : World} (h : Rds i T c w) (hb : Below w.heap.size w w1) : Rds i T c w1 := h.stp (m := -7) (Stp.of_below hb) (.inl (by omega))
theorem box_set {n x y n' x' y' : Value} (h : At w bB #[n, x, y]) (j : Nat) (z : Value) (hj : j < 3) (e : (#[n, x, y] : Array Value).setIfInBounds j z = #[n', x', y']) : At (w.setCell ⟨bB, j, none⟩ z) bB #[n', x', y'] := by
  have := h.set j z (by simpa using hj)
  rw [e] at this
  exact this
theorem Sc.grow1 {w1 : World} {g k cap : Nat} {A' : List Value} (h : Sc w0 bB V vs c0 p v1 v2 A B c w) (hc : ∀ k, c0 k ≠ -1 ∧ c0 k ≠ -2) (h1 : w1.ownsRow 0 23 1 (.slice (some ⟨g, 0, none⟩) k cap) k A') (h2 : w.grownBy w1 v1.ownBlock) (h3 : v1.ownBlock = some g ∨ g = w.heap.size) :
    At w1 bB #[.int .i64 0, v1, v2] ∧ w1.ownsRow 0 23 1 V vs.length vs ∧ ∃ c1, Sc w0 bB V vs c0 p (.slice (some ⟨g, 0, none⟩) k cap) v2 A' B c1 (w1.setCell ⟨bB, 1, none⟩ (.slice (some ⟨g, 0, none⟩) k cap)) ∧ ∀ i T, Rds i T c w → Rds i T c1 (w1.setCell ⟨bB, 1, none⟩ (.slice (some ⟨g, 0, none⟩) k cap)) := by
  obtain ⟨c1, hs, hg⟩ := Stp.grown (c := c) (m := -1) h2 h.c1 h3
  obtain ⟨b1, b2⟩ := hs.at h.box h.cB (by omega)
  obtain ⟨e1, e2⟩ := hs.own h.r2 h.c2 (by omega)
  obtain ⟨f1, f2⟩ := hs.own h.row h.cV (by omega)
  have hk : A'.length = k := by have := h1.1; omega
  have ht := Stp.set (m := -3) w1 ⟨bB, 1, none⟩ (.slice (some ⟨g, 0, none⟩) k cap) c1 b2
  have hd : Cl c1 (.slice (some ⟨g, 0, none⟩) k cap) (-1) := cl_some hg
  refine ⟨b1, f1, c1, ⟨box_set b1 1 _ (by omega) rfl, ?_, (ht.own e1 e2 (by omega)).1, hd, e2, b2, (ht.own f1 f2 (by omega)).1, f2, fun j hj hp => ((h.ls j hj hp).stp hs (by omega)).stp ht (by omega), h.same_stp hs, (h.kp.trans hs.1 (fun k q => ?_)).trans (Kp.set (S := fun k => k = bB) w1 _ _ rfl) (fun k q => .inl (.inl q))⟩, fun i T hr => (hr.stp hs (.inl (by omega))).stp ht (.inl (by omega))⟩
  · rw [hk]
    exact (ht.own h1 hd (by omega)).1
  · by_cases hk : k < w0.heap.size
    · exact absurd ((h.same k hk).symm.trans q) (hc k).1
    · exact .inr (by omega)
theorem Sc.grow2 {w1 : World} {g k cap : Nat} {B' : List Int} (h : Sc w0 bB V vs c0 p v1 v2 A B c w) (hc : ∀ k, c0 k ≠ -1 ∧ c0 k ≠ -2) (h1 : w1.ownsRow 0 3 1 (.slice (some ⟨g, 0, none⟩) k cap) k (B'.map (Value.int .i64))) (h2 : w.grownBy w1 v2.ownBlock) (h3 : v2.ownBlock = some g ∨ g = w.heap.size) :
    At w1 bB #[.int .i64 0, v1, v2] ∧ ∃ c1, Sc w0 bB V vs c0 p v1 (.slice (some ⟨g, 0, none⟩) k cap) A B' c1 (w1.setCell ⟨bB, 2, none⟩ (.slice (some ⟨g, 0, none⟩) k cap)) ∧ ∀ i T, Rds i T c w → Rds i T c1 (w1.setCell ⟨bB, 2, none⟩ (.slice (some ⟨g, 0, none⟩) k cap)) := by
  obtain ⟨c1, hs, hg⟩ := Stp.grown (c := c) (m := -2) h2 h.c2 h3
  obtain ⟨b1, b2⟩ := hs.at h.box h.cB (by omega)
  obtain ⟨e1, e2⟩ := hs.own h.r1 h.c1 (by omega)
  obtain ⟨f1, f2⟩ := hs.own h.row h.cV (by omega)
  have hk : B'.length = k := by have := h1.1; simp at this; omega
  have ht := Stp.set (m := -3) w1 ⟨bB, 2, none⟩ (.slice (some ⟨g, 0, none⟩) k cap) c1 b2
  have hd : Cl c1 (.slice (some ⟨g, 0, none⟩) k cap) (-2) := cl_some hg
  refine ⟨b1, c1, ⟨box_set b1 2 _ (by omega) rfl, (ht.own e1 e2 (by omega)).1, ?_, e2, hd, b2, (ht.own f1 f2 (by omega)).1, f2, fun j hj hp => ((h.ls j hj hp).stp hs (by omega)).stp ht (by omega), h.same_stp hs, (h.kp.trans hs.1 (fun k q => ?_)).trans (Kp.set (S := fun k => k = bB) w1 _ _ rfl) (fun k q => .inl (.inl q))⟩, fun i T hr => (hr.stp hs (.inl (by omega))).stp ht (.inl (by omega))⟩
  · rw [hk]
    exact (ht.own h1 hd (by omega)).1
  · by_cases hk : k < w0.heap.size
    · exact absurd ((h.same k hk).symm.trans q) (hc k).2
    · exact .inr (by omega)
theorem Sh.second (h : Sh w0 bB V vs c0 (fun _ => 2000000) w) (hB : c0 bB = -3) (hV : Cl c0 V 0) : Sc w0 bB V vs c0 0 (.slice none 0 0) (.slice none 0 0) [] [] c0 w :=
  ⟨h.box, ⟨rfl, .inl ⟨rfl, rfl⟩⟩, ⟨rfl, .inl ⟨rfl, rfl⟩⟩, (fun _ q => by cases q), (fun _ q => by cases q), hB, h.row, hV, fun j hj _ => h.ls j hj, fun _ _ => rfl, h.kp⟩
/-- One more element onto a list of that colour. -/
theorem Sc.one {m : Int} {w1 : World} {v : Value} {g : Nat} (hg : w.grownBy w1 v.ownBlock) (hc : Cl c v m) (h3 : v.ownBlock = some g ∨ g = w.heap.size) : ∃ c1, Stp m w w1 c c1 ∧ c1 g = m := Stp.grown hg hc h3
theorem Rds.more {i : Nat} {T : List (Value × Int)} {x y z : Value} (h : Rds i T c w) (hx : Rd w c x (1 + (i : Int))) (hy : Rd w c y (1 + (i : Int))) (hz : Rd w c z (1 + (i : Int))) : Rds ((i + 1 : Nat) : Int) (T ++ [(x, 1 + (i : Int)), (y, 1 + (i : Int)), (z, 1 + (i : Int))]) c w := fun t ht => by
  rcases List.mem_append.1 ht with r | r
  · obtain ⟨h1, h2, h3⟩ := h t r
    exact ⟨h1, by omega, h3⟩
  · simp only [List.mem_cons, List.not_mem_nil, or_false] at r
    rcases r with rfl | rfl | rfl
    · exact ⟨by dsimp only; omega, by dsimp only; omega, hx⟩
    · exact ⟨by dsimp only; omega, by dsimp only; omega, hy⟩
    · exact ⟨by dsimp only; omega, by dsimp only; omega, hz⟩
/-- What ownAll leaves. -/
def Ow (w0 : World) (bB N : Nat) (c0 : Nat → Int) (w' : World) : Prop := ∃ v1 v2 T c', Bok w' bB N v1 v2 T c' ∧ T.length = 3 * N ∧ Kp (fun k => k = bB ∨ 0 < c0 k) w0 w'
end
end F
end Go.Proofs.Ytjmknpkmbghgdaa
