import Derived.Test.YtoppcikacakjcaaP25
import Derived.Deep.RegionLaw
/-
  Stage 8, flow: the book's ownAll, first half: all lists are written full.
-/
namespace Go.Proofs.Ytoppcikacakjcaa
namespace F
open Go.RowKit
open T

/-- A list of its own, of a colour, its first elements written. -/
def Ls (w : World) (c : Nat → Int) (v : Value) (m : Int) (k : Nat) : Prop := ∃ l : List Int, w.ownsRow 0 3 1 v l.length (l.map (Value.int .i64)) ∧ l.length ≤ 1900000 ∧ Cl c v m ∧ ∀ q, q < k → q < l.length → l[q]? = some (-m)
theorem Ls.slice {w : World} {c : Nat → Int} {v : Value} {m : Int} {k : Nat} (h : Ls w c v m k) : ∃ a n cp, v = .slice a n cp ∧ n ≤ 1900000 := by
  obtain ⟨l, h1, h2, _⟩ := h
  obtain ⟨a, cp, rfl⟩ := row_slice h1
  exact ⟨a, l.length, cp, rfl, h2⟩
theorem Ls.stp {w w1 : World} {c c1 : Nat → Int} {v : Value} {m m' : Int} {k : Nat} (h : Ls w c v m k) (hs : Stp m' w w1 c c1) (hne : m ≠ m') : Ls w1 c1 v m k := by
  obtain ⟨l, h1, h2, h3, h4⟩ := h
  obtain ⟨g1, g2⟩ := hs.own h1 h3 hne
  exact ⟨l, g1, h2, g2, h4⟩
theorem Ls.below {w w1 : World} {c : Nat → Int} {v : Value} {m : Int} {k : Nat} (h : Ls w c v m k) (hs : Below w.heap.size w w1) : Ls w1 c v m k := by
  obtain ⟨l, h1, h2, h3, h4⟩ := h
  exact ⟨l, own_below h1 hs, h2, h3, h4⟩
theorem Ls.full {w : World} {c : Nat → Int} {a : Option Addr} {n cp : Nat} {m : Int} {k : Nat} (h : Ls w c (.slice a n cp) m k) (hk : n ≤ k) : XI 0 w (.slice a n cp) n (-m) ∧ Cl c (.slice a n cp) m := by
  obtain ⟨l, h1, h2, h3, h4⟩ := h
  obtain ⟨a', cp', e⟩ := row_slice h1
  simp only [Value.slice.injEq] at e
  obtain ⟨rfl, rfl, rfl⟩ := e
  refine ⟨?_, h3⟩
  have el : l = List.replicate l.length (-m) := by
    apply List.ext_getElem?
    intro q
    by_cases hq : q < l.length
    · rw [h4 q (by omega) hq]; simp [hq]
    · rw [List.getElem?_eq_none (by omega), List.getElem?_eq_none (by simp; omega)]
  unfold XI
  have e2 : l.map (Value.int .i64) = List.replicate l.length (.int .i64 (-m)) := by
    rw [el]; simp
  rw [e2] at h1
  exact h1
theorem Ls.more {w : World} {c : Nat → Int} {a : Option Addr} {n cp : Nat} {m : Int} {k k' : Nat} (h : Ls w c (.slice a n cp) m k) (hk : n ≤ k) : Ls w c (.slice a n cp) m k' := by
  obtain ⟨l, h1, h2, h3, h4⟩ := h
  obtain ⟨a', cp', e⟩ := row_slice h1
  simp only [Value.slice.injEq] at e
  obtain ⟨rfl, rfl, rfl⟩ := e
  exact ⟨l, h1, h2, h3, fun q _ hq => h4 q (by omega) hq⟩
theorem Ls.store {w : World} {c : Nat → Int} {a : Option Addr} {n cp : Nat} {m : Int} {k : Nat} (h : Ls w c (.slice a n cp) m k) (hk : k < n) :
    ∃ g, a = some ⟨g, 0, none⟩ ∧ g < w.heap.size ∧ c g = m ∧ (∃ y, w.cell? ⟨g, k, none⟩ = some y) ∧ w.frozen? ⟨g, k, none⟩ = false ∧ Ls (w.setCell ⟨g, k, none⟩ (.int .i64 (-m))) c (.slice a n cp) m (k + 1) := by
  obtain ⟨l, h1, h2, h3, h4⟩ := h
  obtain ⟨a', cp', e⟩ := row_slice h1
  simp only [Value.slice.injEq] at e
  obtain ⟨rfl, rfl, rfl⟩ := e
  obtain ⟨g, cap, e, hg, hc⟩ := row_cell h1 k (by simpa using hk)
  simp only [Value.slice.injEq] at e
  obtain ⟨rfl, _, rfl⟩ := e
  refine ⟨g, rfl, hg, h3 g rfl, ⟨_, hc⟩, World.ownsRow.frozenAt h1 k, l.set k (-m), ?_, by simpa using h2, h3, fun q hq hl => ?_⟩
  · have := (World.ownsRow.stored h1 k (.int .i64 (-m))).1
    rw [List.length_set, List.map_set]
    exact this
  · by_cases e : q = k
    · subst e; simp [hk]
    · rw [List.getElem?_set_ne (fun r => e r.symm)]
      exact h4 q (by omega) (by simpa using hl)
/-- What the book's owner has at hand: the box, the list of lists, each list. -/
structure Sh (w0 : World) (bB : Nat) (V : Value) (vs : List Value) (c : Nat → Int) (f : Nat → Nat) (w : World) : Prop where
  box : At w bB #[.int .i64 0, .slice none 0 0, .slice none 0 0]
  row : w.ownsRow 0 23 1 V vs.length vs
  ls : ∀ j (h : j < vs.length), Ls w c vs[j] ((j : Int) + 1) (f j)
  kp : Kp (fun k => k = bB ∨ 0 < c k) w0 w
theorem Sh.drewN {w0 : World} {bB : Nat} {V : Value} {vs : List Value} {c : Nat → Int} {f : Nat → Nat} {w w1 : World} (h : Sh w0 bB V vs c f w) (hb : Below w.heap.size w w1) : Sh w0 bB V vs c f w1 :=
  ⟨at_below h.box hb h.box.1, own_below h.row hb, fun j hj => (h.ls j hj).below hb, h.kp.trans (Kp.of_below (S := fun _ => False) hb) (fun _ r => r.elim)⟩
theorem Sh.store {w0 : World} {bB : Nat} {V : Value} {vs : List Value} {c : Nat → Int} {f f' : Nat → Nat} {w : World} (h : Sh w0 bB V vs c f w) (hB : c bB = -3) (hV : Cl c V 0) (i : Nat) (hi : i < vs.length) (a : Option Addr) (n cp : Nat) (hv : vs[i] = .slice a n cp) (k : Nat) (hk : k < n) (hf : f i = k) (hf1 : f' i = k + 1) (hfo : ∀ j, j ≠ i → f' j = f j) :
    ∃ g, a = some ⟨g, 0, none⟩ ∧ g < w.heap.size ∧ (∃ y, w.cell? ⟨g, k, none⟩ = some y) ∧ w.frozen? ⟨g, k, none⟩ = false ∧ Sh w0 bB V vs c f' (w.setCell ⟨g, k, none⟩ (.int .i64 (-((i : Int) + 1)))) := by
  have h1 := h.ls i hi
  rw [hv, hf] at h1
  obtain ⟨g, rfl, g1, g2, g3, g4, g5⟩ := h1.store hk
  have hs := Stp.set (m := (i : Int) + 1) w ⟨g, k, none⟩ (.int .i64 (-((i : Int) + 1))) c g2
  refine ⟨g, rfl, g1, g3, g4, ⟨(hs.at h.box hB (by omega)).1, (hs.own h.row hV (by omega)).1, fun j hj => ?_, h.kp.trans hs.1 (fun k' q => .inl (.inr (by omega)))⟩⟩
  by_cases e : j = i
  · subst e
    rw [hv, hf1]
    exact g5
  · rw [hfo j e]
    exact (h.ls j hj).stp hs (by omega)
theorem Sh.congr {w0 : World} {bB : Nat} {V : Value} {vs : List Value} {c : Nat → Int} {f f' : Nat → Nat} {w : World} (h : Sh w0 bB V vs c f w) (hf : ∀ j (hj : j < vs.length), Ls w c vs[j] ((j : Int) + 1) (f j) → Ls w c vs[j] ((j : Int) + 1) (f' j)) : Sh w0 bB V vs c f' w :=
  ⟨h.box, h.row, fun j hj => hf j hj (h.ls j hj), h.kp⟩
def fu (i k j : Nat) : Nat := if j < i then 2000000 else if j = i then k else 0
theorem fu_here (i k : Nat) : fu i k i = k := by simp [fu]
theorem fu_other (i k k' j : Nat) (h : j ≠ i) : fu i k' j = fu i k j := by simp [fu, h]
/-- The same in the second half: what was handed on so far. -/
structure Sc (w0 : World) (bB : Nat) (V : Value) (vs : List Value) (c0 : Nat → Int) (p : Nat) (v1 v2 : Value) (A : List Value) (B : List Int) (c : Nat → Int) (w : World) : Prop where
  box : At w bB #[.int .i64 0, v1, v2]
  r1 : w.ownsRow 0 23 1 v1 A.length A
  r2 : w.ownsRow 0 3 1 v2 B.length (B.map (Value.int .i64))
  c1 : Cl c v1 (-1)
  c2 : Cl c v2 (-2)
  cB : c bB = -3
  row : w.ownsRow 0 23 1 V vs.length vs
  cV : Cl c V 0
  ls : ∀ j (h : j < vs.length), p ≤ j → Ls w c vs[j] ((j : Int) + 1) 2000000
  same : ∀ k, k < w0.heap.size → c k = c0 k
  kp : Kp (fun k => k = bB ∨ 0 < c0 k) w0 w
def Rds (i : Int) (T : List (Value × Int)) (c : Nat → Int) (w : World) : Prop := ∀ t ∈ T, 0 < t.2 ∧ t.2 ≤ i ∧ Rd w c t.1 t.2
section
variable {w0 : World} {bB : Nat} {V : Value} {vs : List Value} {c0 : Nat → Int} {p : Nat} {v1 v2 : Value} {A : List Value} {B : List Int} {c : Nat → Int} {w : World}
theorem Sc.same_stp {m : Int} {w1 : World} {c1 : Nat → Int} (h : Sc w0 bB V vs c0 p v1 v2 A B c w) (hs : Stp m w w1 c c1) : ∀ k, k < w0.heap.size → c1 k = c0 k := fun k hk =>
  (hs.2 k (Nat.lt_of_lt_of_le hk h.kp.size)).trans (h.same k hk)
theorem Sc.stp {m : Int} {w1 : World} {c1 : Nat → Int} (h : Sc w0 bB V vs c0 p v1 v2 A B c w) (hs : Stp m w w1 c c1) (hm : 0 < m) (hp : ∀ j, p ≤ j → (j : Int) + 1 ≠ m) : Sc w0 bB V vs c0 p v1 v2 A B c1 w1 := by
  obtain ⟨b1, b2⟩ := hs.at h.box h.cB (by omega)
  obtain ⟨d1, d2⟩ := hs.own h.r1 h.c1 (by omega)
  obtain ⟨e1, e2⟩ := hs.own h.r2 h.c2 (by omega)
  obtain ⟨f1, f2⟩ := hs.own h.row h.cV (by omega)
  refine ⟨b1, d1, e1, d2, e2, b2, f1, f2, fun j hj hp' => (h.ls j hj hp').stp hs (hp j hp'), h.same_stp hs, h.kp.trans hs.1 (fun k q => ?_)⟩
  by_cases hk : k < w0.heap.size
  · left; right
    rw [← h.same k hk, q]
    exact hm
  · exact .inr (by omega)
theorem Sc.below {w1 : World} (h : Sc w0 bB V vs c0 p v1 v2 A B c w) (hb : Below w.heap.size w w1) : Sc w0 bB V vs c0 p v1 v2 A B c w1 :=
  ⟨at_below h.box hb h.box.1, own_below h.r1 hb, own_below h.r2 hb, h.c1, h.c2, h.cB, own_below h.row hb, h.cV, fun j hj hp => (h.ls j hj hp).below hb, h.same, h.kp.trans (Kp.of_below (S := fun _ => False) hb) (fun _ r => r.elim)⟩
theorem Sc.skip {p' : Nat} (h : Sc w0 bB V vs c0 p v1 v2 A B c w) (hp : p ≤ p') : Sc w0 bB V vs c0 p' v1 v2 A B c w :=
  ⟨h.box, h.r1, h.r2, h.c1, h.c2, h.cB, h.row, h.cV, fun j hj q => h.ls j hj (by omega), h.same, h.kp⟩
theorem Rds.stp {i m : Int} {T : List (Value × Int)} {w1 : World} {c1 : Nat → Int} (h : Rds i T c w) (hs : Stp m w w1 c c1) (hm : m ≤ 0 ∨ i < m) : Rds i T c1 w1 := fun t ht => by
  obtain ⟨h1, h2, h3⟩ := h t ht
  exact ⟨h1, h2, h3.stp hs (by omega)⟩
theorem Rds.below {i : Int} {T : List (Value × Int)} {w1 : World} (h : Rds i T c w) (hb : Below w.heap.size w w1) : Rds i T c w1 := h.stp (m := -7) (Stp.of_below hb) (.inl (by omega))
theorem box_set {n x y n' x' y' : Value} (h : At w bB #[n, x, y]) (j : Nat) (z : Value) (hj : j < 3) (e : (#[n, x, y] : Array Value).setIfInBounds j z = #[n', x', y']) : At (w.setCell ⟨bB, j, none⟩ z) bB #[n', x', y'] := by
  have := h.set j z (by simpa using hj)
  rw [e] at this
  exact this
theorem Sc.grow1 {w1 : World} {g k cap : Nat} {A' : List Value} (h : Sc w0 bB V vs c0 p v1 v2 A B c w) (hc : ∀ k, c0 k ≠ -1 ∧ c0 k ≠ -2) (h1 : w1.ownsRow 0 23 1 (.slice (some ⟨g, 0, none⟩) k cap) k A') (h2 : w.grownBy w1 v1.ownBlock) (h3 : v1.ownBlock = some g ∨ g = w.heap.size) :
    At w1 bB #[.int .i64 0, v1, v2] ∧ w1.ownsRow 0 23 1 V vs.length vs ∧ ∃ c1, Sc w0 bB V vs c0 p (.slice (some ⟨g, 0, none⟩) k cap) v2 A' B c1 (w1.setCell ⟨bB, 1, none⟩ (.slice (some ⟨g, 0, none⟩) k cap)) ∧ ∀ i T, Rds i T c w → Rds i T c1 (w1.setCell ⟨bB, 1, none⟩ (.slice (some ⟨g, 0, none⟩) k cap)) := by
  obtain ⟨c1, hs, hg⟩ := Stp.grown (c := c) (m := -1) h2 h.c1 h3
  obtain ⟨b1, b2⟩ := hs.at h.box h.cB (by omega)
  obtain ⟨e1, e2⟩ := hs.own h.r2 h.c2 (by omega)
  obtain ⟨f1, f2⟩ := hs.own h.row h.cV (by omega)
  have hk : A'.length = k := by have := h1.1; omega
  have ht := Stp.set (m := -3) w1 ⟨bB, 1, none⟩ (.slice (some ⟨g, 0, none⟩) k cap) c1 b2
  have hd : Cl c1 (.slice (some ⟨g, 0, none⟩) k cap) (-1) := cl_some hg
  refine ⟨b1, f1, c1, ⟨box_set b1 1 _ (by omega) rfl, ?_, (ht.own e1 e2 (by omega)).1, hd, e2, b2, (ht.own f1 f2 (by omega)).1, f2, fun j hj hp => ((h.ls j hj hp).stp hs (by omega)).stp ht (by omega), h.same_stp hs, (h.kp.trans hs.1 (fun k q => ?_)).trans (Kp.set (S := fun k => k = bB) w1 _ _ rfl) (fun k q => .inl (.inl q))⟩, fun i T hr => (hr.stp hs (.inl (by omega))).stp ht (.inl (by omega))⟩
  · rw [hk]
    exact (ht.own h1 hd (by omega)).1
  · by_cases hk : k < w0.heap.size
    · exact absurd ((h.same k hk).symm.trans q) (hc k).1
    · exact .inr (by omega)
theorem Sc.grow2 {w1 : World} {g k cap : Nat} {B' : List Int} (h : Sc w0 bB V vs c0 p v1 v2 A B c w) (hc : ∀ k, c0 k ≠ -1 ∧ c0 k ≠ -2) (h1 : w1.ownsRow 0 3 1 (.slice (some ⟨g, 0, none⟩) k cap) k (B'.map (Value.int .i64))) (h2 : w.grownBy w1 v2.ownBlock) (h3 : v2.ownBlock = some g ∨ g = w.heap.size) :
    At w1 bB #[.int .i64 0, v1, v2] ∧ ∃ c1, Sc w0 bB V vs c0 p v1 (.slice (some ⟨g, 0, none⟩) k cap) A B' c1 (w1.setCell ⟨bB, 2, none⟩ (.slice (some ⟨g, 0, none⟩) k cap)) ∧ ∀ i T, Rds i T c w → Rds i T c1 (w1.setCell ⟨bB, 2, none⟩ (.slice (some ⟨g, 0, none⟩) k cap)) := by
  obtain ⟨c1, hs, hg⟩ := Stp.grown (c := c) (m := -2) h2 h.c2 h3
  obtain ⟨b1, b2⟩ := hs.at h.box h.cB (by omega)
  obtain ⟨e1, e2⟩ := hs.own h.r1 h.c1 (by omega)
  obtain ⟨f1, f2⟩ := hs.own h.row h.cV (by omega)
  have hk : B'.length = k := by have := h1.1; simp at this; omega
  have ht := Stp.set (m := -3) w1 ⟨bB, 2, none⟩ (.slice (some ⟨g, 0, none⟩) k cap) c1 b2
  have hd : Cl c1 (.slice (some ⟨g, 0, none⟩) k cap) (-2) := cl_some hg
  refine ⟨b1, c1, ⟨box_set b1 2 _ (by omega) rfl, (ht.own e1 e2 (by omega)).1, ?_, e2, hd, b2, (ht.own f1 f2 (by omega)).1, f2, fun j hj hp => ((h.ls j hj hp).stp hs (by omega)).stp ht (by omega), h.same_stp hs, (h.kp.trans hs.1 (fun k q => ?_)).trans (Kp.set (S := fun k => k = bB) w1 _ _ rfl) (fun k q => .inl (.inl q))⟩, fun i T hr => (hr.stp hs (.inl (by omega))).stp ht (.inl (by omega))⟩
  · rw [hk]
    exact (ht.own h1 hd (by omega)).1
  · by_cases hk : k < w0.heap.size
    · exact absurd ((h.same k hk).symm.trans q) (hc k).2
    · exact .inr (by omega)
theorem Sh.second (h : Sh w0 bB V vs c0 (fun _ => 2000000) w) (hB : c0 bB = -3) (hV : Cl c0 V 0) : Sc w0 bB V vs c0 0 (.slice none 0 0) (.slice none 0 0) [] [] c0 w :=
  ⟨h.box, ⟨rfl, .inl ⟨rfl, rfl⟩⟩, ⟨rfl, .inl ⟨rfl, rfl⟩⟩, (fun _ q => by cases q), (fun _ q => by cases q), hB, h.row, hV, fun j hj _ => h.ls j hj, fun _ _ => rfl, h.kp⟩
/-- One more element onto a list of that colour. -/
theorem Sc.one {m : Int} {w1 : World} {v : Value} {g : Nat} (hg : w.grownBy w1 v.ownBlock) (hc : Cl c v m) (h3 : v.ownBlock = some g ∨ g = w.heap.size) : ∃ c1, Stp m w w1 c c1 ∧ c1 g = m := Stp.grown hg hc h3
theorem Rds.more {i : Nat} {T : List (Value × Int)} {x y z : Value} (h : Rds i T c w) (hx : Rd w c x (1 + (i : Int))) (hy : Rd w c y (1 + (i : Int))) (hz : Rd w c z (1 + (i : Int))) : Rds ((i + 1 : Nat) : Int) (T ++ [(x, 1 + (i : Int)), (y, 1 + (i : Int)), (z, 1 + (i : Int))]) c w := fun t ht => by
  rcases List.mem_append.1 ht with r | r
  · obtain ⟨h1, h2, h3⟩ := h t r
    exact ⟨h1, by omega, h3⟩
  · simp only [List.mem_cons, List.not_mem_nil, or_false] at r
    rcases r with rfl | rfl | rfl
    · exact ⟨by dsimp only; omega, by dsimp only; omega, hx⟩
    · exact ⟨by dsimp only; omega, by dsimp only; omega, hy⟩
    · exact ⟨by dsimp only; omega, by dsimp only; omega, hz⟩
/-- What ownAll leaves. -/
def Ow (w0 : World) (bB N : Nat) (c0 : Nat → Int) (w' : World) : Prop := ∃ v1 v2 T c', Bok w' bB N v1 v2 T c' ∧ T.length = 3 * N ∧ Kp (fun k => k = bB ∨ 0 < c0 k) w0 w' ∧ ∀ k, k < w0.heap.size → c' k = c0 k
end
end F
end Go.Proofs.Ytoppcikacakjcaa


/-
  Stage 8, flow: the book's ownAll, walked.
-/
namespace Go.Proofs.Ytoppcikacakjcaa
namespace F
open Go.RowKit
open T

set_option maxRecDepth 100000 in
set_option maxHeartbeats 16000000 in
theorem ownAll_any (w : World) (bB : Nat) (V : Value) (vs : List Value) (c : Nat → Int) (h : Sh w bB V vs c (fun _ => 0) w) (hB : c bB = -3) (hV : Cl c V 0) (hc : ∀ k, c k ≠ -1 ∧ c k ≠ -2) (hN : vs.length ≤ 4100000) :
    Calls Try.prog 11 #[.pointer (some ⟨bB, 0, none⟩), V] w fun e w' => e = .returned (.tuple #[]) ∧ Ow w bB vs.length c w' := by
  obtain ⟨Va, Vc, rfl⟩ := row_slice h.row
  have h0 : Hid (Sh w bB (.slice Va vs.length Vc) vs c (fu 0 0) w) := Hid.mk (h.congr (fun j _ q => by simpa [fu] using q))
  have hrow : Hid (∀ W f i (hi : i < vs.length), Sh w bB (.slice Va vs.length Vc) vs c f W → ∃ gV, Va = some ⟨gV, 0, none⟩ ∧ W.cell? ⟨gV, i, none⟩ = some vs[i]) := Hid.mk (fun W f i hi q => by
    obtain ⟨g, cap, e, _, z⟩ := row_cell q.row i hi
    simp only [Value.slice.injEq] at e
    exact ⟨g, e.1, z⟩)
  have hst := Hid.mk (fun f f' W (q : Sh w bB (.slice Va vs.length Vc) vs c f W) => Sh.store (f' := f') q hB hV)
  obtain ⟨i0, hi0, hz0, hz1, hz2⟩ := info_parts' (t := 23) (z := .slice none 0 0) (s := 1) (b := 24) (by kernel_rfl)
  obtain ⟨j0, hj0, jz0, jz1, jz2⟩ := info_parts' (t := 3) (z := .int .i64 0) (s := 1) (b := 8) (by kernel_rfl)
  clear h
  replace hB := Hid.mk hB
  replace hV := Hid.mk hV
  replace hc := Hid.mk hc
  go_enter Try.func11, Try.ntmps11
  go_wp2_with fail
  go_loopw [4] (fun x wr => ∃ i : Nat, x = .int .i64 i ∧ i ≤ vs.length ∧ Hid (Sh w bB (.slice Va vs.length Vc) vs c (fu i 0) wr)) (fun x _ => vs.length - (intOf x).toNat)
  case atStart => exact ⟨0, rfl, by omega, h0⟩
  case round =>
    clear h0
    obtain ⟨i, rfl, hi, hI⟩ := hrel
    by_cases hlt : i < vs.length
    · have hi1 : (i : Int) < vs.length := by omega
      obtain ⟨a, n, cp, ev, hn⟩ := (hI.out.ls i hlt).slice
      obtain ⟨gV, rfl, zV⟩ := hrow.out _ _ i hlt hI.out
      rw [ev] at zV
      replace ev := Hid.mk ev
      go_wp2_with fail
      clear zV
      go_loopw [5] (fun x wr => ∃ k : Nat, x = .int .i64 k ∧ k ≤ n ∧ Hid (Sh w bB (.slice (some ⟨gV, 0, none⟩) vs.length Vc) vs c (fu i k) wr)) (fun x _ => n - (intOf x).toNat)
      case atStart => exact ⟨0, rfl, by omega, hI⟩
      case round =>
        clear hI
        obtain ⟨k, rfl, hk, hI⟩ := hrel
        obtain ⟨gV', egV, zV⟩ := hrow.out _ _ i hlt hI.out
        have : gV = gV' := by simpa using egV
        subst this
        clear egV
        rw [ev.out] at zV
        by_cases hkl : k < n
        · have hk1 : (k : Int) < n := by omega
          have z0 := hI.out.box.2.1 0
          have zl := hI.out.box.1
          simp only [List.getElem?_toArray, List.getElem?_cons_zero] at z0
          obtain ⟨g, rfl, g1, ⟨y, g2⟩, g3, g4⟩ := hst.out (fu i k) (fu i (k + 1)) _ hI.out i hlt a n cp ev.out k hkl (fu_here i k) (fu_here i (k + 1)) (fun j q => fu_other i _ _ j q)
          rw [show (i : Int) + 1 = 1 + i by omega] at g4
          replace g4 := Hid.mk (g4.drewN ((Below.refl _ _).drew))
          go_wp2_with fail
          go_region
          all_goals go_wp2_with fail
          all_goals go_roundw
          all_goals first | exact ⟨k + 1, by simp, by omega, g4⟩ | (simp only [intOf]; omega)
        · have hk1 : ¬ (k : Int) < n := by omega
          have hnw : Hid (Sh w bB (.slice (some ⟨gV, 0, none⟩) vs.length Vc) vs c (fu (i + 1) 0) wr) := Hid.mk (hI.out.congr (fun j hj q => by
            by_cases e : j = i
            · subst e
              rw [ev.out] at q ⊢
              rw [fu_here] at q
              exact q.more (by omega)
            · have : fu (i + 1) 0 j = fu i k j := by
                by_cases r : j < i
                · simp [fu, r, show j < i + 1 by omega]
                · simp [fu, r, e, show ¬ j < i + 1 by omega]
              rw [this]
              exact q))
          go_wp2_with fail
          go_roundw
          all_goals first | exact ⟨i + 1, by simp, by omega, hnw⟩ | (simp only [intOf]; omega)
    · have hi1 : ¬ (i : Int) < vs.length := by omega
      have h2 : Hid (∃ v1 v2 T c', Sc w bB (.slice Va vs.length Vc) vs c 0 v1 v2 (T.map (·.1)) (T.map (·.2)) c' wr ∧ T.length = 3 * 0 ∧ Rds (0 : Nat) T c' wr) := Hid.mk ⟨_, _, [], c, (hI.out.congr (f' := fun _ => 2000000) (fun j hj q => by simpa [fu, show j < i by omega] using q)).second hB.out hV.out, rfl, fun t ht => by cases ht⟩
      clear hI
      go_wp2_with fail
      go_loopw [6] (fun x wr => ∃ i : Nat, x = .int .i64 i ∧ i ≤ vs.length ∧ Hid (∃ v1 v2 T c', Sc w bB (.slice Va vs.length Vc) vs c i v1 v2 (T.map (·.1)) (T.map (·.2)) c' wr ∧ T.length = 3 * i ∧ Rds i T c' wr)) (fun x _ => vs.length - (intOf x).toNat)
      case atStart => exact ⟨0, rfl, by omega, h2⟩
      case round =>
        clear h2 hlt hi hi1
        obtain ⟨i, rfl, hi, ⟨v1, v2, T, c', s1, sT, sR⟩⟩ := hrel
        have z0 := s1.box.2.1 0
        have zl := s1.box.1
        simp only [List.getElem?_toArray, List.getElem?_cons_zero] at z0
        by_cases hlt : i < vs.length
        · have hi1 : (i : Int) < vs.length := by omega
          obtain ⟨a, n, cp, ev, hn⟩ := (s1.ls i hlt (Nat.le_refl _)).slice
          obtain ⟨gV, cV, eV, _, zV⟩ := row_cell s1.row i hlt
          simp only [Value.slice.injEq] at eV
          obtain ⟨rfl, _, rfl⟩ := eV
          have hx := s1.ls i hlt (Nat.le_refl _)
          rw [ev] at hx zV
          obtain ⟨x1, x2⟩ := hx.full (by omega)
          clear hx
          rw [show (i : Int) + 1 = 1 + i by omega] at x1 x2
          replace ev := Hid.mk ev
          replace x1 := Hid.mk x1
          replace x2 := Hid.mk x2
          replace s1 := Hid.mk s1
          replace sT := Hid.mk sT
          replace sR := Hid.mk sR
          go_wp2_with (at_builtin; refine wpList_append_x rfl (.tmp 56) (.tmp 59) rfl 0 (.slice a n cp) n (-(1 + (i : Int))) rfl (own_below x1.out ((Below.refl _ wr).alloc (Nat.le_refl _) _)) wr.heap.size rfl (At.new _ _ _) (by omega) (Nat.zero_le _) ?_)
          intro g1 cx w1 k1 k2 k3 k4 k5
          have h3 : Hid (∃ c2, XI 0 w1 (.slice (some ⟨g1, 0, none⟩) (n + 1) cx) (n + 1 + 0) (-(1 + (i : Int))) ∧ Cl c2 (.slice (some ⟨g1, 0, none⟩) (n + 1) cx) (1 + (i : Int)) ∧ Stp (1 + (i : Int)) wr w1 c' c2 ∧ Mine (-(1 + (i : Int))) wr w1 ∧ Rd w1 c2 (.slice (some ⟨g1, 0, none⟩) (n + 1) cx) (1 + (i : Int))) := Hid.mk (by
            obtain ⟨c1, t1, t2⟩ := Stp.grown (m := 1 + (i : Int)) (c := c') k2 x2.out (k3.imp_right (fun e => by rw [e]; simp))
            have ha : Below wr.heap.size wr (wr.alloc (.cells #[.int .i64 (-(1 + (i : Int)))] 3)) := (Below.refl _ wr).alloc (Nat.le_refl _) _
            exact ⟨c1, k1, cl_some t2, (Stp.of_below ha).trans t1, (Mine.below ha).trans k5, Rd.of k1 (cl_some t2) (by omega)⟩)
          clear k1 k2 k3 k4 k5
          go_wp2_with fail
          go_loopw [9, 10] (fun v x w2 => ∃ j : Nat, x = .int .i64 j ∧ j ≤ 40 ∧ Hid (∃ c2, XI 0 w2 v (n + 1 + j) (-(1 + (i : Int))) ∧ Cl c2 v (1 + (i : Int)) ∧ Stp (1 + (i : Int)) wr w2 c' c2 ∧ Mine (-(1 + (i : Int))) wr w2 ∧ Rd w2 c2 (.slice (some ⟨g1, 0, none⟩) (n + 1) cx) (1 + (i : Int)))) (fun _ x _ => 40 - (intOf x).toNat)
          case atStart => exact ⟨0, rfl, by omega, h3⟩
          case round =>
            clear h3
            rename World => w2
            obtain ⟨j, rfl, hj, ⟨c2, i1, i2, i3, i4, i5⟩⟩ := hrel
            obtain ⟨va, vc, rfl⟩ := row_slice i1
            by_cases hjl : j < 40
            · have hj1 : (j : Int) < 40 := by omega
              replace i1 := Hid.mk i1
              replace i2 := Hid.mk i2
              replace i3 := Hid.mk i3
              replace i4 := Hid.mk i4
              replace i5 := Hid.mk i5
              go_wp2_with (at_builtin; refine wpList_append_x rfl (.tmp 66) (.tmp 69) rfl 0 (.slice va (n + 1 + j) vc) (n + 1 + j) (-(1 + (i : Int))) rfl (own_below i1.out ((Below.refl _ w2).alloc (Nat.le_refl _) _)) w2.heap.size rfl (At.new _ _ _) (by omega) (Nat.zero_le _) ?_)
              intro g2 cy w3 k1 k2 k3 k4 k5
              have h3 : Hid (∃ c2, XI 0 w3 (.slice (some ⟨g2, 0, none⟩) (n + 1 + (j + 1)) cy) (n + 1 + (j + 1)) (-(1 + (i : Int))) ∧ Cl c2 (.slice (some ⟨g2, 0, none⟩) (n + 1 + (j + 1)) cy) (1 + (i : Int)) ∧ Stp (1 + (i : Int)) wr w3 c' c2 ∧ Mine (-(1 + (i : Int))) wr w3 ∧ Rd w3 c2 (.slice (some ⟨g1, 0, none⟩) (n + 1) cx) (1 + (i : Int))) := Hid.mk (by
                obtain ⟨c3, t1, t2⟩ := Stp.grown (m := 1 + (i : Int)) (c := c2) k2 i2.out (k3.imp_right (fun e => by rw [e]; simp))
                have ha : Below w2.heap.size w2 (w2.alloc (.cells #[.int .i64 (-(1 + (i : Int)))] 3)) := (Below.refl _ w2).alloc (Nat.le_refl _) _
                have hst := (Stp.of_below (m := 1 + (i : Int)) (c := c2) ha).trans t1
                have hmi := (Mine.below (m := -(1 + (i : Int))) ha).trans k5
                exact ⟨c3, k1, cl_some t2, i3.out.trans hst, i4.out.trans hmi, i5.out.mine hst hmi⟩)
              clear k1 k2 k3 k4 k5
              go_wp2_with fail
              go_roundw
              all_goals first | exact ⟨j + 1, by simp, by omega, h3⟩ | (simp only [intOf]; omega)
            · have hj1 : ¬ (j : Int) < 40 := by omega
              have hnn : n + 1 + j ≤ 2000000 := by omega
              have d1 := Hid.mk ((s1.out.skip (Nat.le_succ i)).stp i3 (by omega) (fun j' q => by omega))
              have d2 := Hid.mk ((sR.out.stp i3 (.inr (by omega))).more ((Rd.of x1.out x2.out (by omega)).mine i3 i4) i5 (Rd.of i1 i2 hnn))
              have y1 := d1.out.box.2.1 1
              simp only [List.getElem?_toArray, List.getElem?_cons_succ, List.getElem?_cons_zero] at y1
              have yl := d1.out.box.1
              obtain ⟨gV', cV', eV, ygl, y2⟩ := row_cell d1.out.row i hlt
              simp only [Value.slice.injEq, Option.some.injEq, Addr.mk.injEq, and_true, true_and] at eV
              obtain ⟨rfl, rfl⟩ := eV
              rw [ev.out] at y2
              have lA : Hid ((T.map (·.1)).length = 3 * i) := Hid.mk (by rw [List.length_map]; exact sT.out)
              have lB : Hid ((T.map (·.2)).length = 3 * i) := Hid.mk (by rw [List.length_map]; exact sT.out)
              have eA : Hid ((T ++ [(Value.slice a n cp, 1 + (i : Int)), (.slice (some ⟨g1, 0, none⟩) (n + 1) cx, 1 + (i : Int)), (.slice va (n + 1 + j) vc, 1 + (i : Int))]).map (·.1) = T.map (·.1) ++ [.slice a n cp, .slice (some ⟨g1, 0, none⟩) (n + 1) cx, .slice va (n + 1 + j) vc]) := Hid.mk (by simp)
              have eB : Hid ((T ++ [(Value.slice a n cp, 1 + (i : Int)), (.slice (some ⟨g1, 0, none⟩) (n + 1) cx, 1 + (i : Int)), (.slice va (n + 1 + j) vc, 1 + (i : Int))]).map (·.2) = T.map (·.2) ++ [1 + (i : Int), 1 + (i : Int), 1 + (i : Int)]) := Hid.mk (by simp)
              have eT : Hid ((T ++ [(Value.slice a n cp, 1 + (i : Int)), (.slice (some ⟨g1, 0, none⟩) (n + 1) cx, 1 + (i : Int)), (.slice va (n + 1 + j) vc, 1 + (i : Int))]).length = 3 * (i + 1)) := Hid.mk (by rw [List.length_append, sT.out]; simp; omega)
              generalize T ++ [(Value.slice a n cp, 1 + (i : Int)), (Value.slice (some ⟨g1, 0, none⟩) (n + 1) cx, 1 + (i : Int)), (Value.slice va (n + 1 + j) vc, 1 + (i : Int))] = T' at *
              generalize T.map (·.1) = A at *
              generalize T.map (·.2) = B at *
              have dB := Hid.mk (fun W (q : Below w2.heap.size w2 W) => d1.out.below q)
              have kB : Hid (∀ W, Below w2.heap.size w2 W → W.cell? ⟨gV, i, none⟩ = some (.slice a n cp)) := Hid.mk (fun W q => by
                obtain ⟨gV', cV', eV, _, y2⟩ := row_cell (d1.out.below q).row i hlt
                simp only [Value.slice.injEq, Option.some.injEq, Addr.mk.injEq, and_true, true_and] at eV
                obtain ⟨rfl, rfl⟩ := eV
                rw [ev.out] at y2
                exact y2)
              clear i1 i2 i3 i4 i5 z0 zl zV x1 x2 s1 sR
              go_wp2_with fail
              go_region_law ((refine step_append_lies _ (by rfl) (.tmp 75) (.tmp 82) 26 (by rfl) 0 23 i0 (.slice none 0 0) 1 24 Try.underlying26 hi0 hz0 hz1 hz2 rfl (by decide) v1 _ _ (by rfl) (dB.out _ (by (repeat (first | assumption | with_reducible exact Below.refl _ _ | with_reducible refine Below.alloc ?_ (by simp <;> omega) _ | with_reducible refine Below.setCell ?_ (by simp <;> omega) _ | with_reducible refine Below.drew ?_)))).r1 ⟨w2.heap.size, 0, none⟩ 3 3 [.slice a n cp, .slice (some ⟨g1, 0, none⟩) (n + 1) cx, .slice va (n + 1 + j) vc] (by rfl) (by rfl) (World.news_of_block (cs := #[.slice a n cp, .slice (some ⟨g1, 0, none⟩) (n + 1) cx, .slice va (n + 1 + j) vc]) (t := 23) (fr := (0, 0)) (heap_alloc_new w2 _)) (by simp [Value.oneCell']) (by decide) (by unfold maxLen; rw [lA.out]; omega) (by rw [lA.out]; omega) (Nat.zero_le _) (w2.heap.size + 1) (by simp) ?_; intro g3 c3 w3 k1 k2 k3 k4; obtain ⟨q1, q2, c4, q3, q4⟩ := Sc.grow1 (dB.out _ (by (repeat (first | assumption | with_reducible exact Below.refl _ _ | with_reducible refine Below.alloc ?_ (by simp <;> omega) _ | with_reducible refine Below.setCell ?_ (by simp <;> omega) _ | with_reducible refine Below.drew ?_)))) hc.out k1 k2 (k3.imp_right (fun e => by rw [e]; simp)); have y3 := q1.2.1 1; have y4 := q1.2.2; have y5 := q1.1; simp only [List.getElem?_toArray, List.getElem?_cons_succ, List.getElem?_cons_zero] at y3; replace k1 := Hid.mk k1; replace k2 := Hid.mk k2; replace k3 := Hid.mk k3; replace q1 := Hid.mk q1; replace q2 := Hid.mk q2; replace q3 := Hid.mk q3; replace q4 := Hid.mk q4))
              all_goals
                have d3 := Hid.mk (q4.out _ _ (d2.out.below (by (repeat (first | assumption | with_reducible exact Below.refl _ _ | with_reducible refine Below.alloc ?_ (by simp <;> omega) _ | with_reducible refine Below.setCell ?_ (by simp <;> omega) _ | with_reducible refine Below.drew ?_)))))
                clear k1 k2 k3 k4 q1 q2 q4 d2 dB d1 y1 y2 y3 y4 y5 yl ygl
                generalize w3.setCell ⟨bB, 1, none⟩ (.slice (some ⟨g3, 0, none⟩) (A.length + 3) c3) = w4 at *
                have r1 := q3.out.box.2.1 2
                have rl := q3.out.box.1
                simp only [List.getElem?_toArray, List.getElem?_cons_succ, List.getElem?_cons_zero] at r1
                have hal : Hid (Below w4.heap.size w4 (w4.alloc (.cells #[.int .i64 (1 + (i : Int)), .int .i64 (1 + (i : Int)), .int .i64 (1 + (i : Int))] 3))) := Hid.mk ((Below.refl _ w4).alloc (Nat.le_refl _) _)
                have hq := Hid.mk (q3.out.below hal.out)
                go_wp2_with (at_builtin; refine wpList_append_lies _ rfl (.tmp 90) (.tmp 94) 23 rfl 0 3 j0 (.int .i64 0) 1 8 Try.underlying23 hj0 jz0 jz1 jz2 rfl (by decide) v2 B.length (B.map (Value.int .i64)) rfl hq.out.r2 ⟨w4.heap.size, 0, none⟩ 3 3 [.int .i64 (1 + (i : Int)), .int .i64 (1 + (i : Int)), .int .i64 (1 + (i : Int))] rfl rfl (World.news_of_block (cs := #[.int .i64 (1 + (i : Int)), .int .i64 (1 + (i : Int)), .int .i64 (1 + (i : Int))]) (t := 3) (fr := (0, 0)) (heap_alloc_new w4 _)) (by simp [Value.oneCell']) (by decide) (by unfold maxLen; rw [lB.out]; omega) (by rw [lB.out]; omega) (Nat.zero_le _) _ rfl ?_)
                intro g5 c5 w5 l1 l2 l3 l4
                obtain ⟨t1, c6, t3, t4⟩ := Sc.grow2 (B' := B ++ [1 + (i : Int), 1 + (i : Int), 1 + (i : Int)]) hq.out hc.out (by rw [List.map_append]; exact l1) l2 (l3.imp_right (fun e => by rw [e]; simp))
                have hnw : Hid (∃ v1 v2 T c', Sc w bB (.slice (some ⟨gV, 0, none⟩) vs.length Vc) vs c (i + 1) v1 v2 (T.map (·.1)) (T.map (·.2)) c' (w5.setCell ⟨bB, 2, none⟩ (.slice (some ⟨g5, 0, none⟩) (B.length + 3) c5)) ∧ T.length = 3 * (i + 1) ∧ Rds ((i + 1 : Nat) : Int) T c' (w5.setCell ⟨bB, 2, none⟩ (.slice (some ⟨g5, 0, none⟩) (B.length + 3) c5))) := Hid.mk ⟨_, _, T', c6, by rw [eA.out, eB.out]; exact t3, eT.out, t4 _ _ (d3.out.below hal.out)⟩
                have y3 := t1.2.1 2
                have y4 := t1.2.2
                have y5 := t1.1
                simp only [List.getElem?_toArray, List.getElem?_cons_succ, List.getElem?_cons_zero] at y3
                clear l1 l2 l3 l4 t1 t3 t4 q3 d3 hq hal r1 rl
                go_wp2_with fail
                go_roundw
                all_goals first | exact ⟨i + 1, by simp, by omega, hnw⟩ | (simp only [intOf]; omega)
        · have hi1 : ¬ (i : Int) < vs.length := by omega
          have ei : i = vs.length := by omega
          subst ei
          have hbs : Hid (Ow w bB vs.length c (wr.setCell ⟨bB, 0, none⟩ (.int .i64 vs.length))) := Hid.mk (by
            have ht := Stp.set (m := -3) wr ⟨bB, 0, none⟩ (.int .i64 vs.length) c' s1.cB
            have e1 := (ht.own s1.r1 s1.c1 (by omega)).1
            have e2 := (ht.own s1.r2 s1.c2 (by omega)).1
            rw [List.length_map] at e1 e2
            rw [List.map_map] at e2
            exact ⟨v1, v2, T, c', ⟨box_set s1.box 0 _ (by omega) rfl, e1, e2, s1.c1, s1.c2, fun t ht' => by
              obtain ⟨r1, r2, r3⟩ := sR t ht'
              exact ⟨r1, by omega, r3.stp ht (by omega)⟩⟩, sT, s1.kp.trans (Kp.set (S := fun k => k = bB) wr _ _ rfl) (fun k q => .inl (.inl q)), s1.same⟩)
          have zf := s1.box.2.2
          clear s1 sR sT
          go_wp2_with fail
          go_end0
          exact ⟨rfl, hbs.out⟩
end F
end Go.Proofs.Ytoppcikacakjcaa
