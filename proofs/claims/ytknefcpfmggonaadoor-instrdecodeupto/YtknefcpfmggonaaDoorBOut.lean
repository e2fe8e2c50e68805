/-
  Books of lists that came out: the lists of a round.
-/
import Derived.Test.YtknefcpfmggonaaDoorBBook
import Derived.Test.YtknefcpfmggonaaDoorIRefDec
import Derived.Test.YtknefcpfmggonaaDoorISame
import Derived.Test.YtknefcpfmggonaaDoorICode
namespace Go.Proofs.YtknefcpfmggonaaDoor
namespace B
open Go.RowKit

/-- A list of its own, not in the book. -/
def Ot (lo kb : Nat) (S : Nat → Prop) (ov_ : Value) (W : World) (u : Value) (L : List Ins) : Prop := W.ownsRow lo 35 5 u L.length (flat L) ∧ Out S kb ov_ u
theorem own_lo {W : World} {b lo e s n : Nat} {v : Value} {xs : List Value} (h : W.ownsRow b e s v n xs) (hl : lo ≤ b) : W.ownsRow lo e s v n xs := by
  refine ⟨h.1, ?_⟩
  rcases h.2 with q | ⟨g, cap, cur, rfl, hb, r⟩
  · exact .inl q
  · exact .inr ⟨g, cap, cur, rfl, Nat.le_trans hl hb, r⟩
theorem Ot.below {lo kb : Nat} {S : Nat → Prop} {ov_ : Value} {W W' : World} {u : Value} {L : List Ins} (h : Ot lo kb S ov_ W u L) (g : Below W.heap.size W W') : Ot lo kb S ov_ W' u L := ⟨own_below h.1 g, h.2⟩
theorem Ot.new {lo kb K b : Nat} {S : Nat → Prop} {ov_ : Value} {rows : List Value} {W W' : World} {u : Value} {L : List Ins} (hB : Bo lo kb K S W ov_ rows) (h : LOwn W' b u L) (hb : W.heap.size ≤ b) : Ot lo kb S ov_ W' u L := by
  have h1 := hB.klo
  have h2 := hB.box.1
  refine ⟨own_lo h (by omega), fun g q => ?_⟩
  have h3 := (World.ownsRow.lt h g q).1
  exact ⟨fun s => by have := hB.lt g s; omega, by omega, fun r => by have := (hB.own.lt g r).2; omega⟩
def Df (u u' : Value) : Prop := ∀ g, u.ownBlock = some g → u'.ownBlock ≠ some g
theorem Df.new {W W' : World} {a b : Nat} {u u' : Value} {L L' : List Ins} (h : LOwn W a u L) (h' : LOwn W' b u' L') (hb : W.heap.size ≤ b) : Df u' u := fun g q r => by
  have := (World.ownsRow.lt h g r).2
  have := (World.ownsRow.lt h' g q).1
  omega
theorem sameO {lo kb : Nat} {S : Nat → Prop} {ov_ : Value} {W : World} {u m : Value} {L : List Ins} (hu : Ot lo kb S ov_ W u L) (hm : Ot lo kb S ov_ W m L) (hl : L.length ≤ 1048576) : Calls Tryd.prog 6 #[u, m] W fun x w' => x = .returned (.bool true) ∧ Gr W w' := by
  obtain ⟨a, c, rfl, h1⟩ := LOwn.form (base := lo) hu.1
  obtain ⟨a', c', rfl, h2⟩ := LOwn.form (base := lo) hm.1
  have := sameList_any L L c c' a a' W h1 h2 (by unfold maxLen; omega)
  rw [sameB_eq rfl] at this
  exact this
theorem keepO {lo kb K : Nat} {S : Nat → Prop} {ov_ : Value} {rows : List Value} {W : World} {u : Value} {L : List Ins} (hB : Bo lo kb K S W ov_ rows) (hu : Ot lo kb S ov_ W u L) (hl : L.length ≤ 1048576) (hK : K ≤ 1048575) : Calls Tryd.prog 7 #[.pointer (some ⟨kb, 0, none⟩), u] W fun x w' => x = .returned (.tuple #[]) ∧ ∃ S' ov' rows', Bo lo kb (K + 1) S' w' ov' rows' ∧ Below lo W w' ∧ ∀ (y : Value) (M : List Ins), Ot lo kb S ov_ W y M → Df y u → Ot lo kb S' ov' w' y M := by
  obtain ⟨a, c, rfl, _⟩ := LOwn.form (base := lo) hu.1
  refine (keepB lo kb K L.length S a c ov_ rows _ W hB hu.1 hu.2 hl hK).mono ?_
  rintro x w' ⟨rfl, S', ov', rows', h1, h2, h3⟩
  exact ⟨rfl, S', ov', rows', h1, h2, fun y M hy hd => h3 y lo _ _ hy.1 hy.2 hd⟩
theorem looksO {lo kb K : Nat} {S : Nat → Prop} {ov_ : Value} {rows : List Value} {W : World} (hB : Bo lo kb K S W ov_ rows) (hK : K ≤ 1048576) : Calls Tryd.prog 8 #[.pointer (some ⟨kb, 0, none⟩)] W fun x w' => x = .returned (.bool true) ∧ Gr W w' := looks_any lo kb K hK ov_ rows W hB.bk
/-- The lists of a round. -/
structure Rd (lo kb K : Nat) (S : Nat → Prop) (ov_ : Value) (rows : List Value) (W : World) (l x q m n : Value) (L X : List Ins) : Prop where
  bo : Bo lo kb K S W ov_ rows
  ol : Ot lo kb S ov_ W l L
  ox : Ot lo kb S ov_ W x X
  oq : Ot lo kb S ov_ W q L
  om : Ot lo kb S ov_ W m L
  on : Ot lo kb S ov_ W n X
  xl : Df x l
  ql : Df q l
  ml : Df m l
  nl : Df n l
  xq : Df x q
theorem Rd.below {lo kb K : Nat} {S : Nat → Prop} {ov_ : Value} {rows : List Value} {W W' : World} {l x q m n : Value} {L X : List Ins} (h : Rd lo kb K S ov_ rows W l x q m n L X) (g : Below W.heap.size W W') : Rd lo kb K S ov_ rows W' l x q m n L X :=
  ⟨h.bo.below g, h.ol.below g, h.ox.below g, h.oq.below g, h.om.below g, h.on.below g, h.xl, h.ql, h.ml, h.nl, h.xq⟩
theorem Df.symm {u u' : Value} (h : Df u u') : Df u' u := fun g q r => h g r q
theorem Rd.make {lo kb K : Nat} {S : Nat → Prop} {ov_ : Value} {rows : List Value} {W w1 w2 w3 w4 w5 : World} {l x q m n : Value} {L X : List Ins} (hB : Bo lo kb K S W ov_ rows) (h1 : LOwn w1 W.heap.size l L) (b1 : Below W.heap.size W w1) (h2 : LOwn w2 w1.heap.size x X) (b2 : Below w1.heap.size w1 w2) (h3 : LOwn w3 w2.heap.size q L) (b3 : Below w2.heap.size w2 w3) (h4 : LOwn w4 w3.heap.size m L) (b4 : Below w3.heap.size w3 w4) (h5 : LOwn w5 w4.heap.size n X) (b5 : Below w4.heap.size w4 w5) : Rd lo kb K S ov_ rows w5 l x q m n L X := by
  have s1 := b1.size
  have s2 := b2.size
  have s3 := b3.size
  have s4 := b4.size
  exact ⟨(((((hB.below b1).below b2).below b3).below b4).below b5), ((((Ot.new hB h1 (Nat.le_refl _)).below b2).below b3).below b4).below b5, (((Ot.new hB h2 (by omega)).below b3).below b4).below b5, ((Ot.new hB h3 (by omega)).below b4).below b5, (Ot.new hB h4 (by omega)).below b5, Ot.new hB h5 (by omega), Df.new h1 h2 (Nat.le_refl _), Df.new h1 h3 (by omega), Df.new h1 h4 (by omega), Df.new h1 h5 (by omega), (Df.new h2 h3 (Nat.le_refl _)).symm⟩
theorem Bo.start (w : World) (t : TypeId) : Bo w.heap.size w.heap.size 0 (fun _ => False) (w.alloc (.cells #[.slice none 0 0] t)) (.slice none 0 0) [] :=
  ⟨At.new w _ _, World.ownsRow_nil _ _ _ _, fun i hi => absurd hi (Nat.not_lt_zero i), fun h => h, fun g q => (by cases q), fun b h => h.elim, Nat.le_refl _⟩
theorem dec_len {T : List UInt8} (hT : T.length ≤ 1048576) : (decA T).1.length ≤ 1048576 := by
  by_cases hd : (decA T).2.1 = 0
  · obtain ⟨M, hM, _, _, hc⟩ := decA_ok hd
    have : 8 * M.length = T.length := by rw [← hc, code_length]
    rw [hM]
    show M.length ≤ 1048576
    omega
  · rw [(decA_bad hd).1]
    simp
theorem dec_ret : decA [32, 0, 0, 0, 0, 0, 0, 0] = ([⟨32, 0, 0, 0, 0⟩], 0, 0) := by kernel_rfl
end B
end Go.Proofs.YtknefcpfmggonaaDoor
