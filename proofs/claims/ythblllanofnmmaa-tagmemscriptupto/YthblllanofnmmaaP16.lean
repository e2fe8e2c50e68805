import Derived.Test.YthblllanofnmmaaITabIn
import Derived.Deep.AppendLies
/-
  Stage 3, instr: fieldsRight, Right.
-/
namespace Go.Proofs.Ythblllanofnmmaa
open Go.RowKit

/-- What is said of a thing, but not to the walk. -/
structure Hid (p : Prop) : Prop where
  out : p
theorem ret_bool {a b : Bool} (h : a = b) : Ending.returned (.bool a) = .returned (.bool b) := by rw [h]
theorem letters_small (s : List UInt8) (hs : s ∈ shapes) : s.length ≤ 3 ∧ ∀ l ∈ s, l.toNat < 128 := by
  have : shapes.all (fun s => decide (s.length ≤ 3) && s.all fun l => decide (l.toNat < 128)) = true := by kernel_rfl
  have := List.all_eq_true.1 this s hs
  simp only [Bool.and_eq_true, decide_eq_true_eq, List.all_eq_true] at this
  exact this
theorem str_size (s : List UInt8) : (str s).size = s.length := by simp [str, ByteArray.size]
theorem str_at (s : List UInt8) (i : Nat) (h : i < (str s).size) (h' : i < s.length) : (str s)[i]'h = s[i] := by
  simp [str, ByteArray.getElem_eq_getElem_data]
/-- The next letter of an ASCII text. -/
theorem next_str (w : World) (ob : Obj) (s : List UInt8) (pos : Nat) (ty : TypeId) (h : pos < s.length) (ha : ∀ l ∈ s, l.toNat < 128) :
    (Instr.next (.pointer (some ⟨w.heap.size + 1, 0, none⟩)) true ty).run Try.prog ((w.alloc ob).alloc (.stringIter (str s) pos)) = .ok (.tuple #[.bool true, .int .i64 pos, .int .i32 (s[pos]'h).toNat]) ((w.alloc ob).alloc (.stringIter (str s) (pos + 1))) := by
  have h1 : pos < (str s).size := by rw [str_size]; exact h
  have := run_next_ascii (P := Try.prog) (w.alloc ob) (str s) pos ty h1 (by rw [str_at s pos h1 h]; exact ha _ (List.getElem_mem h))
  rwa [str_at s pos h1 h, World.size_alloc] at this
theorem next_str_end (w : World) (ob : Obj) (s : List UInt8) (pos : Nat) (ty : TypeId) (h : ¬ pos < s.length) :
    (Instr.next (.pointer (some ⟨w.heap.size + 1, 0, none⟩)) true ty).run Try.prog ((w.alloc ob).alloc (.stringIter (str s) pos)) = .ok (.tuple #[.bool false]) ((w.alloc ob).alloc (.stringIter (str s) pos)) := by
  have := run_next_end (P := Try.prog) (w.alloc ob) (str s) pos ty (by rw [str_size]; exact h)
  rwa [World.size_alloc] at this
theorem iterPos_at (w : World) (ob : Obj) (s : ByteArray) (pos : Nat) : ((w.alloc ob).alloc (.stringIter s pos)).iterPos (w.heap.size + 1) = pos := by
  have := (MapKept.heap_alloc (w.alloc ob) (.stringIter s pos)).1
  rw [World.size_alloc] at this
  unfold World.iterPos
  rw [this]
/-- One letter: the field that it names, what it is, what is left. -/
def fieldNo (op n l : Int) : Nat := if l = 114 then regNo n else if l = 99 ∧ op ≠ 28 then 3 else 4
theorem out_lo {op l x : Int} {b : Bool} (h : x < loE op l) : false = (inE op l x && b) := by
  have : ¬ loE op l ≤ x := by omega
  simp [inE, this]
theorem out_hi {op l x : Int} {b : Bool} (h : hiE l < x) : false = (inE op l x && b) := by
  have : ¬ x ≤ hiE l := by omega
  simp [inE, this]
theorem in_e {op l x : Int} {b : Bool} (h : ¬ x < loE op l) (h' : ¬ hiE l < x) : (inE op l x && b) = b := by
  have h1 : loE op l ≤ x := by omega
  have h2 : x ≤ hiE l := by omega
  simp [inE, h1, h2]
theorem fR_r0 (op : Int) (l : UInt8) (r : List UInt8) (n a b c m : Int) (hl : (l.toNat : Int) = 114) (hn : n = 0) : fR op (l :: r) n a b c m = (inE op l.toNat a && fR op r (n + 1) 0 b c m) := by
  rw [fR, if_pos hl, if_pos hn]
theorem fR_r1 (op : Int) (l : UInt8) (r : List UInt8) (n a b c m : Int) (hl : (l.toNat : Int) = 114) (hn : n = 1) : fR op (l :: r) n a b c m = (inE op l.toNat b && fR op r (n + 1) a 0 c m) := by
  rw [fR, if_pos hl, if_neg (by omega), if_pos hn]
theorem fR_r2 (op : Int) (l : UInt8) (r : List UInt8) (n a b c m : Int) (hl : (l.toNat : Int) = 114) (hn : n ≠ 0) (hn1 : n ≠ 1) : fR op (l :: r) n a b c m = (inE op l.toNat c && fR op r (n + 1) a b 0 m) := by
  rw [fR, if_pos hl, if_neg hn, if_neg hn1]
theorem fR_c (op : Int) (l : UInt8) (r : List UInt8) (n a b c m : Int) (hl : (l.toNat : Int) = 99) (h : op ≠ 28) : fR op (l :: r) n a b c m = (inE op l.toNat c && fR op r n a b 0 m) := by
  rw [fR, if_neg (by omega), if_pos ⟨hl, h⟩]
theorem fR_m (op : Int) (l : UInt8) (r : List UInt8) (n a b c m : Int) (hl : (l.toNat : Int) ≠ 114) (h : ¬ ((l.toNat : Int) = 99 ∧ op ≠ 28)) : fR op (l :: r) n a b c m = (inE op l.toNat m && fR op r n a b c 0) := by
  rw [fR, if_neg hl, if_neg h]
theorem drop_cons {s r : List UInt8} {pos : Nat} (h : s.drop pos = r) (hp : pos < s.length) : ∃ r', r = s[pos] :: r' ∧ s.drop (pos + 1) = r' := by
  rw [List.drop_eq_getElem_cons hp] at h
  exact ⟨_, h.symm, rfl⟩

end Go.Proofs.Ythblllanofnmmaa


/-
  Stage 3, instr: rows of instructions and of bytes, that came in or that the call owns. No Go in sight.
-/
namespace Go.Proofs.Ythblllanofnmmaa
open Go.RowKit

/-- An instruction's five numbers. -/
structure Ins where
  op : Int
  a : Int
  b : Int
  c : Int
  m : Int
def Ins.vals (k : Ins) : List Value := [.int .u8 k.op, .int .i64 k.a, .int .i64 k.b, .int .i64 k.c, .int .i64 k.m]
def Ins.agg (k : Ins) : Value := .agg #[.int .u8 k.op, .int .i64 k.a, .int .i64 k.b, .int .i64 k.c, .int .i64 k.m]
def flat (L : List Ins) : List Value := L.flatMap Ins.vals
theorem flat_snoc (L : List Ins) (k : Ins) : flat (L ++ [k]) = flat L ++ k.vals := by simp [flat]
theorem flat_app (L M : List Ins) : flat (L ++ M) = flat L ++ flat M := by simp [flat]
theorem flat_length (L : List Ins) : (flat L).length = L.length * 5 := by
  induction L with
  | nil => rfl
  | cons a l ih => simp only [flat, List.flatMap_cons, List.length_append] at ih ⊢; rw [ih]; simp [Ins.vals]; omega
theorem flat_get (L : List Ins) (i j : Nat) (hi : i < L.length) (hj : j < 5) : (flat L)[i * 5 + j]? = (L[i]).vals[j]? := by
  induction L generalizing i with
  | nil => simp at hi
  | cons a l ih =>
    have e : flat (a :: l) = a.vals ++ flat l := by simp [flat]
    rw [e]
    cases i with
    | zero => rw [List.getElem?_append_left (by simp [Ins.vals]; omega)]; simp
    | succ i =>
      rw [List.getElem?_append_right (by simp [Ins.vals]; omega)]
      have : (i + 1) * 5 + j - a.vals.length = i * 5 + j := by simp [Ins.vals]; omega
      rw [this, ih i (by simpa using hi)]
      simp
/-- The five cells of an instruction. -/
def Five (w : World) (b off : Nat) (k : Ins) : Prop :=
  w.cell? ⟨b, off, none⟩ = some (.int .u8 k.op) ∧ w.cell? ⟨b, off + 1, none⟩ = some (.int .i64 k.a) ∧ w.cell? ⟨b, off + 1 + 1, none⟩ = some (.int .i64 k.b) ∧ w.cell? ⟨b, off + 1 + 1 + 1, none⟩ = some (.int .i64 k.c) ∧ w.cell? ⟨b, off + 1 + 1 + 1 + 1, none⟩ = some (.int .i64 k.m)
theorem Five.below {w w1 : World} {B b off : Nat} {k : Ins} (h : Five w b off k) (hb : Below B w w1) (hlt : b < B) : Five w1 b off k :=
  ⟨(hb.cell (p := ⟨b, _, none⟩) hlt).trans h.1, (hb.cell (p := ⟨b, _, none⟩) hlt).trans h.2.1, (hb.cell (p := ⟨b, _, none⟩) hlt).trans h.2.2.1, (hb.cell (p := ⟨b, _, none⟩) hlt).trans h.2.2.2.1, (hb.cell (p := ⟨b, _, none⟩) hlt).trans h.2.2.2.2⟩
/-- A slice of instructions, below block 'B', that can be read. -/
def LIn (B : Nat) (w : World) (a : Option Addr) (L : List Ins) : Prop := ∀ i (h : i < L.length), ∃ b off : Nat, a = some ⟨b, off, none⟩ ∧ b < B ∧ b < w.heap.size ∧ Five w b (off + i * 5) L[i]
theorem LIn.below {B : Nat} {w w1 : World} {a : Option Addr} {L : List Ins} (h : LIn B w a L) (hb : Below B w w1) : LIn B w1 a L := fun i hi => by
  obtain ⟨b, off, ha, h1, h2, h3⟩ := h i hi
  exact ⟨b, off, ha, h1, Nat.lt_of_lt_of_le h2 hb.size, h3.below hb h1⟩
theorem LIn.mono {B B' : Nat} {w : World} {a : Option Addr} {L : List Ins} (h : LIn B w a L) (hb : B ≤ B') : LIn B' w a L := fun i hi => by
  obtain ⟨b, off, ha, h1, h2, h3⟩ := h i hi
  exact ⟨b, off, ha, Nat.lt_of_lt_of_le h1 hb, h2, h3⟩
theorem LIn.nil (B : Nat) (w : World) (a : Option Addr) : LIn B w a [] := fun i hi => by simp at hi

theorem Below.of_grown {B : Nat} {w w1 : World} {row : Option Nat} (h : w.grownBy w1 row) (hB : B ≤ w.heap.size) (hr : ∀ g, row = some g → B ≤ g) : Below B w w1 :=
  ⟨h.os, h.tape, h.output, h.size, fun k hk => h.block k (Nat.lt_of_lt_of_le hk hB) (fun e => by have := hr k e.symm; omega)⟩
/-- What a row that the call owns is, behind other doings. -/
theorem own_below {w w1 : World} {base e size n : Nat} {v : Value} {xs : List Value} (h : w.ownsRow base e size v n xs) (hb : Below w.heap.size w w1) : w1.ownsRow base e size v n xs := by
  refine ⟨h.1, ?_⟩
  rcases h.2 with h2 | ⟨g, cap, cur, hv, hbg, hg, rest⟩
  · exact .inl h2
  · have hlt : g < w.heap.size := (Array.getElem?_eq_some_iff.1 hg).1
    exact .inr ⟨g, cap, cur, hv, hbg, (hb.block g hlt).trans hg, rest⟩
theorem own_drew {w : World} {base e size n : Nat} {v : Value} {xs : List Value} (h : w.ownsRow base e size v n xs) : w.drew.ownsRow base e size v n xs := h
theorem own_grown {w w1 : World} {base e size n : Nat} {v : Value} {xs : List Value} {row : Option Nat} (h : w.ownsRow base e size v n xs) (hg : w.grownBy w1 row) (hne : ∀ g, v.ownBlock = some g → row ≠ some g) : w1.ownsRow base e size v n xs := by
  refine ⟨h.1, ?_⟩
  rcases h.2 with h2 | ⟨g, cap, cur, hv, hbg, hh, rest⟩
  · exact .inl h2
  · have hlt : g < w.heap.size := (Array.getElem?_eq_some_iff.1 hh).1
    refine .inr ⟨g, cap, cur, hv, hbg, (hg.block g hlt ?_).trans hh, rest⟩
    intro e
    exact hne g (by rw [hv]; rfl) e.symm
theorem own_block {w : World} {base e size n : Nat} {v : Value} {xs : List Value} (h : w.ownsRow base e size v n xs) : ∀ g, v.ownBlock = some g → base ≤ g ∧ g < w.heap.size := by
  intro g hg
  rcases h.2 with ⟨rfl, _⟩ | ⟨g', cap, cur, rfl, hbg, hh, rest⟩
  · cases hg
  · have : g' = g := by simpa [Value.ownBlock] using hg
    subst this
    exact ⟨hbg, (Array.getElem?_eq_some_iff.1 hh).1⟩
/-- A list of instructions that the call owns. -/
def LOwn (w : World) (base : Nat) (v : Value) (L : List Ins) : Prop := w.ownsRow base 151 5 v L.length (flat L)
theorem LOwn.nil (w : World) (base : Nat) : LOwn w base (.slice none 0 0) [] := ⟨rfl, .inl ⟨rfl, rfl⟩⟩
theorem LOwn.form {w : World} {base : Nat} {v : Value} {L : List Ins} (h : LOwn w base v L) : ∃ a cap, v = .slice a L.length cap ∧ LIn w.heap.size w a L := by
  rcases h.2 with ⟨rfl, h0⟩ | ⟨g, cap, cur, rfl, hbg, hh, rest⟩
  · refine ⟨none, 0, by rw [h0], fun i hi => ?_⟩
    omega
  · refine ⟨_, cap, rfl, fun i hi => ⟨g, 0, rfl, (Array.getElem?_eq_some_iff.1 hh).1, (Array.getElem?_eq_some_iff.1 hh).1, ?_⟩⟩
    have hc : ∀ j, j < 5 → w.cell? ⟨g, i * 5 + j, none⟩ = (L[i]).vals[j]? := fun j hj => by
      have hc := World.ownsRow.cells h (g := g) rfl (i * 5 + j) ((L[i]).vals[j]'(by simpa [Ins.vals] using hj)) (by rw [flat_get L i j hi hj]; simp)
      have ea : (⟨g, 0, none⟩ : Addr).add (i * 5 + j) = ⟨g, i * 5 + j, none⟩ := by generalize i * 5 + j = m; by_cases h0 : m = 0 <;> simp [Addr.add, h0]
      rw [ea] at hc
      rw [hc]; simp
    rw [Nat.zero_add]
    exact ⟨hc 0 (by omega), hc 1 (by omega), hc 2 (by omega), hc 3 (by omega), hc 4 (by omega)⟩
/-- A row of bytes that the call owns. -/
def byteV (b : UInt8) : Value := .int .u8 b.toNat
def BOwn (w : World) (base : Nat) (v : Value) (B : List UInt8) : Prop := w.ownsRow base 5 1 v B.length (B.map byteV)
/-- Are two rows the same? -/
def Ins.eqB (k l : Ins) : Bool := decide (k.op = l.op) && decide (k.a = l.a) && decide (k.b = l.b) && decide (k.c = l.c) && decide (k.m = l.m)
theorem Ins.eqB_iff (k l : Ins) : k.eqB l = true ↔ k = l := by
  cases k; cases l
  simp [Ins.eqB, and_assoc]
def sameB : List Ins → List Ins → Bool
  | [], [] => true
  | k :: L, l :: M => k.eqB l && sameB L M
  | _, _ => false
theorem sameB_iff : ∀ L M : List Ins, sameB L M = true ↔ L = M
  | [], [] => by simp [sameB]
  | [], _ :: _ => by simp [sameB]
  | _ :: _, [] => by simp [sameB]
  | k :: L, l :: M => by simp [sameB, Ins.eqB_iff, sameB_iff L M]
theorem sameB_eq {L M : List Ins} (h : L = M) : sameB L M = true := (sameB_iff L M).mpr h
theorem sameB_ne {L M : List Ins} (h : L ≠ M) : sameB L M = false := by
  cases e : sameB L M with
  | false => rfl
  | true => exact absurd ((sameB_iff L M).mp e) h
end Go.Proofs.Ythblllanofnmmaa
