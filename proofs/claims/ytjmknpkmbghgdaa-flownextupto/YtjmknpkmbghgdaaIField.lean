/-
  Stage 3, instr: fieldsRight, Right.
-/
import Derived.Test.YtjmknpkmbghgdaaITabIn
namespace Go.Proofs.Ytjmknpkmbghgdaa
open Go.RowKit

/-- What is said of a thing, but not to the walk. -/
structure Hid (p : Prop) : Prop where
  out : p
theorem ret_bool {a b : Bool} (h : a = b) : Ending.returned (.bool a) = .returned (.bool b) := by rw [h]
theorem letters_small (s : List UInt8) (hs : s ∈ shapes) : s.length ≤ 3 ∧ ∀ l ∈ s, l.toNat < 128 := by
  have : shapes.all (fun s => decide (s.length ≤ 3) && s.all fun l => decide (l.toNat < 128)) = true := by kernel_rfl
  have := List.all_eq_true.1 this s hs
  simp only [Bool.and_eq_true, decide_eq_true_eq, List.all_eq_true] at this
  exact this
theorem str_size (s : List UInt8) : (str s).size = s.length := by simp [str, ByteArray.size]
theorem str_at (s : List UInt8) (i : Nat) (h : i < (str s).size) (h' : i < s.length) : (str s)[i]'h = s[i] := by
  simp [str, ByteArray.getElem_eq_getElem_data]
/-- The next letter of an ASCII text. -/
theorem next_str (w : World) (ob : Obj) (s : List UInt8) (pos : Nat) (ty : TypeId) (h : pos < s.length) (ha : ∀ l ∈ s, l.toNat < 128) :
    (Instr.next (.pointer (some ⟨w.heap.size + 1, 0, none⟩)) true ty).run Try.prog ((w.alloc ob).alloc (.stringIter (str s) pos)) = .ok (.tuple #[.bool true, .int .i64 pos, .int .i32 (s[pos]'h).toNat]) ((w.alloc ob).alloc (.stringIter (str s) (pos + 1))) := by
  have h1 : pos < (str s).size := by rw [str_size]; exact h
  have := run_next_ascii (P := Try.prog) (w.alloc ob) (str s) pos ty h1 (by rw [str_at s pos h1 h]; exact ha _ (List.getElem_mem h))
  rwa [str_at s pos h1 h, World.size_alloc] at this
theorem next_str_end (w : World) (ob : Obj) (s : List UInt8) (pos : Nat) (ty : TypeId) (h : ¬ pos < s.length) :
    (Instr.next (.pointer (some ⟨w.heap.size + 1, 0, none⟩)) true ty).run Try.prog ((w.alloc ob).alloc (.stringIter (str s) pos)) = .ok (.tuple #[.bool false]) ((w.alloc ob).alloc (.stringIter (str s) pos)) := by
  have := run_next_end (P := Try.prog) (w.alloc ob) (str s) pos ty (by rw [str_size]; exact h)
  rwa [World.size_alloc] at this
theorem iterPos_at (w : World) (ob : Obj) (s : ByteArray) (pos : Nat) : ((w.alloc ob).alloc (.stringIter s pos)).iterPos (w.heap.size + 1) = pos := by
  have := (MapKept.heap_alloc (w.alloc ob) (.stringIter s pos)).1
  rw [World.size_alloc] at this
  unfold World.iterPos
  rw [this]
/-- One letter: the field that it names, what it is, what is left. -/
def fieldNo (op n l : Int) : Nat := if l = 114 then regNo n else if l = 99 ∧ op ≠ 28 then 3 else 4
theorem out_lo {op l x : Int} {b : Bool} (h : x < loE op l) : false = (inE op l x && b) := by
  have : ¬ loE op l ≤ x := by omega
  simp [inE, this]
theorem out_hi {op l x : Int} {b : Bool} (h : hiE l < x) : false = (inE op l x && b) := by
  have : ¬ x ≤ hiE l := by omega
  simp [inE, this]
theorem in_e {op l x : Int} {b : Bool} (h : ¬ x < loE op l) (h' : ¬ hiE l < x) : (inE op l x && b) = b := by
  have h1 : loE op l ≤ x := by omega
  have h2 : x ≤ hiE l := by omega
  simp [inE, h1, h2]
theorem fR_r0 (op : Int) (l : UInt8) (r : List UInt8) (n a b c m : Int) (hl : (l.toNat : Int) = 114) (hn : n = 0) : fR op (l :: r) n a b c m = (inE op l.toNat a && fR op r (n + 1) 0 b c m) := by
  rw [fR, if_pos hl, if_pos hn]
theorem fR_r1 (op : Int) (l : UInt8) (r : List UInt8) (n a b c m : Int) (hl : (l.toNat : Int) = 114) (hn : n = 1) : fR op (l :: r) n a b c m = (inE op l.toNat b && fR op r (n + 1) a 0 c m) := by
  rw [fR, if_pos hl, if_neg (by omega), if_pos hn]
theorem fR_r2 (op : Int) (l : UInt8) (r : List UInt8) (n a b c m : Int) (hl : (l.toNat : Int) = 114) (hn : n ≠ 0) (hn1 : n ≠ 1) : fR op (l :: r) n a b c m = (inE op l.toNat c && fR op r (n + 1) a b 0 m) := by
  rw [fR, if_pos hl, if_neg hn, if_neg hn1]
theorem fR_c (op : Int) (l : UInt8) (r : List UInt8) (n a b c m : Int) (hl : (l.toNat : Int) = 99) (h : op ≠ 28) : fR op (l :: r) n a b c m = (inE op l.toNat c && fR op r n a b 0 m) := by
  rw [fR, if_neg (by omega), if_pos ⟨hl, h⟩]
theorem fR_m (op : Int) (l : UInt8) (r : List UInt8) (n a b c m : Int) (hl : (l.toNat : Int) ≠ 114) (h : ¬ ((l.toNat : Int) = 99 ∧ op ≠ 28)) : fR op (l :: r) n a b c m = (inE op l.toNat m && fR op r n a b c 0) := by
  rw [fR, if_neg hl, if_neg h]
theorem drop_cons {s r : List UInt8} {pos : Nat} (h : s.drop pos = r) (hp : pos < s.length) : ∃ r', r = s[pos] :: r' ∧ s.drop (pos + 1) = r' := by
  rw [List.drop_eq_getElem_cons hp] at h
  exact ⟨_, h.symm, rfl⟩

end Go.Proofs.Ytjmknpkmbghgdaa
