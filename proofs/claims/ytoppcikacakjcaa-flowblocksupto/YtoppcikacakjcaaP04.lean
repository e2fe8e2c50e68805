import Derived.Test.YtoppcikacakjcaaRows
import Derived.Test.YtoppcikacakjcaaP03
import Derived.ProofKit
import Derived.OpenShut
import Derived.ChangeOld
import Derived.LaidMore
import Derived.Deep.DeepHandedRow
import Derived.Lib.LaidTab
/-
  Stage 3, instr: what the row's list gives (the two tables); an instruction by value, opened.
-/
namespace Go.Proofs.Ytoppcikacakjcaa
open Go.ChangeShapes Go.WideShapes Go.ChangeAt Go.RowKit

theorem own : ownKnob Try.prog.godebug = none := by kernel_rfl
theorem laidOut : laidOutB Try.prog = true := by kernel_rfl
theorem cellsInst : Try.prog.cellsOf 49 = 5 := by kernel_rfl
theorem cellsStr : Try.prog.cellsOf 9 = 1 := by kernel_rfl
/-- A table of texts, as a row lists it. -/
def strTab {H : Type} (l : List (List UInt8)) : DataW H := .agg (l.map fun b => .lit (.string b))
theorem cells_of_strTab {H : Type} {enc : TypeId × Value → H} {P : Program} {w : World} {base : Nat} {sp : Nat → Bool} {held : Bool} {fuel : Nat} {t e : TypeId} {n : Nat} {cs : List Value} {zs : List (List UInt8)} {p : List MemPlace}
    (ht : P.underlying t = some (.array n e)) (he : P.underlying e = some .string) (hce : P.cellsOf e = 1) (hct : P.cellsOf t = n)
    (h : DataW.trod enc P w base sp held fuel t cs = some (strTab zs, p)) : cs = zs.map fun z => Value.string (str z) := by
  cases fuel with
  | zero => simp [DataW.trod] at h
  | succ fuel =>
    simp only [DataW.trod, ht, hce, hct, Nat.mul_one] at h
    split at h
    · rename_i hl
      obtain ⟨xs, hm, hx⟩ := Option.map_eq_some_iff.1 h
      have hxs : xs.map (·.1) = zs.map fun z => (DataW.lit (.string z) : DataW H) := by
        have := congrArg Prod.fst hx
        simpa [strTab] using this
      have hxl : xs.length = n := by simpa using Lib.mapM_length hm
      have hzl : zs.length = n := by
        have := congrArg List.length hxs
        simp at this
        omega
      apply List.ext_getElem?
      intro i
      by_cases hi : i < n
      · obtain ⟨b, hb, hf⟩ := Lib.mapM_at hm i i (by simp [hi])
        obtain ⟨z, hc, rfl, _⟩ := DataW.trod_string he hf
        have h1 : cs[i]? = some (.string z) := by
          have := congrArg (·[0]?) hc
          simpa [List.getElem?_take, List.getElem?_drop] using this
        have h2 : (xs.map (·.1))[i]? = some (DataW.lit (.string z.data.toList) : DataW H) := by simp [hb]
        rw [hxs] at h2
        simp only [List.getElem?_map, Option.map_eq_some_iff, DataW.lit.injEq, Lit.string.injEq] at h2
        obtain ⟨z', hz', rfl⟩ := h2
        simp [h1, hz', str]
      · rw [List.getElem?_eq_none (by omega), List.getElem?_eq_none (by simp; omega)]
    · cases h
theorem fiveCells {α : Type} {cs : Array α} (h : cs.size = 5) : ∃ c0 c1 c2 c3 c4, cs = #[c0, c1, c2, c3, c4] := by
  obtain ⟨l⟩ := cs
  match l, h with
  | [c0, c1, c2, c3, c4], _ => exact ⟨c0, c1, c2, c3, c4, rfl⟩
theorem bd_u8 {n : Int} (h : (Lit.int .u8 n).wf = true) : 0 ≤ n ∧ n < 256 := by
  have := bounds_u8 h; omega
theorem bd_i64 {n : Int} (h : (Lit.int .i64 n).wf = true) : -9223372036854775808 ≤ n ∧ n < 9223372036854775808 := by
  have := bounds_i64 h; omega
def I64 (n : Int) : Prop := -9223372036854775808 ≤ n ∧ n < 9223372036854775808
/-- An instruction's numbers are in their ranges. -/
def InI (op a b c m : Int) : Prop := (0 ≤ op ∧ op < 256) ∧ I64 a ∧ I64 b ∧ I64 c ∧ I64 m
set_option maxRecDepth 100000 in
theorem open_inst {H : Type} {enc : TypeId × Value → H} {W : World} {r : Reach} {base b0 : Nat} {spare : Nat → Bool} {held : Bool} {v : Value} {d : DataW H} {ps : List MemPlace}
    (hv : Value.okWide Try.prog W r base 49 v) (h : DataW.Trod enc Try.prog W b0 spare held 49 v d ps) :
    ∃ op a b c m : Int, v = .agg #[.int .u8 op, .int .i64 a, .int .i64 b, .int .i64 c, .int .i64 m] ∧ InI op a b c m := by
  have hs := Try.underlying49
  obtain ⟨cs, rfl, hsz⟩ := okWide_struct hs hv
  obtain ⟨c0, c1, c2, c3, c4, rfl⟩ := fiveCells (hsz.trans cellsInst)
  obtain ⟨fuel, hf⟩ := h
  obtain ⟨xs, n, _, _, _, hl, hx⟩ := DataW.trod_struct hs hf
  have at_ : ∀ i, i < 5 → ∃ y, xs[i]? = some y := by
    intro i hi
    have : i < xs.length := by rw [hl]; simpa using hi
    exact ⟨xs[i], by simp [this]⟩
  have k1 : Try.prog.cellsOf 47 = 1 := by kernel_rfl
  have k2 : Try.prog.cellsOf 3 = 1 := by kernel_rfl
  obtain ⟨y0, t0⟩ := at_ 0 (by omega)
  rw [← hx 0 _ rfl] at t0
  obtain ⟨y1, t1⟩ := at_ 1 (by omega)
  rw [← hx 1 _ rfl] at t1
  obtain ⟨y2, t2⟩ := at_ 2 (by omega)
  rw [← hx 2 _ rfl] at t2
  obtain ⟨y3, t3⟩ := at_ 3 (by omega)
  rw [← hx 3 _ rfl] at t3
  obtain ⟨y4, t4⟩ := at_ 4 (by omega)
  rw [← hx 4 _ rfl] at t4
  obtain ⟨op, e0, _, w0⟩ := DataW.trod_int Try.underlying47 t0
  obtain ⟨a, e1, _, w1⟩ := DataW.trod_int Try.underlying3 t1
  obtain ⟨b, e2, _, w2⟩ := DataW.trod_int Try.underlying3 t2
  obtain ⟨c, e3, _, w3⟩ := DataW.trod_int Try.underlying3 t3
  obtain ⟨m, e4, _, w4⟩ := DataW.trod_int Try.underlying3 t4
  simp [Value.cells, k1, k2] at e0 e1 e2 e3 e4
  subst e0 e1 e2 e3 e4
  exact ⟨op, a, b, c, m, rfl, bd_u8 w0, bd_i64 w1, bd_i64 w2, bd_i64 w3, bd_i64 w4⟩
set_option maxRecDepth 100000 in
theorem open_text {H : Type} {enc : TypeId × Value → H} {W : World} {r : Reach} {base b0 : Nat} {sp : Nat → Bool} {held : Bool} {t : TypeId} {v : Value} {d : DataW H} {ps : List MemPlace}
    (ht : Try.prog.underlying t = some .string) (hval : Value.okWide Try.prog W r b0 t v) (hd : DataW.Trod enc Try.prog W base sp held t v d ps) :
    ∃ s : List UInt8, v = .string (str s) ∧ d = .lit (.string s) ∧ ps = [] ∧ s.length ≤ maxLen := by
  obtain ⟨s, rfl⟩ := okWide_string ht hval
  obtain ⟨fuel, hf⟩ := hd
  obtain ⟨s', h', hx, h⟩ := DataW.trod_string ht hf
  simp [Value.cells] at h'
  subst h'
  simp only [Prod.mk.injEq] at hx
  obtain ⟨rfl, rfl⟩ := hx
  exact ⟨s.data.toList, rfl, rfl, rfl, h⟩
end Go.Proofs.Ytoppcikacakjcaa


/-
  Stage 3, instr: fieldsRight, Right.
-/
namespace Go.Proofs.Ytoppcikacakjcaa
open Go.RowKit

/-- What is said of a thing, but not to the walk. -/
structure Hid (p : Prop) : Prop where
  out : p
theorem ret_bool {a b : Bool} (h : a = b) : Ending.returned (.bool a) = .returned (.bool b) := by rw [h]
theorem letters_small (s : List UInt8) (hs : s ∈ shapes) : s.length ≤ 3 ∧ ∀ l ∈ s, l.toNat < 128 := by
  have : shapes.all (fun s => decide (s.length ≤ 3) && s.all fun l => decide (l.toNat < 128)) = true := by kernel_rfl
  have := List.all_eq_true.1 this s hs
  simp only [Bool.and_eq_true, decide_eq_true_eq, List.all_eq_true] at this
  exact this
theorem str_size (s : List UInt8) : (str s).size = s.length := by simp [str, ByteArray.size]
theorem str_at (s : List UInt8) (i : Nat) (h : i < (str s).size) (h' : i < s.length) : (str s)[i]'h = s[i] := by
  simp [str, ByteArray.getElem_eq_getElem_data]
/-- The next letter of an ASCII text. -/
theorem next_str (w : World) (ob : Obj) (s : List UInt8) (pos : Nat) (ty : TypeId) (h : pos < s.length) (ha : ∀ l ∈ s, l.toNat < 128) :
    (Instr.next (.pointer (some ⟨w.heap.size + 1, 0, none⟩)) true ty).run Try.prog ((w.alloc ob).alloc (.stringIter (str s) pos)) = .ok (.tuple #[.bool true, .int .i64 pos, .int .i32 (s[pos]'h).toNat]) ((w.alloc ob).alloc (.stringIter (str s) (pos + 1))) := by
  have h1 : pos < (str s).size := by rw [str_size]; exact h
  have := run_next_ascii (P := Try.prog) (w.alloc ob) (str s) pos ty h1 (by rw [str_at s pos h1 h]; exact ha _ (List.getElem_mem h))
  rwa [str_at s pos h1 h, World.size_alloc] at this
theorem next_str_end (w : World) (ob : Obj) (s : List UInt8) (pos : Nat) (ty : TypeId) (h : ¬ pos < s.length) :
    (Instr.next (.pointer (some ⟨w.heap.size + 1, 0, none⟩)) true ty).run Try.prog ((w.alloc ob).alloc (.stringIter (str s) pos)) = .ok (.tuple #[.bool false]) ((w.alloc ob).alloc (.stringIter (str s) pos)) := by
  have := run_next_end (P := Try.prog) (w.alloc ob) (str s) pos ty (by rw [str_size]; exact h)
  rwa [World.size_alloc] at this
theorem iterPos_at (w : World) (ob : Obj) (s : ByteArray) (pos : Nat) : ((w.alloc ob).alloc (.stringIter s pos)).iterPos (w.heap.size + 1) = pos := by
  have := (MapKept.heap_alloc (w.alloc ob) (.stringIter s pos)).1
  rw [World.size_alloc] at this
  unfold World.iterPos
  rw [this]
/-- One letter: the field that it names, what it is, what is left. -/
def fieldNo (op n l : Int) : Nat := if l = 114 then regNo n else if l = 99 ∧ op ≠ 28 then 3 else 4
theorem out_lo {op l x : Int} {b : Bool} (h : x < loE op l) : false = (inE op l x && b) := by
  have : ¬ loE op l ≤ x := by omega
  simp [inE, this]
theorem out_hi {op l x : Int} {b : Bool} (h : hiE l < x) : false = (inE op l x && b) := by
  have : ¬ x ≤ hiE l := by omega
  simp [inE, this]
theorem in_e {op l x : Int} {b : Bool} (h : ¬ x < loE op l) (h' : ¬ hiE l < x) : (inE op l x && b) = b := by
  have h1 : loE op l ≤ x := by omega
  have h2 : x ≤ hiE l := by omega
  simp [inE, h1, h2]
theorem fR_r0 (op : Int) (l : UInt8) (r : List UInt8) (n a b c m : Int) (hl : (l.toNat : Int) = 114) (hn : n = 0) : fR op (l :: r) n a b c m = (inE op l.toNat a && fR op r (n + 1) 0 b c m) := by
  rw [fR, if_pos hl, if_pos hn]
theorem fR_r1 (op : Int) (l : UInt8) (r : List UInt8) (n a b c m : Int) (hl : (l.toNat : Int) = 114) (hn : n = 1) : fR op (l :: r) n a b c m = (inE op l.toNat b && fR op r (n + 1) a 0 c m) := by
  rw [fR, if_pos hl, if_neg (by omega), if_pos hn]
theorem fR_r2 (op : Int) (l : UInt8) (r : List UInt8) (n a b c m : Int) (hl : (l.toNat : Int) = 114) (hn : n ≠ 0) (hn1 : n ≠ 1) : fR op (l :: r) n a b c m = (inE op l.toNat c && fR op r (n + 1) a b 0 m) := by
  rw [fR, if_pos hl, if_neg hn, if_neg hn1]
theorem fR_c (op : Int) (l : UInt8) (r : List UInt8) (n a b c m : Int) (hl : (l.toNat : Int) = 99) (h : op ≠ 28) : fR op (l :: r) n a b c m = (inE op l.toNat c && fR op r n a b 0 m) := by
  rw [fR, if_neg (by omega), if_pos ⟨hl, h⟩]
theorem fR_m (op : Int) (l : UInt8) (r : List UInt8) (n a b c m : Int) (hl : (l.toNat : Int) ≠ 114) (h : ¬ ((l.toNat : Int) = 99 ∧ op ≠ 28)) : fR op (l :: r) n a b c m = (inE op l.toNat m && fR op r n a b c 0) := by
  rw [fR, if_neg hl, if_neg h]
theorem drop_cons {s r : List UInt8} {pos : Nat} (h : s.drop pos = r) (hp : pos < s.length) : ∃ r', r = s[pos] :: r' ∧ s.drop (pos + 1) = r' := by
  rw [List.drop_eq_getElem_cons hp] at h
  exact ⟨_, h.symm, rfl⟩

end Go.Proofs.Ytoppcikacakjcaa
