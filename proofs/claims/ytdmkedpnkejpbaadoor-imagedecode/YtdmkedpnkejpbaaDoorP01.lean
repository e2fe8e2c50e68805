import Derived.WalkKit
import Derived.KernelRfl
/-
  Stage 3, instr: the tables, of the program and of the document. No Go in sight.
-/
namespace Go.Proofs.YtdmkedpnkejpbaaDoor
open Go.RowKit

/-- The program's names, by their numbers. -/
def nameL : List (List UInt8) := [[], [108, 105], [109, 111, 118], [97, 100, 100], [115, 117, 98], [109, 117, 108], [97, 110, 100], [111, 114], [120, 111, 114], [115, 104, 108], [115, 104, 114], [97, 100, 100, 105], [115, 108, 116], [115, 101, 113], [], [], [], [], [], [], [106, 109, 112], [98, 101, 113], [98, 110, 101], [98, 108, 116], [98, 103, 101], [99, 112, 99], [106, 99], [104, 97, 108, 116], [116, 114, 97, 112], [105, 110], [111, 117, 116], [99, 97, 108, 108], [114, 101, 116], [], [], [], [], [], [], [], [99, 105, 110, 99], [99, 105, 110, 99, 105], [99, 115, 101, 116, 98], [99, 115, 101, 116, 98, 105], [99, 97, 110, 100, 112], [99, 115, 101, 97, 108], [99, 117, 110, 115, 101, 97, 108], [], [], [], [99, 97, 100, 100, 114], [99, 98, 97, 115, 101], [99, 101, 110, 100], [99, 112, 101, 114, 109], [99, 115, 101, 97, 108, 101, 100], [99, 116, 97, 103], [99, 115, 97, 109, 101], [], [], [], [108, 98], [108, 119], [115, 98], [115, 119], [108, 99], [115, 99], [], [], [], [], [103, 108, 116], [103, 103, 101], [103, 116, 97, 103], [103, 105, 110], [103, 112, 101, 114, 109], [103, 115, 101, 97, 108]]
/-- The program's shapes, by their numbers. -/
def shapeL : List (List UInt8) := [[], [114, 105], [114, 114], [114, 114, 114], [114, 114, 114], [114, 114, 114], [114, 114, 114], [114, 114, 114], [114, 114, 114], [114, 114, 114], [114, 114, 114], [114, 114, 105], [114, 114, 114], [114, 114, 114], [], [], [], [], [], [], [116], [114, 114, 116], [114, 114, 116], [114, 114, 116], [114, 114, 116], [114, 116], [114], [114], [99], [114], [114], [103], [], [], [], [], [], [], [], [], [114, 114, 114], [114, 114, 105], [114, 114, 114], [114, 114, 110], [114, 114, 112], [114, 114, 114], [114, 114, 114], [], [], [], [114, 114], [114, 114], [114, 114], [114, 114], [114, 114], [114, 114], [114, 114, 114], [], [], [], [114, 114, 105], [114, 114, 105], [114, 114, 105], [114, 114, 105], [114, 114, 105], [114, 114, 105], [], [], [], [], [114, 105, 99], [114, 105, 99], [114, 99], [114, 110, 99], [114, 112, 99], [114, 115, 99]]
/-- The document's rows: number, name, shape. -/
def docL : List (Int × List UInt8 × List UInt8) := [
  (1, [108, 105], [114, 105]),
  (2, [109, 111, 118], [114, 114]),
  (3, [97, 100, 100], [114, 114, 114]),
  (4, [115, 117, 98], [114, 114, 114]),
  (5, [109, 117, 108], [114, 114, 114]),
  (6, [97, 110, 100], [114, 114, 114]),
  (7, [111, 114], [114, 114, 114]),
  (8, [120, 111, 114], [114, 114, 114]),
  (9, [115, 104, 108], [114, 114, 114]),
  (10, [115, 104, 114], [114, 114, 114]),
  (11, [97, 100, 100, 105], [114, 114, 105]),
  (12, [115, 108, 116], [114, 114, 114]),
  (13, [115, 101, 113], [114, 114, 114]),
  (20, [106, 109, 112], [116]),
  (21, [98, 101, 113], [114, 114, 116]),
  (22, [98, 110, 101], [114, 114, 116]),
  (23, [98, 108, 116], [114, 114, 116]),
  (24, [98, 103, 101], [114, 114, 116]),
  (25, [99, 112, 99], [114, 116]),
  (26, [106, 99], [114]),
  (27, [104, 97, 108, 116], [114]),
  (28, [116, 114, 97, 112], [99]),
  (29, [105, 110], [114]),
  (30, [111, 117, 116], [114]),
  (31, [99, 97, 108, 108], [103]),
  (32, [114, 101, 116], []),
  (40, [99, 105, 110, 99], [114, 114, 114]),
  (41, [99, 105, 110, 99, 105], [114, 114, 105]),
  (42, [99, 115, 101, 116, 98], [114, 114, 114]),
  (43, [99, 115, 101, 116, 98, 105], [114, 114, 110]),
  (44, [99, 97, 110, 100, 112], [114, 114, 112]),
  (45, [99, 115, 101, 97, 108], [114, 114, 114]),
  (46, [99, 117, 110, 115, 101, 97, 108], [114, 114, 114]),
  (50, [99, 97, 100, 100, 114], [114, 114]),
  (51, [99, 98, 97, 115, 101], [114, 114]),
  (52, [99, 101, 110, 100], [114, 114]),
  (53, [99, 112, 101, 114, 109], [114, 114]),
  (54, [99, 115, 101, 97, 108, 101, 100], [114, 114]),
  (55, [99, 116, 97, 103], [114, 114]),
  (56, [99, 115, 97, 109, 101], [114, 114, 114]),
  (60, [108, 98], [114, 114, 105]),
  (61, [108, 119], [114, 114, 105]),
  (62, [115, 98], [114, 114, 105]),
  (63, [115, 119], [114, 114, 105]),
  (64, [108, 99], [114, 114, 105]),
  (65, [115, 99], [114, 114, 105]),
  (70, [103, 108, 116], [114, 105, 99]),
  (71, [103, 103, 101], [114, 105, 99]),
  (72, [103, 116, 97, 103], [114, 99]),
  (73, [103, 105, 110], [114, 110, 99]),
  (74, [103, 112, 101, 114, 109], [114, 112, 99]),
  (75, [103, 115, 101, 97, 108], [114, 115, 99])]
def str (l : List UInt8) : ByteArray := ByteArray.mk l.toArray
def nameOf (op : Int) : List UInt8 := nameL.getD op.toNat []
def shapeOf (op : Int) : List UInt8 := shapeL.getD op.toNat []
/-- The place of an operation among the document's rows, from a place on; -1: there is none. -/
def findAt (op : Int) : List (Int × List UInt8 × List UInt8) → Nat → Int
  | [], _ => -1
  | r :: l, k => if r.1 = op then k else findAt op l (k + 1)
def findF (op : Int) : Int := findAt op docL 0
def docRow (k : Int) : Int × List UInt8 × List UInt8 := docL.getD k.toNat (0, [], [])
def docName (op : Int) : List UInt8 := if findF op < 0 then [] else (docRow (findF op)).2.1
def docShape (op : Int) : List UInt8 := if findF op < 0 then [] else (docRow (findF op)).2.2
theorem docL_len : docL.length = 52 := by kernel_rfl
theorem nameL_len : nameL.length = 76 := by kernel_rfl
theorem shapeL_len : shapeL.length = 76 := by kernel_rfl
/-- All numbers of a byte. -/
theorem all_bytes (f : Nat → Bool) (h : (List.range 256).all f = true) (n : Int) (h1 : n < 256) : f n.toNat = true := by
  rw [List.all_eq_true] at h
  exact h n.toNat (by simp; omega)
theorem name_doc (op : Int) (h0 : 0 ≤ op) (h1 : op < 256) : docName op = nameOf op := by
  have := all_bytes (fun n => decide (docName n = nameOf n)) (by kernel_rfl) op h1
  simpa [Int.toNat_of_nonneg h0] using this
theorem shape_doc (op : Int) (h0 : 0 ≤ op) (h1 : op < 256) : docShape op = shapeOf op := by
  have := all_bytes (fun n => decide (docShape n = shapeOf n)) (by kernel_rfl) op h1
  simpa [Int.toNat_of_nonneg h0] using this
theorem none_doc (op : Int) (h0 : 0 ≤ op) (h1 : op < 256) : decide (findF op < 0) = decide (nameOf op = []) := by
  have := all_bytes (fun n => decide (findF n < 0) == decide (nameOf n = [])) (by kernel_rfl) op h1
  simpa [Int.toNat_of_nonneg h0] using this
end Go.Proofs.YtdmkedpnkejpbaaDoor


/-
  Stage 3, instr: what Right answers, by the program and by the document. No Go in sight.
-/
namespace Go.Proofs.YtdmkedpnkejpbaaDoor
open Go.RowKit

def loE (op l : Int) : Int := if l = 105 ∧ op ≠ 70 ∧ op ≠ 71 then -2147483648 else 0
def hiE (l : Int) : Int := if l = 114 then 15 else if l = 110 then 65536 else if l = 112 then 127 else if l = 115 then 15 else if l = 99 then 255 else 2147483647
def inE (op l n : Int) : Bool := decide (loE op l ≤ n) && decide (n ≤ hiE l)
/-- What the program answers of the letters that are left: 'n' registers were seen; what was looked at is 0. -/
def fR (op : Int) : List UInt8 → Int → Int → Int → Int → Int → Bool
  | [], _, a, b, c, m => decide (a = 0) && decide (b = 0) && decide (c = 0) && decide (m = 0)
  | l :: r, n, a, b, c, m =>
    if (l.toNat : Int) = 114 then
      (if n = 0 then inE op l.toNat a && fR op r (n + 1) 0 b c m
      else if n = 1 then inE op l.toNat b && fR op r (n + 1) a 0 c m
      else inE op l.toNat c && fR op r (n + 1) a b 0 m)
    else if (l.toNat : Int) = 99 ∧ op ≠ 28 then inE op l.toNat c && fR op r n a b 0 m
    else inE op l.toNat m && fR op r n a b c 0
/-- A register's number, of the document's three. -/
def regAt (n a b c : Int) : Int := if n = 0 then a else if n = 1 then b else c
/-- The document's answer of one letter. -/
def oneD (op l n a b c m : Int) : Bool :=
  if l = 114 then decide (0 ≤ regAt n a b c) && decide (regAt n a b c ≤ 15)
  else if l = 105 then (if op = 70 ∨ op = 71 then decide (0 ≤ m) && decide (m ≤ 2147483647) else decide (-2147483648 ≤ m) && decide (m ≤ 2147483647))
  else if l = 110 then decide (0 ≤ m) && decide (m ≤ 65536)
  else if l = 112 then decide (0 ≤ m) && decide (m ≤ 127)
  else if l = 115 then decide (0 ≤ m) && decide (m ≤ 15)
  else if l = 116 ∨ l = 103 then decide (0 ≤ m) && decide (m ≤ 2147483647)
  else if l = 99 then (if op = 28 then decide (0 ≤ m) && decide (m ≤ 255) else decide (0 ≤ c) && decide (c ≤ 255))
  else true
def immD (op l : Int) : Bool := decide (l = 105) || decide (l = 110) || decide (l = 112) || decide (l = 115) || decide (l = 116) || decide (l = 103) || decide (l = 99 ∧ op = 28)
def codeD (op l : Int) : Bool := decide (l = 99 ∧ op ≠ 28)
/-- The document's loop over the registers that are left. -/
def tailD (n a b c : Int) (code ok : Bool) : Bool :=
  ok && (decide (0 < n) || decide (a = 0)) && (decide (1 < n) || decide (b = 0)) && (decide (2 < n) || decide (c = 0) || code)
def rR (op a b c m : Int) : List UInt8 → Int → Bool → Bool → Bool → Bool
  | [], n, imm, code, ok => tailD n a b c code ok && (imm || decide (m = 0))
  | l :: r, n, imm, code, ok =>
    rR op a b c m r (if (l.toNat : Int) = 114 then n + 1 else n) (imm || immD op l.toNat) (code || codeD op l.toNat) (ok && oneD op l.toNat n a b c m)
def errOf (b : Bool) : Int := if b = true then 0 else 32
/-- What Right answers. -/
def rightF (op a b c m : Int) : Int := if nameOf op = [] then 31 else errOf (fR op (shapeOf op) 0 a b c m)
def rightD (op a b c m : Int) : Int := if findF op < 0 then 31 else errOf (rR op a b c m (docRow (findF op)).2.2 0 false false true)
/-- The shapes there are. -/
def shapes : List (List UInt8) := [[], [114, 105], [114, 114], [114, 114, 114], [114, 114, 105], [116], [114, 114, 116], [114, 116], [114], [99], [103], [114, 114, 110], [114, 114, 112], [114, 105, 99], [114, 99], [114, 110, 99], [114, 112, 99], [114, 115, 99]]
theorem shape_in (op : Int) (h1 : op < 256) : shapeOf op ∈ shapes := by
  have := all_bytes (fun n => decide (shapeOf n ∈ shapes)) (by kernel_rfl) op h1
  rcases Int.lt_or_le op 0 with h | h
  · have e : op.toNat = 0 := by omega
    have : shapeOf op = [] := by unfold shapeOf; rw [e]; rfl
    rw [this]; decide
  · simpa [Int.toNat_of_nonneg h] using this
theorem two (op a b c m : Int) (s : List UInt8) (hs : s ∈ shapes) (ht : op = 28 → s = [99]) : fR op s 0 a b c m = rR op a b c m s 0 false false true := by
  by_cases h28 : op = 28
  · obtain rfl := ht h28
    subst h28
    rw [Bool.eq_iff_iff]; simp [fR, rR, inE, loE, hiE, oneD, immD, codeD, tailD]; omega
  · clear ht
    simp only [shapes, List.mem_cons, List.not_mem_nil, or_false] at hs
    by_cases h70 : op = 70 ∨ op = 71
    · have e : ¬ (op ≠ 70 ∧ op ≠ 71) := by omega
      rcases hs with rfl | rfl | rfl | rfl | rfl | rfl | rfl | rfl | rfl | rfl | rfl | rfl | rfl | rfl | rfl | rfl | rfl | rfl <;>
        (rw [Bool.eq_iff_iff]; simp [fR, rR, inE, loE, hiE, regAt, oneD, immD, codeD, tailD, h28, h70, e]) <;> omega
    · have e : ¬ op = 70 ∧ ¬ op = 71 := by omega
      rcases hs with rfl | rfl | rfl | rfl | rfl | rfl | rfl | rfl | rfl | rfl | rfl | rfl | rfl | rfl | rfl | rfl | rfl | rfl <;>
        (rw [Bool.eq_iff_iff]; simp [fR, rR, inE, loE, hiE, regAt, oneD, immD, codeD, tailD, h28, e]) <;> omega
theorem right_doc (op a b c m : Int) (h0 : 0 ≤ op) (h1 : op < 256) : rightD op a b c m = rightF op a b c m := by
  have h := none_doc op h0 h1
  have hs := shape_doc op h0 h1
  unfold rightD rightF
  by_cases hn : findF op < 0
  · rw [if_pos hn, if_pos (by simpa [hn] using h)]
  · have hm : ¬ nameOf op = [] := by simpa [hn] using h
    rw [if_neg hn, if_neg hm]
    unfold docShape at hs
    rw [if_neg hn] at hs
    rw [hs, two op a b c m _ (shape_in op h1) (fun e => by subst e; rfl)]
end Go.Proofs.YtdmkedpnkejpbaaDoor
