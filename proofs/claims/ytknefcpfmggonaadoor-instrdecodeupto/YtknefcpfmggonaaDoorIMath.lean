/-
  Stage 3, instr: what Right answers, by the program and by the document. No Go in sight.
-/
import Derived.Test.YtknefcpfmggonaaDoorITab
namespace Go.Proofs.YtknefcpfmggonaaDoor
open Go.RowKit

def loE (op l : Int) : Int := if l = 105 ∧ op ≠ 70 ∧ op ≠ 71 then -2147483648 else 0
def hiE (l : Int) : Int := if l = 114 then 15 else if l = 110 then 65536 else if l = 112 then 127 else if l = 115 then 15 else if l = 99 then 255 else 2147483647
def inE (op l n : Int) : Bool := decide (loE op l ≤ n) && decide (n ≤ hiE l)
/-- What the program answers of the letters that are left: 'n' registers were seen; what was looked at is 0. -/
def fR (op : Int) : List UInt8 → Int → Int → Int → Int → Int → Bool
  | [], _, a, b, c, m => decide (a = 0) && decide (b = 0) && decide (c = 0) && decide (m = 0)
  | l :: r, n, a, b, c, m =>
    if (l.toNat : Int) = 114 then
      (if n = 0 then inE op l.toNat a && fR op r (n + 1) 0 b c m
      else if n = 1 then inE op l.toNat b && fR op r (n + 1) a 0 c m
      else inE op l.toNat c && fR op r (n + 1) a b 0 m)
    else if (l.toNat : Int) = 99 ∧ op ≠ 28 then inE op l.toNat c && fR op r n a b 0 m
    else inE op l.toNat m && fR op r n a b c 0
/-- A register's number, of the document's three. -/
def regAt (n a b c : Int) : Int := if n = 0 then a else if n = 1 then b else c
/-- The document's answer of one letter. -/
def oneD (op l n a b c m : Int) : Bool :=
  if l = 114 then decide (0 ≤ regAt n a b c) && decide (regAt n a b c ≤ 15)
  else if l = 105 then (if op = 70 ∨ op = 71 then decide (0 ≤ m) && decide (m ≤ 2147483647) else decide (-2147483648 ≤ m) && decide (m ≤ 2147483647))
  else if l = 110 then decide (0 ≤ m) && decide (m ≤ 65536)
  else if l = 112 then decide (0 ≤ m) && decide (m ≤ 127)
  else if l = 115 then decide (0 ≤ m) && decide (m ≤ 15)
  else if l = 116 ∨ l = 103 then decide (0 ≤ m) && decide (m ≤ 2147483647)
  else if l = 99 then (if op = 28 then decide (0 ≤ m) && decide (m ≤ 255) else decide (0 ≤ c) && decide (c ≤ 255))
  else true
def immD (op l : Int) : Bool := decide (l = 105) || decide (l = 110) || decide (l = 112) || decide (l = 115) || decide (l = 116) || decide (l = 103) || decide (l = 99 ∧ op = 28)
def codeD (op l : Int) : Bool := decide (l = 99 ∧ op ≠ 28)
/-- The document's loop over the registers that are left. -/
def tailD (n a b c : Int) (code ok : Bool) : Bool :=
  ok && (decide (0 < n) || decide (a = 0)) && (decide (1 < n) || decide (b = 0)) && (decide (2 < n) || decide (c = 0) || code)
def rR (op a b c m : Int) : List UInt8 → Int → Bool → Bool → Bool → Bool
  | [], n, imm, code, ok => tailD n a b c code ok && (imm || decide (m = 0))
  | l :: r, n, imm, code, ok =>
    rR op a b c m r (if (l.toNat : Int) = 114 then n + 1 else n) (imm || immD op l.toNat) (code || codeD op l.toNat) (ok && oneD op l.toNat n a b c m)
def errOf (b : Bool) : Int := if b = true then 0 else 32
/-- What Right answers. -/
def rightF (op a b c m : Int) : Int := if nameOf op = [] then 31 else errOf (fR op (shapeOf op) 0 a b c m)
def rightD (op a b c m : Int) : Int := if findF op < 0 then 31 else errOf (rR op a b c m (docRow (findF op)).2.2 0 false false true)
/-- The shapes there are. -/
def shapes : List (List UInt8) := [[], [114, 105], [114, 114], [114, 114, 114], [114, 114, 105], [116], [114, 114, 116], [114, 116], [114], [99], [103], [114, 114, 110], [114, 114, 112], [114, 105, 99], [114, 99], [114, 110, 99], [114, 112, 99], [114, 115, 99]]
theorem shape_in (op : Int) (h1 : op < 256) : shapeOf op ∈ shapes := by
  have := all_bytes (fun n => decide (shapeOf n ∈ shapes)) (by kernel_rfl) op h1
  rcases Int.lt_or_le op 0 with h | h
  · have e : op.toNat = 0 := by omega
    have : shapeOf op = [] := by unfold shapeOf; rw [e]; rfl
    rw [this]; decide
  · simpa [Int.toNat_of_nonneg h] using this
theorem two (op a b c m : Int) (s : List UInt8) (hs : s ∈ shapes) (ht : op = 28 → s = [99]) : fR op s 0 a b c m = rR op a b c m s 0 false false true := by
  by_cases h28 : op = 28
  · obtain rfl := ht h28
    subst h28
    rw [Bool.eq_iff_iff]; simp [fR, rR, inE, loE, hiE, oneD, immD, codeD, tailD]; omega
  · clear ht
    simp only [shapes, List.mem_cons, List.not_mem_nil, or_false] at hs
    by_cases h70 : op = 70 ∨ op = 71
    · have e : ¬ (op ≠ 70 ∧ op ≠ 71) := by omega
      rcases hs with rfl | rfl | rfl | rfl | rfl | rfl | rfl | rfl | rfl | rfl | rfl | rfl | rfl | rfl | rfl | rfl | rfl | rfl <;>
        (rw [Bool.eq_iff_iff]; simp [fR, rR, inE, loE, hiE, regAt, oneD, immD, codeD, tailD, h28, h70, e]) <;> omega
    · have e : ¬ op = 70 ∧ ¬ op = 71 := by omega
      rcases hs with rfl | rfl | rfl | rfl | rfl | rfl | rfl | rfl | rfl | rfl | rfl | rfl | rfl | rfl | rfl | rfl | rfl | rfl <;>
        (rw [Bool.eq_iff_iff]; simp [fR, rR, inE, loE, hiE, regAt, oneD, immD, codeD, tailD, h28, e]) <;> omega
theorem right_doc (op a b c m : Int) (h0 : 0 ≤ op) (h1 : op < 256) : rightD op a b c m = rightF op a b c m := by
  have h := none_doc op h0 h1
  have hs := shape_doc op h0 h1
  unfold rightD rightF
  by_cases hn : findF op < 0
  · rw [if_pos hn, if_pos (by simpa [hn] using h)]
  · have hm : ¬ nameOf op = [] := by simpa [hn] using h
    rw [if_neg hn, if_neg hm]
    unfold docShape at hs
    rw [if_neg hn] at hs
    rw [hs, two op a b c m _ (shape_in op h1) (fun e => by subst e; rfl)]
end Go.Proofs.YtknefcpfmggonaaDoor
