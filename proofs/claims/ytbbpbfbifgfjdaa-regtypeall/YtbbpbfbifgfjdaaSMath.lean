/-
  Stage 2, span: the plain functions that the walks speak of. No Go in sight.
-/
import Derived.WalkKit
import Derived.Test.YtbbpbfbifgfjdaaSBits
namespace Go.Proofs.Ytbbpbfbifgfjdaa
open Go.RowKit


/-- What is told of an empty span: 1, 0. -/
def tLo (a b : Int) : Int := if b < a then 1 else a
def tHi (a b : Int) : Int := if b < a then 0 else b
def joinLo (a b c d : Int) : Int := if b < a then c else if d < c then a else if a ≤ c then a else c
def joinHi (a b c d : Int) : Int := if b < a then d else if d < c then b else if b ≤ d then d else b
def maxI (a c : Int) : Int := if a ≤ c then c else a
def minI (a c : Int) : Int := if a ≤ c then a else c
def widLo (a b c d : Int) : Int := if b < a ∨ d < c then joinLo a b c d else if joinLo a b c d = a then a else 0
def widHi (a b c d : Int) : Int := if b < a ∨ d < c then joinHi a b c d else if joinHi a b c d = b then b else 18446744073709551615
/-- Join, Meet, Widen, as they are told. -/
def jLo (a b c d : Int) : Int := tLo (joinLo a b c d) (joinHi a b c d)
def jHi (a b c d : Int) : Int := tHi (joinLo a b c d) (joinHi a b c d)
def mLo (a b c d : Int) : Int := tLo (maxI a c) (minI b d)
def mHi (a b c d : Int) : Int := tHi (maxI a c) (minI b d)
def wLo (a b c d : Int) : Int := tLo (widLo a b c d) (widHi a b c d)
def wHi (a b c d : Int) : Int := tHi (widLo a b c d) (widHi a b c d)
def inB (a b c d : Int) : Bool := decide (b < a) || (decide (c ≤ a) && decide (b ≤ d))
def hasN (a b n : Int) : Bool := decide (a ≤ n) && decide (n ≤ b)
def mOk (a b c d : Int) : Bool := decide (maxI a c ≤ minI b d)
/-- All ones, as many as the greater one of two numbers has bits. -/
def ones (b d : Int) : Int := 2 ^ Lib.bitLen (b.toNat ||| d.toNat) - 1
/-- By how many places a number is moved. -/
def plc (c d x : Int) : Int := if c = d then x % 64 else x
def truth (b : Bool) : Int := if b then 1 else 0
/-- What an operation does to two numbers. -/
def one (op x y : Int) : Int :=
  if op = 3 then (x + y) % 18446744073709551616 else if op = 4 then (x - y) % 18446744073709551616 else if op = 5 then x * y % 18446744073709551616
  else if op = 6 then bits .and .u64 x y else if op = 7 then bits .or .u64 x y else if op = 8 then bits .xor .u64 x y
  else if op = 9 then x * 2 ^ (y % 64).toNat % 18446744073709551616 else if op = 10 then x / 2 ^ (y % 64).toNat
  else if op = 12 then truth (decide (x < y)) else if op = 13 then truth (x == y) else 0
def sumLo (a b c d : Int) : Int := if (a + c) / 18446744073709551616 = (b + d) / 18446744073709551616 then (a + c) % 18446744073709551616 else 0
def sumHi (a b c d : Int) : Int := if (a + c) / 18446744073709551616 = (b + d) / 18446744073709551616 then (b + d) % 18446744073709551616 else 18446744073709551615
def difLo (a b c d : Int) : Int := if bor a d = bor b c then (a - d) % 18446744073709551616 else 0
def difHi (a b c d : Int) : Int := if bor a d = bor b c then (b - c) % 18446744073709551616 else 18446744073709551615
def proLo (a b c d : Int) : Int := if b * d / 18446744073709551616 = 0 then a * c % 18446744073709551616 else 0
def proHi (b d : Int) : Int := if b * d / 18446744073709551616 = 0 then b * d % 18446744073709551616 else 18446744073709551615
/-- Does a number stay whole, moved up? -/
def upOk (b k : Int) : Bool := decide (k < 64) && (b * 2 ^ k.toNat % 18446744073709551616 / 2 ^ k.toNat == b)
def upLo (a b c d : Int) : Int := if upOk b (plc c d d) then a * 2 ^ (plc c d c).toNat % 18446744073709551616 else 0
def upHi (b c d : Int) : Int := if upOk b (plc c d d) then b * 2 ^ (plc c d d).toNat % 18446744073709551616 else 18446744073709551615
def dnLo (a c d : Int) : Int := if 64 ≤ plc c d d then 0 else a / 2 ^ (plc c d d).toNat
def dnHi (b c d : Int) : Int := if 64 ≤ plc c d d then b else b / 2 ^ (plc c d c).toNat
def bwLo (b c : Int) : Int := if b < c then 1 else 0
def bwHi (a b c d : Int) : Int := if b < c then 1 else if d ≤ a then 0 else 1
def eqHi (a b c d : Int) : Int := if minI b d < maxI a c then 0 else 1
/-- What comes of an operation on two spans that are not both one number. -/
def allLo (op a b c d : Int) : Int :=
  if op = 3 then sumLo a b c d else if op = 4 then difLo a b c d else if op = 5 then proLo a b c d else if op = 7 then maxI a c
  else if op = 9 then upLo a b c d else if op = 10 then dnLo a c d else if op = 12 then bwLo b c else 0
def allHi (op a b c d : Int) : Int :=
  if op = 3 then sumHi a b c d else if op = 4 then difHi a b c d else if op = 5 then proHi b d else if op = 6 then minI b d else if op = 7 then ones b d
  else if op = 8 then ones b d else if op = 9 then upHi b c d else if op = 10 then dnHi b c d else if op = 12 then bwHi a b c d else eqHi a b c d
def isOp (op : Int) : Bool := (decide (3 ≤ op) && decide (op ≤ 10)) || op == 12 || op == 13
/-- What Apply answers. -/
def apLo (op a b c d : Int) : Int := if b < a ∨ d < c then 1 else if isOp op then (if a = b ∧ c = d then one op a c else allLo op a b c d) else 0
def apHi (op a b c d : Int) : Int := if b < a ∨ d < c then 0 else if isOp op then (if a = b ∧ c = d then one op a c else allHi op a b c d) else 18446744073709551615
/-- A span less a number at one of its ends. -/
def woLo (a b c d : Int) : Int := if c = d then (if a = c ∧ b = d then 1 else if a = c then a + 1 else a) else a
def woHi (a b c d : Int) : Int := if c = d then (if a = c ∧ b = d then 0 else if a = c then b else if b = c then b - 1 else b) else b
/-- What a branch leaves of two spans that are not empty, ahead of the look whether one is now. -/
def rA (op a b c d : Int) : Int := if op = 21 then maxI a c else if op = 22 then woLo a b c d else if op = 23 then (if d ≤ a then 1 else a) else if op = 24 then maxI a c else a
def rB (op a b c d : Int) : Int := if op = 21 then minI b d else if op = 22 then woHi a b c d else if op = 23 then (if d ≤ a then 0 else minI b (d - 1)) else b
def rC (op a b c d : Int) : Int := if op = 21 then maxI a c else if op = 22 then woLo c d a b else if op = 23 then (if d ≤ a then 1 else maxI c (a + 1)) else c
def rD (op a b c d : Int) : Int := if op = 21 then minI b d else if op = 22 then woHi c d a b else if op = 23 then (if d ≤ a then 0 else d) else if op = 24 then minI d b else d
/-- Is a branch taken for any two? -/
def rOk (op a b c d : Int) : Bool := decide (a ≤ b) && decide (c ≤ d) && decide (rA op a b c d ≤ rB op a b c d) && decide (rC op a b c d ≤ rD op a b c d)
/-- What Refine answers. -/
def fA (op a b c d : Int) : Int := if rOk op a b c d then rA op a b c d else 1
def fB (op a b c d : Int) : Int := if rOk op a b c d then rB op a b c d else 0
def fC (op a b c d : Int) : Int := if rOk op a b c d then rC op a b c d else 1
def fD (op a b c d : Int) : Int := if rOk op a b c d then rD op a b c d else 0
/-- A number of 64 bits. -/
def W64 (x : Int) : Prop := 0 ≤ x ∧ x < 18446744073709551616

theorem ret_bool {a b : Bool} (h : a = b) : Ending.returned (.bool a) = .returned (.bool b) := by rw [h]
theorem ret_u64 {a b : Int} (h : a = b) : Ending.returned (.int .u64 a) = .returned (.int .u64 b) := by rw [h]
end Go.Proofs.Ytbbpbfbifgfjdaa
