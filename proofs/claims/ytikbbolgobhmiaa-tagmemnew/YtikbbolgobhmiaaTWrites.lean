import Derived.Test.YtikbbolgobhmiaaP29
/-
  Stage 6, tagmem: the statements' writes.
-/
namespace Go.Proofs.Ytikbbolgobhmiaa
namespace T
open Go.RowKit

/-- Something that is written. -/
structure Wr where
  a : Int
  k : Int
  n : Nat
  c : Cp
structure Cp.Ok (c : Cp) : Prop where
  rb : U64 c.b
  re : U64 c.e
  rc : U64 c.c
  rp : 0 ≤ c.p ∧ c.p < 256
  rs : I64 c.s
structure Wr.Ok (x : Wr) : Prop where
  ra : I64 x.a
  rk : I64 x.k
  rn : x.n < 18446744073709551616
  rc : x.c.Ok
def Wr.cells (x : Wr) : Array Value := #[.int .i64 x.a, .int .i64 x.k, .int .u64 x.n, .int .u64 x.c.b, .int .u64 x.c.e, .int .u64 x.c.c, .int .u8 x.c.p, .int .i64 x.c.s]
def Wr.at (x : Wr) : Nat := pk x.a 65536
def Wr.kind (x : Wr) : Nat := pk x.k 4
def Wr.place (x : Wr) : Nat := x.at / 16 * 16
def Wr.low (x : Wr) : Nat := if x.at ≤ 65528 then x.at else 65528
def Wr.val (x : Wr) : Vl := if x.kind = 2 then ⟨true, 0, x.c⟩ else ⟨false, x.n, Cp.zero⟩
/-- The bytes, when it is written. -/
def wrB (b : Nat → UInt8) (x : Wr) : Nat → UInt8 :=
  if x.kind = 0 then stB b x.at 1 x.n else if x.kind = 1 then stB b x.low 8 x.n else scB b x.place x.val
def wrT (t : Nat → Option Cp) (x : Wr) : Nat → Option Cp :=
  if x.kind = 0 then stT t x.at 1 else if x.kind = 1 then stT t x.low 8 else scT t x.place x.val
theorem word1 {a : Nat} (h : a < 65536) : wordB a 1 = true := by simp [wordB]; omega
theorem word8 {a : Nat} (h : a ≤ 65528) : wordB a 8 = true := by simp [wordB]; omega
theorem gran {a : Nat} (h : a < 65536) : granB (a / 16 * 16) = true := by simp [granB]; omega
theorem scB_two (b : Nat → UInt8) (p : Nat) (v : Vl) (hp : p ≤ 65520) (hg : granB p = true) : stB (stB b p 8 v.num) (p + 8) 8 0 = scB b p v := by
  unfold stB scB
  rw [word8 (by omega), word8 (by omega), hg]
  rfl
end T
end Go.Proofs.Ytikbbolgobhmiaa
