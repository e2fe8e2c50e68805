import Derived.Test.YtbichnngepjpnaaGreatP06
/-
  Stage 6, tagmem: LoadCap and StoreCap.
-/
namespace Go.Proofs.YtbichnngepjpnaaGreat
namespace T
open Go.RowKit

/-- A value: a tag, an integer, a capability. -/
structure Vl where
  g : Bool
  n : Nat
  c : Cp
def Vl.agg (v : Vl) : Value := .agg #[.bool v.g, .int .u64 v.n, .int .u64 v.c.b, .int .u64 v.c.e, .int .u64 v.c.c, .int .u8 v.c.p, .int .i64 v.c.s]
def Vl.zero : Vl := ⟨false, 0, Cp.zero⟩
def lcV (b : Nat → UInt8) (t : Nat → Option Cp) (addr : Nat) : Vl :=
  if granB addr then (match t (addr / 16) with
    | none => ⟨false, leB b addr 8, Cp.zero⟩
    | some c => ⟨true, 0, c⟩) else Vl.zero
def lcE (addr : Nat) : Int := if granB addr then 0 else 60
def Vl.num (v : Vl) : Nat := if v.g then v.c.c.toNat else v.n
def scB (b : Nat → UInt8) (addr : Nat) (v : Vl) : Nat → UInt8 := if granB addr then putB (putB b addr v.num 8) (addr + 8) 0 8 else b
def scT (t : Nat → Option Cp) (addr : Nat) (v : Vl) : Nat → Option Cp :=
  if granB addr then (if v.g then updT (offT t addr (addr + 16)) (addr / 16) (some v.c) else offT t addr (addr + 16)) else t
theorem at_below {w w1 : World} {B k : Nat} {cs : Array Value} (h : At w k cs) (hb : Below B w w1) (hk : k < B) : At w1 k cs :=
  ⟨Nat.lt_of_lt_of_le h.1 hb.size, fun o => (hb.cell (p := ⟨k, o, none⟩) hk).trans (h.2.1 o), fun o => (hb.frozen (p := ⟨k, o, none⟩) hk).trans (h.2.2 o)⟩
theorem at_kp {S : Nat → Prop} {w w1 : World} {k : Nat} {cs : Array Value} (h : At w k cs) (hb : Kp S w w1) (hk : ¬ S k) : At w1 k cs :=
  ⟨Nat.lt_of_lt_of_le h.1 hb.size, fun o => (cell_of_block (hb.block k h.1 hk) o).trans (h.2.1 o), fun o => (frozen_of_block (hb.block k h.1 hk) o).trans (h.2.2 o)⟩
end T
end Go.Proofs.YtbichnngepjpnaaGreat
