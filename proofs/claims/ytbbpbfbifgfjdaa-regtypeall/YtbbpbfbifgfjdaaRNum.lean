/-
  Stage 9, regtype: what is handed in, in reach of the machine's numbers.
-/
import Derived.Test.YtbbpbfbifgfjdaaRMathB
namespace Go.Proofs.Ytbbpbfbifgfjdaa
namespace R
open Go.RowKit

def u64I (n : Int) : Prop := 0 ≤ n ∧ n ≤ 18446744073709551615
theorem on_u64 {n : Int} (h : u64I n) : (on n).u64 := ⟨h.1, h.2, h.1, h.2⟩
def Sp.vals (s : Sp) : List Value := [.int .u64 s.lo, .int .u64 s.hi]
def Kc.vals (c : Kc) : List Value := [.int .u64 c.b, .int .u64 c.e, .int .u64 c.c, .int .u8 c.pm, .int .i64 c.s]
def Kc.Rng (c : Kc) : Prop := u64I c.b ∧ u64I c.e ∧ u64I c.c ∧ c.pm < 256
def Vv.vals (v : Vv) : List Value := .bool v.tag :: .int .u64 v.n :: v.c.vals
def Vv.Rng (v : Vv) : Prop := u64I v.n ∧ v.c.Rng
def Tt.vals (t : Tt) : List Value := [.bool t.cap, .int .u64 t.b, .int .u64 t.e, .int .u64 t.lo, .int .u64 t.hi, .int .u8 t.pm, .int .i64 t.s]
def Tt.Rng (t : Tt) : Prop := u64I t.b ∧ u64I t.e ∧ u64I t.lo ∧ u64I t.hi ∧ t.pm < 256
def RT.vals (r : RT) : List Value := [.int .i64 r.k, .int .u64 r.n.lo, .int .u64 r.n.hi, .int .u64 r.b.lo, .int .u64 r.b.hi, .int .u64 r.e.lo, .int .u64 r.e.hi, .int .u64 r.p.lo, .int .u64 r.p.hi, .int .u8 r.mu, .int .u8 r.ma, .int .i64 r.s]
end R
end Go.Proofs.Ytbbpbfbifgfjdaa
