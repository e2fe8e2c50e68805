import Derived.Test.YtimiofkiadlnbaaP08
/-
  Stage 6, tagmem: Load and Store, of both kinds.
-/
namespace Go.Proofs.Ytimiofkiadlnbaa
namespace T
open Go.RowKit

def ldV (b : Nat → UInt8) (addr size : Nat) : Nat := if wordB addr size then leB b addr size else 0
def ldE (addr size : Nat) : Int := if wordB addr size then 0 else 60
def stB (b : Nat → UInt8) (addr size n : Nat) : Nat → UInt8 := if wordB addr size then putB b addr n size else b
def stT (t : Nat → Option Cp) (addr size : Nat) : Nat → Option Cp := if wordB addr size then offT t addr (addr + size) else t
theorem wordB_in {addr size : Nat} (h : wordB addr size = true) : addr + size ≤ 65536 ∧ size ≤ 8 := by
  simp [wordB] at h; omega
theorem granB_in {addr : Nat} (h : granB addr = true) : addr % 16 = 0 ∧ addr + 16 ≤ 65536 := by
  simp [granB] at h; omega
set_option maxHeartbeats 1000000 in
theorem flLoad_any (S : Nat → Prop) (a addr size : Nat) (b : Nat → UInt8) (w : World) (h : FlIn S w a b) (ha : addr < 18446744073709551616) (hs : size < 18446744073709551616) :
    Calls Try.prog 84 #[.pointer (some ⟨a, 0, none⟩), .int .u64 addr, .int .u64 size] w fun x w' => x = .returned (.tuple #[.int .u64 (ldV b addr size), .int .i64 (ldE addr size)]) ∧ Below w.heap.size w w' := by
  have hW := fun W => isWord_any addr size W ha hs
  cases e : wordB addr size with
  | false =>
    rw [e] at hW
    simp only [ldV, ldE, e, Bool.false_eq_true, if_false]
    replace h := Hid.mk h
    go_enter Try.func84, Try.ntmps84
    go_wp2_with (refine (hW _).mono ?_; rintro x w1 ⟨rfl, rfl⟩)
    go_ret2
    exact ⟨rfl, Below.refl _ _⟩
  | true =>
    rw [e] at hW
    have hi := wordB_in e
    obtain ⟨P, h1, h4⟩ := h.go
    have hN := number_any P a addr size b w h1 hi.1 hi.2
    simp only [ldV, ldE, e, if_true]
    replace h := Hid.mk h
    replace h1 := Hid.mk h1
    clear h4
    go_enter Try.func84, Try.ntmps84
    go_wp2_with (first | (go_at_call 86; refine (hW _).mono ?_; rintro x w1 ⟨rfl, rfl⟩) | (go_at_call 87; refine hN.mono ?_; rintro x w1 ⟨rfl, rfl⟩))
    go_ret2
    exact ⟨rfl, Below.refl _ _⟩
set_option maxHeartbeats 1000000 in
theorem flStore_any (S : Nat → Prop) (a addr size n : Nat) (b : Nat → UInt8) (w : World) (h : FlIn S w a b) (ha : addr < 18446744073709551616) (hs : size < 18446744073709551616) :
    Calls Try.prog 85 #[.pointer (some ⟨a, 0, none⟩), .int .u64 addr, .int .u64 size, .int .u64 n] w fun x w' => x = .returned (.int .i64 (ldE addr size)) ∧ ∃ S', FlIn S' w' a (stB b addr size n) ∧ Mf S S' w w' := by
  have hW := fun W => isWord_any addr size W ha hs
  cases e : wordB addr size with
  | false =>
    rw [e] at hW
    simp only [stB, ldE, e, Bool.false_eq_true, if_false]
    replace h := Hid.mk h
    go_enter Try.func85, Try.ntmps85
    go_wp2_with (refine (hW _).mono ?_; rintro x w1 ⟨rfl, rfl⟩)
    go_ret
    exact ⟨rfl, S, h.out, Mf.refl _ _⟩
  | true =>
    rw [e] at hW
    have hi := wordB_in e
    have hN := h.onBytes fun P hP => setNumber_any P a addr size n b w hP hi.1 hi.2
    simp only [stB, ldE, e, if_true]
    replace h := Hid.mk h
    generalize putB b addr n size = b1 at *
    go_enter Try.func85, Try.ntmps85
    go_wp2_with (go_at_call 86; refine (hW _).mono ?_; rintro x w1 ⟨rfl, rfl⟩)
    refine hN.mono ?_
    rintro x w1 ⟨rfl, S1, h1, f1⟩
    replace h1 := Hid.mk h1
    replace f1 := Hid.mk f1
    go_wp2_with fail
    go_ret
    exact ⟨rfl, S1, h1.out, f1.out⟩
end T
end Go.Proofs.Ytimiofkiadlnbaa


/-
  Stage 6, tagmem: LoadCap and StoreCap.
-/
namespace Go.Proofs.Ytimiofkiadlnbaa
namespace T
open Go.RowKit

/-- A value: a tag, an integer, a capability. -/
structure Vl where
  g : Bool
  n : Nat
  c : Cp
def Vl.agg (v : Vl) : Value := .agg #[.bool v.g, .int .u64 v.n, .int .u64 v.c.b, .int .u64 v.c.e, .int .u64 v.c.c, .int .u8 v.c.p, .int .i64 v.c.s]
def Vl.zero : Vl := ⟨false, 0, Cp.zero⟩
def lcV (b : Nat → UInt8) (t : Nat → Option Cp) (addr : Nat) : Vl :=
  if granB addr then (match t (addr / 16) with
    | none => ⟨false, leB b addr 8, Cp.zero⟩
    | some c => ⟨true, 0, c⟩) else Vl.zero
def lcE (addr : Nat) : Int := if granB addr then 0 else 60
def Vl.num (v : Vl) : Nat := if v.g then v.c.c.toNat else v.n
def scB (b : Nat → UInt8) (addr : Nat) (v : Vl) : Nat → UInt8 := if granB addr then putB (putB b addr v.num 8) (addr + 8) 0 8 else b
def scT (t : Nat → Option Cp) (addr : Nat) (v : Vl) : Nat → Option Cp :=
  if granB addr then (if v.g then updT (offT t addr (addr + 16)) (addr / 16) (some v.c) else offT t addr (addr + 16)) else t
theorem at_below {w w1 : World} {B k : Nat} {cs : Array Value} (h : At w k cs) (hb : Below B w w1) (hk : k < B) : At w1 k cs :=
  ⟨Nat.lt_of_lt_of_le h.1 hb.size, fun o => (hb.cell (p := ⟨k, o, none⟩) hk).trans (h.2.1 o), fun o => (hb.frozen (p := ⟨k, o, none⟩) hk).trans (h.2.2 o)⟩
theorem at_kp {S : Nat → Prop} {w w1 : World} {k : Nat} {cs : Array Value} (h : At w k cs) (hb : Kp S w w1) (hk : ¬ S k) : At w1 k cs :=
  ⟨Nat.lt_of_lt_of_le h.1 hb.size, fun o => (cell_of_block (hb.block k h.1 hk) o).trans (h.2.1 o), fun o => (frozen_of_block (hb.block k h.1 hk) o).trans (h.2.2 o)⟩
end T
end Go.Proofs.Ytimiofkiadlnbaa
