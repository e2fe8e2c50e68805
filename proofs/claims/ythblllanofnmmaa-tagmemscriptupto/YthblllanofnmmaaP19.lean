import Derived.Test.YthblllanofnmmaaP18
import Derived.Test.YthblllanofnmmaaIOpen
/-
  Stage 4, image: programs as plain data, and which ones may be. No Go in sight.
-/
namespace Go.Proofs.Ythblllanofnmmaa
open Go.RowKit

theorem gr_size {w W : World} (h : Gr w W) : w.heap.size ≤ W.heap.size := h.below.size
theorem Gr.cell {w W : World} (h : Gr w W) {k : Nat} (hk : k < w.heap.size) (o : Nat) : W.cell? ⟨k, o, none⟩ = w.cell? ⟨k, o, none⟩ := h.below.cell (p := ⟨k, o, none⟩) hk
theorem retI {k : IntKind} {a b : Int} (h : a = b) : Ending.returned (.int k a) = .returned (.int k b) := by rw [h]
theorem cut_rule {X Y : Prop} (h : Hid X → Y) (x : X) : Y := h ⟨x⟩
def W64 (x : Int) : Prop := 0 ≤ x ∧ x < 18446744073709551616
def B8 (x : Int) : Prop := 0 ≤ x ∧ x < 256
def J64 (x : Int) : Prop := -9223372036854775808 ≤ x ∧ x < 9223372036854775808
structure PTyp where
  cap : Bool
  b : Int
  e : Int
  lo : Int
  hi : Int
  p : Int
  s : Int
structure PSlot where
  t : PTyp
  c : Int
structure PReg where
  b : Int
  n : Int
  data : List UInt8
  slots : List PSlot
structure PRoot where
  r : Int
  b : Int
  e : Int
  c : Int
  p : Int
  s : Int
structure PComp where
  roots : List PRoot
  code : List Ins
structure PGate where
  c : Int
  e : Int
  args : List PTyp
  res : List PTyp
structure PImg where
  regs : List PReg
  comps : List PComp
  gates : List PGate
  depth : Int
def PTyp.vals (t : PTyp) : List Value := [.bool t.cap, .int .u64 t.b, .int .u64 t.e, .int .u64 t.lo, .int .u64 t.hi, .int .u8 t.p, .int .i64 t.s]
def PSlot.vals (k : PSlot) : List Value := k.t.vals ++ [.int .u64 k.c]
def PRoot.vals (k : PRoot) : List Value := [.int .i64 k.r, .int .u64 k.b, .int .u64 k.e, .int .u64 k.c, .int .u8 k.p, .int .i64 k.s]
def PTyp.Rng (t : PTyp) : Prop := W64 t.b ∧ W64 t.e ∧ W64 t.lo ∧ W64 t.hi ∧ B8 t.p ∧ J64 t.s
def PSlot.Rng (k : PSlot) : Prop := k.t.Rng ∧ W64 k.c
def PRoot.Rng (k : PRoot) : Prop := J64 k.r ∧ W64 k.b ∧ W64 k.e ∧ W64 k.c ∧ B8 k.p ∧ J64 k.s
/-- A capability that is rightly built. -/
def hasB (h p : Int) : Bool := bits .andNot .u8 p h == 0
def rightB (b e p s : Int) : Bool := decide (b ≤ e) && decide (e ≤ 4294967296) && hasB 127 p && decide (0 ≤ s) && decide (s ≤ 15)
theorem right_false {b e p s : Int} (h : ¬ (b ≤ e ∧ e ≤ 4294967296 ∧ hasB 127 p = true ∧ 0 ≤ s ∧ s ≤ 15)) : false = rightB b e p s := by
  symm; rw [Bool.eq_false_iff]; intro k
  simp only [rightB, Bool.and_eq_true, decide_eq_true_eq] at k
  exact h ⟨k.1.1.1.1, k.1.1.1.2, k.1.1.2, k.1.2, k.2⟩
theorem right_last {b e p s : Int} (h1 : b ≤ e) (h2 : e ≤ 4294967296) (h3 : hasB 127 p = true) (h4 : 0 ≤ s) : decide (s ≤ 15) = rightB b e p s := by simp [rightB, h1, h2, h3, h4]
/-- A capability that a program may begin with. -/
def dataB (b e p s : Int) : Bool := rightB b e p s && (bits .and .u8 p 16 == 0)
def PTyp.right (t : PTyp) : Bool := if t.cap then dataB t.b t.e t.p t.s && decide (t.lo ≤ t.hi) else t.b == 0 && t.e == 0 && t.lo == 0 && t.hi == 0 && t.p == 0 && t.s == 0
def inLH (lo hi c : Int) : Bool := decide (lo ≤ c) && decide (c ≤ hi)
def PSlot.right (k : PSlot) : Bool := k.t.cap && k.t.right && inLH k.t.lo k.t.hi k.c
def placeB (b n f : Int) : Bool := b % 16 == 0 && n % 16 == 0 && !(n == 0) && decide (f ≤ b) && decide (b < 65536) && decide (n ≤ 65536 - b)
def endsNought (d : List UInt8) : Bool := match d.getLast? with | some x => x == 0 | none => false
def contentB (n : Int) (d : List UInt8) (k : Nat) : Bool := if 0 < k then d.isEmpty && (n == 16 * (k : Int)) else decide ((d.length : Int) ≤ n) && !endsNought d
def slotsR : List PSlot → Bool
  | [] => true
  | k :: l => k.right && slotsR l
def regsR : List PReg → Int → Int
  | [], _ => 0
  | r :: l, f => if placeB r.b r.n f && contentB r.n r.data r.slots.length then (if slotsR r.slots then regsR l (r.b + r.n) else 45) else 43
def rootsR : List PRoot → Int → Bool
  | [], _ => true
  | k :: l, f => if f < k.r ∧ k.r < 16 ∧ dataB k.b k.e k.p k.s = true then rootsR l k.r else false
def tgtB (op m : Int) (code gates : Int) : Bool := if 20 ≤ op ∧ op ≤ 25 then decide (m < code) else if op = 31 then decide (m < gates) else true
def codeF (code gates : Int) : List Ins → Int
  | [] => 0
  | k :: l => if k.right = 0 then (if tgtB k.op k.m code gates then codeF code gates l else 48) else k.right
def codeR (L : List Ins) (gates : Int) : Int := if L.length < 1 ∨ 400 < L.length then 42 else codeF L.length gates L
def compsR (gates : Int) : List PComp → Int
  | [] => 0
  | c :: l => if rootsR c.roots 7 then (if codeR c.code gates = 0 then compsR gates l else codeR c.code gates) else 46
def typesR : List PTyp → Bool
  | [] => true
  | t :: l => t.right && typesR l
def hasI (L : List PComp) (c e : Int) : Bool := if 0 ≤ c ∧ c < L.length ∧ 0 ≤ e then (match L[c.toNat]? with | some k => decide (e < k.code.length) | none => false) else false
def gatesR (L : List PComp) : List PGate → Int
  | [] => 0
  | g :: l => if hasI L g.c g.e && decide (g.args.length ≤ 7) && decide (g.res.length ≤ 7) then (if typesR g.args && typesR g.res then gatesR L l else 44) else 47
def countsB (a b c : Nat) (d : Int) : Bool := decide (a ≤ 8) && decide (1 ≤ b) && decide (b ≤ 4) && decide (1 ≤ c) && decide (c ≤ 16) && decide (1 ≤ d) && decide (d ≤ 16)
/-- What Right answers. -/
def PImg.right (m : PImg) : Int :=
  if countsB m.regs.length m.comps.length m.gates.length m.depth then
    (if regsR m.regs 0 = 0 then (if compsR m.gates.length m.comps = 0 then gatesR m.comps m.gates else compsR m.gates.length m.comps) else regsR m.regs 0)
  else 42
/-- A row of things of 'n' cells each, below block 'B', that can be read. -/
def FIn {α : Type} (n : Nat) (vals : α → List Value) (B : Nat) (w : World) (a : Option Addr) (L : List α) : Prop :=
  ∀ i (h : i < L.length), ∃ b off : Nat, a = some ⟨b, off, none⟩ ∧ b < B ∧ b < w.heap.size ∧ ∀ j, j < n → w.cell? ⟨b, off + i * n + j, none⟩ = (vals L[i])[j]?
theorem FIn.below {α : Type} {n : Nat} {vals : α → List Value} {B : Nat} {w w1 : World} {a : Option Addr} {L : List α} (h : FIn n vals B w a L) (hb : Below B w w1) : FIn n vals B w1 a L := fun i hi => by
  obtain ⟨b, off, ha, h1, h2, h3⟩ := h i hi
  exact ⟨b, off, ha, h1, Nat.lt_of_lt_of_le h2 hb.size, fun j hj => (hb.cell (p := ⟨b, _, none⟩) h1).trans (h3 j hj)⟩
theorem FIn.mono {α : Type} {n : Nat} {vals : α → List Value} {B B' : Nat} {w : World} {a : Option Addr} {L : List α} (h : FIn n vals B w a L) (hb : B ≤ B') : FIn n vals B' w a L := fun i hi => by
  obtain ⟨b, off, ha, h1, h2, h3⟩ := h i hi
  exact ⟨b, off, ha, Nat.lt_of_lt_of_le h1 hb, h2, h3⟩
theorem FIn.nil {α : Type} (n : Nat) (vals : α → List Value) (B : Nat) (w : World) (a : Option Addr) : FIn n vals B w a [] := fun i hi => by simp at hi
end Go.Proofs.Ythblllanofnmmaa


/-
  Stage 4, image: a number, a type, a value that came in, opened.
-/
namespace Go.Proofs.Ythblllanofnmmaa
open Go.ChangeShapes Go.WideShapes Go.ChangeAt Go.RowKit

theorem bd_u64 {n : Int} (h : (Lit.int .u64 n).wf = true) : 0 ≤ n ∧ n < 18446744073709551616 := by
  have := bounds_u64 h; omega
theorem sevenCells {cs : Array Value} (h : cs.size = 7) : ∃ c0 c1 c2 c3 c4 c5 c6, cs = #[c0, c1, c2, c3, c4, c5, c6] := by
  rcases cs with ⟨l⟩
  match l, h with
  | [c0, c1, c2, c3, c4, c5, c6], _ => exact ⟨c0, c1, c2, c3, c4, c5, c6, rfl⟩
theorem cellsType : Try.prog.cellsOf 72 = 7 := by kernel_rfl
theorem cellsCap : Try.prog.cellsOf 45 = 5 := by kernel_rfl
set_option maxRecDepth 100000 in
theorem open_type {H : Type} {enc : TypeId × Value → H} {W : World} {r : Reach} {base b0 : Nat} {spare : Nat → Bool} {held : Bool} {v : Value} {d : DataW H} {ps : List MemPlace}
    (hv : Value.okWide Try.prog W r base 72 v) (h : DataW.Trod enc Try.prog W b0 spare held 72 v d ps) :
    ∃ t : PTyp, v = .agg #[.bool t.cap, .int .u64 t.b, .int .u64 t.e, .int .u64 t.lo, .int .u64 t.hi, .int .u8 t.p, .int .i64 t.s] ∧ t.Rng := by
  have hs := Try.underlying72
  obtain ⟨cs, rfl, hsz⟩ := okWide_struct hs hv
  obtain ⟨c0, c1, c2, c3, c4, c5, c6, rfl⟩ := sevenCells (hsz.trans cellsType)
  obtain ⟨fuel, hf⟩ := h
  obtain ⟨xs, n, _, _, _, hl, hx⟩ := DataW.trod_struct hs hf
  have at_ : ∀ i, i < 7 → ∃ y, xs[i]? = some y := by
    intro i hi
    have : i < xs.length := by rw [hl]; simpa using hi
    exact ⟨xs[i], by simp [this]⟩
  have k1 : Try.prog.cellsOf 4 = 1 := by kernel_rfl
  have k2 : Try.prog.cellsOf 42 = 1 := by kernel_rfl
  have k3 : Try.prog.cellsOf 43 = 1 := by kernel_rfl
  have k4 : Try.prog.cellsOf 3 = 1 := by kernel_rfl
  obtain ⟨y0, t0⟩ := at_ 0 (by omega)
  rw [← hx 0 _ rfl] at t0
  obtain ⟨y1, t1⟩ := at_ 1 (by omega)
  rw [← hx 1 _ rfl] at t1
  obtain ⟨y2, t2⟩ := at_ 2 (by omega)
  rw [← hx 2 _ rfl] at t2
  obtain ⟨y3, t3⟩ := at_ 3 (by omega)
  rw [← hx 3 _ rfl] at t3
  obtain ⟨y4, t4⟩ := at_ 4 (by omega)
  rw [← hx 4 _ rfl] at t4
  obtain ⟨y5, t5⟩ := at_ 5 (by omega)
  rw [← hx 5 _ rfl] at t5
  obtain ⟨y6, t6⟩ := at_ 6 (by omega)
  rw [← hx 6 _ rfl] at t6
  obtain ⟨tc, e0, _⟩ := DataW.trod_bool Try.underlying4 t0
  obtain ⟨tb, e1, _, w1⟩ := DataW.trod_int Try.underlying42 t1
  obtain ⟨te, e2, _, w2⟩ := DataW.trod_int Try.underlying42 t2
  obtain ⟨lo, e3, _, w3⟩ := DataW.trod_int Try.underlying42 t3
  obtain ⟨hi, e4, _, w4⟩ := DataW.trod_int Try.underlying42 t4
  obtain ⟨tp, e5, _, w5⟩ := DataW.trod_int Try.underlying43 t5
  obtain ⟨ts, e6, _, w6⟩ := DataW.trod_int Try.underlying3 t6
  simp [Value.cells, k1, k2, k3, k4] at e0 e1 e2 e3 e4 e5 e6
  subst e0 e1 e2 e3 e4 e5 e6
  exact ⟨⟨tc, tb, te, lo, hi, tp, ts⟩, rfl, bd_u64 w1, bd_u64 w2, bd_u64 w3, bd_u64 w4, bd_u8 w5, bd_i64 w6⟩
end Go.Proofs.Ythblllanofnmmaa
