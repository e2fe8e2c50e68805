import Derived.Test.YthmlkcglglcljaaGreatDoorJ10
import Derived.Test.YthmlkcglglcljaaGreatDoorJ09
namespace Go.Proofs.YthmlkcglglcljaaGreatDoor
open Go.RowKit

def Ins.right (k : Ins) : Int := rightF k.op k.a k.b k.c k.m
def OpsIn (L : List Ins) : Prop := ∀ k ∈ L, 0 ≤ k.op ∧ k.op < 256
def maxI : Nat := 3518437208883
end Go.Proofs.YthmlkcglglcljaaGreatDoor


namespace Go.Proofs.YthmlkcglglcljaaGreatDoor
open Go.RowKit

theorem gr_size {w W : World} (h : Gr w W) : w.heap.size ≤ W.heap.size := h.below.size
theorem Gr.cell {w W : World} (h : Gr w W) {k : Nat} (hk : k < w.heap.size) (o : Nat) : W.cell? ⟨k, o, none⟩ = w.cell? ⟨k, o, none⟩ := h.below.cell (p := ⟨k, o, none⟩) hk
theorem retI {k : IntKind} {a b : Int} (h : a = b) : Ending.returned (.int k a) = .returned (.int k b) := by rw [h]
def W64 (x : Int) : Prop := 0 ≤ x ∧ x < 18446744073709551616
def B8 (x : Int) : Prop := 0 ≤ x ∧ x < 256
def J64 (x : Int) : Prop := -9223372036854775808 ≤ x ∧ x < 9223372036854775808
structure PTyp where
 cap : Bool
 b : Int
 e : Int
 lo : Int
 hi : Int
 p : Int
 s : Int
structure PSlot where
 t : PTyp
 c : Int
structure PReg where
 b : Int
 n : Int
 data : List UInt8
 slots : List PSlot
structure PRoot where
 r : Int
 b : Int
 e : Int
 c : Int
 p : Int
 s : Int
structure PComp where
 roots : List PRoot
 code : List Ins
structure PGate where
 c : Int
 e : Int
 args : List PTyp
 res : List PTyp
structure PImg where
 regs : List PReg
 comps : List PComp
 gates : List PGate
 depth : Int
def PTyp.vals (t : PTyp) : List Value := [.bool t.cap, .int .u64 t.b, .int .u64 t.e, .int .u64 t.lo, .int .u64 t.hi, .int .u8 t.p, .int .i64 t.s]
def PSlot.vals (k : PSlot) : List Value := k.t.vals ++ [.int .u64 k.c]
def PRoot.vals (k : PRoot) : List Value := [.int .i64 k.r, .int .u64 k.b, .int .u64 k.e, .int .u64 k.c, .int .u8 k.p, .int .i64 k.s]
def PTyp.Rng (t : PTyp) : Prop := W64 t.b ∧ W64 t.e ∧ W64 t.lo ∧ W64 t.hi ∧ B8 t.p ∧ J64 t.s
def PSlot.Rng (k : PSlot) : Prop := k.t.Rng ∧ W64 k.c
def PRoot.Rng (k : PRoot) : Prop := J64 k.r ∧ W64 k.b ∧ W64 k.e ∧ W64 k.c ∧ B8 k.p ∧ J64 k.s
def hasB (h p : Int) : Bool := bits .andNot .u8 p h == 0
def rightB (b e p s : Int) : Bool := decide (b ≤ e) && decide (e ≤ 4294967296) && hasB 127 p && decide (0 ≤ s) && decide (s ≤ 15)
theorem right_false {b e p s : Int} (h : ¬ (b ≤ e ∧ e ≤ 4294967296 ∧ hasB 127 p = true ∧ 0 ≤ s ∧ s ≤ 15)) : false = rightB b e p s := by
 symm; rw [Bool.eq_false_iff]; intro k
 simp only [rightB, Bool.and_eq_true, decide_eq_true_eq] at k
 exact h ⟨k.1.1.1.1, k.1.1.1.2, k.1.1.2, k.1.2, k.2⟩
theorem right_last {b e p s : Int} (h1 : b ≤ e) (h2 : e ≤ 4294967296) (h3 : hasB 127 p = true) (h4 : 0 ≤ s) : decide (s ≤ 15) = rightB b e p s := by simp [rightB, h1, h2, h3, h4]
def dataB (b e p s : Int) : Bool := rightB b e p s && (bits .and .u8 p 16 == 0)
def PTyp.right (t : PTyp) : Bool := if t.cap then dataB t.b t.e t.p t.s && decide (t.lo ≤ t.hi) else t.b == 0 && t.e == 0 && t.lo == 0 && t.hi == 0 && t.p == 0 && t.s == 0
def inLH (lo hi c : Int) : Bool := decide (lo ≤ c) && decide (c ≤ hi)
def PSlot.right (k : PSlot) : Bool := k.t.cap && k.t.right && inLH k.t.lo k.t.hi k.c
def placeB (b n f : Int) : Bool := b % 16 == 0 && n % 16 == 0 && !(n == 0) && decide (f ≤ b) && decide (b < 65536) && decide (n ≤ 65536 - b)
def endsNought (d : List UInt8) : Bool := match d.getLast? with | some x => x == 0 | none => false
def contentB (n : Int) (d : List UInt8) (k : Nat) : Bool := if 0 < k then d.isEmpty && (n == 16 * (k : Int)) else decide ((d.length : Int) ≤ n) && !endsNought d
def slotsR : List PSlot → Bool
 | [] => true
 | k :: l => k.right && slotsR l
def regsR : List PReg → Int → Int
 | [], _ => 0
 | r :: l, f => if placeB r.b r.n f && contentB r.n r.data r.slots.length then (if slotsR r.slots then regsR l (r.b + r.n) else 45) else 43
def rootsR : List PRoot → Int → Bool
 | [], _ => true
 | k :: l, f => if f < k.r ∧ k.r < 16 ∧ dataB k.b k.e k.p k.s = true then rootsR l k.r else false
def tgtB (op m : Int) (code gates : Int) : Bool := if 20 ≤ op ∧ op ≤ 25 then decide (m < code) else if op = 31 then decide (m < gates) else true
def codeF (code gates : Int) : List Ins → Int
 | [] => 0
 | k :: l => if k.right = 0 then (if tgtB k.op k.m code gates then codeF code gates l else 48) else k.right
def codeR (L : List Ins) (gates : Int) : Int := if L.length < 1 ∨ 400 < L.length then 42 else codeF L.length gates L
def compsR (gates : Int) : List PComp → Int
 | [] => 0
 | c :: l => if rootsR c.roots 7 then (if codeR c.code gates = 0 then compsR gates l else codeR c.code gates) else 46
def typesR : List PTyp → Bool
 | [] => true
 | t :: l => t.right && typesR l
def hasI (L : List PComp) (c e : Int) : Bool := if 0 ≤ c ∧ c < L.length ∧ 0 ≤ e then (match L[c.toNat]? with | some k => decide (e < k.code.length) | none => false) else false
def gatesR (L : List PComp) : List PGate → Int
 | [] => 0
 | g :: l => if hasI L g.c g.e && decide (g.args.length ≤ 7) && decide (g.res.length ≤ 7) then (if typesR g.args && typesR g.res then gatesR L l else 44) else 47
def countsB (a b c : Nat) (d : Int) : Bool := decide (a ≤ 8) && decide (1 ≤ b) && decide (b ≤ 4) && decide (1 ≤ c) && decide (c ≤ 16) && decide (1 ≤ d) && decide (d ≤ 16)
def PImg.right (m : PImg) : Int :=
 if countsB m.regs.length m.comps.length m.gates.length m.depth then
   (if regsR m.regs 0 = 0 then (if compsR m.gates.length m.comps = 0 then gatesR m.comps m.gates else compsR m.gates.length m.comps) else regsR m.regs 0)
 else 42
def FIn {α : Type} (n : Nat) (vals : α → List Value) (B : Nat) (w : World) (a : Option Addr) (L : List α) : Prop :=
 ∀ i (h : i < L.length), ∃ b off : Nat, a = some ⟨b, off, none⟩ ∧ b < B ∧ b < w.heap.size ∧ ∀ j, j < n → w.cell? ⟨b, off + i * n + j, none⟩ = (vals L[i])[j]?
theorem FIn.below {α : Type} {n : Nat} {vals : α → List Value} {B : Nat} {w w1 : World} {a : Option Addr} {L : List α} (h : FIn n vals B w a L) (hb : Below B w w1) : FIn n vals B w1 a L := fun i hi => by
 obtain ⟨b, off, ha, h1, h2, h3⟩ := h i hi
 exact ⟨b, off, ha, h1, Nat.lt_of_lt_of_le h2 hb.size, fun j hj => (hb.cell (p := ⟨b, _, none⟩) h1).trans (h3 j hj)⟩
theorem FIn.mono {α : Type} {n : Nat} {vals : α → List Value} {B B' : Nat} {w : World} {a : Option Addr} {L : List α} (h : FIn n vals B w a L) (hb : B ≤ B') : FIn n vals B' w a L := fun i hi => by
 obtain ⟨b, off, ha, h1, h2, h3⟩ := h i hi
 exact ⟨b, off, ha, Nat.lt_of_lt_of_le h1 hb, h2, h3⟩
theorem FIn.nil {α : Type} (n : Nat) (vals : α → List Value) (B : Nat) (w : World) (a : Option Addr) : FIn n vals B w a [] := fun i hi => by simp at hi
end Go.Proofs.YthmlkcglglcljaaGreatDoor


namespace Go.Proofs.YthmlkcglglcljaaGreatDoor
open Go.RowKit

def maxG : Nat := 140737488355328
def PReg.Rng (r : PReg) : Prop := W64 r.b ∧ W64 r.n ∧ r.data.length ≤ maxG ∧ r.slots.length ≤ maxG ∧ ∀ k ∈ r.slots, k.Rng
def PComp.Rng (c : PComp) : Prop := c.roots.length ≤ maxG ∧ c.code.length ≤ maxI ∧ OpsIn c.code ∧ ∀ k ∈ c.roots, k.Rng
def PGate.Rng (g : PGate) : Prop := J64 g.c ∧ J64 g.e ∧ g.args.length ≤ maxG ∧ g.res.length ≤ maxG ∧ (∀ k ∈ g.args, k.Rng) ∧ (∀ k ∈ g.res, k.Rng)
structure PImg.Rng (m : PImg) : Prop where
 regs : m.regs.length ≤ maxG ∧ ∀ r ∈ m.regs, r.Rng
 comps : m.comps.length ≤ maxG ∧ ∀ c ∈ m.comps, c.Rng
 gates : m.gates.length ≤ maxG ∧ ∀ g ∈ m.gates, g.Rng
 depth : J64 m.depth
def RegIn (B : Nat) (w : World) (a : Option Addr) (L : List PReg) : Prop := ∀ i (h : i < L.length), ∃ (b off : Nat) (sa : Option Addr) (sc : Nat), a = some ⟨b, off, none⟩ ∧ b < B ∧ b < w.heap.size ∧
 w.cell? ⟨b, off + i * 4, none⟩ = some (.int .u64 L[i].b) ∧ w.cell? ⟨b, off + i * 4 + 1, none⟩ = some (.int .u64 L[i].n) ∧ w.cell? ⟨b, off + i * 4 + 1 + 1, none⟩ = some (.string (str L[i].data)) ∧ w.cell? ⟨b, off + i * 4 + 1 + 1 + 1, none⟩ = some (.slice sa L[i].slots.length sc) ∧ FIn 8 PSlot.vals B w sa L[i].slots
def CompIn (B : Nat) (w : World) (a : Option Addr) (L : List PComp) : Prop := ∀ i (h : i < L.length), ∃ (b off : Nat) (ra : Option Addr) (rc : Nat) (ka : Option Addr) (kc : Nat), a = some ⟨b, off, none⟩ ∧ b < B ∧ b < w.heap.size ∧
 w.cell? ⟨b, off + i * 2, none⟩ = some (.slice ra L[i].roots.length rc) ∧ w.cell? ⟨b, off + i * 2 + 1, none⟩ = some (.slice ka L[i].code.length kc) ∧ FIn 6 PRoot.vals B w ra L[i].roots ∧ LIn B w ka L[i].code
def GateIn (B : Nat) (w : World) (a : Option Addr) (L : List PGate) : Prop := ∀ i (h : i < L.length), ∃ (b off : Nat) (xa : Option Addr) (xc : Nat) (ya : Option Addr) (yc : Nat), a = some ⟨b, off, none⟩ ∧ b < B ∧ b < w.heap.size ∧
 w.cell? ⟨b, off + i * 4, none⟩ = some (.int .i64 L[i].c) ∧ w.cell? ⟨b, off + i * 4 + 1, none⟩ = some (.int .i64 L[i].e) ∧ w.cell? ⟨b, off + i * 4 + 1 + 1, none⟩ = some (.slice xa L[i].args.length xc) ∧ w.cell? ⟨b, off + i * 4 + 1 + 1 + 1, none⟩ = some (.slice ya L[i].res.length yc) ∧ FIn 7 PTyp.vals B w xa L[i].args ∧ FIn 7 PTyp.vals B w ya L[i].res
theorem RegIn.below {B : Nat} {w w1 : World} {a : Option Addr} {L : List PReg} (h : RegIn B w a L) (hb : Below B w w1) : RegIn B w1 a L := fun i hi => by
 obtain ⟨b, off, sa, sc, ha, h1, h2, c0, c1, c2, c3, hs⟩ := h i hi
 exact ⟨b, off, sa, sc, ha, h1, Nat.lt_of_lt_of_le h2 hb.size, (hb.cell (p := ⟨b, _, none⟩) h1).trans c0, (hb.cell (p := ⟨b, _, none⟩) h1).trans c1, (hb.cell (p := ⟨b, _, none⟩) h1).trans c2, (hb.cell (p := ⟨b, _, none⟩) h1).trans c3, hs.below hb⟩
theorem CompIn.below {B : Nat} {w w1 : World} {a : Option Addr} {L : List PComp} (h : CompIn B w a L) (hb : Below B w w1) : CompIn B w1 a L := fun i hi => by
 obtain ⟨b, off, ra, rc, ka, kc, ha, h1, h2, c0, c1, hr, hk⟩ := h i hi
 exact ⟨b, off, ra, rc, ka, kc, ha, h1, Nat.lt_of_lt_of_le h2 hb.size, (hb.cell (p := ⟨b, _, none⟩) h1).trans c0, (hb.cell (p := ⟨b, _, none⟩) h1).trans c1, hr.below hb, hk.below hb⟩
theorem GateIn.below {B : Nat} {w w1 : World} {a : Option Addr} {L : List PGate} (h : GateIn B w a L) (hb : Below B w w1) : GateIn B w1 a L := fun i hi => by
 obtain ⟨b, off, xa, xc, ya, yc, ha, h1, h2, c0, c1, c2, c3, hx, hy⟩ := h i hi
 exact ⟨b, off, xa, xc, ya, yc, ha, h1, Nat.lt_of_lt_of_le h2 hb.size, (hb.cell (p := ⟨b, _, none⟩) h1).trans c0, (hb.cell (p := ⟨b, _, none⟩) h1).trans c1, (hb.cell (p := ⟨b, _, none⟩) h1).trans c2, (hb.cell (p := ⟨b, _, none⟩) h1).trans c3, hx.below hb, hy.below hb⟩
theorem RegIn.mono {B B' : Nat} {w : World} {a : Option Addr} {L : List PReg} (h : RegIn B w a L) (hb : B ≤ B') : RegIn B' w a L := fun i hi => by
 obtain ⟨b, off, sa, sc, ha, h1, h2, c0, c1, c2, c3, hs⟩ := h i hi
 exact ⟨b, off, sa, sc, ha, Nat.lt_of_lt_of_le h1 hb, h2, c0, c1, c2, c3, hs.mono hb⟩
theorem CompIn.mono {B B' : Nat} {w : World} {a : Option Addr} {L : List PComp} (h : CompIn B w a L) (hb : B ≤ B') : CompIn B' w a L := fun i hi => by
 obtain ⟨b, off, ra, rc, ka, kc, ha, h1, h2, c0, c1, hr, hk⟩ := h i hi
 exact ⟨b, off, ra, rc, ka, kc, ha, Nat.lt_of_lt_of_le h1 hb, h2, c0, c1, hr.mono hb, hk.mono hb⟩
theorem GateIn.mono {B B' : Nat} {w : World} {a : Option Addr} {L : List PGate} (h : GateIn B w a L) (hb : B ≤ B') : GateIn B' w a L := fun i hi => by
 obtain ⟨b, off, xa, xc, ya, yc, ha, h1, h2, c0, c1, c2, c3, hx, hy⟩ := h i hi
 exact ⟨b, off, xa, xc, ya, yc, ha, Nat.lt_of_lt_of_le h1 hb, h2, c0, c1, c2, c3, hx.mono hb, hy.mono hb⟩
structure ImgIn (B : Nat) (w : World) (ra ca ga : Option Addr) (m : PImg) : Prop where
 regs : RegIn B w ra m.regs
 comps : CompIn B w ca m.comps
 gates : GateIn B w ga m.gates
theorem ImgIn.below {B : Nat} {w w1 : World} {ra ca ga : Option Addr} {m : PImg} (h : ImgIn B w ra ca ga m) (hb : Below B w w1) : ImgIn B w1 ra ca ga m := ⟨h.regs.below hb, h.comps.below hb, h.gates.below hb⟩
theorem ImgIn.mono {B B' : Nat} {w : World} {ra ca ga : Option Addr} {m : PImg} (h : ImgIn B w ra ca ga m) (hb : B ≤ B') : ImgIn B' w ra ca ga m := ⟨h.regs.mono hb, h.comps.mono hb, h.gates.mono hb⟩
end Go.Proofs.YthmlkcglglcljaaGreatDoor


namespace Go.Proofs.YthmlkcglglcljaaGreatDoor
namespace T
open Go.RowKit

structure Ed where
 e : Int
 v : Int
 f : Int
def flt (f : Int) : Ed := ⟨7, 0, f⟩
structure Fm where
 gate : Nat
 pc : Nat
 regs : Nat → Vl
structure Tc where
 store : Bool
 addr : Nat
 size : Nat
def Vl.row (v : Vl) : List Value := [.bool v.g, .int .u64 v.n, .int .u64 v.c.b, .int .u64 v.c.e, .int .u64 v.c.c, .int .u8 v.c.p, .int .i64 v.c.s]
theorem Vl.row_len (v : Vl) : v.row.length = 7 := rfl
def regRow (r : Nat → Vl) : Nat → List Value
 | 0 => []
 | n + 1 => regRow r n ++ (r n).row
theorem regRow_len (r : Nat → Vl) (n : Nat) : (regRow r n).length = n * 7 := by
 induction n with
 | zero => rfl
 | succ n ih => rw [regRow, List.length_append, ih, Vl.row_len]; omega
theorem regRow_at (r : Nat → Vl) (n : Nat) : ∀ o, o < n * 7 → (regRow r n)[o]? = (r (o / 7)).row[o % 7]? := by
 induction n with
 | zero => intro o h; omega
 | succ n ih =>
   intro o h
   rw [regRow]
   by_cases q : o < n * 7
   · rw [List.getElem?_append_left (by rw [regRow_len]; exact q)]
     exact ih o q
   · rw [List.getElem?_append_right (by rw [regRow_len]; omega), regRow_len]
     rw [show o / 7 = n by omega, show o % 7 = o - n * 7 by omega]
def Fm.row (f : Fm) : List Value := .int .i64 f.gate :: .int .i64 f.pc :: regRow f.regs 16
def Tc.row (x : Tc) : List Value := [.bool x.store, .int .u64 x.addr, .int .u64 x.size]
def mRow (p0 p1 p2 : Value) (d : Int) (km : Nat) (f : Fm) (st inp out tou : Value) (o : Ed) : List Value :=
 [p0, p1, p2, .int .i64 d, .pointer (some ⟨km, 0, none⟩), .int .i64 f.gate, .int .i64 f.pc] ++ regRow f.regs 16 ++ [st, inp, out, tou, .int .i64 o.e, .int .u64 o.v, .int .i64 o.f]
theorem mRow_idx (p0 p1 p2 : Value) (d : Int) (km : Nat) (f : Fm) (st inp out tou : Value) (o : Ed) (x : Nat) :
   (mRow p0 p1 p2 d km f st inp out tou o)[x]? = if x < 7 then [p0, p1, p2, .int .i64 d, .pointer (some ⟨km, 0, none⟩), .int .i64 f.gate, .int .i64 f.pc][x]? else if x < 119 then (f.regs ((x - 7) / 7)).row[(x - 7) % 7]? else [st, inp, out, tou, .int .i64 o.e, .int .u64 o.v, .int .i64 o.f][x - 119]? := by
 have hl : ([p0, p1, p2, Value.int .i64 d, .pointer (some ⟨km, 0, none⟩), .int .i64 f.gate, .int .i64 f.pc] ++ regRow f.regs 16).length = 119 := by rw [List.length_append, regRow_len]; rfl
 unfold mRow
 rw [List.getElem?_append, hl]
 by_cases h1 : x < 119
 · rw [if_pos h1, List.getElem?_append]
   by_cases h2 : x < 7
   · rw [if_pos h2, if_pos (by simpa using h2)]
   · rw [if_neg h2, if_neg (by simpa using h2), if_pos h1]
     exact regRow_at f.regs 16 (x - 7) (by omega)
 · rw [if_neg h1, if_neg (by omega), if_neg h1]
theorem mRow_reg (p0 p1 p2 : Value) (d : Int) (km : Nat) (f : Fm) (st inp out tou : Value) (o : Ed) (r j : Nat) (hr : r < 16) (hj : j < 7) :
   (mRow p0 p1 p2 d km f st inp out tou o)[7 + r * 7 + j]? = (f.regs r).row[j]? := by
 rw [mRow_idx, if_neg (by omega), if_pos (by omega), show (7 + r * 7 + j - 7) / 7 = r by omega, show (7 + r * 7 + j - 7) % 7 = j by omega]
def updV (r : Nat → Vl) (i : Nat) (v : Vl) : Nat → Vl := fun x => if x = i then v else r x
structure Bx (w : World) (a : Nat) (row : List Value) : Prop where
 lt : a < w.heap.size
 at_ : ∀ o v, row[o]? = some v → w.cell? ⟨a, o, none⟩ = some v
 fr : ∀ o, w.frozen? ⟨a, o, none⟩ = false
theorem Bx.block {w w1 : World} {a : Nat} {row : List Value} (h : Bx w a row) (hs : w.heap.size ≤ w1.heap.size) (hb : w1.heap[a]? = w.heap[a]?) : Bx w1 a row :=
 ⟨Nat.lt_of_lt_of_le h.lt hs, fun o v q => (cell_of_block hb o).trans (h.at_ o v q), fun o => (frozen_of_block hb o).trans (h.fr o)⟩
theorem Bx.keep {S : Nat → Prop} {w w1 : World} {a : Nat} {row : List Value} (h : Bx w a row) (hk : Kp S w w1) (hn : ¬ S a) : Bx w1 a row := h.block hk.size (hk.block a h.lt hn)
theorem Bx.set {w : World} {a : Nat} {row : List Value} (h : Bx w a row) (i : Nat) (v : Value) : Bx (w.setCell ⟨a, i, none⟩ v) a (row.set i v) := by
 refine ⟨by simpa using h.lt, fun o u q => ?_, fun o => by simpa using h.fr o⟩
 by_cases e : i = o
 · subst e
   rw [List.getElem?_set_self' ] at q
   cases hq : row[i]? with
   | none => rw [hq] at q; simp at q
   | some y =>
     rw [hq] at q
     have : v = u := by simpa using q
     subst this
     exact css (h.at_ i y hq)
 · rw [List.getElem?_set_ne e] at q
   rw [cso (fun _ => e)]
   exact h.at_ o u q
theorem mRow_other (p0 p1 p2 : Value) (d : Int) (km : Nat) (f : Fm) (st inp out tou : Value) (o : Ed) (r : Nat) (v : Vl) (x : Nat) (hx : x < 7 + r * 7 ∨ 7 + r * 7 + 7 ≤ x) :
   (mRow p0 p1 p2 d km { f with regs := updV f.regs r v } st inp out tou o)[x]? = (mRow p0 p1 p2 d km f st inp out tou o)[x]? := by
 rw [mRow_idx, mRow_idx]
 by_cases h2 : x < 7
 · rw [if_pos h2, if_pos h2]
 · rw [if_neg h2, if_neg h2]
   by_cases h1 : x < 119
   · rw [if_pos h1, if_pos h1]
     have : updV f.regs r v ((x - 7) / 7) = f.regs ((x - 7) / 7) := by unfold updV; rw [if_neg (by omega)]
     show (updV f.regs r v ((x - 7) / 7)).row[(x - 7) % 7]? = _
     rw [this]
   · rw [if_neg h1, if_neg h1]
theorem Bx.putReg {w : World} {a : Nat} {p0 p1 p2 : Value} {d : Int} {km : Nat} {f : Fm} {st inp out tou : Value} {o : Ed} (h : Bx w a (mRow p0 p1 p2 d km f st inp out tou o)) (r : Nat) (v : Vl) (hr : r < 16) :
   Bx (w.setCells a (7 + r * 7) v.row) a (mRow p0 p1 p2 d km { f with regs := updV f.regs r v } st inp out tou o) := by
 refine ⟨by rw [setCells_size]; exact h.lt, fun x u q => ?_, fun x => by rw [World.frozen?_setCells]; exact h.fr x⟩
 by_cases hx : x < 7 + r * 7 ∨ 7 + r * 7 + 7 ≤ x
 · rw [mRow_other _ _ _ _ _ _ _ _ _ _ _ r v x hx] at q
   rw [World.cell?_setCells_out a v.row (7 + r * 7) w _ (fun _ _ => by rw [Vl.row_len]; exact hx)]
   exact h.at_ x u q
 · obtain ⟨j, rfl⟩ : ∃ j, x = 7 + r * 7 + j := ⟨x - (7 + r * 7), by omega⟩
   rw [mRow_reg _ _ _ _ _ _ _ _ _ _ _ r j hr (by omega)] at q
   have e : ({ f with regs := updV f.regs r v } : Fm).regs r = v := by simp [updV]
   rw [e] at q
   have hj : j < v.row.length := by rw [Vl.row_len]; omega
   rw [World.cell?_setCells_in a v.row (7 + r * 7) w (fun i hi => by
     rw [Vl.row_len] at hi
     have e2 := mRow_reg p0 p1 p2 d km f st inp out tou o r i hr hi
     have e3 : (f.regs r).row[i]? = some ((f.regs r).row[i]'(by rw [Vl.row_len]; exact hi)) := List.getElem?_eq_getElem _
     rw [e3] at e2
     rw [h.at_ _ _ e2]; rfl) j hj, ← q, List.getElem?_eq_getElem hj]
end T
end Go.Proofs.YthmlkcglglcljaaGreatDoor
