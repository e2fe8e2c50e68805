import Derived.Test.YtcljibdikhpnlaaDoorP04
import Derived.Test.YtcljibdikhpnlaaDoorP06
import Derived.Deep.Slices
import Derived.SizedLaws
/-
  Stage 3, instr: a row of instructions that came in, opened; how long it may be.
-/
namespace Go.Proofs.YtcljibdikhpnlaaDoor
open Go.ChangeShapes Go.WideShapes Go.ChangeAt Go.RowKit Go.Deep

theorem five_list {α : Type} {cs : List α} (h : cs.length = 5) : ∃ c0 c1 c2 c3 c4, cs = [c0, c1, c2, c3, c4] := by
  match cs, h with
  | [c0, c1, c2, c3, c4], _ => exact ⟨c0, c1, c2, c3, c4, rfl⟩
theorem bulk_one {H : Type} (d : DataW H) : 1 ≤ Rows.uptoBulk d := by
  cases d with
  | lit l => cases l <;> simp [Rows.uptoBulk]
  | _ => simp [Rows.uptoBulk]
theorem bulk_len {H : Type} (l : List (DataW H)) : l.length ≤ Rows.uptoBulkAll l := by
  induction l with
  | nil => simp [Rows.uptoBulkAll]
  | cons x r ih => have := bulk_one x; simp only [Rows.uptoBulkAll, List.length_cons]; omega
theorem trod_inst {H : Type} {enc : TypeId × Value → H} {W : World} {b0 n : Nat} {spare : Nat → Bool} {held : Bool} {cs : List Value} {x : DataW H × List MemPlace}
    (hf : DataW.trod enc Tryd.prog W b0 spare held n 74 cs = some x) : ∃ k : Ins, cs = k.vals ∧ (0 ≤ k.op ∧ k.op < 256) ∧ 6 ≤ Rows.uptoBulk x.1 := by
  have hs := Tryd.underlying74
  obtain ⟨xs, m, _, hxx, hcl, hl, hx⟩ := DataW.trod_struct hs hf
  obtain ⟨c0, c1, c2, c3, c4, rfl⟩ := five_list (hcl.trans cellsInst)
  have hbk : 6 ≤ Rows.uptoBulk x.1 := by
    rw [hxx]
    have := bulk_len (xs.map (·.1))
    rw [List.length_map, hl] at this
    have h5 : 5 ≤ Rows.uptoBulkAll (xs.map (·.1)) := this
    simp only [Rows.uptoBulk]
    omega
  have at_ : ∀ i, i < 5 → ∃ y, xs[i]? = some y := by
    intro i hi
    have : i < xs.length := by rw [hl]; simpa using hi
    exact ⟨xs[i], by simp [this]⟩
  have k1 : Tryd.prog.cellsOf 72 = 1 := by kernel_rfl
  have k2 : Tryd.prog.cellsOf 3 = 1 := by kernel_rfl
  obtain ⟨y0, t0⟩ := at_ 0 (by omega)
  rw [← hx 0 _ rfl] at t0
  obtain ⟨y1, t1⟩ := at_ 1 (by omega)
  rw [← hx 1 _ rfl] at t1
  obtain ⟨y2, t2⟩ := at_ 2 (by omega)
  rw [← hx 2 _ rfl] at t2
  obtain ⟨y3, t3⟩ := at_ 3 (by omega)
  rw [← hx 3 _ rfl] at t3
  obtain ⟨y4, t4⟩ := at_ 4 (by omega)
  rw [← hx 4 _ rfl] at t4
  obtain ⟨op, e0, _, w0⟩ := DataW.trod_int Tryd.underlying72 t0
  obtain ⟨a, e1, _, _⟩ := DataW.trod_int Tryd.underlying3 t1
  obtain ⟨b, e2, _, _⟩ := DataW.trod_int Tryd.underlying3 t2
  obtain ⟨c, e3, _, _⟩ := DataW.trod_int Tryd.underlying3 t3
  obtain ⟨m, e4, _, _⟩ := DataW.trod_int Tryd.underlying3 t4
  simp [k1, k2] at e0 e1 e2 e3 e4
  subst e0 e1 e2 e3 e4
  exact ⟨⟨op, a, b, c, m⟩, rfl, bd_u8 w0, hbk⟩
theorem addr_add (b off k : Nat) : (⟨b, off, none⟩ : Addr).add k = ⟨b, off + k, none⟩ := by by_cases h : k = 0 <;> simp [Addr.add, h]
theorem no_spot {W : World} {a : Addr} {v : Value} {r : List Value} {n : Nat} (h : W.cells? 0 (a.add (0 * 5)) n = some (v :: r)) : a.spot = none := by
  obtain ⟨_, hl, hc⟩ := World.cells?_some h
  have c0 := hc 0 (by rw [← hl]; simp)
  simp only [Nat.zero_mul, Addr.add, if_true] at c0
  exact World.cell?_spot (c0.trans rfl)
theorem five_cells {W : World} {a : Addr} {i : Nat} {k : Ins} (hs : a.spot = none) (h : W.cells? 0 (a.add (i * 5)) 5 = some k.vals) :
    ∃ b off, a = ⟨b, off, none⟩ ∧ b < W.heap.size ∧ Five W b (off + i * 5) k := by
  obtain ⟨_, _, hc⟩ := World.cells?_some h
  have c0 := hc 0 (by omega)
  have c1 := hc 1 (by omega)
  have c2 := hc 2 (by omega)
  have c3 := hc 3 (by omega)
  have c4 := hc 4 (by omega)
  obtain ⟨b, off, spot⟩ := a
  obtain rfl : spot = none := hs
  rw [addr_add, addr_add] at c0 c1 c2 c3 c4
  have hlt := World.block_lt_of_cell? W _ (c0.trans rfl)
  exact ⟨b, off, rfl, hlt, c0, c1, c2, c3, c4⟩
theorem choose_list {α : Type} (p : Nat → α → Prop) : ∀ n, (∀ i, i < n → ∃ k, p i k) → ∃ L : List α, L.length = n ∧ ∀ i (h : i < L.length), p i L[i]
  | 0, _ => ⟨[], rfl, fun i h => by simp at h⟩
  | n + 1, h => by
    obtain ⟨L, hl, hL⟩ := choose_list p n (fun i hi => h i (by omega))
    obtain ⟨k, hk⟩ := h n (by omega)
    refine ⟨L ++ [k], by simp [hl], fun i hi => ?_⟩
    by_cases hin : i < L.length
    · rw [List.getElem_append_left hin]; exact hL i hin
    · have : i = n := by simp at hi; omega
      subst this
      rw [List.getElem_append_right (by omega)]
      simpa [hl] using hk
/-- What a row that came in reads as: so many elements. -/
def Long {H : Type} (d : DataW H) (n : Nat) : Prop := (d = .nil ∧ n = 0) ∨ ∃ elems spare, d = .slice elems spare ∧ elems.length = n ∧ ∀ e ∈ elems, 6 ≤ Rows.uptoBulk e
theorem open_insts {H : Type} {enc : TypeId × Value → H} {W : World} {spare : Nat → Bool} {held : Bool} {a : Option Addr} {len cap : Nat} {d : DataW H} {ps : List MemPlace}
    (h : DataW.Trod enc Tryd.prog W 0 spare held 50 (.slice a len cap) d ps) : ∃ L : List Ins, L.length = len ∧ LIn W.heap.size W a L ∧ OpsIn L ∧ Long d len := by
  obtain ⟨fuel, hf⟩ := h
  rcases open_slice Tryd.underlying50 hf with ⟨hcs, hx⟩ | ⟨x, l, c, m, n, D, Pl, hcs, _, hl, hm, hmm, hx2, hx⟩
  · simp [Value.cells] at hcs
    obtain ⟨rfl, rfl, rfl⟩ := hcs
    simp only [Prod.mk.injEq] at hx
    exact ⟨[], rfl, LIn.nil _ _ _, fun k hk => by simp at hk, .inl ⟨hx.1, rfl⟩⟩
  · simp [Value.cells] at hcs
    obtain ⟨rfl, rfl, rfl⟩ := hcs
    have hlm : len ≤ m := by rw [hmm]; split <;> omega
    have hk : ∀ i, i < len → ∃ k : Ins, W.cells? 0 (x.add (i * 5)) 5 = some k.vals ∧ (0 ≤ k.op ∧ k.op < 256) ∧ 6 ≤ Rows.uptoBulk (D i) := fun i hi => by
      obtain ⟨cs', e1, e2⟩ := hx i (by omega)
      rw [cellsInst] at e1
      obtain ⟨k, rfl, r, r2⟩ := trod_inst e2
      exact ⟨k, e1, r, r2⟩
    obtain ⟨L, hL, hp⟩ := choose_list _ _ hk
    simp only [Prod.mk.injEq] at hx2
    refine ⟨L, hL, fun i hi => ?_, fun k hk => ?_, .inr ⟨_, _, hx2.1, by simp, fun e he => ?_⟩⟩
    · have h0 : 0 < L.length := by omega
      have hs : x.spot = none := no_spot (hp 0 h0).1
      obtain ⟨b, off, rfl, hb, h5⟩ := five_cells hs (hp i hi).1
      exact ⟨b, off, rfl, hb, hb, h5⟩
    · obtain ⟨i, hi, rfl⟩ := List.getElem_of_mem hk
      exact (hp i hi).2.1
    · obtain ⟨i, hi, rfl⟩ := List.mem_map.1 he
      obtain ⟨k, _, _, r⟩ := hk i (by simpa using hi)
      exact r
/-- How long it may be: by the bulk, by the reach. -/
theorem bulk_six {H : Type} (l : List (DataW H)) (h : ∀ e ∈ l, 6 ≤ Rows.uptoBulk e) : 6 * l.length ≤ Rows.uptoBulkAll l := by
  induction l with
  | nil => simp
  | cons x r ih => have := h x (by simp); have := ih (fun e he => h e (by simp [he])); simp only [Rows.uptoBulkAll, List.length_cons]; omega
theorem bulk_long {H : Type} {d : DataW H} {n : Nat} (h : Long d n) : 6 * n ≤ Rows.uptoBulk d := by
  rcases h with ⟨_, rfl⟩ | ⟨e, s, rfl, rfl, he⟩
  · omega
  · have := bulk_six e he; simp only [Rows.uptoBulk]; omega
theorem bulk_str {H : Type} {d : DataW H} {s : List UInt8} (h : d = .lit (.string s)) : s.length ≤ Rows.uptoBulk d := by
  subst h; simp [Rows.uptoBulk]
theorem bulk_in {H : Type} {l : List (DataW H)} (hk : Rows.uptoSmall H l = true) : ∀ d ∈ l, Rows.uptoBulk d ≤ 1048576 := by
  have h : Rows.uptoBulkAll l ≤ 1048576 := of_decide_eq_true hk
  clear hk
  intro d hd
  induction l with
  | nil => simp at hd
  | cons x r ih =>
    simp only [Rows.uptoBulkAll] at h
    rcases List.mem_cons.1 hd with rfl | hd
    · omega
    · exact ih (by omega) hd
end Go.Proofs.YtcljibdikhpnlaaDoor


/-
  Stage 4, image: programs as plain data, and which ones may be. No Go in sight.
-/
namespace Go.Proofs.YtcljibdikhpnlaaDoor
open Go.RowKit

theorem gr_size {w W : World} (h : Gr w W) : w.heap.size ≤ W.heap.size := h.below.size
theorem Gr.cell {w W : World} (h : Gr w W) {k : Nat} (hk : k < w.heap.size) (o : Nat) : W.cell? ⟨k, o, none⟩ = w.cell? ⟨k, o, none⟩ := h.below.cell (p := ⟨k, o, none⟩) hk
theorem retI {k : IntKind} {a b : Int} (h : a = b) : Ending.returned (.int k a) = .returned (.int k b) := by rw [h]
theorem cut_rule {X Y : Prop} (h : Hid X → Y) (x : X) : Y := h ⟨x⟩
def W64 (x : Int) : Prop := 0 ≤ x ∧ x < 18446744073709551616
def B8 (x : Int) : Prop := 0 ≤ x ∧ x < 256
def J64 (x : Int) : Prop := -9223372036854775808 ≤ x ∧ x < 9223372036854775808
structure PTyp where
  cap : Bool
  b : Int
  e : Int
  lo : Int
  hi : Int
  p : Int
  s : Int
structure PSlot where
  t : PTyp
  c : Int
structure PReg where
  b : Int
  n : Int
  data : List UInt8
  slots : List PSlot
structure PRoot where
  r : Int
  b : Int
  e : Int
  c : Int
  p : Int
  s : Int
structure PComp where
  roots : List PRoot
  code : List Ins
structure PGate where
  c : Int
  e : Int
  args : List PTyp
  res : List PTyp
structure PImg where
  regs : List PReg
  comps : List PComp
  gates : List PGate
  depth : Int
def PTyp.vals (t : PTyp) : List Value := [.bool t.cap, .int .u64 t.b, .int .u64 t.e, .int .u64 t.lo, .int .u64 t.hi, .int .u8 t.p, .int .i64 t.s]
def PSlot.vals (k : PSlot) : List Value := k.t.vals ++ [.int .u64 k.c]
def PRoot.vals (k : PRoot) : List Value := [.int .i64 k.r, .int .u64 k.b, .int .u64 k.e, .int .u64 k.c, .int .u8 k.p, .int .i64 k.s]
def PTyp.Rng (t : PTyp) : Prop := W64 t.b ∧ W64 t.e ∧ W64 t.lo ∧ W64 t.hi ∧ B8 t.p ∧ J64 t.s
def PSlot.Rng (k : PSlot) : Prop := k.t.Rng ∧ W64 k.c
def PRoot.Rng (k : PRoot) : Prop := J64 k.r ∧ W64 k.b ∧ W64 k.e ∧ W64 k.c ∧ B8 k.p ∧ J64 k.s
/-- A capability that is rightly built. -/
def hasB (h p : Int) : Bool := bits .andNot .u8 p h == 0
def rightB (b e p s : Int) : Bool := decide (b ≤ e) && decide (e ≤ 4294967296) && hasB 127 p && decide (0 ≤ s) && decide (s ≤ 15)
theorem right_false {b e p s : Int} (h : ¬ (b ≤ e ∧ e ≤ 4294967296 ∧ hasB 127 p = true ∧ 0 ≤ s ∧ s ≤ 15)) : false = rightB b e p s := by
  symm; rw [Bool.eq_false_iff]; intro k
  simp only [rightB, Bool.and_eq_true, decide_eq_true_eq] at k
  exact h ⟨k.1.1.1.1, k.1.1.1.2, k.1.1.2, k.1.2, k.2⟩
theorem right_last {b e p s : Int} (h1 : b ≤ e) (h2 : e ≤ 4294967296) (h3 : hasB 127 p = true) (h4 : 0 ≤ s) : decide (s ≤ 15) = rightB b e p s := by simp [rightB, h1, h2, h3, h4]
/-- A capability that a program may begin with. -/
def dataB (b e p s : Int) : Bool := rightB b e p s && (bits .and .u8 p 16 == 0)
def PTyp.right (t : PTyp) : Bool := if t.cap then dataB t.b t.e t.p t.s && decide (t.lo ≤ t.hi) else t.b == 0 && t.e == 0 && t.lo == 0 && t.hi == 0 && t.p == 0 && t.s == 0
def inLH (lo hi c : Int) : Bool := decide (lo ≤ c) && decide (c ≤ hi)
def PSlot.right (k : PSlot) : Bool := k.t.cap && k.t.right && inLH k.t.lo k.t.hi k.c
def placeB (b n f : Int) : Bool := b % 16 == 0 && n % 16 == 0 && !(n == 0) && decide (f ≤ b) && decide (b < 65536) && decide (n ≤ 65536 - b)
def endsNought (d : List UInt8) : Bool := match d.getLast? with | some x => x == 0 | none => false
def contentB (n : Int) (d : List UInt8) (k : Nat) : Bool := if 0 < k then d.isEmpty && (n == 16 * (k : Int)) else decide ((d.length : Int) ≤ n) && !endsNought d
def slotsR : List PSlot → Bool
  | [] => true
  | k :: l => k.right && slotsR l
def regsR : List PReg → Int → Int
  | [], _ => 0
  | r :: l, f => if placeB r.b r.n f && contentB r.n r.data r.slots.length then (if slotsR r.slots then regsR l (r.b + r.n) else 45) else 43
def rootsR : List PRoot → Int → Bool
  | [], _ => true
  | k :: l, f => if f < k.r ∧ k.r < 16 ∧ dataB k.b k.e k.p k.s = true then rootsR l k.r else false
def tgtB (op m : Int) (code gates : Int) : Bool := if 20 ≤ op ∧ op ≤ 25 then decide (m < code) else if op = 31 then decide (m < gates) else true
def codeF (code gates : Int) : List Ins → Int
  | [] => 0
  | k :: l => if k.right = 0 then (if tgtB k.op k.m code gates then codeF code gates l else 48) else k.right
def codeR (L : List Ins) (gates : Int) : Int := if L.length < 1 ∨ 400 < L.length then 42 else codeF L.length gates L
def compsR (gates : Int) : List PComp → Int
  | [] => 0
  | c :: l => if rootsR c.roots 7 then (if codeR c.code gates = 0 then compsR gates l else codeR c.code gates) else 46
def typesR : List PTyp → Bool
  | [] => true
  | t :: l => t.right && typesR l
def hasI (L : List PComp) (c e : Int) : Bool := if 0 ≤ c ∧ c < L.length ∧ 0 ≤ e then (match L[c.toNat]? with | some k => decide (e < k.code.length) | none => false) else false
def gatesR (L : List PComp) : List PGate → Int
  | [] => 0
  | g :: l => if hasI L g.c g.e && decide (g.args.length ≤ 7) && decide (g.res.length ≤ 7) then (if typesR g.args && typesR g.res then gatesR L l else 44) else 47
def countsB (a b c : Nat) (d : Int) : Bool := decide (a ≤ 8) && decide (1 ≤ b) && decide (b ≤ 4) && decide (1 ≤ c) && decide (c ≤ 16) && decide (1 ≤ d) && decide (d ≤ 16)
/-- What Right answers. -/
def PImg.right (m : PImg) : Int :=
  if countsB m.regs.length m.comps.length m.gates.length m.depth then
    (if regsR m.regs 0 = 0 then (if compsR m.gates.length m.comps = 0 then gatesR m.comps m.gates else compsR m.gates.length m.comps) else regsR m.regs 0)
  else 42
/-- A row of things of 'n' cells each, below block 'B', that can be read. -/
def FIn {α : Type} (n : Nat) (vals : α → List Value) (B : Nat) (w : World) (a : Option Addr) (L : List α) : Prop :=
  ∀ i (h : i < L.length), ∃ b off : Nat, a = some ⟨b, off, none⟩ ∧ b < B ∧ b < w.heap.size ∧ ∀ j, j < n → w.cell? ⟨b, off + i * n + j, none⟩ = (vals L[i])[j]?
theorem FIn.below {α : Type} {n : Nat} {vals : α → List Value} {B : Nat} {w w1 : World} {a : Option Addr} {L : List α} (h : FIn n vals B w a L) (hb : Below B w w1) : FIn n vals B w1 a L := fun i hi => by
  obtain ⟨b, off, ha, h1, h2, h3⟩ := h i hi
  exact ⟨b, off, ha, h1, Nat.lt_of_lt_of_le h2 hb.size, fun j hj => (hb.cell (p := ⟨b, _, none⟩) h1).trans (h3 j hj)⟩
theorem FIn.mono {α : Type} {n : Nat} {vals : α → List Value} {B B' : Nat} {w : World} {a : Option Addr} {L : List α} (h : FIn n vals B w a L) (hb : B ≤ B') : FIn n vals B' w a L := fun i hi => by
  obtain ⟨b, off, ha, h1, h2, h3⟩ := h i hi
  exact ⟨b, off, ha, Nat.lt_of_lt_of_le h1 hb, h2, h3⟩
theorem FIn.nil {α : Type} (n : Nat) (vals : α → List Value) (B : Nat) (w : World) (a : Option Addr) : FIn n vals B w a [] := fun i hi => by simp at hi
end Go.Proofs.YtcljibdikhpnlaaDoor
