import Derived.Test.YtcljibdikhpnlaaDoorP04
import Derived.Test.YtcljibdikhpnlaaDoorP07
/-
  Stage 4, image: a number, a type, a value that came in, opened.
-/
namespace Go.Proofs.YtcljibdikhpnlaaDoor
open Go.ChangeShapes Go.WideShapes Go.ChangeAt Go.RowKit

theorem bd_u64 {n : Int} (h : (Lit.int .u64 n).wf = true) : 0 ≤ n ∧ n < 18446744073709551616 := by
  have := bounds_u64 h; omega
theorem sevenCells {cs : Array Value} (h : cs.size = 7) : ∃ c0 c1 c2 c3 c4 c5 c6, cs = #[c0, c1, c2, c3, c4, c5, c6] := by
  rcases cs with ⟨l⟩
  match l, h with
  | [c0, c1, c2, c3, c4, c5, c6], _ => exact ⟨c0, c1, c2, c3, c4, c5, c6, rfl⟩
theorem cellsType : Tryd.prog.cellsOf 67 = 7 := by kernel_rfl
theorem cellsCap : Tryd.prog.cellsOf 41 = 5 := by kernel_rfl
set_option maxRecDepth 100000 in
theorem open_type {H : Type} {enc : TypeId × Value → H} {W : World} {r : Reach} {base b0 : Nat} {spare : Nat → Bool} {held : Bool} {v : Value} {d : DataW H} {ps : List MemPlace}
    (hv : Value.okWide Tryd.prog W r base 67 v) (h : DataW.Trod enc Tryd.prog W b0 spare held 67 v d ps) :
    ∃ t : PTyp, v = .agg #[.bool t.cap, .int .u64 t.b, .int .u64 t.e, .int .u64 t.lo, .int .u64 t.hi, .int .u8 t.p, .int .i64 t.s] ∧ t.Rng := by
  have hs := Tryd.underlying67
  obtain ⟨cs, rfl, hsz⟩ := okWide_struct hs hv
  obtain ⟨c0, c1, c2, c3, c4, c5, c6, rfl⟩ := sevenCells (hsz.trans cellsType)
  obtain ⟨fuel, hf⟩ := h
  obtain ⟨xs, n, _, _, _, hl, hx⟩ := DataW.trod_struct hs hf
  have at_ : ∀ i, i < 7 → ∃ y, xs[i]? = some y := by
    intro i hi
    have : i < xs.length := by rw [hl]; simpa using hi
    exact ⟨xs[i], by simp [this]⟩
  have k1 : Tryd.prog.cellsOf 4 = 1 := by kernel_rfl
  have k2 : Tryd.prog.cellsOf 38 = 1 := by kernel_rfl
  have k3 : Tryd.prog.cellsOf 39 = 1 := by kernel_rfl
  have k4 : Tryd.prog.cellsOf 3 = 1 := by kernel_rfl
  obtain ⟨y0, t0⟩ := at_ 0 (by omega)
  rw [← hx 0 _ rfl] at t0
  obtain ⟨y1, t1⟩ := at_ 1 (by omega)
  rw [← hx 1 _ rfl] at t1
  obtain ⟨y2, t2⟩ := at_ 2 (by omega)
  rw [← hx 2 _ rfl] at t2
  obtain ⟨y3, t3⟩ := at_ 3 (by omega)
  rw [← hx 3 _ rfl] at t3
  obtain ⟨y4, t4⟩ := at_ 4 (by omega)
  rw [← hx 4 _ rfl] at t4
  obtain ⟨y5, t5⟩ := at_ 5 (by omega)
  rw [← hx 5 _ rfl] at t5
  obtain ⟨y6, t6⟩ := at_ 6 (by omega)
  rw [← hx 6 _ rfl] at t6
  obtain ⟨tc, e0, _⟩ := DataW.trod_bool Tryd.underlying4 t0
  obtain ⟨tb, e1, _, w1⟩ := DataW.trod_int Tryd.underlying38 t1
  obtain ⟨te, e2, _, w2⟩ := DataW.trod_int Tryd.underlying38 t2
  obtain ⟨lo, e3, _, w3⟩ := DataW.trod_int Tryd.underlying38 t3
  obtain ⟨hi, e4, _, w4⟩ := DataW.trod_int Tryd.underlying38 t4
  obtain ⟨tp, e5, _, w5⟩ := DataW.trod_int Tryd.underlying39 t5
  obtain ⟨ts, e6, _, w6⟩ := DataW.trod_int Tryd.underlying3 t6
  simp [Value.cells, k1, k2, k3, k4] at e0 e1 e2 e3 e4 e5 e6
  subst e0 e1 e2 e3 e4 e5 e6
  exact ⟨⟨tc, tb, te, lo, hi, tp, ts⟩, rfl, bd_u64 w1, bd_u64 w2, bd_u64 w3, bd_u64 w4, bd_u8 w5, bd_i64 w6⟩
end Go.Proofs.YtcljibdikhpnlaaDoor


/-
  Stage 4, image: programs that lie in memory. No Go in sight.
-/
namespace Go.Proofs.YtcljibdikhpnlaaDoor
open Go.RowKit

/-- So many things as memory can hold. -/
def maxG : Nat := 140737488355328
def PReg.Rng (r : PReg) : Prop := W64 r.b ∧ W64 r.n ∧ r.data.length ≤ maxG ∧ r.slots.length ≤ maxG ∧ ∀ k ∈ r.slots, k.Rng
def PComp.Rng (c : PComp) : Prop := c.roots.length ≤ maxG ∧ c.code.length ≤ maxI ∧ OpsIn c.code ∧ ∀ k ∈ c.roots, k.Rng
def PGate.Rng (g : PGate) : Prop := J64 g.c ∧ J64 g.e ∧ g.args.length ≤ maxG ∧ g.res.length ≤ maxG ∧ (∀ k ∈ g.args, k.Rng) ∧ (∀ k ∈ g.res, k.Rng)
structure PImg.Rng (m : PImg) : Prop where
  regs : m.regs.length ≤ maxG ∧ ∀ r ∈ m.regs, r.Rng
  comps : m.comps.length ≤ maxG ∧ ∀ c ∈ m.comps, c.Rng
  gates : m.gates.length ≤ maxG ∧ ∀ g ∈ m.gates, g.Rng
  depth : J64 m.depth
def RegIn (B : Nat) (w : World) (a : Option Addr) (L : List PReg) : Prop := ∀ i (h : i < L.length), ∃ (b off : Nat) (sa : Option Addr) (sc : Nat), a = some ⟨b, off, none⟩ ∧ b < B ∧ b < w.heap.size ∧
  w.cell? ⟨b, off + i * 4, none⟩ = some (.int .u64 L[i].b) ∧ w.cell? ⟨b, off + i * 4 + 1, none⟩ = some (.int .u64 L[i].n) ∧ w.cell? ⟨b, off + i * 4 + 1 + 1, none⟩ = some (.string (str L[i].data)) ∧ w.cell? ⟨b, off + i * 4 + 1 + 1 + 1, none⟩ = some (.slice sa L[i].slots.length sc) ∧ FIn 8 PSlot.vals B w sa L[i].slots
def CompIn (B : Nat) (w : World) (a : Option Addr) (L : List PComp) : Prop := ∀ i (h : i < L.length), ∃ (b off : Nat) (ra : Option Addr) (rc : Nat) (ka : Option Addr) (kc : Nat), a = some ⟨b, off, none⟩ ∧ b < B ∧ b < w.heap.size ∧
  w.cell? ⟨b, off + i * 2, none⟩ = some (.slice ra L[i].roots.length rc) ∧ w.cell? ⟨b, off + i * 2 + 1, none⟩ = some (.slice ka L[i].code.length kc) ∧ FIn 6 PRoot.vals B w ra L[i].roots ∧ LIn B w ka L[i].code
def GateIn (B : Nat) (w : World) (a : Option Addr) (L : List PGate) : Prop := ∀ i (h : i < L.length), ∃ (b off : Nat) (xa : Option Addr) (xc : Nat) (ya : Option Addr) (yc : Nat), a = some ⟨b, off, none⟩ ∧ b < B ∧ b < w.heap.size ∧
  w.cell? ⟨b, off + i * 4, none⟩ = some (.int .i64 L[i].c) ∧ w.cell? ⟨b, off + i * 4 + 1, none⟩ = some (.int .i64 L[i].e) ∧ w.cell? ⟨b, off + i * 4 + 1 + 1, none⟩ = some (.slice xa L[i].args.length xc) ∧ w.cell? ⟨b, off + i * 4 + 1 + 1 + 1, none⟩ = some (.slice ya L[i].res.length yc) ∧ FIn 7 PTyp.vals B w xa L[i].args ∧ FIn 7 PTyp.vals B w ya L[i].res
theorem RegIn.below {B : Nat} {w w1 : World} {a : Option Addr} {L : List PReg} (h : RegIn B w a L) (hb : Below B w w1) : RegIn B w1 a L := fun i hi => by
  obtain ⟨b, off, sa, sc, ha, h1, h2, c0, c1, c2, c3, hs⟩ := h i hi
  exact ⟨b, off, sa, sc, ha, h1, Nat.lt_of_lt_of_le h2 hb.size, (hb.cell (p := ⟨b, _, none⟩) h1).trans c0, (hb.cell (p := ⟨b, _, none⟩) h1).trans c1, (hb.cell (p := ⟨b, _, none⟩) h1).trans c2, (hb.cell (p := ⟨b, _, none⟩) h1).trans c3, hs.below hb⟩
theorem CompIn.below {B : Nat} {w w1 : World} {a : Option Addr} {L : List PComp} (h : CompIn B w a L) (hb : Below B w w1) : CompIn B w1 a L := fun i hi => by
  obtain ⟨b, off, ra, rc, ka, kc, ha, h1, h2, c0, c1, hr, hk⟩ := h i hi
  exact ⟨b, off, ra, rc, ka, kc, ha, h1, Nat.lt_of_lt_of_le h2 hb.size, (hb.cell (p := ⟨b, _, none⟩) h1).trans c0, (hb.cell (p := ⟨b, _, none⟩) h1).trans c1, hr.below hb, hk.below hb⟩
theorem GateIn.below {B : Nat} {w w1 : World} {a : Option Addr} {L : List PGate} (h : GateIn B w a L) (hb : Below B w w1) : GateIn B w1 a L := fun i hi => by
  obtain ⟨b, off, xa, xc, ya, yc, ha, h1, h2, c0, c1, c2, c3, hx, hy⟩ := h i hi
  exact ⟨b, off, xa, xc, ya, yc, ha, h1, Nat.lt_of_lt_of_le h2 hb.size, (hb.cell (p := ⟨b, _, none⟩) h1).trans c0, (hb.cell (p := ⟨b, _, none⟩) h1).trans c1, (hb.cell (p := ⟨b, _, none⟩) h1).trans c2, (hb.cell (p := ⟨b, _, none⟩) h1).trans c3, hx.below hb, hy.below hb⟩
theorem RegIn.mono {B B' : Nat} {w : World} {a : Option Addr} {L : List PReg} (h : RegIn B w a L) (hb : B ≤ B') : RegIn B' w a L := fun i hi => by
  obtain ⟨b, off, sa, sc, ha, h1, h2, c0, c1, c2, c3, hs⟩ := h i hi
  exact ⟨b, off, sa, sc, ha, Nat.lt_of_lt_of_le h1 hb, h2, c0, c1, c2, c3, hs.mono hb⟩
theorem CompIn.mono {B B' : Nat} {w : World} {a : Option Addr} {L : List PComp} (h : CompIn B w a L) (hb : B ≤ B') : CompIn B' w a L := fun i hi => by
  obtain ⟨b, off, ra, rc, ka, kc, ha, h1, h2, c0, c1, hr, hk⟩ := h i hi
  exact ⟨b, off, ra, rc, ka, kc, ha, Nat.lt_of_lt_of_le h1 hb, h2, c0, c1, hr.mono hb, hk.mono hb⟩
theorem GateIn.mono {B B' : Nat} {w : World} {a : Option Addr} {L : List PGate} (h : GateIn B w a L) (hb : B ≤ B') : GateIn B' w a L := fun i hi => by
  obtain ⟨b, off, xa, xc, ya, yc, ha, h1, h2, c0, c1, c2, c3, hx, hy⟩ := h i hi
  exact ⟨b, off, xa, xc, ya, yc, ha, Nat.lt_of_lt_of_le h1 hb, h2, c0, c1, c2, c3, hx.mono hb, hy.mono hb⟩
/-- A program that can be read, below block 'B'. -/
structure ImgIn (B : Nat) (w : World) (ra ca ga : Option Addr) (m : PImg) : Prop where
  regs : RegIn B w ra m.regs
  comps : CompIn B w ca m.comps
  gates : GateIn B w ga m.gates
theorem ImgIn.below {B : Nat} {w w1 : World} {ra ca ga : Option Addr} {m : PImg} (h : ImgIn B w ra ca ga m) (hb : Below B w w1) : ImgIn B w1 ra ca ga m := ⟨h.regs.below hb, h.comps.below hb, h.gates.below hb⟩
theorem ImgIn.mono {B B' : Nat} {w : World} {ra ca ga : Option Addr} {m : PImg} (h : ImgIn B w ra ca ga m) (hb : B ≤ B') : ImgIn B' w ra ca ga m := ⟨h.regs.mono hb, h.comps.mono hb, h.gates.mono hb⟩
end Go.Proofs.YtcljibdikhpnlaaDoor
