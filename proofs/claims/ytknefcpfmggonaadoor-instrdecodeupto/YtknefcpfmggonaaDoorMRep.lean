/-
  Stage 4, image: programs that lie in memory. No Go in sight.
-/
import Derived.Test.YtknefcpfmggonaaDoorMMath
namespace Go.Proofs.YtknefcpfmggonaaDoor
open Go.RowKit

/-- So many things as memory can hold. -/
def maxG : Nat := 140737488355328
def PReg.Rng (r : PReg) : Prop := W64 r.b ∧ W64 r.n ∧ r.data.length ≤ maxG ∧ r.slots.length ≤ maxG ∧ ∀ k ∈ r.slots, k.Rng
def PComp.Rng (c : PComp) : Prop := c.roots.length ≤ maxG ∧ c.code.length ≤ maxI ∧ OpsIn c.code ∧ ∀ k ∈ c.roots, k.Rng
def PGate.Rng (g : PGate) : Prop := J64 g.c ∧ J64 g.e ∧ g.args.length ≤ maxG ∧ g.res.length ≤ maxG ∧ (∀ k ∈ g.args, k.Rng) ∧ (∀ k ∈ g.res, k.Rng)
structure PImg.Rng (m : PImg) : Prop where
  regs : m.regs.length ≤ maxG ∧ ∀ r ∈ m.regs, r.Rng
  comps : m.comps.length ≤ maxG ∧ ∀ c ∈ m.comps, c.Rng
  gates : m.gates.length ≤ maxG ∧ ∀ g ∈ m.gates, g.Rng
  depth : J64 m.depth
def RegIn (B : Nat) (w : World) (a : Option Addr) (L : List PReg) : Prop := ∀ i (h : i < L.length), ∃ (b off : Nat) (sa : Option Addr) (sc : Nat), a = some ⟨b, off, none⟩ ∧ b < B ∧ b < w.heap.size ∧
  w.cell? ⟨b, off + i * 4, none⟩ = some (.int .u64 L[i].b) ∧ w.cell? ⟨b, off + i * 4 + 1, none⟩ = some (.int .u64 L[i].n) ∧ w.cell? ⟨b, off + i * 4 + 1 + 1, none⟩ = some (.string (str L[i].data)) ∧ w.cell? ⟨b, off + i * 4 + 1 + 1 + 1, none⟩ = some (.slice sa L[i].slots.length sc) ∧ FIn 8 PSlot.vals B w sa L[i].slots
def CompIn (B : Nat) (w : World) (a : Option Addr) (L : List PComp) : Prop := ∀ i (h : i < L.length), ∃ (b off : Nat) (ra : Option Addr) (rc : Nat) (ka : Option Addr) (kc : Nat), a = some ⟨b, off, none⟩ ∧ b < B ∧ b < w.heap.size ∧
  w.cell? ⟨b, off + i * 2, none⟩ = some (.slice ra L[i].roots.length rc) ∧ w.cell? ⟨b, off + i * 2 + 1, none⟩ = some (.slice ka L[i].code.length kc) ∧ FIn 6 PRoot.vals B w ra L[i].roots ∧ LIn B w ka L[i].code
def GateIn (B : Nat) (w : World) (a : Option Addr) (L : List PGate) : Prop := ∀ i (h : i < L.length), ∃ (b off : Nat) (xa : Option Addr) (xc : Nat) (ya : Option Addr) (yc : Nat), a = some ⟨b, off, none⟩ ∧ b < B ∧ b < w.heap.size ∧
  w.cell? ⟨b, off + i * 4, none⟩ = some (.int .i64 L[i].c) ∧ w.cell? ⟨b, off + i * 4 + 1, none⟩ = some (.int .i64 L[i].e) ∧ w.cell? ⟨b, off + i * 4 + 1 + 1, none⟩ = some (.slice xa L[i].args.length xc) ∧ w.cell? ⟨b, off + i * 4 + 1 + 1 + 1, none⟩ = some (.slice ya L[i].res.length yc) ∧ FIn 7 PTyp.vals B w xa L[i].args ∧ FIn 7 PTyp.vals B w ya L[i].res
theorem RegIn.below {B : Nat} {w w1 : World} {a : Option Addr} {L : List PReg} (h : RegIn B w a L) (hb : Below B w w1) : RegIn B w1 a L := fun i hi => by
  obtain ⟨b, off, sa, sc, ha, h1, h2, c0, c1, c2, c3, hs⟩ := h i hi
  exact ⟨b, off, sa, sc, ha, h1, Nat.lt_of_lt_of_le h2 hb.size, (hb.cell (p := ⟨b, _, none⟩) h1).trans c0, (hb.cell (p := ⟨b, _, none⟩) h1).trans c1, (hb.cell (p := ⟨b, _, none⟩) h1).trans c2, (hb.cell (p := ⟨b, _, none⟩) h1).trans c3, hs.below hb⟩
theorem CompIn.below {B : Nat} {w w1 : World} {a : Option Addr} {L : List PComp} (h : CompIn B w a L) (hb : Below B w w1) : CompIn B w1 a L := fun i hi => by
  obtain ⟨b, off, ra, rc, ka, kc, ha, h1, h2, c0, c1, hr, hk⟩ := h i hi
  exact ⟨b, off, ra, rc, ka, kc, ha, h1, Nat.lt_of_lt_of_le h2 hb.size, (hb.cell (p := ⟨b, _, none⟩) h1).trans c0, (hb.cell (p := ⟨b, _, none⟩) h1).trans c1, hr.below hb, hk.below hb⟩
theorem GateIn.below {B : Nat} {w w1 : World} {a : Option Addr} {L : List PGate} (h : GateIn B w a L) (hb : Below B w w1) : GateIn B w1 a L := fun i hi => by
  obtain ⟨b, off, xa, xc, ya, yc, ha, h1, h2, c0, c1, c2, c3, hx, hy⟩ := h i hi
  exact ⟨b, off, xa, xc, ya, yc, ha, h1, Nat.lt_of_lt_of_le h2 hb.size, (hb.cell (p := ⟨b, _, none⟩) h1).trans c0, (hb.cell (p := ⟨b, _, none⟩) h1).trans c1, (hb.cell (p := ⟨b, _, none⟩) h1).trans c2, (hb.cell (p := ⟨b, _, none⟩) h1).trans c3, hx.below hb, hy.below hb⟩
theorem RegIn.mono {B B' : Nat} {w : World} {a : Option Addr} {L : List PReg} (h : RegIn B w a L) (hb : B ≤ B') : RegIn B' w a L := fun i hi => by
  obtain ⟨b, off, sa, sc, ha, h1, h2, c0, c1, c2, c3, hs⟩ := h i hi
  exact ⟨b, off, sa, sc, ha, Nat.lt_of_lt_of_le h1 hb, h2, c0, c1, c2, c3, hs.mono hb⟩
theorem CompIn.mono {B B' : Nat} {w : World} {a : Option Addr} {L : List PComp} (h : CompIn B w a L) (hb : B ≤ B') : CompIn B' w a L := fun i hi => by
  obtain ⟨b, off, ra, rc, ka, kc, ha, h1, h2, c0, c1, hr, hk⟩ := h i hi
  exact ⟨b, off, ra, rc, ka, kc, ha, Nat.lt_of_lt_of_le h1 hb, h2, c0, c1, hr.mono hb, hk.mono hb⟩
theorem GateIn.mono {B B' : Nat} {w : World} {a : Option Addr} {L : List PGate} (h : GateIn B w a L) (hb : B ≤ B') : GateIn B' w a L := fun i hi => by
  obtain ⟨b, off, xa, xc, ya, yc, ha, h1, h2, c0, c1, c2, c3, hx, hy⟩ := h i hi
  exact ⟨b, off, xa, xc, ya, yc, ha, Nat.lt_of_lt_of_le h1 hb, h2, c0, c1, c2, c3, hx.mono hb, hy.mono hb⟩
/-- A program that can be read, below block 'B'. -/
structure ImgIn (B : Nat) (w : World) (ra ca ga : Option Addr) (m : PImg) : Prop where
  regs : RegIn B w ra m.regs
  comps : CompIn B w ca m.comps
  gates : GateIn B w ga m.gates
theorem ImgIn.below {B : Nat} {w w1 : World} {ra ca ga : Option Addr} {m : PImg} (h : ImgIn B w ra ca ga m) (hb : Below B w w1) : ImgIn B w1 ra ca ga m := ⟨h.regs.below hb, h.comps.below hb, h.gates.below hb⟩
theorem ImgIn.mono {B B' : Nat} {w : World} {ra ca ga : Option Addr} {m : PImg} (h : ImgIn B w ra ca ga m) (hb : B ≤ B') : ImgIn B' w ra ca ga m := ⟨h.regs.mono hb, h.comps.mono hb, h.gates.mono hb⟩
end Go.Proofs.YtknefcpfmggonaaDoor
