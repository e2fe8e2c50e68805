import Derived.Test.YtmmakknhaacplaaGreatDoorP06
import Derived.Test.YtmmakknhaacplaaGreatDoorP07
import Derived.Test.YtmmakknhaacplaaGreatDoorP04
import Derived.OneCell
import Derived.Lib.AppendStr
import Derived.Test.YtmmakknhaacplaaGreatDoorP05
import Derived.RegionTactic
import Derived.BigRegion
import Derived.Deep.RegionHeld3
import Derived.StillTactics
/-
  Stage 4, image: a program that came in: how many bytes its lists have; no Go in sight.
-/
namespace Go.Proofs.YtmmakknhaacplaaGreatDoor
open Go.ChangeShapes Go.WideShapes Go.ChangeAt Go.RowKit Go.Deep

def PReg.Fit (r : PReg) : Prop := W64 r.b ∧ W64 r.n ∧ r.data.length ≤ maxG ∧ r.slots.length * 64 ≤ reachBytes ∧ ∀ k ∈ r.slots, k.Rng
def PComp.Fit (c : PComp) : Prop := c.roots.length * 48 ≤ reachBytes ∧ c.code.length * 40 ≤ reachBytes ∧ OpsIn c.code ∧ ∀ k ∈ c.roots, k.Rng
def PGate.Fit (g : PGate) : Prop := J64 g.c ∧ J64 g.e ∧ g.args.length * 56 ≤ reachBytes ∧ g.res.length * 56 ≤ reachBytes ∧ (∀ k ∈ g.args, k.Rng) ∧ (∀ k ∈ g.res, k.Rng)
structure PImg.Fit (m : PImg) : Prop where
  regs : m.regs.length * 56 ≤ reachBytes ∧ ∀ r ∈ m.regs, r.Fit
  comps : m.comps.length * 48 ≤ reachBytes ∧ ∀ c ∈ m.comps, c.Fit
  gates : m.gates.length * 64 ≤ reachBytes ∧ ∀ g ∈ m.gates, g.Fit
  depth : J64 m.depth
theorem reach_is : reachBytes = 140737488351232 := by decide
theorem PReg.Fit.rng {r : PReg} (h : r.Fit) : r.Rng := ⟨h.1, h.2.1, h.2.2.1, long_le (k := 64) (by omega) h.2.2.2.1, h.2.2.2.2⟩
theorem PComp.Fit.rng {c : PComp} (h : c.Fit) : c.Rng := ⟨long_le (k := 48) (by omega) h.1, by have := h.2.1; rw [reach_is] at this; unfold maxI; omega, h.2.2⟩
theorem PGate.Fit.rng {g : PGate} (h : g.Fit) : g.Rng := ⟨h.1, h.2.1, long_le (k := 56) (by omega) h.2.2.1, long_le (k := 56) (by omega) h.2.2.2.1, h.2.2.2.2⟩
theorem PImg.Fit.rng {m : PImg} (h : m.Fit) : m.Rng := ⟨⟨long_le (k := 56) (by omega) h.regs.1, fun r q => (h.regs.2 r q).rng⟩, ⟨long_le (k := 48) (by omega) h.comps.1, fun r q => (h.comps.2 r q).rng⟩, ⟨long_le (k := 64) (by omega) h.gates.1, fun r q => (h.gates.2 r q).rng⟩, h.depth⟩
theorem PImg.Fit.tw {m : PImg} (h : m.Fit) : Q.TwFit m := by
  have e := reach_is
  refine ⟨?_, ?_, ?_, fun r q => ?_, fun r q => ?_, fun r q => ?_⟩
  · have := h.regs.1; omega
  · have := h.comps.1; omega
  · have := h.gates.1; omega
  · have := (h.regs.2 r q).2.2.2.1; omega
  · have := (h.comps.2 r q).1; have := (h.comps.2 r q).2.1; omega
  · have := (h.gates.2 r q).2.2.1; have := (h.gates.2 r q).2.2.2.1; omega
theorem bytesSlotF : Tryz.prog.bytesOf 68 = 64 := by kernel_rfl
theorem bytesTypeF : Tryz.prog.bytesOf 66 = 56 := by kernel_rfl
theorem bytesRootF : Tryz.prog.bytesOf 70 = 48 := by kernel_rfl
theorem bytesRegionF : Tryz.prog.bytesOf 47 = 56 := by kernel_rfl
theorem bytesCompF : Tryz.prog.bytesOf 52 = 48 := by kernel_rfl
theorem bytesGateF : Tryz.prog.bytesOf 55 = 64 := by kernel_rfl
theorem row_slotsF {H : Type} {enc : TypeId × Value → H} {W : World} {spare : Nat → Bool} {held : Bool} {n : Nat} {cs : List Value} {x : DataW H × List MemPlace}
    (hf : DataW.trod enc Tryz.prog W 0 spare held n 45 cs = some x) : ∃ (a : Option Addr) (cap : Nat) (L : List PSlot), cs = [.slice a L.length cap] ∧ FIn 8 PSlot.vals W.heap.size W a L ∧ (Light 45 x.1 → L.length * 64 ≤ reachBytes) ∧ ∀ r ∈ L, PSlot.Rng r := by
  obtain ⟨a, cap, L, e, hL, hr⟩ := open_rows (Q := fun cs (a : PSlot) => cs = PSlot.vals a ∧ PSlot.Rng a) (Rg := fun _ => True) Tryz.underlying45 cellsSlot (by omega) (fun _ _ _ h => by obtain ⟨a, h1, h2⟩ := trod_slot h; exact ⟨a, ⟨h1, h2⟩, fun _ => trivial⟩) hf
  refine ⟨a, cap, L, e, fun i hi => ?_, fun hli => by have := (hr hli).1; rwa [bytesSlotF] at this, fun r hm => ?_⟩
  · obtain ⟨b, off, ha, hb, cs', ⟨rfl, _⟩, hc⟩ := hL i hi
    exact ⟨b, off, ha, hb, hb, hc⟩
  · obtain ⟨i, hi, rfl⟩ := List.getElem_of_mem hm
    obtain ⟨b, off, ha, hb, cs', ⟨rfl, q⟩, hc⟩ := hL i hi
    exact q
theorem row_typesF {H : Type} {enc : TypeId × Value → H} {W : World} {spare : Nat → Bool} {held : Bool} {n : Nat} {cs : List Value} {x : DataW H × List MemPlace}
    (hf : DataW.trod enc Tryz.prog W 0 spare held n 53 cs = some x) : ∃ (a : Option Addr) (cap : Nat) (L : List PTyp), cs = [.slice a L.length cap] ∧ FIn 7 PTyp.vals W.heap.size W a L ∧ (Light 53 x.1 → L.length * 56 ≤ reachBytes) ∧ ∀ r ∈ L, PTyp.Rng r := by
  obtain ⟨a, cap, L, e, hL, hr⟩ := open_rows (Q := fun cs (a : PTyp) => cs = PTyp.vals a ∧ PTyp.Rng a) (Rg := fun _ => True) Tryz.underlying53 cellsType (by omega) (fun _ _ _ h => by obtain ⟨a, h1, h2⟩ := trod_typ h; exact ⟨a, ⟨h1, h2⟩, fun _ => trivial⟩) hf
  refine ⟨a, cap, L, e, fun i hi => ?_, fun hli => by have := (hr hli).1; rwa [bytesTypeF] at this, fun r hm => ?_⟩
  · obtain ⟨b, off, ha, hb, cs', ⟨rfl, _⟩, hc⟩ := hL i hi
    exact ⟨b, off, ha, hb, hb, hc⟩
  · obtain ⟨i, hi, rfl⟩ := List.getElem_of_mem hm
    obtain ⟨b, off, ha, hb, cs', ⟨rfl, q⟩, hc⟩ := hL i hi
    exact q
theorem row_rootsF {H : Type} {enc : TypeId × Value → H} {W : World} {spare : Nat → Bool} {held : Bool} {n : Nat} {cs : List Value} {x : DataW H × List MemPlace}
    (hf : DataW.trod enc Tryz.prog W 0 spare held n 49 cs = some x) : ∃ (a : Option Addr) (cap : Nat) (L : List PRoot), cs = [.slice a L.length cap] ∧ FIn 6 PRoot.vals W.heap.size W a L ∧ (Light 49 x.1 → L.length * 48 ≤ reachBytes) ∧ ∀ r ∈ L, PRoot.Rng r := by
  obtain ⟨a, cap, L, e, hL, hr⟩ := open_rows (Q := fun cs (a : PRoot) => cs = PRoot.vals a ∧ PRoot.Rng a) (Rg := fun _ => True) Tryz.underlying49 cellsRoot (by omega) (fun _ _ _ h => by obtain ⟨a, h1, h2⟩ := trod_root h; exact ⟨a, ⟨h1, h2⟩, fun _ => trivial⟩) hf
  refine ⟨a, cap, L, e, fun i hi => ?_, fun hli => by have := (hr hli).1; rwa [bytesRootF] at this, fun r hm => ?_⟩
  · obtain ⟨b, off, ha, hb, cs', ⟨rfl, _⟩, hc⟩ := hL i hi
    exact ⟨b, off, ha, hb, hb, hc⟩
  · obtain ⟨i, hi, rfl⟩ := List.getElem_of_mem hm
    obtain ⟨b, off, ha, hb, cs', ⟨rfl, q⟩, hc⟩ := hL i hi
    exact q
theorem row_instsF {H : Type} {enc : TypeId × Value → H} {W : World} {spare : Nat → Bool} {held : Bool} {n : Nat} {cs : List Value} {x : DataW H × List MemPlace}
    (hf : DataW.trod enc Tryz.prog W 0 spare held n 50 cs = some x) : ∃ (a : Option Addr) (cap : Nat) (L : List Ins), cs = [.slice a L.length cap] ∧ LIn W.heap.size W a L ∧ (Light 50 x.1 → L.length * 40 ≤ reachBytes) ∧ OpsIn L := by
  obtain ⟨a, cap, L, e, hL, hr⟩ := open_rows (Q := fun cs (a : Ins) => cs = a.vals ∧ (0 ≤ a.op ∧ a.op < 256)) (Rg := fun _ => True) Tryz.underlying50 cellsInst (by omega) (fun _ _ _ h => by obtain ⟨a, h1, h2, _⟩ := trod_inst h; exact ⟨a, ⟨h1, h2⟩, fun _ => trivial⟩) hf
  refine ⟨a, cap, L, e, fun i hi => ?_, fun hli => ?_, fun r hm => ?_⟩
  · obtain ⟨b, off, ha, hb, cs', ⟨rfl, _⟩, hc⟩ := hL i hi
    exact ⟨b, off, ha, hb, hb, hc 0 (by omega), hc 1 (by omega), hc 2 (by omega), hc 3 (by omega), hc 4 (by omega)⟩
  · have := (hr hli).1
    rwa [bytesInst] at this
  · obtain ⟨i, hi, rfl⟩ := List.getElem_of_mem hm
    obtain ⟨b, off, ha, hb, cs', ⟨rfl, q⟩, hc⟩ := hL i hi
    exact q
set_option maxRecDepth 100000 in
theorem trod_regF {H : Type} {enc : TypeId × Value → H} {W : World} {spare : Nat → Bool} {held : Bool} {n : Nat} {cs : List Value} {x : DataW H × List MemPlace}
    (hf : DataW.trod enc Tryz.prog W 0 spare held n 47 cs = some x) : ∃ r : PReg, (∃ sa sc, cs = [.int .u64 r.b, .int .u64 r.n, .string (str r.data), .slice sa r.slots.length sc] ∧ FIn 8 PSlot.vals W.heap.size W sa r.slots) ∧ (Light 47 x.1 → r.Fit) := by
  have hs := Tryz.underlying47
  obtain ⟨xs, m, _, hxx, hcl, hl, hx⟩ := DataW.trod_struct hs hf
  obtain ⟨c0, c1, c2, c3, rfl⟩ := list_4 (hcl.trans cellsRegion)
  have at_ : ∀ i, i < 4 → ∃ y, xs[i]? = some y := by
    intro i hi
    have : i < xs.length := by rw [hl]; simpa using hi
    exact ⟨xs[i], by simp [this]⟩
  obtain ⟨y0, t0⟩ := at_ 0 (by omega)
  rw [← hx 0 _ rfl] at t0
  obtain ⟨y1, t1⟩ := at_ 1 (by omega)
  rw [← hx 1 _ rfl] at t1
  obtain ⟨y2, t2⟩ := at_ 2 (by omega)
  have u2 := t2
  rw [← hx 2 _ rfl] at t2
  obtain ⟨y3, t3⟩ := at_ 3 (by omega)
  have u3 := t3
  rw [← hx 3 _ rfl] at t3
  have ku64 : Tryz.prog.cellsOf 38 = 1 := by kernel_rfl
  have kstr : Tryz.prog.cellsOf 9 = 1 := by kernel_rfl
  have kSlots : Tryz.prog.cellsOf 45 = 1 := by kernel_rfl
  obtain ⟨b, e0, _, w0⟩ := DataW.trod_int Tryz.underlying38 t0
  obtain ⟨nn, e1, _, w1⟩ := DataW.trod_int Tryz.underlying38 t1
  obtain ⟨z, e2, hx2, _⟩ := DataW.trod_string Tryz.underlying9 t2
  obtain ⟨sa, sc, L, e3, hL, hln, hrg⟩ := row_slotsF t3
  simp [ku64, kstr, kSlots] at e0 e1 e2 e3
  subst e0 e1 e2 e3
  refine ⟨⟨b, nn, z.data.toList, L⟩, ⟨sa, sc, rfl, hL⟩, fun hli => ⟨bd_u64 w0, bd_u64 w1, ?_, hln ?_, hrg⟩⟩
  · rw [hxx] at hli
    have hz : Light 9 y2.1 := (Light.part hs hli (j := 2) rfl (by simp [u2]))
    rw [hx2] at hz
    exact Nat.le_trans (hz _ (by simp [DataW.weights])) reach_le
  · rw [hxx] at hli
    exact (Light.part hs hli (j := 3) rfl (by simp [u3]))
set_option maxRecDepth 100000 in
theorem trod_compF {H : Type} {enc : TypeId × Value → H} {W : World} {spare : Nat → Bool} {held : Bool} {n : Nat} {cs : List Value} {x : DataW H × List MemPlace}
    (hf : DataW.trod enc Tryz.prog W 0 spare held n 52 cs = some x) : ∃ c : PComp, (∃ ra rc ka kc, cs = [.slice ra c.roots.length rc, .slice ka c.code.length kc] ∧ FIn 6 PRoot.vals W.heap.size W ra c.roots ∧ LIn W.heap.size W ka c.code) ∧ (Light 52 x.1 → c.Fit) := by
  have hs := Tryz.underlying52
  obtain ⟨xs, m, _, hxx, hcl, hl, hx⟩ := DataW.trod_struct hs hf
  obtain ⟨c0, c1, rfl⟩ := list_2 (hcl.trans cellsComp)
  have at_ : ∀ i, i < 2 → ∃ y, xs[i]? = some y := by
    intro i hi
    have : i < xs.length := by rw [hl]; simpa using hi
    exact ⟨xs[i], by simp [this]⟩
  obtain ⟨y0, t0⟩ := at_ 0 (by omega)
  have u0 := t0
  rw [← hx 0 _ rfl] at t0
  obtain ⟨y1, t1⟩ := at_ 1 (by omega)
  have u1 := t1
  rw [← hx 1 _ rfl] at t1
  have kRoots : Tryz.prog.cellsOf 49 = 1 := by kernel_rfl
  have kInsts : Tryz.prog.cellsOf 50 = 1 := by kernel_rfl
  obtain ⟨ra, rc, R, e0, hR, hlr, hrr⟩ := row_rootsF t0
  obtain ⟨ka, kc, K, e1, hK, hlk, hok⟩ := row_instsF t1
  simp [kRoots, kInsts] at e0 e1
  subst e0 e1
  refine ⟨⟨R, K⟩, ⟨ra, rc, ka, kc, rfl, hR, hK⟩, fun hli => ⟨hlr ?_, hlk ?_, hok, hrr⟩⟩
  · rw [hxx] at hli
    exact (Light.part hs hli (j := 0) rfl (by simp [u0]))
  · rw [hxx] at hli
    exact (Light.part hs hli (j := 1) rfl (by simp [u1]))
set_option maxRecDepth 100000 in
theorem trod_gateF {H : Type} {enc : TypeId × Value → H} {W : World} {spare : Nat → Bool} {held : Bool} {n : Nat} {cs : List Value} {x : DataW H × List MemPlace}
    (hf : DataW.trod enc Tryz.prog W 0 spare held n 55 cs = some x) : ∃ g : PGate, (∃ xa xc ya yc, cs = [.int .i64 g.c, .int .i64 g.e, .slice xa g.args.length xc, .slice ya g.res.length yc] ∧ FIn 7 PTyp.vals W.heap.size W xa g.args ∧ FIn 7 PTyp.vals W.heap.size W ya g.res) ∧ (Light 55 x.1 → g.Fit) := by
  have hs := Tryz.underlying55
  obtain ⟨xs, m, _, hxx, hcl, hl, hx⟩ := DataW.trod_struct hs hf
  obtain ⟨c0, c1, c2, c3, rfl⟩ := list_4 (hcl.trans cellsGate)
  have at_ : ∀ i, i < 4 → ∃ y, xs[i]? = some y := by
    intro i hi
    have : i < xs.length := by rw [hl]; simpa using hi
    exact ⟨xs[i], by simp [this]⟩
  obtain ⟨y0, t0⟩ := at_ 0 (by omega)
  rw [← hx 0 _ rfl] at t0
  obtain ⟨y1, t1⟩ := at_ 1 (by omega)
  rw [← hx 1 _ rfl] at t1
  obtain ⟨y2, t2⟩ := at_ 2 (by omega)
  have u2 := t2
  rw [← hx 2 _ rfl] at t2
  obtain ⟨y3, t3⟩ := at_ 3 (by omega)
  have u3 := t3
  rw [← hx 3 _ rfl] at t3
  have kint : Tryz.prog.cellsOf 3 = 1 := by kernel_rfl
  have kTypes : Tryz.prog.cellsOf 53 = 1 := by kernel_rfl
  obtain ⟨c, e0, _, w0⟩ := DataW.trod_int Tryz.underlying3 t0
  obtain ⟨e, e1, _, w1⟩ := DataW.trod_int Tryz.underlying3 t1
  obtain ⟨xa, xc, X, e2, hX, hlx, hrx⟩ := row_typesF t2
  obtain ⟨ya, yc, Y, e3, hY, hly, hry⟩ := row_typesF t3
  simp [kint, kTypes] at e0 e1 e2 e3
  subst e0 e1 e2 e3
  refine ⟨⟨c, e, X, Y⟩, ⟨xa, xc, ya, yc, rfl, hX, hY⟩, fun hli => ⟨bd_i64 w0, bd_i64 w1, hlx ?_, hly ?_, hrx, hry⟩⟩
  · rw [hxx] at hli
    exact (Light.part hs hli (j := 2) rfl (by simp [u2]))
  · rw [hxx] at hli
    exact (Light.part hs hli (j := 3) rfl (by simp [u3]))
theorem row_regsF {H : Type} {enc : TypeId × Value → H} {W : World} {spare : Nat → Bool} {held : Bool} {n : Nat} {cs : List Value} {x : DataW H × List MemPlace}
    (hf : DataW.trod enc Tryz.prog W 0 spare held n 22 cs = some x) : ∃ (a : Option Addr) (cap : Nat) (L : List PReg), cs = [.slice a L.length cap] ∧ RegIn W.heap.size W a L ∧ (Light 22 x.1 → L.length * 56 ≤ reachBytes ∧ ∀ r ∈ L, r.Fit) := by
  obtain ⟨a, cap, L, e, hL, hr⟩ := open_rows (Q := fun cs (r : PReg) => ∃ sa sc, cs = [.int .u64 r.b, .int .u64 r.n, .string (str r.data), .slice sa r.slots.length sc] ∧ FIn 8 PSlot.vals W.heap.size W sa r.slots) (Rg := fun r => r.Fit) Tryz.underlying22 cellsRegion (by omega) (fun _ _ _ h => trod_regF h) hf
  refine ⟨a, cap, L, e, fun i hi => ?_, fun hli => ⟨by have := (hr hli).1; rwa [bytesRegionF] at this, (hr hli).2⟩⟩
  obtain ⟨b, off, ha, hb, cs', ⟨sa, sc, rfl, hF⟩, hc⟩ := hL i hi
  exact ⟨b, off, sa, sc, ha, hb, hb, hc 0 (by omega), hc 1 (by omega), hc 2 (by omega), hc 3 (by omega), hF⟩
theorem row_compsF {H : Type} {enc : TypeId × Value → H} {W : World} {spare : Nat → Bool} {held : Bool} {n : Nat} {cs : List Value} {x : DataW H × List MemPlace}
    (hf : DataW.trod enc Tryz.prog W 0 spare held n 23 cs = some x) : ∃ (a : Option Addr) (cap : Nat) (L : List PComp), cs = [.slice a L.length cap] ∧ CompIn W.heap.size W a L ∧ (Light 23 x.1 → L.length * 48 ≤ reachBytes ∧ ∀ r ∈ L, r.Fit) := by
  obtain ⟨a, cap, L, e, hL, hr⟩ := open_rows (Q := fun cs (r : PComp) => ∃ ra rc ka kc, cs = [.slice ra r.roots.length rc, .slice ka r.code.length kc] ∧ FIn 6 PRoot.vals W.heap.size W ra r.roots ∧ LIn W.heap.size W ka r.code) (Rg := fun r => r.Fit) Tryz.underlying23 cellsComp (by omega) (fun _ _ _ h => trod_compF h) hf
  refine ⟨a, cap, L, e, fun i hi => ?_, fun hli => ⟨by have := (hr hli).1; rwa [bytesCompF] at this, (hr hli).2⟩⟩
  obtain ⟨b, off, ha, hb, cs', ⟨ra, rc, ka, kc, rfl, hR, hK⟩, hc⟩ := hL i hi
  exact ⟨b, off, ra, rc, ka, kc, ha, hb, hb, hc 0 (by omega), hc 1 (by omega), hR, hK⟩
theorem row_gatesF {H : Type} {enc : TypeId × Value → H} {W : World} {spare : Nat → Bool} {held : Bool} {n : Nat} {cs : List Value} {x : DataW H × List MemPlace}
    (hf : DataW.trod enc Tryz.prog W 0 spare held n 24 cs = some x) : ∃ (a : Option Addr) (cap : Nat) (L : List PGate), cs = [.slice a L.length cap] ∧ GateIn W.heap.size W a L ∧ (Light 24 x.1 → L.length * 64 ≤ reachBytes ∧ ∀ r ∈ L, r.Fit) := by
  obtain ⟨a, cap, L, e, hL, hr⟩ := open_rows (Q := fun cs (r : PGate) => ∃ xa xc ya yc, cs = [.int .i64 r.c, .int .i64 r.e, .slice xa r.args.length xc, .slice ya r.res.length yc] ∧ FIn 7 PTyp.vals W.heap.size W xa r.args ∧ FIn 7 PTyp.vals W.heap.size W ya r.res) (Rg := fun r => r.Fit) Tryz.underlying24 cellsGate (by omega) (fun _ _ _ h => trod_gateF h) hf
  refine ⟨a, cap, L, e, fun i hi => ?_, fun hli => ⟨by have := (hr hli).1; rwa [bytesGateF] at this, (hr hli).2⟩⟩
  obtain ⟨b, off, ha, hb, cs', ⟨xa, xc, ya, yc, rfl, hX, hY⟩, hc⟩ := hL i hi
  exact ⟨b, off, xa, xc, ya, yc, ha, hb, hb, hc 0 (by omega), hc 1 (by omega), hc 2 (by omega), hc 3 (by omega), hX, hY⟩
set_option maxRecDepth 100000 in
theorem trod_imgF {H : Type} {enc : TypeId × Value → H} {W : World} {spare : Nat → Bool} {held : Bool} {n : Nat} {cs : List Value} {x : DataW H × List MemPlace}
    (hf : DataW.trod enc Tryz.prog W 0 spare held n 26 cs = some x) : ∃ (m : PImg) (ra : Option Addr) (rc : Nat) (ca : Option Addr) (cc : Nat) (ga : Option Addr) (gc : Nat), cs = [.slice ra m.regs.length rc, .slice ca m.comps.length cc, .slice ga m.gates.length gc, .int .i64 m.depth] ∧ ImgIn W.heap.size W ra ca ga m ∧ (Light 26 x.1 → m.Fit) := by
  have hs := Tryz.underlying26
  obtain ⟨xs, m, _, hxx, hcl, hl, hx⟩ := DataW.trod_struct hs hf
  obtain ⟨c0, c1, c2, c3, rfl⟩ := list_4 (hcl.trans cellsImage)
  have at_ : ∀ i, i < 4 → ∃ y, xs[i]? = some y := by
    intro i hi
    have : i < xs.length := by rw [hl]; simpa using hi
    exact ⟨xs[i], by simp [this]⟩
  obtain ⟨y0, t0⟩ := at_ 0 (by omega)
  have u0 := t0
  rw [← hx 0 _ rfl] at t0
  obtain ⟨y1, t1⟩ := at_ 1 (by omega)
  have u1 := t1
  rw [← hx 1 _ rfl] at t1
  obtain ⟨y2, t2⟩ := at_ 2 (by omega)
  have u2 := t2
  rw [← hx 2 _ rfl] at t2
  obtain ⟨y3, t3⟩ := at_ 3 (by omega)
  rw [← hx 3 _ rfl] at t3
  have kRegions : Tryz.prog.cellsOf 22 = 1 := by kernel_rfl
  have kComps : Tryz.prog.cellsOf 23 = 1 := by kernel_rfl
  have kGates : Tryz.prog.cellsOf 24 = 1 := by kernel_rfl
  have kint : Tryz.prog.cellsOf 3 = 1 := by kernel_rfl
  obtain ⟨ra, rc, R, e0, hR, hr⟩ := row_regsF t0
  obtain ⟨ca, cc, C, e1, hC, hc⟩ := row_compsF t1
  obtain ⟨ga, gc, G, e2, hG, hg⟩ := row_gatesF t2
  obtain ⟨d, e3, _, w3⟩ := DataW.trod_int Tryz.underlying3 t3
  simp [kRegions, kComps, kGates, kint] at e0 e1 e2 e3
  subst e0 e1 e2 e3
  refine ⟨⟨R, C, G, d⟩, ra, rc, ca, cc, ga, gc, rfl, ⟨hR, hC, hG⟩, fun hli => ⟨hr ?_, hc ?_, hg ?_, bd_i64 w3⟩⟩
  · rw [hxx] at hli
    exact (Light.part hs hli (j := 0) rfl (by simp [u0]))
  · rw [hxx] at hli
    exact (Light.part hs hli (j := 1) rfl (by simp [u1]))
  · rw [hxx] at hli
    exact (Light.part hs hli (j := 2) rfl (by simp [u2]))
set_option maxRecDepth 100000 in
theorem open_imgF {H : Type} {enc : TypeId × Value → H} {W : World} {r : Reach} {base : Nat} {spare : Nat → Bool} {held : Bool} {v : Value} {d : DataW H} {ps : List MemPlace}
    (hv : Value.okWide Tryz.prog W r base 26 v) (h : DataW.Trod enc Tryz.prog W 0 spare held 26 v d ps) :
    ∃ (m : PImg) (ra : Option Addr) (rc : Nat) (ca : Option Addr) (cc : Nat) (ga : Option Addr) (gc : Nat), v = .agg #[.slice ra m.regs.length rc, .slice ca m.comps.length cc, .slice ga m.gates.length gc, .int .i64 m.depth] ∧ ImgIn W.heap.size W ra ca ga m ∧ (Light 26 d → m.Fit) := by
  obtain ⟨cs, rfl, _⟩ := okWide_struct Tryz.underlying26 hv
  obtain ⟨fuel, hf⟩ := h
  obtain ⟨m, ra, rc, ca, cc, ga, gc, e, hI, hr⟩ := trod_imgF hf
  refine ⟨m, ra, rc, ca, cc, ga, gc, ?_, hI, hr⟩
  obtain ⟨l⟩ := cs
  have e' : l = _ := e
  rw [e']
end Go.Proofs.YtmmakknhaacplaaGreatDoor


/-
  Stage 4, image: the writer's text and put.
-/
namespace Go.Proofs.YtmmakknhaacplaaGreatDoor
open Go.RowKit

/-- The writer at block 'kw' has written these bytes; all that it has lies from block 'base' on. -/
def WBox (w : World) (base kw : Nat) (B : List UInt8) : Prop := base ≤ kw ∧ ∃ v, w.heap[kw]? = some (.cells #[v] 60 (0, 0)) ∧ BOwn w base v B
theorem one_at {w : World} {k : Nat} {cs : Array Value} {t : TypeId} (h : w.heap[k]? = some (.cells cs t (0, 0))) : At w k cs := by
  refine ⟨(Array.getElem?_eq_some_iff.1 h).1, fun o => ?_, fun o => ?_⟩
  · simp only [World.cell?]; rw [h]; simp
  · simp only [World.frozen?]; rw [h]; simp
theorem own_ne {w : World} {base e size n k : Nat} {v : Value} {xs : List Value} {cs : Array Value} {t : TypeId} (h : w.ownsRow base e size v n xs) (hb : w.heap[k]? = some (.cells cs t (0, 0))) (ht : t ≠ e) : v.ownBlock ≠ some k := by
  intro he
  rcases h.2 with ⟨rfl, _⟩ | ⟨g, cap, cur, rfl, hbg, hg, _⟩
  · cases he
  · obtain rfl : g = k := by simpa [Value.ownBlock] using he
    rw [hb] at hg
    simp at hg
    exact ht hg.2
theorem WBox.lt {w : World} {base kw : Nat} {B : List UInt8} (h : WBox w base kw B) : base ≤ w.heap.size := by
  obtain ⟨h1, v, h2, _⟩ := h
  have := (Array.getElem?_eq_some_iff.1 h2).1
  omega
theorem WBox.below {w w1 : World} {base kw : Nat} {B : List UInt8} (h : WBox w base kw B) (hb : Below w.heap.size w w1) : WBox w1 base kw B := by
  obtain ⟨h1, v, h2, h3⟩ := h
  have hlt := (Array.getElem?_eq_some_iff.1 h2).1
  exact ⟨h1, v, (hb.block kw hlt).trans h2, own_below h3 hb⟩
theorem own_form {w : World} {base : Nat} {v : Value} {B : List UInt8} (h : BOwn w base v B) : ∃ a c, v = .slice a B.length c := by
  rcases h.2 with ⟨rfl, h0⟩ | ⟨g, cap, cur, rfl, _⟩
  · exact ⟨none, 0, by rw [h0]⟩
  · exact ⟨_, cap, rfl⟩
theorem strCells_str (s : List UInt8) : Lib.strCells (str s) = s.map byteV := by
  unfold Lib.strCells byteV str
  simp
/-- A text appended to bytes that the call owns. -/
theorem wpList_append_text {ops : Array Oper} {rest : List Oper} {o : Oper} {a : Act} {Q : Exit → Act → World → Prop} {w : World} (hgd : o.guard = none) (s x : Operand)
    (ho : o.op = .call { callee := .builtin .append, args := #[s, x], argTypes := #[58, 9] })
    (base : Nat) (v : Value) (B news : List UInt8) (hs : a.eval s = v) (hB : BOwn w base v B) (hx : a.eval x = .string (str news)) (hlen : B.length + news.length ≤ 140737488355328) (hbase : base ≤ w.heap.size)
    (h : ∀ v' w', BOwn w' base v' (B ++ news) → w.grownBy w' v.ownBlock → wpList Tryz.prog ops Q rest (a.put o.dst v') w') :
    wpList Tryz.prog ops Q (o :: rest) a w := by
  obtain ⟨i0, hi, hz0, hz1, hz2⟩ := info_parts infoByte
  have hsz := str_size news
  refine Lib.wpList_append_own_string _ hgd s x 58 9 ho base 5 i0 Tryz.underlying58 Tryz.underlying9 hi hz0 hz1 hz2
    v B.length (B.map byteV) hs hB (str news) hx (by rw [hsz]; unfold maxLen; omega) (by rw [hsz]; omega) hbase ?_
  intro v' w' h1 h2 _
  refine h v' w' ?_ h2
  unfold BOwn
  rw [List.length_append, List.map_append, ← strCells_str, ← hsz]
  exact h1
/-- The box is written anew behind an append. -/
theorem WBox.stored {w w1 : World} {base kw : Nat} {v v' : Value} {B B' : List UInt8} (hk : base ≤ kw) (h2 : w.heap[kw]? = some (.cells #[v] 60 (0, 0))) (h3 : BOwn w base v B) (hg : w.grownBy w1 v.ownBlock) (h4 : BOwn w1 base v' B') :
    At w1 kw #[v] ∧ WBox (w1.setCell ⟨kw, 0, none⟩ v') base kw B' ∧ Below base w (w1.setCell ⟨kw, 0, none⟩ v') := by
  have hne : (60 : Nat) ≠ 5 := by decide
  have hlt := (Array.getElem?_eq_some_iff.1 h2).1
  have hb1 : w1.heap[kw]? = some (.cells #[v] 60 (0, 0)) := (hg.block kw hlt (fun e => own_ne h3 h2 hne e.symm)).trans h2
  refine ⟨one_at hb1, ⟨hk, v', one_setCell hb1, ?_⟩, ?_⟩
  · exact ownsRow_setCell_other h4 (own_ne h4 hb1 hne) v'
  · exact (Below.of_grown hg (by omega) (fun g hq => (own_block h3 g hq).1)).setCell (p := ⟨kw, 0, none⟩) hk v'
end Go.Proofs.YtmmakknhaacplaaGreatDoor


/-
  Stage 4, image: the small calls: capabilities, types, places.
-/
namespace Go.Proofs.YtmmakknhaacplaaGreatDoor
open Go.RowKit

set_option maxHeartbeats 400000 in
theorem hasAll_any (h p : Int) (w : World) :
    Calls Tryz.prog 100 #[.int .u8 h, .int .u8 p] w fun x w' => x = .returned (.bool (hasB h p)) ∧ w = w' := by
  go_enter Tryz.func100, Tryz.ntmps100
  go_wp2
  go_ret
  exact ⟨rfl, rfl⟩
set_option maxHeartbeats 400000 in
theorem capRight_any (b e c p s : Int) (w : World) :
    Calls Tryz.prog 95 #[.agg #[.int .u64 b, .int .u64 e, .int .u64 c, .int .u8 p, .int .i64 s]] w fun x w' => x = .returned (.bool (rightB b e p s)) ∧ w.alloc (.cells #[.int .u64 b, .int .u64 e, .int .u64 c, .int .u8 p, .int .i64 s] 41) = w' := by
  go_enter Tryz.func95, Tryz.ntmps95
  go_wp2_with (go_at_call 100; refine (hasAll_any _ _ _).mono ?_; rintro x w' ⟨rfl, rfl⟩)
  all_goals
    go_ret
    refine ⟨ret_bool ?_, rfl⟩
    first | (refine right_last ?_ ?_ ?_ ?_ <;> assumption) | (refine right_false ?_; rintro ⟨h1, h2, h3, h4, h5⟩; first | omega | contradiction)
set_option maxHeartbeats 400000 in
theorem dataCap_any (b e c p s : Int) (w : World) :
    Calls Tryz.prog 83 #[.agg #[.int .u64 b, .int .u64 e, .int .u64 c, .int .u8 p, .int .i64 s]] w fun x w' => x = .returned (.bool (dataB b e p s)) ∧ Gr w w' := by
  unfold dataB
  generalize hr : rightB b e p s = r
  have hc := capRight_any b e c p s
  rw [hr] at hc
  clear hr
  cases r
  all_goals
    go_enter Tryz.func83, Tryz.ntmps83
    go_wp2_with (go_at_call 95; refine (hc _).mono ?_; rintro x w' ⟨rfl, rfl⟩)
    go_ret
    refine ⟨ret_bool (by simp), ?_⟩
    repeat (first | exact Gr.refl _ | refine Gr.alloc ?_ _)
set_option maxHeartbeats 400000 in
theorem CapOf_any (t : PTyp) (c : Int) (w : World) :
    Calls Tryz.prog 94 #[.agg #[.bool t.cap, .int .u64 t.b, .int .u64 t.e, .int .u64 t.lo, .int .u64 t.hi, .int .u8 t.p, .int .i64 t.s], .int .u64 c] w fun x w' => x = .returned (.agg #[.int .u64 t.b, .int .u64 t.e, .int .u64 c, .int .u8 t.p, .int .i64 t.s]) ∧ Gr w w' := by
  go_enter Tryz.func94, Tryz.ntmps94
  go_wp2
  all_goals
    simp [bodyPost, results, Tryz.results94, go_sem]
    repeat (first | exact Gr.refl _ | refine Gr.alloc ?_ _)
set_option maxHeartbeats 400000 in
theorem pointsWithin_any (t : PTyp) (c : Int) (w : World) :
    Calls Tryz.prog 82 #[.agg #[.bool t.cap, .int .u64 t.b, .int .u64 t.e, .int .u64 t.lo, .int .u64 t.hi, .int .u8 t.p, .int .i64 t.s], .int .u64 c] w fun x w' => x = .returned (.bool (inLH t.lo t.hi c)) ∧ Gr w w' := by
  go_enter Tryz.func82, Tryz.ntmps82
  go_wp2
  all_goals
    go_ret
    refine ⟨ret_bool (by unfold inLH; simp_all <;> omega), ?_⟩
    repeat (first | exact Gr.refl _ | refine Gr.alloc ?_ _)
set_option maxHeartbeats 400000 in
theorem typeRight_any (t : PTyp) (w : World) :
    Calls Tryz.prog 81 #[.agg #[.bool t.cap, .int .u64 t.b, .int .u64 t.e, .int .u64 t.lo, .int .u64 t.hi, .int .u8 t.p, .int .i64 t.s]] w fun x w' => x = .returned (.bool t.right) ∧ Gr w w' := by
  have hc := CapOf_any t 0
  cases ht : t.cap with
  | false =>
    go_enter Tryz.func81, Tryz.ntmps81
    go_wp2
    all_goals
      go_ret
      refine ⟨ret_bool (by simp_all [PTyp.right]), ?_⟩
      (with_reducible repeat (first | exact Gr.refl _ | refine Gr.alloc ?_ _ | refine Gr.grow ?_ _ | refine Gr.drew ?_ | refine Gr.setCell ?_ _ _ _ (gr_size ?_)))
  | true =>
    rw [ht] at hc
    have hd := dataCap_any t.b t.e 0 t.p t.s
    have e : t.right = (dataB t.b t.e t.p t.s && decide (t.lo ≤ t.hi)) := by simp [PTyp.right, ht]
    rw [e]
    clear e ht
    generalize dataB t.b t.e t.p t.s = q at hd ⊢
    have L1 := grow_cell; have L2 := grow_frozen; have L3 := grow_set; have L4 := grow_lt; have L5 := glt1; have L6 := glt2; have L7 := glt3; have L8 := glt4; have L9 := glt5; have L10 := glt6; have L11 := lt1; have L12 := lt2; have L13 := lt3; have L14 := lt4; have L15 := lt5; have L16 := lt6; have L17 := lt7; have L18 := lt8
    cases q
    all_goals
      go_enter Tryz.func81, Tryz.ntmps81
      go_wp2_with (first | (go_at_call 94; refine (hc _).mono ?_; rintro x w' ⟨rfl, hG⟩; (repeat (replace hG := Gr.of_grow hG)); obtain ⟨l, rfl⟩ := hG) | (go_at_call 83; refine (hd _).mono ?_; rintro x w' ⟨rfl, hG⟩; (repeat (replace hG := Gr.of_grow hG)); obtain ⟨l, rfl⟩ := hG))
      go_ret
      refine ⟨ret_bool (by simp), ?_⟩
      (with_reducible repeat (first | exact Gr.refl _ | refine Gr.alloc ?_ _ | refine Gr.grow ?_ _ | refine Gr.drew ?_ | refine Gr.setCell ?_ _ _ _ (gr_size ?_)))
set_option maxHeartbeats 400000 in
theorem targetThere_any (k : Ins) (code gates : Int) (w : World) (h0 : 0 ≤ k.op) (h1 : k.op < 256) :
    Calls Tryz.prog 85 #[.agg #[.int .u8 k.op, .int .i64 k.a, .int .i64 k.b, .int .i64 k.c, .int .i64 k.m], .int .i64 code, .int .i64 gates] w fun x w' => x = .returned (.bool (tgtB k.op k.m code gates)) ∧ Gr w w' := by
  go_enter Tryz.func85, Tryz.ntmps85
  go_wp2
  all_goals
    go_ret
    refine ⟨ret_bool (by unfold tgtB; simp_all <;> omega), ?_⟩
    (with_reducible repeat (first | exact Gr.refl _ | refine Gr.alloc ?_ _ | refine Gr.grow ?_ _ | refine Gr.drew ?_ | refine Gr.setCell ?_ _ _ _ (gr_size ?_)))
set_option maxHeartbeats 1000000 in
theorem placeRight_any (b n f : Int) (d : ByteArray) (a : Option Addr) (k c : Nat) (w : World) (hb : W64 b) (hn : W64 n) :
    Calls Tryz.prog 54 #[.agg #[.int .u64 b, .int .u64 n, .string d, .slice a k c], .int .u64 f] w fun x w' => x = .returned (.bool (placeB b n f)) ∧ Gr w w' := by
  obtain ⟨b0, b1⟩ := hb
  obtain ⟨n0, n1⟩ := hn
  have m1 : b.tmod 16 = b % 16 := Int.tmod_eq_emod_of_nonneg b0
  have m2 : n.tmod 16 = n % 16 := Int.tmod_eq_emod_of_nonneg n0
  by_cases h6 : b < 65536
  · have m3 : IntKind.u64.wrap (65536 - b) = 65536 - b := by rw [IntKind.wrap_u64]; omega
    go_enter Tryz.func54, Tryz.ntmps54
    go_wp2
    all_goals
      go_ret
      refine ⟨ret_bool (by unfold placeB; simp_all <;> first | rfl | omega), ?_⟩
      (with_reducible repeat (first | exact Gr.refl _ | refine Gr.alloc ?_ _ | refine Gr.grow ?_ _ | refine Gr.drew ?_ | refine Gr.setCell ?_ _ _ _ (gr_size ?_)))
  · go_enter Tryz.func54, Tryz.ntmps54
    go_wp2
    all_goals
      go_ret
      refine ⟨ret_bool (by unfold placeB; simp_all <;> first | rfl | omega), ?_⟩
      (with_reducible repeat (first | exact Gr.refl _ | refine Gr.alloc ?_ _ | refine Gr.grow ?_ _ | refine Gr.drew ?_ | refine Gr.setCell ?_ _ _ _ (gr_size ?_)))
set_option maxHeartbeats 1000000 in
theorem slotRight_any (k : PSlot) (w : World) :
    Calls Tryz.prog 56 #[.agg #[.bool k.t.cap, .int .u64 k.t.b, .int .u64 k.t.e, .int .u64 k.t.lo, .int .u64 k.t.hi, .int .u8 k.t.p, .int .i64 k.t.s, .int .u64 k.c]] w fun x w' => x = .returned (.bool k.right) ∧ Gr w w' := by
  have ht := typeRight_any k.t
  have hp := pointsWithin_any k.t k.c
  unfold PSlot.right
  generalize k.t.right = q1 at ht ⊢
  generalize inLH k.t.lo k.t.hi k.c = q2 at hp ⊢
  generalize k.t.cap = q0 at ht hp ⊢
  have L1 := grow_cell; have L2 := grow_frozen; have L3 := grow_set; have L4 := grow_lt; have L5 := glt1; have L6 := glt2; have L7 := glt3; have L8 := glt4; have L9 := glt5; have L10 := glt6; have L11 := lt1; have L12 := lt2; have L13 := lt3; have L14 := lt4; have L15 := lt5; have L16 := lt6; have L17 := lt7; have L18 := lt8
  cases q0
  · go_enter Tryz.func56, Tryz.ntmps56
    go_wp2
    go_ret
    refine ⟨ret_bool (by simp), ?_⟩
    (with_reducible repeat (first | exact Gr.refl _ | refine Gr.alloc ?_ _ | refine Gr.grow ?_ _ | refine Gr.drew ?_ | refine Gr.setCell ?_ _ _ _ (gr_size ?_)))
  · cases q1
    all_goals
      go_enter Tryz.func56, Tryz.ntmps56
      go_wp2_with (first | (go_at_call 81; refine (ht _).mono ?_; rintro x w' ⟨rfl, hG⟩; (repeat (replace hG := Gr.of_grow hG)); obtain ⟨l, rfl⟩ := hG) | (go_at_call 82; refine (hp _).mono ?_; rintro x w' ⟨rfl, hG⟩; (repeat (replace hG := Gr.of_grow hG)); obtain ⟨l, rfl⟩ := hG))
      go_ret
      refine ⟨ret_bool (by simp), ?_⟩
      (with_reducible repeat (first | exact Gr.refl _ | refine Gr.alloc ?_ _ | refine Gr.grow ?_ _ | refine Gr.drew ?_ | refine Gr.setCell ?_ _ _ _ (gr_size ?_)))
end Go.Proofs.YtmmakknhaacplaaGreatDoor
