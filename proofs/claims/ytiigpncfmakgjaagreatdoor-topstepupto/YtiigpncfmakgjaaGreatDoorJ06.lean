import Derived.Test.YtiigpncfmakgjaaGreatDoorJ05
namespace Go.Proofs.YtiigpncfmakgjaaGreatDoor
namespace Q
open Go.RowKit

end Q
end Go.Proofs.YtiigpncfmakgjaaGreatDoor


namespace Go.Proofs.YtiigpncfmakgjaaGreatDoor
set_option maxRecDepth 100000
set_option maxHeartbeats 40000000
open Go.ChangeShapes Go.WideShapes Go.ChangeAt Go.RowKit Go.Deep

def PReg.Fit (r : PReg) : Prop := W64 r.b ∧ W64 r.n ∧ r.data.length ≤ maxG ∧ r.slots.length * 64 ≤ reachBytes ∧ ∀ k ∈ r.slots, k.Rng
def PComp.Fit (c : PComp) : Prop := c.roots.length * 48 ≤ reachBytes ∧ c.code.length * 40 ≤ reachBytes ∧ OpsIn c.code ∧ ∀ k ∈ c.roots, k.Rng
def PGate.Fit (g : PGate) : Prop := J64 g.c ∧ J64 g.e ∧ g.args.length * 56 ≤ reachBytes ∧ g.res.length * 56 ≤ reachBytes ∧ (∀ k ∈ g.args, k.Rng) ∧ (∀ k ∈ g.res, k.Rng)
structure PImg.Fit (m : PImg) : Prop where
 regs : m.regs.length * 56 ≤ reachBytes ∧ ∀ r ∈ m.regs, r.Fit
 comps : m.comps.length * 48 ≤ reachBytes ∧ ∀ c ∈ m.comps, c.Fit
 gates : m.gates.length * 64 ≤ reachBytes ∧ ∀ g ∈ m.gates, g.Fit
 depth : J64 m.depth
theorem reach_is : reachBytes = 140737488351232 := by decide
theorem PReg.Fit.rng {r : PReg} (h : r.Fit) : r.Rng := ⟨h.1, h.2.1, h.2.2.1, long_le (k := 64) (by omega) h.2.2.2.1, h.2.2.2.2⟩
theorem PComp.Fit.rng {c : PComp} (h : c.Fit) : c.Rng := ⟨long_le (k := 48) (by omega) h.1, by have := h.2.1; rw [reach_is] at this; unfold maxI; omega, h.2.2⟩
theorem PGate.Fit.rng {g : PGate} (h : g.Fit) : g.Rng := ⟨h.1, h.2.1, long_le (k := 56) (by omega) h.2.2.1, long_le (k := 56) (by omega) h.2.2.2.1, h.2.2.2.2⟩
theorem PImg.Fit.rng {m : PImg} (h : m.Fit) : m.Rng := ⟨⟨long_le (k := 56) (by omega) h.regs.1, fun r q => (h.regs.2 r q).rng⟩, ⟨long_le (k := 48) (by omega) h.comps.1, fun r q => (h.comps.2 r q).rng⟩, ⟨long_le (k := 64) (by omega) h.gates.1, fun r q => (h.gates.2 r q).rng⟩, h.depth⟩
theorem bytesSlotF : Tryz.prog.bytesOf 126 = 64 := by kernel_rfl
theorem bytesTypeF : Tryz.prog.bytesOf 103 = 56 := by kernel_rfl
theorem bytesRootF : Tryz.prog.bytesOf 96 = 48 := by kernel_rfl
theorem bytesRegionF : Tryz.prog.bytesOf 94 = 56 := by kernel_rfl
theorem bytesCompF : Tryz.prog.bytesOf 53 = 48 := by kernel_rfl
theorem bytesGateF : Tryz.prog.bytesOf 56 = 64 := by kernel_rfl
theorem row_slotsF {H : Type} {enc : TypeId × Value → H} {W : World} {spare : Nat → Bool} {held : Bool} {n : Nat} {cs : List Value} {x : DataW H × List MemPlace}
   (hf : DataW.trod enc Tryz.prog W 0 spare held n 92 cs = some x) : ∃ (a : Option Addr) (cap : Nat) (L : List PSlot), cs = [.slice a L.length cap] ∧ FIn 8 PSlot.vals W.heap.size W a L ∧ (Light 92 x.1 → L.length * 64 ≤ reachBytes) ∧ ∀ r ∈ L, PSlot.Rng r := by
 obtain ⟨a, cap, L, e, hL, hr⟩ := open_rows (Q := fun cs (a : PSlot) => cs = PSlot.vals a ∧ PSlot.Rng a) (Rg := fun _ => True) Tryz.underlying92 cellsSlot (by omega) (fun _ _ _ h => by obtain ⟨a, h1, h2⟩ := trod_slot h; exact ⟨a, ⟨h1, h2⟩, fun _ => trivial⟩) hf
 refine ⟨a, cap, L, e, fun i hi => ?_, fun hli => by have := (hr hli).1; rwa [bytesSlotF] at this, fun r hm => ?_⟩
 · obtain ⟨b, off, ha, hb, cs', ⟨rfl, _⟩, hc⟩ := hL i hi
   exact ⟨b, off, ha, hb, hb, hc⟩
 · obtain ⟨i, hi, rfl⟩ := List.getElem_of_mem hm
   obtain ⟨b, off, ha, hb, cs', ⟨rfl, q⟩, hc⟩ := hL i hi
   exact q
theorem row_typesF {H : Type} {enc : TypeId × Value → H} {W : World} {spare : Nat → Bool} {held : Bool} {n : Nat} {cs : List Value} {x : DataW H × List MemPlace}
   (hf : DataW.trod enc Tryz.prog W 0 spare held n 54 cs = some x) : ∃ (a : Option Addr) (cap : Nat) (L : List PTyp), cs = [.slice a L.length cap] ∧ FIn 7 PTyp.vals W.heap.size W a L ∧ (Light 54 x.1 → L.length * 56 ≤ reachBytes) ∧ ∀ r ∈ L, PTyp.Rng r := by
 obtain ⟨a, cap, L, e, hL, hr⟩ := open_rows (Q := fun cs (a : PTyp) => cs = PTyp.vals a ∧ PTyp.Rng a) (Rg := fun _ => True) Tryz.underlying54 cellsType (by omega) (fun _ _ _ h => by obtain ⟨a, h1, h2⟩ := trod_typ h; exact ⟨a, ⟨h1, h2⟩, fun _ => trivial⟩) hf
 refine ⟨a, cap, L, e, fun i hi => ?_, fun hli => by have := (hr hli).1; rwa [bytesTypeF] at this, fun r hm => ?_⟩
 · obtain ⟨b, off, ha, hb, cs', ⟨rfl, _⟩, hc⟩ := hL i hi
   exact ⟨b, off, ha, hb, hb, hc⟩
 · obtain ⟨i, hi, rfl⟩ := List.getElem_of_mem hm
   obtain ⟨b, off, ha, hb, cs', ⟨rfl, q⟩, hc⟩ := hL i hi
   exact q
theorem row_rootsF {H : Type} {enc : TypeId × Value → H} {W : World} {spare : Nat → Bool} {held : Bool} {n : Nat} {cs : List Value} {x : DataW H × List MemPlace}
   (hf : DataW.trod enc Tryz.prog W 0 spare held n 50 cs = some x) : ∃ (a : Option Addr) (cap : Nat) (L : List PRoot), cs = [.slice a L.length cap] ∧ FIn 6 PRoot.vals W.heap.size W a L ∧ (Light 50 x.1 → L.length * 48 ≤ reachBytes) ∧ ∀ r ∈ L, PRoot.Rng r := by
 obtain ⟨a, cap, L, e, hL, hr⟩ := open_rows (Q := fun cs (a : PRoot) => cs = PRoot.vals a ∧ PRoot.Rng a) (Rg := fun _ => True) Tryz.underlying50 cellsRoot (by omega) (fun _ _ _ h => by obtain ⟨a, h1, h2⟩ := trod_root h; exact ⟨a, ⟨h1, h2⟩, fun _ => trivial⟩) hf
 refine ⟨a, cap, L, e, fun i hi => ?_, fun hli => by have := (hr hli).1; rwa [bytesRootF] at this, fun r hm => ?_⟩
 · obtain ⟨b, off, ha, hb, cs', ⟨rfl, _⟩, hc⟩ := hL i hi
   exact ⟨b, off, ha, hb, hb, hc⟩
 · obtain ⟨i, hi, rfl⟩ := List.getElem_of_mem hm
   obtain ⟨b, off, ha, hb, cs', ⟨rfl, q⟩, hc⟩ := hL i hi
   exact q
theorem row_instsF {H : Type} {enc : TypeId × Value → H} {W : World} {spare : Nat → Bool} {held : Bool} {n : Nat} {cs : List Value} {x : DataW H × List MemPlace}
   (hf : DataW.trod enc Tryz.prog W 0 spare held n 51 cs = some x) : ∃ (a : Option Addr) (cap : Nat) (L : List Ins), cs = [.slice a L.length cap] ∧ LIn W.heap.size W a L ∧ (Light 51 x.1 → L.length * 40 ≤ reachBytes) ∧ OpsIn L := by
 obtain ⟨a, cap, L, e, hL, hr⟩ := open_rows (Q := fun cs (a : Ins) => cs = a.vals ∧ (0 ≤ a.op ∧ a.op < 256)) (Rg := fun _ => True) Tryz.underlying51 cellsInst (by omega) (fun _ _ _ h => by obtain ⟨a, h1, h2, _⟩ := trod_inst h; exact ⟨a, ⟨h1, h2⟩, fun _ => trivial⟩) hf
 refine ⟨a, cap, L, e, fun i hi => ?_, fun hli => ?_, fun r hm => ?_⟩
 · obtain ⟨b, off, ha, hb, cs', ⟨rfl, _⟩, hc⟩ := hL i hi
   exact ⟨b, off, ha, hb, hb, hc 0 (by omega), hc 1 (by omega), hc 2 (by omega), hc 3 (by omega), hc 4 (by omega)⟩
 · have := (hr hli).1
   rwa [bytesInst] at this
 · obtain ⟨i, hi, rfl⟩ := List.getElem_of_mem hm
   obtain ⟨b, off, ha, hb, cs', ⟨rfl, q⟩, hc⟩ := hL i hi
   exact q
theorem trod_regF {H : Type} {enc : TypeId × Value → H} {W : World} {spare : Nat → Bool} {held : Bool} {n : Nat} {cs : List Value} {x : DataW H × List MemPlace}
   (hf : DataW.trod enc Tryz.prog W 0 spare held n 94 cs = some x) : ∃ r : PReg, (∃ sa sc, cs = [.int .u64 r.b, .int .u64 r.n, .string (str r.data), .slice sa r.slots.length sc] ∧ FIn 8 PSlot.vals W.heap.size W sa r.slots) ∧ (Light 94 x.1 → r.Fit) := by
 have hs := Tryz.underlying94
 obtain ⟨xs, m, _, hxx, hcl, hl, hx⟩ := DataW.trod_struct hs hf
 obtain ⟨c0, c1, c2, c3, rfl⟩ := list_4 (hcl.trans cellsRegion)
 have at_ : ∀ i, i < 4 → ∃ y, xs[i]? = some y := by
   intro i hi
   have : i < xs.length := by rw [hl]; simpa using hi
   exact ⟨xs[i], by simp [this]⟩
 obtain ⟨y0, t0⟩ := at_ 0 (by omega)
 rw [← hx 0 _ rfl] at t0
 obtain ⟨y1, t1⟩ := at_ 1 (by omega)
 rw [← hx 1 _ rfl] at t1
 obtain ⟨y2, t2⟩ := at_ 2 (by omega)
 have u2 := t2
 rw [← hx 2 _ rfl] at t2
 obtain ⟨y3, t3⟩ := at_ 3 (by omega)
 have u3 := t3
 rw [← hx 3 _ rfl] at t3
 have ku64 : Tryz.prog.cellsOf 32 = 1 := by kernel_rfl
 have kstr : Tryz.prog.cellsOf 9 = 1 := by kernel_rfl
 have kSlots : Tryz.prog.cellsOf 92 = 1 := by kernel_rfl
 obtain ⟨b, e0, _, w0⟩ := DataW.trod_int Tryz.underlying32 t0
 obtain ⟨nn, e1, _, w1⟩ := DataW.trod_int Tryz.underlying32 t1
 obtain ⟨z, e2, hx2, _⟩ := DataW.trod_string Tryz.underlying9 t2
 obtain ⟨sa, sc, L, e3, hL, hln, hrg⟩ := row_slotsF t3
 simp [ku64, kstr, kSlots] at e0 e1 e2 e3
 subst e0 e1 e2 e3
 refine ⟨⟨b, nn, z.data.toList, L⟩, ⟨sa, sc, rfl, hL⟩, fun hli => ⟨bd_u64 w0, bd_u64 w1, ?_, hln ?_, hrg⟩⟩
 · rw [hxx] at hli
   have hz : Light 9 y2.1 := (Light.part hs hli (j := 2) rfl (by simp [u2]))
   rw [hx2] at hz
   exact Nat.le_trans (hz _ (by simp [DataW.weights])) reach_le
 · rw [hxx] at hli
   exact (Light.part hs hli (j := 3) rfl (by simp [u3]))
theorem trod_compF {H : Type} {enc : TypeId × Value → H} {W : World} {spare : Nat → Bool} {held : Bool} {n : Nat} {cs : List Value} {x : DataW H × List MemPlace}
   (hf : DataW.trod enc Tryz.prog W 0 spare held n 53 cs = some x) : ∃ c : PComp, (∃ ra rc ka kc, cs = [.slice ra c.roots.length rc, .slice ka c.code.length kc] ∧ FIn 6 PRoot.vals W.heap.size W ra c.roots ∧ LIn W.heap.size W ka c.code) ∧ (Light 53 x.1 → c.Fit) := by
 have hs := Tryz.underlying53
 obtain ⟨xs, m, _, hxx, hcl, hl, hx⟩ := DataW.trod_struct hs hf
 obtain ⟨c0, c1, rfl⟩ := list_2 (hcl.trans cellsComp)
 have at_ : ∀ i, i < 2 → ∃ y, xs[i]? = some y := by
   intro i hi
   have : i < xs.length := by rw [hl]; simpa using hi
   exact ⟨xs[i], by simp [this]⟩
 obtain ⟨y0, t0⟩ := at_ 0 (by omega)
 have u0 := t0
 rw [← hx 0 _ rfl] at t0
 obtain ⟨y1, t1⟩ := at_ 1 (by omega)
 have u1 := t1
 rw [← hx 1 _ rfl] at t1
 have kRoots : Tryz.prog.cellsOf 50 = 1 := by kernel_rfl
 have kInsts : Tryz.prog.cellsOf 51 = 1 := by kernel_rfl
 obtain ⟨ra, rc, R, e0, hR, hlr, hrr⟩ := row_rootsF t0
 obtain ⟨ka, kc, K, e1, hK, hlk, hok⟩ := row_instsF t1
 simp [kRoots, kInsts] at e0 e1
 subst e0 e1
 refine ⟨⟨R, K⟩, ⟨ra, rc, ka, kc, rfl, hR, hK⟩, fun hli => ⟨hlr ?_, hlk ?_, hok, hrr⟩⟩
 · rw [hxx] at hli
   exact (Light.part hs hli (j := 0) rfl (by simp [u0]))
 · rw [hxx] at hli
   exact (Light.part hs hli (j := 1) rfl (by simp [u1]))
theorem trod_gateF {H : Type} {enc : TypeId × Value → H} {W : World} {spare : Nat → Bool} {held : Bool} {n : Nat} {cs : List Value} {x : DataW H × List MemPlace}
   (hf : DataW.trod enc Tryz.prog W 0 spare held n 56 cs = some x) : ∃ g : PGate, (∃ xa xc ya yc, cs = [.int .i64 g.c, .int .i64 g.e, .slice xa g.args.length xc, .slice ya g.res.length yc] ∧ FIn 7 PTyp.vals W.heap.size W xa g.args ∧ FIn 7 PTyp.vals W.heap.size W ya g.res) ∧ (Light 56 x.1 → g.Fit) := by
 have hs := Tryz.underlying56
 obtain ⟨xs, m, _, hxx, hcl, hl, hx⟩ := DataW.trod_struct hs hf
 obtain ⟨c0, c1, c2, c3, rfl⟩ := list_4 (hcl.trans cellsGate)
 have at_ : ∀ i, i < 4 → ∃ y, xs[i]? = some y := by
   intro i hi
   have : i < xs.length := by rw [hl]; simpa using hi
   exact ⟨xs[i], by simp [this]⟩
 obtain ⟨y0, t0⟩ := at_ 0 (by omega)
 rw [← hx 0 _ rfl] at t0
 obtain ⟨y1, t1⟩ := at_ 1 (by omega)
 rw [← hx 1 _ rfl] at t1
 obtain ⟨y2, t2⟩ := at_ 2 (by omega)
 have u2 := t2
 rw [← hx 2 _ rfl] at t2
 obtain ⟨y3, t3⟩ := at_ 3 (by omega)
 have u3 := t3
 rw [← hx 3 _ rfl] at t3
 have kint : Tryz.prog.cellsOf 3 = 1 := by kernel_rfl
 have kTypes : Tryz.prog.cellsOf 54 = 1 := by kernel_rfl
 obtain ⟨c, e0, _, w0⟩ := DataW.trod_int Tryz.underlying3 t0
 obtain ⟨e, e1, _, w1⟩ := DataW.trod_int Tryz.underlying3 t1
 obtain ⟨xa, xc, X, e2, hX, hlx, hrx⟩ := row_typesF t2
 obtain ⟨ya, yc, Y, e3, hY, hly, hry⟩ := row_typesF t3
 simp [kint, kTypes] at e0 e1 e2 e3
 subst e0 e1 e2 e3
 refine ⟨⟨c, e, X, Y⟩, ⟨xa, xc, ya, yc, rfl, hX, hY⟩, fun hli => ⟨bd_i64 w0, bd_i64 w1, hlx ?_, hly ?_, hrx, hry⟩⟩
 · rw [hxx] at hli
   exact (Light.part hs hli (j := 2) rfl (by simp [u2]))
 · rw [hxx] at hli
   exact (Light.part hs hli (j := 3) rfl (by simp [u3]))
theorem row_regsF {H : Type} {enc : TypeId × Value → H} {W : World} {spare : Nat → Bool} {held : Bool} {n : Nat} {cs : List Value} {x : DataW H × List MemPlace}
   (hf : DataW.trod enc Tryz.prog W 0 spare held n 22 cs = some x) : ∃ (a : Option Addr) (cap : Nat) (L : List PReg), cs = [.slice a L.length cap] ∧ RegIn W.heap.size W a L ∧ (Light 22 x.1 → L.length * 56 ≤ reachBytes ∧ ∀ r ∈ L, r.Fit) := by
 obtain ⟨a, cap, L, e, hL, hr⟩ := open_rows (Q := fun cs (r : PReg) => ∃ sa sc, cs = [.int .u64 r.b, .int .u64 r.n, .string (str r.data), .slice sa r.slots.length sc] ∧ FIn 8 PSlot.vals W.heap.size W sa r.slots) (Rg := fun r => r.Fit) Tryz.underlying22 cellsRegion (by omega) (fun _ _ _ h => trod_regF h) hf
 refine ⟨a, cap, L, e, fun i hi => ?_, fun hli => ⟨by have := (hr hli).1; rwa [bytesRegionF] at this, (hr hli).2⟩⟩
 obtain ⟨b, off, ha, hb, cs', ⟨sa, sc, rfl, hF⟩, hc⟩ := hL i hi
 exact ⟨b, off, sa, sc, ha, hb, hb, hc 0 (by omega), hc 1 (by omega), hc 2 (by omega), hc 3 (by omega), hF⟩
theorem row_compsF {H : Type} {enc : TypeId × Value → H} {W : World} {spare : Nat → Bool} {held : Bool} {n : Nat} {cs : List Value} {x : DataW H × List MemPlace}
   (hf : DataW.trod enc Tryz.prog W 0 spare held n 23 cs = some x) : ∃ (a : Option Addr) (cap : Nat) (L : List PComp), cs = [.slice a L.length cap] ∧ CompIn W.heap.size W a L ∧ (Light 23 x.1 → L.length * 48 ≤ reachBytes ∧ ∀ r ∈ L, r.Fit) := by
 obtain ⟨a, cap, L, e, hL, hr⟩ := open_rows (Q := fun cs (r : PComp) => ∃ ra rc ka kc, cs = [.slice ra r.roots.length rc, .slice ka r.code.length kc] ∧ FIn 6 PRoot.vals W.heap.size W ra r.roots ∧ LIn W.heap.size W ka r.code) (Rg := fun r => r.Fit) Tryz.underlying23 cellsComp (by omega) (fun _ _ _ h => trod_compF h) hf
 refine ⟨a, cap, L, e, fun i hi => ?_, fun hli => ⟨by have := (hr hli).1; rwa [bytesCompF] at this, (hr hli).2⟩⟩
 obtain ⟨b, off, ha, hb, cs', ⟨ra, rc, ka, kc, rfl, hR, hK⟩, hc⟩ := hL i hi
 exact ⟨b, off, ra, rc, ka, kc, ha, hb, hb, hc 0 (by omega), hc 1 (by omega), hR, hK⟩
theorem row_gatesF {H : Type} {enc : TypeId × Value → H} {W : World} {spare : Nat → Bool} {held : Bool} {n : Nat} {cs : List Value} {x : DataW H × List MemPlace}
   (hf : DataW.trod enc Tryz.prog W 0 spare held n 24 cs = some x) : ∃ (a : Option Addr) (cap : Nat) (L : List PGate), cs = [.slice a L.length cap] ∧ GateIn W.heap.size W a L ∧ (Light 24 x.1 → L.length * 64 ≤ reachBytes ∧ ∀ r ∈ L, r.Fit) := by
 obtain ⟨a, cap, L, e, hL, hr⟩ := open_rows (Q := fun cs (r : PGate) => ∃ xa xc ya yc, cs = [.int .i64 r.c, .int .i64 r.e, .slice xa r.args.length xc, .slice ya r.res.length yc] ∧ FIn 7 PTyp.vals W.heap.size W xa r.args ∧ FIn 7 PTyp.vals W.heap.size W ya r.res) (Rg := fun r => r.Fit) Tryz.underlying24 cellsGate (by omega) (fun _ _ _ h => trod_gateF h) hf
 refine ⟨a, cap, L, e, fun i hi => ?_, fun hli => ⟨by have := (hr hli).1; rwa [bytesGateF] at this, (hr hli).2⟩⟩
 obtain ⟨b, off, ha, hb, cs', ⟨xa, xc, ya, yc, rfl, hX, hY⟩, hc⟩ := hL i hi
 exact ⟨b, off, xa, xc, ya, yc, ha, hb, hb, hc 0 (by omega), hc 1 (by omega), hc 2 (by omega), hc 3 (by omega), hX, hY⟩
theorem trod_imgF {H : Type} {enc : TypeId × Value → H} {W : World} {spare : Nat → Bool} {held : Bool} {n : Nat} {cs : List Value} {x : DataW H × List MemPlace}
   (hf : DataW.trod enc Tryz.prog W 0 spare held n 26 cs = some x) : ∃ (m : PImg) (ra : Option Addr) (rc : Nat) (ca : Option Addr) (cc : Nat) (ga : Option Addr) (gc : Nat), cs = [.slice ra m.regs.length rc, .slice ca m.comps.length cc, .slice ga m.gates.length gc, .int .i64 m.depth] ∧ ImgIn W.heap.size W ra ca ga m ∧ (Light 26 x.1 → m.Fit) := by
 have hs := Tryz.underlying26
 obtain ⟨xs, m, _, hxx, hcl, hl, hx⟩ := DataW.trod_struct hs hf
 obtain ⟨c0, c1, c2, c3, rfl⟩ := list_4 (hcl.trans cellsImage)
 have at_ : ∀ i, i < 4 → ∃ y, xs[i]? = some y := by
   intro i hi
   have : i < xs.length := by rw [hl]; simpa using hi
   exact ⟨xs[i], by simp [this]⟩
 obtain ⟨y0, t0⟩ := at_ 0 (by omega)
 have u0 := t0
 rw [← hx 0 _ rfl] at t0
 obtain ⟨y1, t1⟩ := at_ 1 (by omega)
 have u1 := t1
 rw [← hx 1 _ rfl] at t1
 obtain ⟨y2, t2⟩ := at_ 2 (by omega)
 have u2 := t2
 rw [← hx 2 _ rfl] at t2
 obtain ⟨y3, t3⟩ := at_ 3 (by omega)
 rw [← hx 3 _ rfl] at t3
 have kRegions : Tryz.prog.cellsOf 22 = 1 := by kernel_rfl
 have kComps : Tryz.prog.cellsOf 23 = 1 := by kernel_rfl
 have kGates : Tryz.prog.cellsOf 24 = 1 := by kernel_rfl
 have kint : Tryz.prog.cellsOf 3 = 1 := by kernel_rfl
 obtain ⟨ra, rc, R, e0, hR, hr⟩ := row_regsF t0
 obtain ⟨ca, cc, C, e1, hC, hc⟩ := row_compsF t1
 obtain ⟨ga, gc, G, e2, hG, hg⟩ := row_gatesF t2
 obtain ⟨d, e3, _, w3⟩ := DataW.trod_int Tryz.underlying3 t3
 simp [kRegions, kComps, kGates, kint] at e0 e1 e2 e3
 subst e0 e1 e2 e3
 refine ⟨⟨R, C, G, d⟩, ra, rc, ca, cc, ga, gc, rfl, ⟨hR, hC, hG⟩, fun hli => ⟨hr ?_, hc ?_, hg ?_, bd_i64 w3⟩⟩
 · rw [hxx] at hli
   exact (Light.part hs hli (j := 0) rfl (by simp [u0]))
 · rw [hxx] at hli
   exact (Light.part hs hli (j := 1) rfl (by simp [u1]))
 · rw [hxx] at hli
   exact (Light.part hs hli (j := 2) rfl (by simp [u2]))
theorem open_imgF {H : Type} {enc : TypeId × Value → H} {W : World} {r : Reach} {base : Nat} {spare : Nat → Bool} {held : Bool} {v : Value} {d : DataW H} {ps : List MemPlace}
   (hv : Value.okWide Tryz.prog W r base 26 v) (h : DataW.Trod enc Tryz.prog W 0 spare held 26 v d ps) :
   ∃ (m : PImg) (ra : Option Addr) (rc : Nat) (ca : Option Addr) (cc : Nat) (ga : Option Addr) (gc : Nat), v = .agg #[.slice ra m.regs.length rc, .slice ca m.comps.length cc, .slice ga m.gates.length gc, .int .i64 m.depth] ∧ ImgIn W.heap.size W ra ca ga m ∧ (Light 26 d → m.Fit) := by
 obtain ⟨cs, rfl, _⟩ := okWide_struct Tryz.underlying26 hv
 obtain ⟨fuel, hf⟩ := h
 obtain ⟨m, ra, rc, ca, cc, ga, gc, e, hI, hr⟩ := trod_imgF hf
 refine ⟨m, ra, rc, ca, cc, ga, gc, ?_, hI, hr⟩
 obtain ⟨l⟩ := cs
 have e' : l = _ := e
 rw [e']
end Go.Proofs.YtiigpncfmakgjaaGreatDoor
