import Derived.Test.YthblllanofnmmaaP19
import Derived.Test.YthblllanofnmmaaP18
/-
  Stage 4, image: programs that lie in memory. No Go in sight.
-/
namespace Go.Proofs.Ythblllanofnmmaa
open Go.RowKit

/-- So many things as memory can hold. -/
def maxG : Nat := 140737488355328
def PReg.Rng (r : PReg) : Prop := W64 r.b ∧ W64 r.n ∧ r.data.length ≤ maxG ∧ r.slots.length ≤ maxG ∧ ∀ k ∈ r.slots, k.Rng
def PComp.Rng (c : PComp) : Prop := c.roots.length ≤ maxG ∧ c.code.length ≤ maxI ∧ OpsIn c.code ∧ ∀ k ∈ c.roots, k.Rng
def PGate.Rng (g : PGate) : Prop := J64 g.c ∧ J64 g.e ∧ g.args.length ≤ maxG ∧ g.res.length ≤ maxG ∧ (∀ k ∈ g.args, k.Rng) ∧ (∀ k ∈ g.res, k.Rng)
structure PImg.Rng (m : PImg) : Prop where
  regs : m.regs.length ≤ maxG ∧ ∀ r ∈ m.regs, r.Rng
  comps : m.comps.length ≤ maxG ∧ ∀ c ∈ m.comps, c.Rng
  gates : m.gates.length ≤ maxG ∧ ∀ g ∈ m.gates, g.Rng
  depth : J64 m.depth
def RegIn (B : Nat) (w : World) (a : Option Addr) (L : List PReg) : Prop := ∀ i (h : i < L.length), ∃ (b off : Nat) (sa : Option Addr) (sc : Nat), a = some ⟨b, off, none⟩ ∧ b < B ∧ b < w.heap.size ∧
  w.cell? ⟨b, off + i * 4, none⟩ = some (.int .u64 L[i].b) ∧ w.cell? ⟨b, off + i * 4 + 1, none⟩ = some (.int .u64 L[i].n) ∧ w.cell? ⟨b, off + i * 4 + 1 + 1, none⟩ = some (.string (str L[i].data)) ∧ w.cell? ⟨b, off + i * 4 + 1 + 1 + 1, none⟩ = some (.slice sa L[i].slots.length sc) ∧ FIn 8 PSlot.vals B w sa L[i].slots
def CompIn (B : Nat) (w : World) (a : Option Addr) (L : List PComp) : Prop := ∀ i (h : i < L.length), ∃ (b off : Nat) (ra : Option Addr) (rc : Nat) (ka : Option Addr) (kc : Nat), a = some ⟨b, off, none⟩ ∧ b < B ∧ b < w.heap.size ∧
  w.cell? ⟨b, off + i * 2, none⟩ = some (.slice ra L[i].roots.length rc) ∧ w.cell? ⟨b, off + i * 2 + 1, none⟩ = some (.slice ka L[i].code.length kc) ∧ FIn 6 PRoot.vals B w ra L[i].roots ∧ LIn B w ka L[i].code
def GateIn (B : Nat) (w : World) (a : Option Addr) (L : List PGate) : Prop := ∀ i (h : i < L.length), ∃ (b off : Nat) (xa : Option Addr) (xc : Nat) (ya : Option Addr) (yc : Nat), a = some ⟨b, off, none⟩ ∧ b < B ∧ b < w.heap.size ∧
  w.cell? ⟨b, off + i * 4, none⟩ = some (.int .i64 L[i].c) ∧ w.cell? ⟨b, off + i * 4 + 1, none⟩ = some (.int .i64 L[i].e) ∧ w.cell? ⟨b, off + i * 4 + 1 + 1, none⟩ = some (.slice xa L[i].args.length xc) ∧ w.cell? ⟨b, off + i * 4 + 1 + 1 + 1, none⟩ = some (.slice ya L[i].res.length yc) ∧ FIn 7 PTyp.vals B w xa L[i].args ∧ FIn 7 PTyp.vals B w ya L[i].res
theorem RegIn.below {B : Nat} {w w1 : World} {a : Option Addr} {L : List PReg} (h : RegIn B w a L) (hb : Below B w w1) : RegIn B w1 a L := fun i hi => by
  obtain ⟨b, off, sa, sc, ha, h1, h2, c0, c1, c2, c3, hs⟩ := h i hi
  exact ⟨b, off, sa, sc, ha, h1, Nat.lt_of_lt_of_le h2 hb.size, (hb.cell (p := ⟨b, _, none⟩) h1).trans c0, (hb.cell (p := ⟨b, _, none⟩) h1).trans c1, (hb.cell (p := ⟨b, _, none⟩) h1).trans c2, (hb.cell (p := ⟨b, _, none⟩) h1).trans c3, hs.below hb⟩
theorem CompIn.below {B : Nat} {w w1 : World} {a : Option Addr} {L : List PComp} (h : CompIn B w a L) (hb : Below B w w1) : CompIn B w1 a L := fun i hi => by
  obtain ⟨b, off, ra, rc, ka, kc, ha, h1, h2, c0, c1, hr, hk⟩ := h i hi
  exact ⟨b, off, ra, rc, ka, kc, ha, h1, Nat.lt_of_lt_of_le h2 hb.size, (hb.cell (p := ⟨b, _, none⟩) h1).trans c0, (hb.cell (p := ⟨b, _, none⟩) h1).trans c1, hr.below hb, hk.below hb⟩
theorem GateIn.below {B : Nat} {w w1 : World} {a : Option Addr} {L : List PGate} (h : GateIn B w a L) (hb : Below B w w1) : GateIn B w1 a L := fun i hi => by
  obtain ⟨b, off, xa, xc, ya, yc, ha, h1, h2, c0, c1, c2, c3, hx, hy⟩ := h i hi
  exact ⟨b, off, xa, xc, ya, yc, ha, h1, Nat.lt_of_lt_of_le h2 hb.size, (hb.cell (p := ⟨b, _, none⟩) h1).trans c0, (hb.cell (p := ⟨b, _, none⟩) h1).trans c1, (hb.cell (p := ⟨b, _, none⟩) h1).trans c2, (hb.cell (p := ⟨b, _, none⟩) h1).trans c3, hx.below hb, hy.below hb⟩
theorem RegIn.mono {B B' : Nat} {w : World} {a : Option Addr} {L : List PReg} (h : RegIn B w a L) (hb : B ≤ B') : RegIn B' w a L := fun i hi => by
  obtain ⟨b, off, sa, sc, ha, h1, h2, c0, c1, c2, c3, hs⟩ := h i hi
  exact ⟨b, off, sa, sc, ha, Nat.lt_of_lt_of_le h1 hb, h2, c0, c1, c2, c3, hs.mono hb⟩
theorem CompIn.mono {B B' : Nat} {w : World} {a : Option Addr} {L : List PComp} (h : CompIn B w a L) (hb : B ≤ B') : CompIn B' w a L := fun i hi => by
  obtain ⟨b, off, ra, rc, ka, kc, ha, h1, h2, c0, c1, hr, hk⟩ := h i hi
  exact ⟨b, off, ra, rc, ka, kc, ha, Nat.lt_of_lt_of_le h1 hb, h2, c0, c1, hr.mono hb, hk.mono hb⟩
theorem GateIn.mono {B B' : Nat} {w : World} {a : Option Addr} {L : List PGate} (h : GateIn B w a L) (hb : B ≤ B') : GateIn B' w a L := fun i hi => by
  obtain ⟨b, off, xa, xc, ya, yc, ha, h1, h2, c0, c1, c2, c3, hx, hy⟩ := h i hi
  exact ⟨b, off, xa, xc, ya, yc, ha, Nat.lt_of_lt_of_le h1 hb, h2, c0, c1, c2, c3, hx.mono hb, hy.mono hb⟩
/-- A program that can be read, below block 'B'. -/
structure ImgIn (B : Nat) (w : World) (ra ca ga : Option Addr) (m : PImg) : Prop where
  regs : RegIn B w ra m.regs
  comps : CompIn B w ca m.comps
  gates : GateIn B w ga m.gates
theorem ImgIn.below {B : Nat} {w w1 : World} {ra ca ga : Option Addr} {m : PImg} (h : ImgIn B w ra ca ga m) (hb : Below B w w1) : ImgIn B w1 ra ca ga m := ⟨h.regs.below hb, h.comps.below hb, h.gates.below hb⟩
theorem ImgIn.mono {B B' : Nat} {w : World} {ra ca ga : Option Addr} {m : PImg} (h : ImgIn B w ra ca ga m) (hb : B ≤ B') : ImgIn B' w ra ca ga m := ⟨h.regs.mono hb, h.comps.mono hb, h.gates.mono hb⟩
end Go.Proofs.Ythblllanofnmmaa


/-
  Stage 4, image: a program that came in, opened. (Written by mkopeni.py.)
-/
namespace Go.Proofs.Ythblllanofnmmaa
open Go.ChangeShapes Go.WideShapes Go.ChangeAt Go.RowKit Go.Deep

/-- Nothing in it is longer than memory. -/
def Light {H : Type} (t : TypeId) (d : DataW H) : Prop := ∀ n ∈ d.weights Try.prog t, n ≤ reachBytes
theorem Light.part {H : Type} {t : TypeId} {fs : Array Field} {parts : List (DataW H)} (hu : Try.prog.underlying t = some (.struct fs)) (h : Light t (.agg parts)) {j : Nat} {tj : TypeId} {dj : DataW H}
    (ht : (fs.toList.map (·.type))[j]? = some tj) (hd : parts[j]? = some dj) : Light tj dj := fun n hn => h n (by simp only [DataW.weights, hu]; exact DataW.weights_mem_each ht hd n hn)
theorem weightsAll_mem {H : Type} {e : TypeId} : ∀ {l : List (DataW H)} {d : DataW H}, d ∈ l → ∀ n ∈ d.weights Try.prog e, n ∈ DataW.weightsAll Try.prog e l
  | x :: r, d, hd, n, hn => by
    simp only [DataW.weightsAll, List.mem_append]
    rcases List.mem_cons.1 hd with rfl | hd
    · exact .inl hn
    · exact .inr (weightsAll_mem hd n hn)
  | [], d, hd, _, _ => by simp at hd
theorem Light.row {H : Type} {t e : TypeId} {elems spare : List (DataW H)} (hu : Try.prog.underlying t = some (.slice e)) (h : Light t (.slice elems spare)) : elems.length * Try.prog.bytesOf e ≤ reachBytes ∧ ∀ d ∈ elems, Light e d := by
  constructor
  · have := h ((elems.length + spare.length) * Try.prog.bytesOf e) (by simp [DataW.weights, hu])
    exact Nat.le_trans (Nat.mul_le_mul_right _ (Nat.le_add_right _ _)) this
  · intro d hd n hn
    exact h n (by simp only [DataW.weights, hu]; simp [weightsAll_mem hd n hn])
theorem light_of {H : Type} {ts : List TypeId} {ds : List (DataW H)} (h : (DataW.weightsEach Try.prog ts ds).all (· ≤ reachBytes) = true) {j : Nat} {t : TypeId} {d : DataW H} (ht : ts[j]? = some t) (hd : ds[j]? = some d) : Light t d := fun n hn => by
  have := List.all_eq_true.1 h _ (DataW.weights_mem_each ht hd n hn)
  simpa using this
theorem reach_le : reachBytes ≤ maxG := by unfold maxG; decide
theorem long_le {n k : Nat} (hk : 1 ≤ k) (h : n * k ≤ reachBytes) : n ≤ maxG := by
  have h1 : n * 1 ≤ n * k := Nat.mul_le_mul_left n hk
  have h2 := reach_le
  omega
theorem no_spot_k {W : World} {a : Addr} {cs : List Value} {k : Nat} (hk : 0 < k) (h : W.cells? 0 (a.add (0 * k)) k = some cs) : a.spot = none := by
  obtain ⟨_, hl, hc⟩ := World.cells?_some h
  have c0 := hc 0 hk
  simp only [Nat.zero_mul, Addr.add, if_true] at c0
  have : cs[0]? = some (cs[0]'(by omega)) := by simp
  exact World.cell?_spot (c0.trans this)
theorem open_rows {H : Type} {enc : TypeId × Value → H} {W : World} {spare : Nat → Bool} {held : Bool} {α : Type} {Q : List Value → α → Prop} {Rg : α → Prop} {k : Nat} {t e : TypeId} (ht : Try.prog.underlying t = some (.slice e)) (hce : Try.prog.cellsOf e = k) (hk : 0 < k)
    (hel : ∀ (n : Nat) (cs : List Value) (x : DataW H × List MemPlace), DataW.trod enc Try.prog W 0 spare held n e cs = some x → ∃ a, Q cs a ∧ (Light e x.1 → Rg a))
    {fuel : Nat} {cs : List Value} {x : DataW H × List MemPlace} (h : DataW.trod enc Try.prog W 0 spare held fuel t cs = some x) :
    ∃ (a : Option Addr) (cap : Nat) (L : List α), cs = [.slice a L.length cap] ∧ (∀ i (h : i < L.length), ∃ b off, a = some ⟨b, off, none⟩ ∧ b < W.heap.size ∧ ∃ cs', Q cs' L[i] ∧ ∀ j, j < k → W.cell? ⟨b, off + i * k + j, none⟩ = cs'[j]?) ∧
      (Light t x.1 → L.length * Try.prog.bytesOf e ≤ reachBytes ∧ ∀ r ∈ L, Rg r) := by
  rcases open_slice ht h with ⟨rfl, rfl⟩ | ⟨a, len, cap, m, n, D, Pl, rfl, _, hl, hm, hmm, rfl, hx⟩
  · exact ⟨none, 0, [], rfl, fun i hi => by simp at hi, fun _ => ⟨by simp, by simp⟩⟩
  · have hlm : len ≤ m := by rw [hmm]; split <;> omega
    rw [hce] at hx
    have hk' : ∀ i, i < len → ∃ y, (∃ cs', W.cells? 0 (a.add (i * k)) k = some cs' ∧ Q cs' y) ∧ (Light e (D i) → Rg y) := fun i hi => by
      obtain ⟨cs', e1, e2⟩ := hx i (by omega)
      obtain ⟨y, q, r⟩ := hel _ _ _ e2
      exact ⟨y, ⟨cs', e1, q⟩, r⟩
    obtain ⟨L, hL, hp⟩ := choose_list _ _ hk'
    subst hL
    refine ⟨some a, cap, L, rfl, fun i hi => ?_, fun hli => ?_⟩
    · have h0 : 0 < L.length := by omega
      obtain ⟨⟨c0, hc0, _⟩, _⟩ := hp 0 h0
      have hs : a.spot = none := no_spot_k hk hc0
      obtain ⟨⟨cs', hc, q⟩, _⟩ := hp i hi
      obtain ⟨_, hlen, hcc⟩ := World.cells?_some hc
      obtain ⟨b, off, spot⟩ := a
      obtain rfl : spot = none := hs
      have hcell : ∀ j, j < k → W.cell? ⟨b, off + i * k + j, none⟩ = cs'[j]? := fun j hj => by
        have := hcc j hj
        rwa [addr_add, addr_add] at this
      have c1 := hcell 0 hk
      have : cs'[0]? = some (cs'[0]'(by omega)) := by simp
      exact ⟨b, off, rfl, World.block_lt_of_cell? W _ (c1.trans this), cs', q, hcell⟩
    · obtain ⟨h1, h2⟩ := Light.row ht hli
      refine ⟨by simpa using h1, fun r hr => ?_⟩
      obtain ⟨i, hi, rfl⟩ := List.getElem_of_mem hr
      exact (hp i hi).2 (h2 _ (by simp; exact ⟨i, hi, rfl⟩))

theorem cellsSlot : Try.prog.cellsOf 74 = 8 := by kernel_rfl
theorem cellsRoot : Try.prog.cellsOf 148 = 6 := by kernel_rfl
theorem cellsRegion : Try.prog.cellsOf 66 = 4 := by kernel_rfl
theorem cellsComp : Try.prog.cellsOf 143 = 2 := by kernel_rfl
theorem cellsGate : Try.prog.cellsOf 146 = 4 := by kernel_rfl
theorem cellsImage : Try.prog.cellsOf 30 = 4 := by kernel_rfl
theorem bytesSlot : 1 ≤ Try.prog.bytesOf 74 := of_decide_eq_true (by kernel_rfl)
theorem bytesType : 1 ≤ Try.prog.bytesOf 72 := of_decide_eq_true (by kernel_rfl)
theorem bytesRoot : 1 ≤ Try.prog.bytesOf 148 := of_decide_eq_true (by kernel_rfl)
theorem bytesRegion : 1 ≤ Try.prog.bytesOf 66 := of_decide_eq_true (by kernel_rfl)
theorem bytesComp : 1 ≤ Try.prog.bytesOf 143 := of_decide_eq_true (by kernel_rfl)
theorem bytesGate : 1 ≤ Try.prog.bytesOf 146 := of_decide_eq_true (by kernel_rfl)
theorem bytesInst : Try.prog.bytesOf 151 = 40 := by kernel_rfl
theorem list_2 {cs : List Value} (h : cs.length = 2) : ∃ c0 c1, cs = [c0, c1] := by
  match cs, h with
  | [c0, c1], _ => exact ⟨c0, c1, rfl⟩
theorem list_4 {cs : List Value} (h : cs.length = 4) : ∃ c0 c1 c2 c3, cs = [c0, c1, c2, c3] := by
  match cs, h with
  | [c0, c1, c2, c3], _ => exact ⟨c0, c1, c2, c3, rfl⟩
theorem list_5 {cs : List Value} (h : cs.length = 5) : ∃ c0 c1 c2 c3 c4, cs = [c0, c1, c2, c3, c4] := by
  match cs, h with
  | [c0, c1, c2, c3, c4], _ => exact ⟨c0, c1, c2, c3, c4, rfl⟩
theorem list_6 {cs : List Value} (h : cs.length = 6) : ∃ c0 c1 c2 c3 c4 c5, cs = [c0, c1, c2, c3, c4, c5] := by
  match cs, h with
  | [c0, c1, c2, c3, c4, c5], _ => exact ⟨c0, c1, c2, c3, c4, c5, rfl⟩
theorem list_7 {cs : List Value} (h : cs.length = 7) : ∃ c0 c1 c2 c3 c4 c5 c6, cs = [c0, c1, c2, c3, c4, c5, c6] := by
  match cs, h with
  | [c0, c1, c2, c3, c4, c5, c6], _ => exact ⟨c0, c1, c2, c3, c4, c5, c6, rfl⟩
theorem list_8 {cs : List Value} (h : cs.length = 8) : ∃ c0 c1 c2 c3 c4 c5 c6 c7, cs = [c0, c1, c2, c3, c4, c5, c6, c7] := by
  match cs, h with
  | [c0, c1, c2, c3, c4, c5, c6, c7], _ => exact ⟨c0, c1, c2, c3, c4, c5, c6, c7, rfl⟩
set_option maxRecDepth 100000 in
theorem trod_typ {H : Type} {enc : TypeId × Value → H} {W : World} {spare : Nat → Bool} {held : Bool} {n : Nat} {cs : List Value} {x : DataW H × List MemPlace}
    (hf : DataW.trod enc Try.prog W 0 spare held n 72 cs = some x) : ∃ t : PTyp, cs = t.vals ∧ t.Rng := by
  have hs := Try.underlying72
  obtain ⟨xs, m, _, _, hcl, hl, hx⟩ := DataW.trod_struct hs hf
  obtain ⟨c0, c1, c2, c3, c4, c5, c6, rfl⟩ := list_7 (hcl.trans cellsType)
  have at_ : ∀ i, i < 7 → ∃ y, xs[i]? = some y := by
    intro i hi
    have : i < xs.length := by rw [hl]; simpa using hi
    exact ⟨xs[i], by simp [this]⟩
  obtain ⟨y0, t0⟩ := at_ 0 (by omega)
  rw [← hx 0 _ rfl] at t0
  obtain ⟨y1, t1⟩ := at_ 1 (by omega)
  rw [← hx 1 _ rfl] at t1
  obtain ⟨y2, t2⟩ := at_ 2 (by omega)
  rw [← hx 2 _ rfl] at t2
  obtain ⟨y3, t3⟩ := at_ 3 (by omega)
  rw [← hx 3 _ rfl] at t3
  obtain ⟨y4, t4⟩ := at_ 4 (by omega)
  rw [← hx 4 _ rfl] at t4
  obtain ⟨y5, t5⟩ := at_ 5 (by omega)
  rw [← hx 5 _ rfl] at t5
  obtain ⟨y6, t6⟩ := at_ 6 (by omega)
  rw [← hx 6 _ rfl] at t6
  have kbool : Try.prog.cellsOf 4 = 1 := by kernel_rfl
  have ku64 : Try.prog.cellsOf 42 = 1 := by kernel_rfl
  have kperms : Try.prog.cellsOf 43 = 1 := by kernel_rfl
  have kint : Try.prog.cellsOf 3 = 1 := by kernel_rfl
  obtain ⟨tc, e0, _⟩ := DataW.trod_bool Try.underlying4 t0
  obtain ⟨tb, e1, _, w1⟩ := DataW.trod_int Try.underlying42 t1
  obtain ⟨te, e2, _, w2⟩ := DataW.trod_int Try.underlying42 t2
  obtain ⟨lo, e3, _, w3⟩ := DataW.trod_int Try.underlying42 t3
  obtain ⟨hi, e4, _, w4⟩ := DataW.trod_int Try.underlying42 t4
  obtain ⟨tp, e5, _, w5⟩ := DataW.trod_int Try.underlying43 t5
  obtain ⟨ts, e6, _, w6⟩ := DataW.trod_int Try.underlying3 t6
  simp [kbool, ku64, kperms, kint] at e0 e1 e2 e3 e4 e5 e6
  subst e0 e1 e2 e3 e4 e5 e6
  exact ⟨⟨tc, tb, te, lo, hi, tp, ts⟩, rfl, bd_u64 w1, bd_u64 w2, bd_u64 w3, bd_u64 w4, bd_u8 w5, bd_i64 w6⟩
set_option maxRecDepth 100000 in
theorem trod_slot {H : Type} {enc : TypeId × Value → H} {W : World} {spare : Nat → Bool} {held : Bool} {n : Nat} {cs : List Value} {x : DataW H × List MemPlace}
    (hf : DataW.trod enc Try.prog W 0 spare held n 74 cs = some x) : ∃ k : PSlot, cs = k.vals ∧ k.Rng := by
  have hs := Try.underlying74
  obtain ⟨xs, m, _, _, hcl, hl, hx⟩ := DataW.trod_struct hs hf
  obtain ⟨c0, c1, c2, c3, c4, c5, c6, c7, rfl⟩ := list_8 (hcl.trans cellsSlot)
  have at_ : ∀ i, i < 2 → ∃ y, xs[i]? = some y := by
    intro i hi
    have : i < xs.length := by rw [hl]; simpa using hi
    exact ⟨xs[i], by simp [this]⟩
  obtain ⟨y0, t0⟩ := at_ 0 (by omega)
  rw [← hx 0 _ rfl] at t0
  obtain ⟨y1, t1⟩ := at_ 1 (by omega)
  rw [← hx 1 _ rfl] at t1
  have ku64 : Try.prog.cellsOf 42 = 1 := by kernel_rfl
  obtain ⟨t, e0, r0⟩ := trod_typ t0
  obtain ⟨c, e1, _, w1⟩ := DataW.trod_int Try.underlying42 t1
  simp [ku64, cellsType] at e0 e1
  subst e1
  exact ⟨⟨t, c⟩, by simp [PSlot.vals, ← e0], r0, bd_u64 w1⟩
set_option maxRecDepth 100000 in
theorem trod_cap {H : Type} {enc : TypeId × Value → H} {W : World} {spare : Nat → Bool} {held : Bool} {n : Nat} {cs : List Value} {x : DataW H × List MemPlace}
    (hf : DataW.trod enc Try.prog W 0 spare held n 45 cs = some x) : ∃ b e c p s : Int, cs = [.int .u64 b, .int .u64 e, .int .u64 c, .int .u8 p, .int .i64 s] ∧ W64 b ∧ W64 e ∧ W64 c ∧ B8 p ∧ J64 s := by
  have hs := Try.underlying45
  obtain ⟨xs, m, _, _, hcl, hl, hx⟩ := DataW.trod_struct hs hf
  obtain ⟨c0, c1, c2, c3, c4, rfl⟩ := list_5 (hcl.trans cellsCap)
  have at_ : ∀ i, i < 5 → ∃ y, xs[i]? = some y := by
    intro i hi
    have : i < xs.length := by rw [hl]; simpa using hi
    exact ⟨xs[i], by simp [this]⟩
  obtain ⟨y0, t0⟩ := at_ 0 (by omega)
  rw [← hx 0 _ rfl] at t0
  obtain ⟨y1, t1⟩ := at_ 1 (by omega)
  rw [← hx 1 _ rfl] at t1
  obtain ⟨y2, t2⟩ := at_ 2 (by omega)
  rw [← hx 2 _ rfl] at t2
  obtain ⟨y3, t3⟩ := at_ 3 (by omega)
  rw [← hx 3 _ rfl] at t3
  obtain ⟨y4, t4⟩ := at_ 4 (by omega)
  rw [← hx 4 _ rfl] at t4
  have ku64 : Try.prog.cellsOf 42 = 1 := by kernel_rfl
  have kperms : Try.prog.cellsOf 43 = 1 := by kernel_rfl
  have kint : Try.prog.cellsOf 3 = 1 := by kernel_rfl
  obtain ⟨b, e0, _, w0⟩ := DataW.trod_int Try.underlying42 t0
  obtain ⟨e, e1, _, w1⟩ := DataW.trod_int Try.underlying42 t1
  obtain ⟨c, e2, _, w2⟩ := DataW.trod_int Try.underlying42 t2
  obtain ⟨p, e3, _, w3⟩ := DataW.trod_int Try.underlying43 t3
  obtain ⟨s, e4, _, w4⟩ := DataW.trod_int Try.underlying3 t4
  simp [ku64, kperms, kint] at e0 e1 e2 e3 e4
  subst e0 e1 e2 e3 e4
  exact ⟨b, e, c, p, s, rfl, bd_u64 w0, bd_u64 w1, bd_u64 w2, bd_u8 w3, bd_i64 w4⟩
set_option maxRecDepth 100000 in
theorem trod_root {H : Type} {enc : TypeId × Value → H} {W : World} {spare : Nat → Bool} {held : Bool} {n : Nat} {cs : List Value} {x : DataW H × List MemPlace}
    (hf : DataW.trod enc Try.prog W 0 spare held n 148 cs = some x) : ∃ k : PRoot, cs = k.vals ∧ k.Rng := by
  have hs := Try.underlying148
  obtain ⟨xs, m, _, _, hcl, hl, hx⟩ := DataW.trod_struct hs hf
  obtain ⟨c0, c1, c2, c3, c4, c5, rfl⟩ := list_6 (hcl.trans cellsRoot)
  have at_ : ∀ i, i < 2 → ∃ y, xs[i]? = some y := by
    intro i hi
    have : i < xs.length := by rw [hl]; simpa using hi
    exact ⟨xs[i], by simp [this]⟩
  obtain ⟨y0, t0⟩ := at_ 0 (by omega)
  rw [← hx 0 _ rfl] at t0
  obtain ⟨y1, t1⟩ := at_ 1 (by omega)
  rw [← hx 1 _ rfl] at t1
  have kint : Try.prog.cellsOf 3 = 1 := by kernel_rfl
  obtain ⟨r, e0, _, w0⟩ := DataW.trod_int Try.underlying3 t0
  obtain ⟨b, e, c, p, s, e1, r1⟩ := trod_cap t1
  simp [kint, cellsCap] at e0 e1
  obtain ⟨rfl, rfl, rfl, rfl, rfl⟩ := e1
  subst e0
  exact ⟨⟨r, b, e, c, p, s⟩, rfl, bd_i64 w0, r1⟩
theorem row_slots {H : Type} {enc : TypeId × Value → H} {W : World} {spare : Nat → Bool} {held : Bool} {n : Nat} {cs : List Value} {x : DataW H × List MemPlace}
    (hf : DataW.trod enc Try.prog W 0 spare held n 64 cs = some x) : ∃ (a : Option Addr) (cap : Nat) (L : List PSlot), cs = [.slice a L.length cap] ∧ FIn 8 PSlot.vals W.heap.size W a L ∧ (Light 64 x.1 → L.length ≤ maxG) ∧ ∀ r ∈ L, PSlot.Rng r := by
  obtain ⟨a, cap, L, e, hL, hr⟩ := open_rows (Q := fun cs (a : PSlot) => cs = PSlot.vals a ∧ PSlot.Rng a) (Rg := fun _ => True) Try.underlying64 cellsSlot (by omega) (fun _ _ _ h => by obtain ⟨a, h1, h2⟩ := trod_slot h; exact ⟨a, ⟨h1, h2⟩, fun _ => trivial⟩) hf
  refine ⟨a, cap, L, e, fun i hi => ?_, fun hli => long_le bytesSlot (hr hli).1, fun r hm => ?_⟩
  · obtain ⟨b, off, ha, hb, cs', ⟨rfl, _⟩, hc⟩ := hL i hi
    exact ⟨b, off, ha, hb, hb, hc⟩
  · obtain ⟨i, hi, rfl⟩ := List.getElem_of_mem hm
    obtain ⟨b, off, ha, hb, cs', ⟨rfl, q⟩, hc⟩ := hL i hi
    exact q
theorem row_types {H : Type} {enc : TypeId × Value → H} {W : World} {spare : Nat → Bool} {held : Bool} {n : Nat} {cs : List Value} {x : DataW H × List MemPlace}
    (hf : DataW.trod enc Try.prog W 0 spare held n 144 cs = some x) : ∃ (a : Option Addr) (cap : Nat) (L : List PTyp), cs = [.slice a L.length cap] ∧ FIn 7 PTyp.vals W.heap.size W a L ∧ (Light 144 x.1 → L.length ≤ maxG) ∧ ∀ r ∈ L, PTyp.Rng r := by
  obtain ⟨a, cap, L, e, hL, hr⟩ := open_rows (Q := fun cs (a : PTyp) => cs = PTyp.vals a ∧ PTyp.Rng a) (Rg := fun _ => True) Try.underlying144 cellsType (by omega) (fun _ _ _ h => by obtain ⟨a, h1, h2⟩ := trod_typ h; exact ⟨a, ⟨h1, h2⟩, fun _ => trivial⟩) hf
  refine ⟨a, cap, L, e, fun i hi => ?_, fun hli => long_le bytesType (hr hli).1, fun r hm => ?_⟩
  · obtain ⟨b, off, ha, hb, cs', ⟨rfl, _⟩, hc⟩ := hL i hi
    exact ⟨b, off, ha, hb, hb, hc⟩
  · obtain ⟨i, hi, rfl⟩ := List.getElem_of_mem hm
    obtain ⟨b, off, ha, hb, cs', ⟨rfl, q⟩, hc⟩ := hL i hi
    exact q
theorem row_roots {H : Type} {enc : TypeId × Value → H} {W : World} {spare : Nat → Bool} {held : Bool} {n : Nat} {cs : List Value} {x : DataW H × List MemPlace}
    (hf : DataW.trod enc Try.prog W 0 spare held n 140 cs = some x) : ∃ (a : Option Addr) (cap : Nat) (L : List PRoot), cs = [.slice a L.length cap] ∧ FIn 6 PRoot.vals W.heap.size W a L ∧ (Light 140 x.1 → L.length ≤ maxG) ∧ ∀ r ∈ L, PRoot.Rng r := by
  obtain ⟨a, cap, L, e, hL, hr⟩ := open_rows (Q := fun cs (a : PRoot) => cs = PRoot.vals a ∧ PRoot.Rng a) (Rg := fun _ => True) Try.underlying140 cellsRoot (by omega) (fun _ _ _ h => by obtain ⟨a, h1, h2⟩ := trod_root h; exact ⟨a, ⟨h1, h2⟩, fun _ => trivial⟩) hf
  refine ⟨a, cap, L, e, fun i hi => ?_, fun hli => long_le bytesRoot (hr hli).1, fun r hm => ?_⟩
  · obtain ⟨b, off, ha, hb, cs', ⟨rfl, _⟩, hc⟩ := hL i hi
    exact ⟨b, off, ha, hb, hb, hc⟩
  · obtain ⟨i, hi, rfl⟩ := List.getElem_of_mem hm
    obtain ⟨b, off, ha, hb, cs', ⟨rfl, q⟩, hc⟩ := hL i hi
    exact q
theorem row_insts {H : Type} {enc : TypeId × Value → H} {W : World} {spare : Nat → Bool} {held : Bool} {n : Nat} {cs : List Value} {x : DataW H × List MemPlace}
    (hf : DataW.trod enc Try.prog W 0 spare held n 141 cs = some x) : ∃ (a : Option Addr) (cap : Nat) (L : List Ins), cs = [.slice a L.length cap] ∧ LIn W.heap.size W a L ∧ (Light 141 x.1 → L.length ≤ maxI) ∧ OpsIn L := by
  obtain ⟨a, cap, L, e, hL, hr⟩ := open_rows (Q := fun cs (a : Ins) => cs = a.vals ∧ (0 ≤ a.op ∧ a.op < 256)) (Rg := fun _ => True) Try.underlying141 cellsInst (by omega) (fun _ _ _ h => by obtain ⟨a, h1, h2, _⟩ := trod_inst h; exact ⟨a, ⟨h1, h2⟩, fun _ => trivial⟩) hf
  refine ⟨a, cap, L, e, fun i hi => ?_, fun hli => ?_, fun r hm => ?_⟩
  · obtain ⟨b, off, ha, hb, cs', ⟨rfl, _⟩, hc⟩ := hL i hi
    exact ⟨b, off, ha, hb, hb, hc 0 (by omega), hc 1 (by omega), hc 2 (by omega), hc 3 (by omega), hc 4 (by omega)⟩
  · have := (hr hli).1
    have hr : reachBytes = 140737488351232 := by decide
    rw [bytesInst, hr] at this
    unfold maxI
    omega
  · obtain ⟨i, hi, rfl⟩ := List.getElem_of_mem hm
    obtain ⟨b, off, ha, hb, cs', ⟨rfl, q⟩, hc⟩ := hL i hi
    exact q
set_option maxRecDepth 100000 in
theorem trod_reg {H : Type} {enc : TypeId × Value → H} {W : World} {spare : Nat → Bool} {held : Bool} {n : Nat} {cs : List Value} {x : DataW H × List MemPlace}
    (hf : DataW.trod enc Try.prog W 0 spare held n 66 cs = some x) : ∃ r : PReg, (∃ sa sc, cs = [.int .u64 r.b, .int .u64 r.n, .string (str r.data), .slice sa r.slots.length sc] ∧ FIn 8 PSlot.vals W.heap.size W sa r.slots) ∧ (Light 66 x.1 → r.Rng) := by
  have hs := Try.underlying66
  obtain ⟨xs, m, _, hxx, hcl, hl, hx⟩ := DataW.trod_struct hs hf
  obtain ⟨c0, c1, c2, c3, rfl⟩ := list_4 (hcl.trans cellsRegion)
  have at_ : ∀ i, i < 4 → ∃ y, xs[i]? = some y := by
    intro i hi
    have : i < xs.length := by rw [hl]; simpa using hi
    exact ⟨xs[i], by simp [this]⟩
  obtain ⟨y0, t0⟩ := at_ 0 (by omega)
  rw [← hx 0 _ rfl] at t0
  obtain ⟨y1, t1⟩ := at_ 1 (by omega)
  rw [← hx 1 _ rfl] at t1
  obtain ⟨y2, t2⟩ := at_ 2 (by omega)
  have u2 := t2
  rw [← hx 2 _ rfl] at t2
  obtain ⟨y3, t3⟩ := at_ 3 (by omega)
  have u3 := t3
  rw [← hx 3 _ rfl] at t3
  have ku64 : Try.prog.cellsOf 42 = 1 := by kernel_rfl
  have kstr : Try.prog.cellsOf 9 = 1 := by kernel_rfl
  have kSlots : Try.prog.cellsOf 64 = 1 := by kernel_rfl
  obtain ⟨b, e0, _, w0⟩ := DataW.trod_int Try.underlying42 t0
  obtain ⟨nn, e1, _, w1⟩ := DataW.trod_int Try.underlying42 t1
  obtain ⟨z, e2, hx2, _⟩ := DataW.trod_string Try.underlying9 t2
  obtain ⟨sa, sc, L, e3, hL, hln, hrg⟩ := row_slots t3
  simp [ku64, kstr, kSlots] at e0 e1 e2 e3
  subst e0 e1 e2 e3
  refine ⟨⟨b, nn, z.data.toList, L⟩, ⟨sa, sc, rfl, hL⟩, fun hli => ⟨bd_u64 w0, bd_u64 w1, ?_, hln ?_, hrg⟩⟩
  · rw [hxx] at hli
    have hz : Light 9 y2.1 := (Light.part hs hli (j := 2) rfl (by simp [u2]))
    rw [hx2] at hz
    exact Nat.le_trans (hz _ (by simp [DataW.weights])) reach_le
  · rw [hxx] at hli
    exact (Light.part hs hli (j := 3) rfl (by simp [u3]))
set_option maxRecDepth 100000 in
theorem trod_comp {H : Type} {enc : TypeId × Value → H} {W : World} {spare : Nat → Bool} {held : Bool} {n : Nat} {cs : List Value} {x : DataW H × List MemPlace}
    (hf : DataW.trod enc Try.prog W 0 spare held n 143 cs = some x) : ∃ c : PComp, (∃ ra rc ka kc, cs = [.slice ra c.roots.length rc, .slice ka c.code.length kc] ∧ FIn 6 PRoot.vals W.heap.size W ra c.roots ∧ LIn W.heap.size W ka c.code) ∧ (Light 143 x.1 → c.Rng) := by
  have hs := Try.underlying143
  obtain ⟨xs, m, _, hxx, hcl, hl, hx⟩ := DataW.trod_struct hs hf
  obtain ⟨c0, c1, rfl⟩ := list_2 (hcl.trans cellsComp)
  have at_ : ∀ i, i < 2 → ∃ y, xs[i]? = some y := by
    intro i hi
    have : i < xs.length := by rw [hl]; simpa using hi
    exact ⟨xs[i], by simp [this]⟩
  obtain ⟨y0, t0⟩ := at_ 0 (by omega)
  have u0 := t0
  rw [← hx 0 _ rfl] at t0
  obtain ⟨y1, t1⟩ := at_ 1 (by omega)
  have u1 := t1
  rw [← hx 1 _ rfl] at t1
  have kRoots : Try.prog.cellsOf 140 = 1 := by kernel_rfl
  have kInsts : Try.prog.cellsOf 141 = 1 := by kernel_rfl
  obtain ⟨ra, rc, R, e0, hR, hlr, hrr⟩ := row_roots t0
  obtain ⟨ka, kc, K, e1, hK, hlk, hok⟩ := row_insts t1
  simp [kRoots, kInsts] at e0 e1
  subst e0 e1
  refine ⟨⟨R, K⟩, ⟨ra, rc, ka, kc, rfl, hR, hK⟩, fun hli => ⟨hlr ?_, hlk ?_, hok, hrr⟩⟩
  · rw [hxx] at hli
    exact (Light.part hs hli (j := 0) rfl (by simp [u0]))
  · rw [hxx] at hli
    exact (Light.part hs hli (j := 1) rfl (by simp [u1]))
set_option maxRecDepth 100000 in
theorem trod_gate {H : Type} {enc : TypeId × Value → H} {W : World} {spare : Nat → Bool} {held : Bool} {n : Nat} {cs : List Value} {x : DataW H × List MemPlace}
    (hf : DataW.trod enc Try.prog W 0 spare held n 146 cs = some x) : ∃ g : PGate, (∃ xa xc ya yc, cs = [.int .i64 g.c, .int .i64 g.e, .slice xa g.args.length xc, .slice ya g.res.length yc] ∧ FIn 7 PTyp.vals W.heap.size W xa g.args ∧ FIn 7 PTyp.vals W.heap.size W ya g.res) ∧ (Light 146 x.1 → g.Rng) := by
  have hs := Try.underlying146
  obtain ⟨xs, m, _, hxx, hcl, hl, hx⟩ := DataW.trod_struct hs hf
  obtain ⟨c0, c1, c2, c3, rfl⟩ := list_4 (hcl.trans cellsGate)
  have at_ : ∀ i, i < 4 → ∃ y, xs[i]? = some y := by
    intro i hi
    have : i < xs.length := by rw [hl]; simpa using hi
    exact ⟨xs[i], by simp [this]⟩
  obtain ⟨y0, t0⟩ := at_ 0 (by omega)
  rw [← hx 0 _ rfl] at t0
  obtain ⟨y1, t1⟩ := at_ 1 (by omega)
  rw [← hx 1 _ rfl] at t1
  obtain ⟨y2, t2⟩ := at_ 2 (by omega)
  have u2 := t2
  rw [← hx 2 _ rfl] at t2
  obtain ⟨y3, t3⟩ := at_ 3 (by omega)
  have u3 := t3
  rw [← hx 3 _ rfl] at t3
  have kint : Try.prog.cellsOf 3 = 1 := by kernel_rfl
  have kTypes : Try.prog.cellsOf 144 = 1 := by kernel_rfl
  obtain ⟨c, e0, _, w0⟩ := DataW.trod_int Try.underlying3 t0
  obtain ⟨e, e1, _, w1⟩ := DataW.trod_int Try.underlying3 t1
  obtain ⟨xa, xc, X, e2, hX, hlx, hrx⟩ := row_types t2
  obtain ⟨ya, yc, Y, e3, hY, hly, hry⟩ := row_types t3
  simp [kint, kTypes] at e0 e1 e2 e3
  subst e0 e1 e2 e3
  refine ⟨⟨c, e, X, Y⟩, ⟨xa, xc, ya, yc, rfl, hX, hY⟩, fun hli => ⟨bd_i64 w0, bd_i64 w1, hlx ?_, hly ?_, hrx, hry⟩⟩
  · rw [hxx] at hli
    exact (Light.part hs hli (j := 2) rfl (by simp [u2]))
  · rw [hxx] at hli
    exact (Light.part hs hli (j := 3) rfl (by simp [u3]))
theorem row_regs {H : Type} {enc : TypeId × Value → H} {W : World} {spare : Nat → Bool} {held : Bool} {n : Nat} {cs : List Value} {x : DataW H × List MemPlace}
    (hf : DataW.trod enc Try.prog W 0 spare held n 22 cs = some x) : ∃ (a : Option Addr) (cap : Nat) (L : List PReg), cs = [.slice a L.length cap] ∧ RegIn W.heap.size W a L ∧ (Light 22 x.1 → L.length ≤ maxG ∧ ∀ r ∈ L, r.Rng) := by
  obtain ⟨a, cap, L, e, hL, hr⟩ := open_rows (Q := fun cs (r : PReg) => ∃ sa sc, cs = [.int .u64 r.b, .int .u64 r.n, .string (str r.data), .slice sa r.slots.length sc] ∧ FIn 8 PSlot.vals W.heap.size W sa r.slots) (Rg := fun r => r.Rng) Try.underlying22 cellsRegion (by omega) (fun _ _ _ h => trod_reg h) hf
  refine ⟨a, cap, L, e, fun i hi => ?_, fun hli => ⟨long_le bytesRegion (hr hli).1, (hr hli).2⟩⟩
  obtain ⟨b, off, ha, hb, cs', ⟨sa, sc, rfl, hF⟩, hc⟩ := hL i hi
  exact ⟨b, off, sa, sc, ha, hb, hb, hc 0 (by omega), hc 1 (by omega), hc 2 (by omega), hc 3 (by omega), hF⟩
theorem row_comps {H : Type} {enc : TypeId × Value → H} {W : World} {spare : Nat → Bool} {held : Bool} {n : Nat} {cs : List Value} {x : DataW H × List MemPlace}
    (hf : DataW.trod enc Try.prog W 0 spare held n 27 cs = some x) : ∃ (a : Option Addr) (cap : Nat) (L : List PComp), cs = [.slice a L.length cap] ∧ CompIn W.heap.size W a L ∧ (Light 27 x.1 → L.length ≤ maxG ∧ ∀ r ∈ L, r.Rng) := by
  obtain ⟨a, cap, L, e, hL, hr⟩ := open_rows (Q := fun cs (r : PComp) => ∃ ra rc ka kc, cs = [.slice ra r.roots.length rc, .slice ka r.code.length kc] ∧ FIn 6 PRoot.vals W.heap.size W ra r.roots ∧ LIn W.heap.size W ka r.code) (Rg := fun r => r.Rng) Try.underlying27 cellsComp (by omega) (fun _ _ _ h => trod_comp h) hf
  refine ⟨a, cap, L, e, fun i hi => ?_, fun hli => ⟨long_le bytesComp (hr hli).1, (hr hli).2⟩⟩
  obtain ⟨b, off, ha, hb, cs', ⟨ra, rc, ka, kc, rfl, hR, hK⟩, hc⟩ := hL i hi
  exact ⟨b, off, ra, rc, ka, kc, ha, hb, hb, hc 0 (by omega), hc 1 (by omega), hR, hK⟩
theorem row_gates {H : Type} {enc : TypeId × Value → H} {W : World} {spare : Nat → Bool} {held : Bool} {n : Nat} {cs : List Value} {x : DataW H × List MemPlace}
    (hf : DataW.trod enc Try.prog W 0 spare held n 28 cs = some x) : ∃ (a : Option Addr) (cap : Nat) (L : List PGate), cs = [.slice a L.length cap] ∧ GateIn W.heap.size W a L ∧ (Light 28 x.1 → L.length ≤ maxG ∧ ∀ r ∈ L, r.Rng) := by
  obtain ⟨a, cap, L, e, hL, hr⟩ := open_rows (Q := fun cs (r : PGate) => ∃ xa xc ya yc, cs = [.int .i64 r.c, .int .i64 r.e, .slice xa r.args.length xc, .slice ya r.res.length yc] ∧ FIn 7 PTyp.vals W.heap.size W xa r.args ∧ FIn 7 PTyp.vals W.heap.size W ya r.res) (Rg := fun r => r.Rng) Try.underlying28 cellsGate (by omega) (fun _ _ _ h => trod_gate h) hf
  refine ⟨a, cap, L, e, fun i hi => ?_, fun hli => ⟨long_le bytesGate (hr hli).1, (hr hli).2⟩⟩
  obtain ⟨b, off, ha, hb, cs', ⟨xa, xc, ya, yc, rfl, hX, hY⟩, hc⟩ := hL i hi
  exact ⟨b, off, xa, xc, ya, yc, ha, hb, hb, hc 0 (by omega), hc 1 (by omega), hc 2 (by omega), hc 3 (by omega), hX, hY⟩
set_option maxRecDepth 100000 in
theorem trod_img {H : Type} {enc : TypeId × Value → H} {W : World} {spare : Nat → Bool} {held : Bool} {n : Nat} {cs : List Value} {x : DataW H × List MemPlace}
    (hf : DataW.trod enc Try.prog W 0 spare held n 30 cs = some x) : ∃ (m : PImg) (ra : Option Addr) (rc : Nat) (ca : Option Addr) (cc : Nat) (ga : Option Addr) (gc : Nat), cs = [.slice ra m.regs.length rc, .slice ca m.comps.length cc, .slice ga m.gates.length gc, .int .i64 m.depth] ∧ ImgIn W.heap.size W ra ca ga m ∧ (Light 30 x.1 → m.Rng) := by
  have hs := Try.underlying30
  obtain ⟨xs, m, _, hxx, hcl, hl, hx⟩ := DataW.trod_struct hs hf
  obtain ⟨c0, c1, c2, c3, rfl⟩ := list_4 (hcl.trans cellsImage)
  have at_ : ∀ i, i < 4 → ∃ y, xs[i]? = some y := by
    intro i hi
    have : i < xs.length := by rw [hl]; simpa using hi
    exact ⟨xs[i], by simp [this]⟩
  obtain ⟨y0, t0⟩ := at_ 0 (by omega)
  have u0 := t0
  rw [← hx 0 _ rfl] at t0
  obtain ⟨y1, t1⟩ := at_ 1 (by omega)
  have u1 := t1
  rw [← hx 1 _ rfl] at t1
  obtain ⟨y2, t2⟩ := at_ 2 (by omega)
  have u2 := t2
  rw [← hx 2 _ rfl] at t2
  obtain ⟨y3, t3⟩ := at_ 3 (by omega)
  rw [← hx 3 _ rfl] at t3
  have kRegions : Try.prog.cellsOf 22 = 1 := by kernel_rfl
  have kComps : Try.prog.cellsOf 27 = 1 := by kernel_rfl
  have kGates : Try.prog.cellsOf 28 = 1 := by kernel_rfl
  have kint : Try.prog.cellsOf 3 = 1 := by kernel_rfl
  obtain ⟨ra, rc, R, e0, hR, hr⟩ := row_regs t0
  obtain ⟨ca, cc, C, e1, hC, hc⟩ := row_comps t1
  obtain ⟨ga, gc, G, e2, hG, hg⟩ := row_gates t2
  obtain ⟨d, e3, _, w3⟩ := DataW.trod_int Try.underlying3 t3
  simp [kRegions, kComps, kGates, kint] at e0 e1 e2 e3
  subst e0 e1 e2 e3
  refine ⟨⟨R, C, G, d⟩, ra, rc, ca, cc, ga, gc, rfl, ⟨hR, hC, hG⟩, fun hli => ⟨hr ?_, hc ?_, hg ?_, bd_i64 w3⟩⟩
  · rw [hxx] at hli
    exact (Light.part hs hli (j := 0) rfl (by simp [u0]))
  · rw [hxx] at hli
    exact (Light.part hs hli (j := 1) rfl (by simp [u1]))
  · rw [hxx] at hli
    exact (Light.part hs hli (j := 2) rfl (by simp [u2]))
set_option maxRecDepth 100000 in
theorem open_img {H : Type} {enc : TypeId × Value → H} {W : World} {r : Reach} {base : Nat} {spare : Nat → Bool} {held : Bool} {v : Value} {d : DataW H} {ps : List MemPlace}
    (hv : Value.okWide Try.prog W r base 30 v) (h : DataW.Trod enc Try.prog W 0 spare held 30 v d ps) :
    ∃ (m : PImg) (ra : Option Addr) (rc : Nat) (ca : Option Addr) (cc : Nat) (ga : Option Addr) (gc : Nat), v = .agg #[.slice ra m.regs.length rc, .slice ca m.comps.length cc, .slice ga m.gates.length gc, .int .i64 m.depth] ∧ ImgIn W.heap.size W ra ca ga m ∧ (Light 30 d → m.Rng) := by
  obtain ⟨cs, rfl, _⟩ := okWide_struct Try.underlying30 hv
  obtain ⟨fuel, hf⟩ := h
  obtain ⟨m, ra, rc, ca, cc, ga, gc, e, hI, hr⟩ := trod_img hf
  refine ⟨m, ra, rc, ca, cc, ga, gc, ?_, hI, hr⟩
  obtain ⟨l⟩ := cs
  have e' : l = _ := e
  rw [e']
end Go.Proofs.Ythblllanofnmmaa
