import Derived.Test.YtcljibdikhpnlaaDoorP07
import Derived.Test.YtcljibdikhpnlaaDoorP08
import Derived.Test.YtcljibdikhpnlaaDoorP03
import Derived.Deep.MidRow
/-
  Stage 4, image: a program that came in, opened. (Written by mkopeni.py.)
-/
namespace Go.Proofs.YtcljibdikhpnlaaDoor
open Go.ChangeShapes Go.WideShapes Go.ChangeAt Go.RowKit Go.Deep

/-- Nothing in it is longer than memory. -/
def Light {H : Type} (t : TypeId) (d : DataW H) : Prop := ∀ n ∈ d.weights Tryd.prog t, n ≤ reachBytes
theorem Light.part {H : Type} {t : TypeId} {fs : Array Field} {parts : List (DataW H)} (hu : Tryd.prog.underlying t = some (.struct fs)) (h : Light t (.agg parts)) {j : Nat} {tj : TypeId} {dj : DataW H}
    (ht : (fs.toList.map (·.type))[j]? = some tj) (hd : parts[j]? = some dj) : Light tj dj := fun n hn => h n (by simp only [DataW.weights, hu]; exact DataW.weights_mem_each ht hd n hn)
theorem weightsAll_mem {H : Type} {e : TypeId} : ∀ {l : List (DataW H)} {d : DataW H}, d ∈ l → ∀ n ∈ d.weights Tryd.prog e, n ∈ DataW.weightsAll Tryd.prog e l
  | x :: r, d, hd, n, hn => by
    simp only [DataW.weightsAll, List.mem_append]
    rcases List.mem_cons.1 hd with rfl | hd
    · exact .inl hn
    · exact .inr (weightsAll_mem hd n hn)
  | [], d, hd, _, _ => by simp at hd
theorem Light.row {H : Type} {t e : TypeId} {elems spare : List (DataW H)} (hu : Tryd.prog.underlying t = some (.slice e)) (h : Light t (.slice elems spare)) : elems.length * Tryd.prog.bytesOf e ≤ reachBytes ∧ ∀ d ∈ elems, Light e d := by
  constructor
  · have := h ((elems.length + spare.length) * Tryd.prog.bytesOf e) (by simp [DataW.weights, hu])
    exact Nat.le_trans (Nat.mul_le_mul_right _ (Nat.le_add_right _ _)) this
  · intro d hd n hn
    exact h n (by simp only [DataW.weights, hu]; simp [weightsAll_mem hd n hn])
theorem light_of {H : Type} {ts : List TypeId} {ds : List (DataW H)} (h : (DataW.weightsEach Tryd.prog ts ds).all (· ≤ reachBytes) = true) {j : Nat} {t : TypeId} {d : DataW H} (ht : ts[j]? = some t) (hd : ds[j]? = some d) : Light t d := fun n hn => by
  have := List.all_eq_true.1 h _ (DataW.weights_mem_each ht hd n hn)
  simpa using this
theorem reach_le : reachBytes ≤ maxG := by unfold maxG; decide
theorem long_le {n k : Nat} (hk : 1 ≤ k) (h : n * k ≤ reachBytes) : n ≤ maxG := by
  have h1 : n * 1 ≤ n * k := Nat.mul_le_mul_left n hk
  have h2 := reach_le
  omega
theorem no_spot_k {W : World} {a : Addr} {cs : List Value} {k : Nat} (hk : 0 < k) (h : W.cells? 0 (a.add (0 * k)) k = some cs) : a.spot = none := by
  obtain ⟨_, hl, hc⟩ := World.cells?_some h
  have c0 := hc 0 hk
  simp only [Nat.zero_mul, Addr.add, if_true] at c0
  have : cs[0]? = some (cs[0]'(by omega)) := by simp
  exact World.cell?_spot (c0.trans this)
theorem open_rows {H : Type} {enc : TypeId × Value → H} {W : World} {spare : Nat → Bool} {held : Bool} {α : Type} {Q : List Value → α → Prop} {Rg : α → Prop} {k : Nat} {t e : TypeId} (ht : Tryd.prog.underlying t = some (.slice e)) (hce : Tryd.prog.cellsOf e = k) (hk : 0 < k)
    (hel : ∀ (n : Nat) (cs : List Value) (x : DataW H × List MemPlace), DataW.trod enc Tryd.prog W 0 spare held n e cs = some x → ∃ a, Q cs a ∧ (Light e x.1 → Rg a))
    {fuel : Nat} {cs : List Value} {x : DataW H × List MemPlace} (h : DataW.trod enc Tryd.prog W 0 spare held fuel t cs = some x) :
    ∃ (a : Option Addr) (cap : Nat) (L : List α), cs = [.slice a L.length cap] ∧ (∀ i (h : i < L.length), ∃ b off, a = some ⟨b, off, none⟩ ∧ b < W.heap.size ∧ ∃ cs', Q cs' L[i] ∧ ∀ j, j < k → W.cell? ⟨b, off + i * k + j, none⟩ = cs'[j]?) ∧
      (Light t x.1 → L.length * Tryd.prog.bytesOf e ≤ reachBytes ∧ ∀ r ∈ L, Rg r) := by
  rcases open_slice ht h with ⟨rfl, rfl⟩ | ⟨a, len, cap, m, n, D, Pl, rfl, _, hl, hm, hmm, rfl, hx⟩
  · exact ⟨none, 0, [], rfl, fun i hi => by simp at hi, fun _ => ⟨by simp, by simp⟩⟩
  · have hlm : len ≤ m := by rw [hmm]; split <;> omega
    rw [hce] at hx
    have hk' : ∀ i, i < len → ∃ y, (∃ cs', W.cells? 0 (a.add (i * k)) k = some cs' ∧ Q cs' y) ∧ (Light e (D i) → Rg y) := fun i hi => by
      obtain ⟨cs', e1, e2⟩ := hx i (by omega)
      obtain ⟨y, q, r⟩ := hel _ _ _ e2
      exact ⟨y, ⟨cs', e1, q⟩, r⟩
    obtain ⟨L, hL, hp⟩ := choose_list _ _ hk'
    subst hL
    refine ⟨some a, cap, L, rfl, fun i hi => ?_, fun hli => ?_⟩
    · have h0 : 0 < L.length := by omega
      obtain ⟨⟨c0, hc0, _⟩, _⟩ := hp 0 h0
      have hs : a.spot = none := no_spot_k hk hc0
      obtain ⟨⟨cs', hc, q⟩, _⟩ := hp i hi
      obtain ⟨_, hlen, hcc⟩ := World.cells?_some hc
      obtain ⟨b, off, spot⟩ := a
      obtain rfl : spot = none := hs
      have hcell : ∀ j, j < k → W.cell? ⟨b, off + i * k + j, none⟩ = cs'[j]? := fun j hj => by
        have := hcc j hj
        rwa [addr_add, addr_add] at this
      have c1 := hcell 0 hk
      have : cs'[0]? = some (cs'[0]'(by omega)) := by simp
      exact ⟨b, off, rfl, World.block_lt_of_cell? W _ (c1.trans this), cs', q, hcell⟩
    · obtain ⟨h1, h2⟩ := Light.row ht hli
      refine ⟨by simpa using h1, fun r hr => ?_⟩
      obtain ⟨i, hi, rfl⟩ := List.getElem_of_mem hr
      exact (hp i hi).2 (h2 _ (by simp; exact ⟨i, hi, rfl⟩))

theorem cellsSlot : Tryd.prog.cellsOf 69 = 8 := by kernel_rfl
theorem cellsRoot : Tryd.prog.cellsOf 71 = 6 := by kernel_rfl
theorem cellsRegion : Tryd.prog.cellsOf 47 = 4 := by kernel_rfl
theorem cellsComp : Tryd.prog.cellsOf 52 = 2 := by kernel_rfl
theorem cellsGate : Tryd.prog.cellsOf 55 = 4 := by kernel_rfl
theorem cellsImage : Tryd.prog.cellsOf 26 = 4 := by kernel_rfl
theorem bytesSlot : 1 ≤ Tryd.prog.bytesOf 69 := of_decide_eq_true (by kernel_rfl)
theorem bytesType : 1 ≤ Tryd.prog.bytesOf 67 := of_decide_eq_true (by kernel_rfl)
theorem bytesRoot : 1 ≤ Tryd.prog.bytesOf 71 := of_decide_eq_true (by kernel_rfl)
theorem bytesRegion : 1 ≤ Tryd.prog.bytesOf 47 := of_decide_eq_true (by kernel_rfl)
theorem bytesComp : 1 ≤ Tryd.prog.bytesOf 52 := of_decide_eq_true (by kernel_rfl)
theorem bytesGate : 1 ≤ Tryd.prog.bytesOf 55 := of_decide_eq_true (by kernel_rfl)
theorem bytesInst : Tryd.prog.bytesOf 74 = 40 := by kernel_rfl
theorem list_2 {cs : List Value} (h : cs.length = 2) : ∃ c0 c1, cs = [c0, c1] := by
  match cs, h with
  | [c0, c1], _ => exact ⟨c0, c1, rfl⟩
theorem list_4 {cs : List Value} (h : cs.length = 4) : ∃ c0 c1 c2 c3, cs = [c0, c1, c2, c3] := by
  match cs, h with
  | [c0, c1, c2, c3], _ => exact ⟨c0, c1, c2, c3, rfl⟩
theorem list_5 {cs : List Value} (h : cs.length = 5) : ∃ c0 c1 c2 c3 c4, cs = [c0, c1, c2, c3, c4] := by
  match cs, h with
  | [c0, c1, c2, c3, c4], _ => exact ⟨c0, c1, c2, c3, c4, rfl⟩
theorem list_6 {cs : List Value} (h : cs.length = 6) : ∃ c0 c1 c2 c3 c4 c5, cs = [c0, c1, c2, c3, c4, c5] := by
  match cs, h with
  | [c0, c1, c2, c3, c4, c5], _ => exact ⟨c0, c1, c2, c3, c4, c5, rfl⟩
theorem list_7 {cs : List Value} (h : cs.length = 7) : ∃ c0 c1 c2 c3 c4 c5 c6, cs = [c0, c1, c2, c3, c4, c5, c6] := by
  match cs, h with
  | [c0, c1, c2, c3, c4, c5, c6], _ => exact ⟨c0, c1, c2, c3, c4, c5, c6, rfl⟩
theorem list_8 {cs : List Value} (h : cs.length = 8) : ∃ c0 c1 c2 c3 c4 c5 c6 c7, cs = [c0, c1, c2, c3, c4, c5, c6, c7] := by
  match cs, h with
  | [c0, c1, c2, c3, c4, c5, c6, c7], _ => exact ⟨c0, c1, c2, c3, c4, c5, c6, c7, rfl⟩
set_option maxRecDepth 100000 in
theorem trod_typ {H : Type} {enc : TypeId × Value → H} {W : World} {spare : Nat → Bool} {held : Bool} {n : Nat} {cs : List Value} {x : DataW H × List MemPlace}
    (hf : DataW.trod enc Tryd.prog W 0 spare held n 67 cs = some x) : ∃ t : PTyp, cs = t.vals ∧ t.Rng := by
  have hs := Tryd.underlying67
  obtain ⟨xs, m, _, _, hcl, hl, hx⟩ := DataW.trod_struct hs hf
  obtain ⟨c0, c1, c2, c3, c4, c5, c6, rfl⟩ := list_7 (hcl.trans cellsType)
  have at_ : ∀ i, i < 7 → ∃ y, xs[i]? = some y := by
    intro i hi
    have : i < xs.length := by rw [hl]; simpa using hi
    exact ⟨xs[i], by simp [this]⟩
  obtain ⟨y0, t0⟩ := at_ 0 (by omega)
  rw [← hx 0 _ rfl] at t0
  obtain ⟨y1, t1⟩ := at_ 1 (by omega)
  rw [← hx 1 _ rfl] at t1
  obtain ⟨y2, t2⟩ := at_ 2 (by omega)
  rw [← hx 2 _ rfl] at t2
  obtain ⟨y3, t3⟩ := at_ 3 (by omega)
  rw [← hx 3 _ rfl] at t3
  obtain ⟨y4, t4⟩ := at_ 4 (by omega)
  rw [← hx 4 _ rfl] at t4
  obtain ⟨y5, t5⟩ := at_ 5 (by omega)
  rw [← hx 5 _ rfl] at t5
  obtain ⟨y6, t6⟩ := at_ 6 (by omega)
  rw [← hx 6 _ rfl] at t6
  have kbool : Tryd.prog.cellsOf 4 = 1 := by kernel_rfl
  have ku64 : Tryd.prog.cellsOf 38 = 1 := by kernel_rfl
  have kperms : Tryd.prog.cellsOf 39 = 1 := by kernel_rfl
  have kint : Tryd.prog.cellsOf 3 = 1 := by kernel_rfl
  obtain ⟨tc, e0, _⟩ := DataW.trod_bool Tryd.underlying4 t0
  obtain ⟨tb, e1, _, w1⟩ := DataW.trod_int Tryd.underlying38 t1
  obtain ⟨te, e2, _, w2⟩ := DataW.trod_int Tryd.underlying38 t2
  obtain ⟨lo, e3, _, w3⟩ := DataW.trod_int Tryd.underlying38 t3
  obtain ⟨hi, e4, _, w4⟩ := DataW.trod_int Tryd.underlying38 t4
  obtain ⟨tp, e5, _, w5⟩ := DataW.trod_int Tryd.underlying39 t5
  obtain ⟨ts, e6, _, w6⟩ := DataW.trod_int Tryd.underlying3 t6
  simp [kbool, ku64, kperms, kint] at e0 e1 e2 e3 e4 e5 e6
  subst e0 e1 e2 e3 e4 e5 e6
  exact ⟨⟨tc, tb, te, lo, hi, tp, ts⟩, rfl, bd_u64 w1, bd_u64 w2, bd_u64 w3, bd_u64 w4, bd_u8 w5, bd_i64 w6⟩
set_option maxRecDepth 100000 in
theorem trod_slot {H : Type} {enc : TypeId × Value → H} {W : World} {spare : Nat → Bool} {held : Bool} {n : Nat} {cs : List Value} {x : DataW H × List MemPlace}
    (hf : DataW.trod enc Tryd.prog W 0 spare held n 69 cs = some x) : ∃ k : PSlot, cs = k.vals ∧ k.Rng := by
  have hs := Tryd.underlying69
  obtain ⟨xs, m, _, _, hcl, hl, hx⟩ := DataW.trod_struct hs hf
  obtain ⟨c0, c1, c2, c3, c4, c5, c6, c7, rfl⟩ := list_8 (hcl.trans cellsSlot)
  have at_ : ∀ i, i < 2 → ∃ y, xs[i]? = some y := by
    intro i hi
    have : i < xs.length := by rw [hl]; simpa using hi
    exact ⟨xs[i], by simp [this]⟩
  obtain ⟨y0, t0⟩ := at_ 0 (by omega)
  rw [← hx 0 _ rfl] at t0
  obtain ⟨y1, t1⟩ := at_ 1 (by omega)
  rw [← hx 1 _ rfl] at t1
  have ku64 : Tryd.prog.cellsOf 38 = 1 := by kernel_rfl
  obtain ⟨t, e0, r0⟩ := trod_typ t0
  obtain ⟨c, e1, _, w1⟩ := DataW.trod_int Tryd.underlying38 t1
  simp [ku64, cellsType] at e0 e1
  subst e1
  exact ⟨⟨t, c⟩, by simp [PSlot.vals, ← e0], r0, bd_u64 w1⟩
set_option maxRecDepth 100000 in
theorem trod_cap {H : Type} {enc : TypeId × Value → H} {W : World} {spare : Nat → Bool} {held : Bool} {n : Nat} {cs : List Value} {x : DataW H × List MemPlace}
    (hf : DataW.trod enc Tryd.prog W 0 spare held n 41 cs = some x) : ∃ b e c p s : Int, cs = [.int .u64 b, .int .u64 e, .int .u64 c, .int .u8 p, .int .i64 s] ∧ W64 b ∧ W64 e ∧ W64 c ∧ B8 p ∧ J64 s := by
  have hs := Tryd.underlying41
  obtain ⟨xs, m, _, _, hcl, hl, hx⟩ := DataW.trod_struct hs hf
  obtain ⟨c0, c1, c2, c3, c4, rfl⟩ := list_5 (hcl.trans cellsCap)
  have at_ : ∀ i, i < 5 → ∃ y, xs[i]? = some y := by
    intro i hi
    have : i < xs.length := by rw [hl]; simpa using hi
    exact ⟨xs[i], by simp [this]⟩
  obtain ⟨y0, t0⟩ := at_ 0 (by omega)
  rw [← hx 0 _ rfl] at t0
  obtain ⟨y1, t1⟩ := at_ 1 (by omega)
  rw [← hx 1 _ rfl] at t1
  obtain ⟨y2, t2⟩ := at_ 2 (by omega)
  rw [← hx 2 _ rfl] at t2
  obtain ⟨y3, t3⟩ := at_ 3 (by omega)
  rw [← hx 3 _ rfl] at t3
  obtain ⟨y4, t4⟩ := at_ 4 (by omega)
  rw [← hx 4 _ rfl] at t4
  have ku64 : Tryd.prog.cellsOf 38 = 1 := by kernel_rfl
  have kperms : Tryd.prog.cellsOf 39 = 1 := by kernel_rfl
  have kint : Tryd.prog.cellsOf 3 = 1 := by kernel_rfl
  obtain ⟨b, e0, _, w0⟩ := DataW.trod_int Tryd.underlying38 t0
  obtain ⟨e, e1, _, w1⟩ := DataW.trod_int Tryd.underlying38 t1
  obtain ⟨c, e2, _, w2⟩ := DataW.trod_int Tryd.underlying38 t2
  obtain ⟨p, e3, _, w3⟩ := DataW.trod_int Tryd.underlying39 t3
  obtain ⟨s, e4, _, w4⟩ := DataW.trod_int Tryd.underlying3 t4
  simp [ku64, kperms, kint] at e0 e1 e2 e3 e4
  subst e0 e1 e2 e3 e4
  exact ⟨b, e, c, p, s, rfl, bd_u64 w0, bd_u64 w1, bd_u64 w2, bd_u8 w3, bd_i64 w4⟩
set_option maxRecDepth 100000 in
theorem trod_root {H : Type} {enc : TypeId × Value → H} {W : World} {spare : Nat → Bool} {held : Bool} {n : Nat} {cs : List Value} {x : DataW H × List MemPlace}
    (hf : DataW.trod enc Tryd.prog W 0 spare held n 71 cs = some x) : ∃ k : PRoot, cs = k.vals ∧ k.Rng := by
  have hs := Tryd.underlying71
  obtain ⟨xs, m, _, _, hcl, hl, hx⟩ := DataW.trod_struct hs hf
  obtain ⟨c0, c1, c2, c3, c4, c5, rfl⟩ := list_6 (hcl.trans cellsRoot)
  have at_ : ∀ i, i < 2 → ∃ y, xs[i]? = some y := by
    intro i hi
    have : i < xs.length := by rw [hl]; simpa using hi
    exact ⟨xs[i], by simp [this]⟩
  obtain ⟨y0, t0⟩ := at_ 0 (by omega)
  rw [← hx 0 _ rfl] at t0
  obtain ⟨y1, t1⟩ := at_ 1 (by omega)
  rw [← hx 1 _ rfl] at t1
  have kint : Tryd.prog.cellsOf 3 = 1 := by kernel_rfl
  obtain ⟨r, e0, _, w0⟩ := DataW.trod_int Tryd.underlying3 t0
  obtain ⟨b, e, c, p, s, e1, r1⟩ := trod_cap t1
  simp [kint, cellsCap] at e0 e1
  obtain ⟨rfl, rfl, rfl, rfl, rfl⟩ := e1
  subst e0
  exact ⟨⟨r, b, e, c, p, s⟩, rfl, bd_i64 w0, r1⟩
theorem row_slots {H : Type} {enc : TypeId × Value → H} {W : World} {spare : Nat → Bool} {held : Bool} {n : Nat} {cs : List Value} {x : DataW H × List MemPlace}
    (hf : DataW.trod enc Tryd.prog W 0 spare held n 45 cs = some x) : ∃ (a : Option Addr) (cap : Nat) (L : List PSlot), cs = [.slice a L.length cap] ∧ FIn 8 PSlot.vals W.heap.size W a L ∧ (Light 45 x.1 → L.length ≤ maxG) ∧ ∀ r ∈ L, PSlot.Rng r := by
  obtain ⟨a, cap, L, e, hL, hr⟩ := open_rows (Q := fun cs (a : PSlot) => cs = PSlot.vals a ∧ PSlot.Rng a) (Rg := fun _ => True) Tryd.underlying45 cellsSlot (by omega) (fun _ _ _ h => by obtain ⟨a, h1, h2⟩ := trod_slot h; exact ⟨a, ⟨h1, h2⟩, fun _ => trivial⟩) hf
  refine ⟨a, cap, L, e, fun i hi => ?_, fun hli => long_le bytesSlot (hr hli).1, fun r hm => ?_⟩
  · obtain ⟨b, off, ha, hb, cs', ⟨rfl, _⟩, hc⟩ := hL i hi
    exact ⟨b, off, ha, hb, hb, hc⟩
  · obtain ⟨i, hi, rfl⟩ := List.getElem_of_mem hm
    obtain ⟨b, off, ha, hb, cs', ⟨rfl, q⟩, hc⟩ := hL i hi
    exact q
theorem row_types {H : Type} {enc : TypeId × Value → H} {W : World} {spare : Nat → Bool} {held : Bool} {n : Nat} {cs : List Value} {x : DataW H × List MemPlace}
    (hf : DataW.trod enc Tryd.prog W 0 spare held n 53 cs = some x) : ∃ (a : Option Addr) (cap : Nat) (L : List PTyp), cs = [.slice a L.length cap] ∧ FIn 7 PTyp.vals W.heap.size W a L ∧ (Light 53 x.1 → L.length ≤ maxG) ∧ ∀ r ∈ L, PTyp.Rng r := by
  obtain ⟨a, cap, L, e, hL, hr⟩ := open_rows (Q := fun cs (a : PTyp) => cs = PTyp.vals a ∧ PTyp.Rng a) (Rg := fun _ => True) Tryd.underlying53 cellsType (by omega) (fun _ _ _ h => by obtain ⟨a, h1, h2⟩ := trod_typ h; exact ⟨a, ⟨h1, h2⟩, fun _ => trivial⟩) hf
  refine ⟨a, cap, L, e, fun i hi => ?_, fun hli => long_le bytesType (hr hli).1, fun r hm => ?_⟩
  · obtain ⟨b, off, ha, hb, cs', ⟨rfl, _⟩, hc⟩ := hL i hi
    exact ⟨b, off, ha, hb, hb, hc⟩
  · obtain ⟨i, hi, rfl⟩ := List.getElem_of_mem hm
    obtain ⟨b, off, ha, hb, cs', ⟨rfl, q⟩, hc⟩ := hL i hi
    exact q
theorem row_roots {H : Type} {enc : TypeId × Value → H} {W : World} {spare : Nat → Bool} {held : Bool} {n : Nat} {cs : List Value} {x : DataW H × List MemPlace}
    (hf : DataW.trod enc Tryd.prog W 0 spare held n 49 cs = some x) : ∃ (a : Option Addr) (cap : Nat) (L : List PRoot), cs = [.slice a L.length cap] ∧ FIn 6 PRoot.vals W.heap.size W a L ∧ (Light 49 x.1 → L.length ≤ maxG) ∧ ∀ r ∈ L, PRoot.Rng r := by
  obtain ⟨a, cap, L, e, hL, hr⟩ := open_rows (Q := fun cs (a : PRoot) => cs = PRoot.vals a ∧ PRoot.Rng a) (Rg := fun _ => True) Tryd.underlying49 cellsRoot (by omega) (fun _ _ _ h => by obtain ⟨a, h1, h2⟩ := trod_root h; exact ⟨a, ⟨h1, h2⟩, fun _ => trivial⟩) hf
  refine ⟨a, cap, L, e, fun i hi => ?_, fun hli => long_le bytesRoot (hr hli).1, fun r hm => ?_⟩
  · obtain ⟨b, off, ha, hb, cs', ⟨rfl, _⟩, hc⟩ := hL i hi
    exact ⟨b, off, ha, hb, hb, hc⟩
  · obtain ⟨i, hi, rfl⟩ := List.getElem_of_mem hm
    obtain ⟨b, off, ha, hb, cs', ⟨rfl, q⟩, hc⟩ := hL i hi
    exact q
theorem row_insts {H : Type} {enc : TypeId × Value → H} {W : World} {spare : Nat → Bool} {held : Bool} {n : Nat} {cs : List Value} {x : DataW H × List MemPlace}
    (hf : DataW.trod enc Tryd.prog W 0 spare held n 50 cs = some x) : ∃ (a : Option Addr) (cap : Nat) (L : List Ins), cs = [.slice a L.length cap] ∧ LIn W.heap.size W a L ∧ (Light 50 x.1 → L.length ≤ maxI) ∧ OpsIn L := by
  obtain ⟨a, cap, L, e, hL, hr⟩ := open_rows (Q := fun cs (a : Ins) => cs = a.vals ∧ (0 ≤ a.op ∧ a.op < 256)) (Rg := fun _ => True) Tryd.underlying50 cellsInst (by omega) (fun _ _ _ h => by obtain ⟨a, h1, h2, _⟩ := trod_inst h; exact ⟨a, ⟨h1, h2⟩, fun _ => trivial⟩) hf
  refine ⟨a, cap, L, e, fun i hi => ?_, fun hli => ?_, fun r hm => ?_⟩
  · obtain ⟨b, off, ha, hb, cs', ⟨rfl, _⟩, hc⟩ := hL i hi
    exact ⟨b, off, ha, hb, hb, hc 0 (by omega), hc 1 (by omega), hc 2 (by omega), hc 3 (by omega), hc 4 (by omega)⟩
  · have := (hr hli).1
    have hr : reachBytes = 140737488351232 := by decide
    rw [bytesInst, hr] at this
    unfold maxI
    omega
  · obtain ⟨i, hi, rfl⟩ := List.getElem_of_mem hm
    obtain ⟨b, off, ha, hb, cs', ⟨rfl, q⟩, hc⟩ := hL i hi
    exact q
set_option maxRecDepth 100000 in
theorem trod_reg {H : Type} {enc : TypeId × Value → H} {W : World} {spare : Nat → Bool} {held : Bool} {n : Nat} {cs : List Value} {x : DataW H × List MemPlace}
    (hf : DataW.trod enc Tryd.prog W 0 spare held n 47 cs = some x) : ∃ r : PReg, (∃ sa sc, cs = [.int .u64 r.b, .int .u64 r.n, .string (str r.data), .slice sa r.slots.length sc] ∧ FIn 8 PSlot.vals W.heap.size W sa r.slots) ∧ (Light 47 x.1 → r.Rng) := by
  have hs := Tryd.underlying47
  obtain ⟨xs, m, _, hxx, hcl, hl, hx⟩ := DataW.trod_struct hs hf
  obtain ⟨c0, c1, c2, c3, rfl⟩ := list_4 (hcl.trans cellsRegion)
  have at_ : ∀ i, i < 4 → ∃ y, xs[i]? = some y := by
    intro i hi
    have : i < xs.length := by rw [hl]; simpa using hi
    exact ⟨xs[i], by simp [this]⟩
  obtain ⟨y0, t0⟩ := at_ 0 (by omega)
  rw [← hx 0 _ rfl] at t0
  obtain ⟨y1, t1⟩ := at_ 1 (by omega)
  rw [← hx 1 _ rfl] at t1
  obtain ⟨y2, t2⟩ := at_ 2 (by omega)
  have u2 := t2
  rw [← hx 2 _ rfl] at t2
  obtain ⟨y3, t3⟩ := at_ 3 (by omega)
  have u3 := t3
  rw [← hx 3 _ rfl] at t3
  have ku64 : Tryd.prog.cellsOf 38 = 1 := by kernel_rfl
  have kstr : Tryd.prog.cellsOf 9 = 1 := by kernel_rfl
  have kSlots : Tryd.prog.cellsOf 45 = 1 := by kernel_rfl
  obtain ⟨b, e0, _, w0⟩ := DataW.trod_int Tryd.underlying38 t0
  obtain ⟨nn, e1, _, w1⟩ := DataW.trod_int Tryd.underlying38 t1
  obtain ⟨z, e2, hx2, _⟩ := DataW.trod_string Tryd.underlying9 t2
  obtain ⟨sa, sc, L, e3, hL, hln, hrg⟩ := row_slots t3
  simp [ku64, kstr, kSlots] at e0 e1 e2 e3
  subst e0 e1 e2 e3
  refine ⟨⟨b, nn, z.data.toList, L⟩, ⟨sa, sc, rfl, hL⟩, fun hli => ⟨bd_u64 w0, bd_u64 w1, ?_, hln ?_, hrg⟩⟩
  · rw [hxx] at hli
    have hz : Light 9 y2.1 := (Light.part hs hli (j := 2) rfl (by simp [u2]))
    rw [hx2] at hz
    exact Nat.le_trans (hz _ (by simp [DataW.weights])) reach_le
  · rw [hxx] at hli
    exact (Light.part hs hli (j := 3) rfl (by simp [u3]))
set_option maxRecDepth 100000 in
theorem trod_comp {H : Type} {enc : TypeId × Value → H} {W : World} {spare : Nat → Bool} {held : Bool} {n : Nat} {cs : List Value} {x : DataW H × List MemPlace}
    (hf : DataW.trod enc Tryd.prog W 0 spare held n 52 cs = some x) : ∃ c : PComp, (∃ ra rc ka kc, cs = [.slice ra c.roots.length rc, .slice ka c.code.length kc] ∧ FIn 6 PRoot.vals W.heap.size W ra c.roots ∧ LIn W.heap.size W ka c.code) ∧ (Light 52 x.1 → c.Rng) := by
  have hs := Tryd.underlying52
  obtain ⟨xs, m, _, hxx, hcl, hl, hx⟩ := DataW.trod_struct hs hf
  obtain ⟨c0, c1, rfl⟩ := list_2 (hcl.trans cellsComp)
  have at_ : ∀ i, i < 2 → ∃ y, xs[i]? = some y := by
    intro i hi
    have : i < xs.length := by rw [hl]; simpa using hi
    exact ⟨xs[i], by simp [this]⟩
  obtain ⟨y0, t0⟩ := at_ 0 (by omega)
  have u0 := t0
  rw [← hx 0 _ rfl] at t0
  obtain ⟨y1, t1⟩ := at_ 1 (by omega)
  have u1 := t1
  rw [← hx 1 _ rfl] at t1
  have kRoots : Tryd.prog.cellsOf 49 = 1 := by kernel_rfl
  have kInsts : Tryd.prog.cellsOf 50 = 1 := by kernel_rfl
  obtain ⟨ra, rc, R, e0, hR, hlr, hrr⟩ := row_roots t0
  obtain ⟨ka, kc, K, e1, hK, hlk, hok⟩ := row_insts t1
  simp [kRoots, kInsts] at e0 e1
  subst e0 e1
  refine ⟨⟨R, K⟩, ⟨ra, rc, ka, kc, rfl, hR, hK⟩, fun hli => ⟨hlr ?_, hlk ?_, hok, hrr⟩⟩
  · rw [hxx] at hli
    exact (Light.part hs hli (j := 0) rfl (by simp [u0]))
  · rw [hxx] at hli
    exact (Light.part hs hli (j := 1) rfl (by simp [u1]))
set_option maxRecDepth 100000 in
theorem trod_gate {H : Type} {enc : TypeId × Value → H} {W : World} {spare : Nat → Bool} {held : Bool} {n : Nat} {cs : List Value} {x : DataW H × List MemPlace}
    (hf : DataW.trod enc Tryd.prog W 0 spare held n 55 cs = some x) : ∃ g : PGate, (∃ xa xc ya yc, cs = [.int .i64 g.c, .int .i64 g.e, .slice xa g.args.length xc, .slice ya g.res.length yc] ∧ FIn 7 PTyp.vals W.heap.size W xa g.args ∧ FIn 7 PTyp.vals W.heap.size W ya g.res) ∧ (Light 55 x.1 → g.Rng) := by
  have hs := Tryd.underlying55
  obtain ⟨xs, m, _, hxx, hcl, hl, hx⟩ := DataW.trod_struct hs hf
  obtain ⟨c0, c1, c2, c3, rfl⟩ := list_4 (hcl.trans cellsGate)
  have at_ : ∀ i, i < 4 → ∃ y, xs[i]? = some y := by
    intro i hi
    have : i < xs.length := by rw [hl]; simpa using hi
    exact ⟨xs[i], by simp [this]⟩
  obtain ⟨y0, t0⟩ := at_ 0 (by omega)
  rw [← hx 0 _ rfl] at t0
  obtain ⟨y1, t1⟩ := at_ 1 (by omega)
  rw [← hx 1 _ rfl] at t1
  obtain ⟨y2, t2⟩ := at_ 2 (by omega)
  have u2 := t2
  rw [← hx 2 _ rfl] at t2
  obtain ⟨y3, t3⟩ := at_ 3 (by omega)
  have u3 := t3
  rw [← hx 3 _ rfl] at t3
  have kint : Tryd.prog.cellsOf 3 = 1 := by kernel_rfl
  have kTypes : Tryd.prog.cellsOf 53 = 1 := by kernel_rfl
  obtain ⟨c, e0, _, w0⟩ := DataW.trod_int Tryd.underlying3 t0
  obtain ⟨e, e1, _, w1⟩ := DataW.trod_int Tryd.underlying3 t1
  obtain ⟨xa, xc, X, e2, hX, hlx, hrx⟩ := row_types t2
  obtain ⟨ya, yc, Y, e3, hY, hly, hry⟩ := row_types t3
  simp [kint, kTypes] at e0 e1 e2 e3
  subst e0 e1 e2 e3
  refine ⟨⟨c, e, X, Y⟩, ⟨xa, xc, ya, yc, rfl, hX, hY⟩, fun hli => ⟨bd_i64 w0, bd_i64 w1, hlx ?_, hly ?_, hrx, hry⟩⟩
  · rw [hxx] at hli
    exact (Light.part hs hli (j := 2) rfl (by simp [u2]))
  · rw [hxx] at hli
    exact (Light.part hs hli (j := 3) rfl (by simp [u3]))
theorem row_regs {H : Type} {enc : TypeId × Value → H} {W : World} {spare : Nat → Bool} {held : Bool} {n : Nat} {cs : List Value} {x : DataW H × List MemPlace}
    (hf : DataW.trod enc Tryd.prog W 0 spare held n 22 cs = some x) : ∃ (a : Option Addr) (cap : Nat) (L : List PReg), cs = [.slice a L.length cap] ∧ RegIn W.heap.size W a L ∧ (Light 22 x.1 → L.length ≤ maxG ∧ ∀ r ∈ L, r.Rng) := by
  obtain ⟨a, cap, L, e, hL, hr⟩ := open_rows (Q := fun cs (r : PReg) => ∃ sa sc, cs = [.int .u64 r.b, .int .u64 r.n, .string (str r.data), .slice sa r.slots.length sc] ∧ FIn 8 PSlot.vals W.heap.size W sa r.slots) (Rg := fun r => r.Rng) Tryd.underlying22 cellsRegion (by omega) (fun _ _ _ h => trod_reg h) hf
  refine ⟨a, cap, L, e, fun i hi => ?_, fun hli => ⟨long_le bytesRegion (hr hli).1, (hr hli).2⟩⟩
  obtain ⟨b, off, ha, hb, cs', ⟨sa, sc, rfl, hF⟩, hc⟩ := hL i hi
  exact ⟨b, off, sa, sc, ha, hb, hb, hc 0 (by omega), hc 1 (by omega), hc 2 (by omega), hc 3 (by omega), hF⟩
theorem row_comps {H : Type} {enc : TypeId × Value → H} {W : World} {spare : Nat → Bool} {held : Bool} {n : Nat} {cs : List Value} {x : DataW H × List MemPlace}
    (hf : DataW.trod enc Tryd.prog W 0 spare held n 23 cs = some x) : ∃ (a : Option Addr) (cap : Nat) (L : List PComp), cs = [.slice a L.length cap] ∧ CompIn W.heap.size W a L ∧ (Light 23 x.1 → L.length ≤ maxG ∧ ∀ r ∈ L, r.Rng) := by
  obtain ⟨a, cap, L, e, hL, hr⟩ := open_rows (Q := fun cs (r : PComp) => ∃ ra rc ka kc, cs = [.slice ra r.roots.length rc, .slice ka r.code.length kc] ∧ FIn 6 PRoot.vals W.heap.size W ra r.roots ∧ LIn W.heap.size W ka r.code) (Rg := fun r => r.Rng) Tryd.underlying23 cellsComp (by omega) (fun _ _ _ h => trod_comp h) hf
  refine ⟨a, cap, L, e, fun i hi => ?_, fun hli => ⟨long_le bytesComp (hr hli).1, (hr hli).2⟩⟩
  obtain ⟨b, off, ha, hb, cs', ⟨ra, rc, ka, kc, rfl, hR, hK⟩, hc⟩ := hL i hi
  exact ⟨b, off, ra, rc, ka, kc, ha, hb, hb, hc 0 (by omega), hc 1 (by omega), hR, hK⟩
theorem row_gates {H : Type} {enc : TypeId × Value → H} {W : World} {spare : Nat → Bool} {held : Bool} {n : Nat} {cs : List Value} {x : DataW H × List MemPlace}
    (hf : DataW.trod enc Tryd.prog W 0 spare held n 24 cs = some x) : ∃ (a : Option Addr) (cap : Nat) (L : List PGate), cs = [.slice a L.length cap] ∧ GateIn W.heap.size W a L ∧ (Light 24 x.1 → L.length ≤ maxG ∧ ∀ r ∈ L, r.Rng) := by
  obtain ⟨a, cap, L, e, hL, hr⟩ := open_rows (Q := fun cs (r : PGate) => ∃ xa xc ya yc, cs = [.int .i64 r.c, .int .i64 r.e, .slice xa r.args.length xc, .slice ya r.res.length yc] ∧ FIn 7 PTyp.vals W.heap.size W xa r.args ∧ FIn 7 PTyp.vals W.heap.size W ya r.res) (Rg := fun r => r.Rng) Tryd.underlying24 cellsGate (by omega) (fun _ _ _ h => trod_gate h) hf
  refine ⟨a, cap, L, e, fun i hi => ?_, fun hli => ⟨long_le bytesGate (hr hli).1, (hr hli).2⟩⟩
  obtain ⟨b, off, ha, hb, cs', ⟨xa, xc, ya, yc, rfl, hX, hY⟩, hc⟩ := hL i hi
  exact ⟨b, off, xa, xc, ya, yc, ha, hb, hb, hc 0 (by omega), hc 1 (by omega), hc 2 (by omega), hc 3 (by omega), hX, hY⟩
set_option maxRecDepth 100000 in
theorem trod_img {H : Type} {enc : TypeId × Value → H} {W : World} {spare : Nat → Bool} {held : Bool} {n : Nat} {cs : List Value} {x : DataW H × List MemPlace}
    (hf : DataW.trod enc Tryd.prog W 0 spare held n 26 cs = some x) : ∃ (m : PImg) (ra : Option Addr) (rc : Nat) (ca : Option Addr) (cc : Nat) (ga : Option Addr) (gc : Nat), cs = [.slice ra m.regs.length rc, .slice ca m.comps.length cc, .slice ga m.gates.length gc, .int .i64 m.depth] ∧ ImgIn W.heap.size W ra ca ga m ∧ (Light 26 x.1 → m.Rng) := by
  have hs := Tryd.underlying26
  obtain ⟨xs, m, _, hxx, hcl, hl, hx⟩ := DataW.trod_struct hs hf
  obtain ⟨c0, c1, c2, c3, rfl⟩ := list_4 (hcl.trans cellsImage)
  have at_ : ∀ i, i < 4 → ∃ y, xs[i]? = some y := by
    intro i hi
    have : i < xs.length := by rw [hl]; simpa using hi
    exact ⟨xs[i], by simp [this]⟩
  obtain ⟨y0, t0⟩ := at_ 0 (by omega)
  have u0 := t0
  rw [← hx 0 _ rfl] at t0
  obtain ⟨y1, t1⟩ := at_ 1 (by omega)
  have u1 := t1
  rw [← hx 1 _ rfl] at t1
  obtain ⟨y2, t2⟩ := at_ 2 (by omega)
  have u2 := t2
  rw [← hx 2 _ rfl] at t2
  obtain ⟨y3, t3⟩ := at_ 3 (by omega)
  rw [← hx 3 _ rfl] at t3
  have kRegions : Tryd.prog.cellsOf 22 = 1 := by kernel_rfl
  have kComps : Tryd.prog.cellsOf 23 = 1 := by kernel_rfl
  have kGates : Tryd.prog.cellsOf 24 = 1 := by kernel_rfl
  have kint : Tryd.prog.cellsOf 3 = 1 := by kernel_rfl
  obtain ⟨ra, rc, R, e0, hR, hr⟩ := row_regs t0
  obtain ⟨ca, cc, C, e1, hC, hc⟩ := row_comps t1
  obtain ⟨ga, gc, G, e2, hG, hg⟩ := row_gates t2
  obtain ⟨d, e3, _, w3⟩ := DataW.trod_int Tryd.underlying3 t3
  simp [kRegions, kComps, kGates, kint] at e0 e1 e2 e3
  subst e0 e1 e2 e3
  refine ⟨⟨R, C, G, d⟩, ra, rc, ca, cc, ga, gc, rfl, ⟨hR, hC, hG⟩, fun hli => ⟨hr ?_, hc ?_, hg ?_, bd_i64 w3⟩⟩
  · rw [hxx] at hli
    exact (Light.part hs hli (j := 0) rfl (by simp [u0]))
  · rw [hxx] at hli
    exact (Light.part hs hli (j := 1) rfl (by simp [u1]))
  · rw [hxx] at hli
    exact (Light.part hs hli (j := 2) rfl (by simp [u2]))
set_option maxRecDepth 100000 in
theorem open_img {H : Type} {enc : TypeId × Value → H} {W : World} {r : Reach} {base : Nat} {spare : Nat → Bool} {held : Bool} {v : Value} {d : DataW H} {ps : List MemPlace}
    (hv : Value.okWide Tryd.prog W r base 26 v) (h : DataW.Trod enc Tryd.prog W 0 spare held 26 v d ps) :
    ∃ (m : PImg) (ra : Option Addr) (rc : Nat) (ca : Option Addr) (cc : Nat) (ga : Option Addr) (gc : Nat), v = .agg #[.slice ra m.regs.length rc, .slice ca m.comps.length cc, .slice ga m.gates.length gc, .int .i64 m.depth] ∧ ImgIn W.heap.size W ra ca ga m ∧ (Light 26 d → m.Rng) := by
  obtain ⟨cs, rfl, _⟩ := okWide_struct Tryd.underlying26 hv
  obtain ⟨fuel, hf⟩ := h
  obtain ⟨m, ra, rc, ca, cc, ga, gc, e, hI, hr⟩ := trod_img hf
  refine ⟨m, ra, rc, ca, cc, ga, gc, ?_, hI, hr⟩
  obtain ⟨l⟩ := cs
  have e' : l = _ := e
  rw [e']
end Go.Proofs.YtcljibdikhpnlaaDoor


/-
  Rows of many elements that lie in one block: one element's range, one element written anew. No Go in sight.
-/
namespace Go.Proofs.YtcljibdikhpnlaaDoor
open Go.RowKit

/-- A row of elements, 'p' cells ahead of it. -/
def rowV {α : Type} (pre : List Value) (f : α → List Value) (L : List α) : List Value := pre ++ L.flatMap f
theorem flat_len {α : Type} {f : α → List Value} {k : Nat} (hf : ∀ x, (f x).length = k) : ∀ L : List α, (L.flatMap f).length = L.length * k
  | [] => by simp
  | x :: L => by rw [List.flatMap_cons, List.length_append, hf, flat_len hf L, List.length_cons, Nat.add_mul]; omega
theorem flat_at' {α : Type} {f : α → List Value} {k : Nat} (hf : ∀ x, (f x).length = k) : ∀ (L : List α) (i : Nat) (h : i < L.length) (j : Nat), j < k → (L.flatMap f)[i * k + j]? = (f L[i])[j]?
  | x :: L, 0, _, j, hj => by
    rw [List.flatMap_cons, Nat.zero_mul, Nat.zero_add, List.getElem?_append_left (by rw [hf]; exact hj)]
    rfl
  | x :: L, i + 1, h, j, hj => by
    rw [List.flatMap_cons, List.getElem?_append_right (by rw [hf, Nat.add_mul]; omega), hf, show (i + 1) * k + j - k = i * k + j by rw [Nat.add_mul]; omega]
    exact flat_at' hf L i (by simpa using h) j hj
theorem rowv_at {α : Type} {pre : List Value} {f : α → List Value} {k : Nat} (hf : ∀ x, (f x).length = k) (L : List α) (i : Nat) (h : i < L.length) (j : Nat) (hj : j < k) : (rowV pre f L)[pre.length + i * k + j]? = (f L[i])[j]? := by
  unfold rowV
  rw [List.getElem?_append_right (by omega), show pre.length + i * k + j - pre.length = i * k + j by omega]
  exact flat_at' hf L i h j hj
theorem row_len {α : Type} {pre : List Value} {f : α → List Value} {k : Nat} (hf : ∀ x, (f x).length = k) (L : List α) : (rowV pre f L).length = pre.length + L.length * k := by
  unfold rowV; rw [List.length_append, flat_len hf]
theorem At.range {w : World} {b : Nat} {cs : List Value} (h : At w b cs.toArray) : w.rangeAt b 0 cs := fun j v q => by
  rw [Nat.zero_add, h.2.1]; simpa using q
theorem At.elem {α : Type} {pre : List Value} {f : α → List Value} {k : Nat} (hf : ∀ x, (f x).length = k) {w : World} {b : Nat} {L : List α} (h : At w b (rowV pre f L).toArray) (i : Nat) (hi : i < L.length) (o : Nat) (ho : o = pre.length + i * k) : w.rangeAt b o (f L[i]) := fun j v q => by
  have hj : j < k := by have := (List.getElem?_eq_some_iff.1 q).1; rwa [hf] at this
  rw [h.2.1, List.getElem?_toArray, ho, rowv_at hf L i hi j hj]
  exact q
theorem At.there {w : World} {b : Nat} {cs : List Value} (h : At w b cs.toArray) (o n : Nat) (hn : o + n ≤ cs.length) : w.there b o n := fun j hj => by
  refine ⟨?_, h.2.2 _⟩
  rw [h.2.1, List.getElem?_toArray, List.getElem?_eq_getElem (by omega)]
  rfl
theorem setCells_size (b : Nat) : ∀ (vs : List Value) (o : Nat) (w : World), (w.setCells b o vs).heap.size = w.heap.size
  | [], _, _ => rfl
  | v :: r, o, w => by rw [World.setCells, setCells_size b r]; simp
theorem At.setRange {w : World} {b : Nat} {cs ds : List Value} (h : At w b cs.toArray) (o : Nat) (vs : List Value) (_hl : ds.length = cs.length) (ho : o + vs.length ≤ cs.length)
    (hin : ∀ j, j < vs.length → ds[o + j]? = vs[j]?) (hout : ∀ i, i < o ∨ o + vs.length ≤ i → ds[i]? = cs[i]?) : At (w.setCells b o vs) b ds.toArray := by
  refine ⟨by rw [setCells_size]; exact h.1, fun i => ?_, fun i => by rw [World.frozen?_setCells]; exact h.2.2 i⟩
  rw [List.getElem?_toArray]
  by_cases q : o ≤ i ∧ i < o + vs.length
  · have e : i = o + (i - o) := by omega
    rw [e, World.cell?_setCells_in b vs o w (fun j hj => (h.there o vs.length ho j hj).1) (i - o) (by omega), hin _ (by omega), List.getElem?_eq_getElem (by omega)]
  · rw [World.cell?_setCells_out b vs o w ⟨b, i, none⟩ (fun _ _ => by show i < o ∨ o + vs.length ≤ i; omega), h.2.1, List.getElem?_toArray, hout i (by omega)]
theorem At.setAll {w : World} {b : Nat} {cs : List Value} (h : At w b cs.toArray) (vs : List Value) (hl : vs.length = cs.length) : At (w.setCells b 0 vs) b vs.toArray :=
  h.setRange 0 vs hl (by omega) (fun j _ => by rw [Nat.zero_add]) (fun i q => by rw [List.getElem?_eq_none (by omega), List.getElem?_eq_none (by omega)])
theorem At.other {w : World} {b b' : Nat} {cs : Array Value} (h : At w b cs) (hne : b ≠ b') (o : Nat) (vs : List Value) : At (w.setCells b' o vs) b cs :=
  ⟨by rw [setCells_size]; exact h.1, fun i => by rw [World.cell?_setCells_out b' vs o w ⟨b, i, none⟩ (fun e _ => absurd e hne)]; exact h.2.1 i, fun i => by rw [World.frozen?_setCells]; exact h.2.2 i⟩
theorem Gr.setCells {w W : World} (h : Gr w W) (b : Nat) (hb : w.heap.size ≤ b) : ∀ (vs : List Value) (o : Nat), Gr w (W.setCells b o vs) := fun vs => by
  induction vs generalizing W with
  | nil => exact fun _ => h
  | cons v r ih => exact fun o => ih (h.setCell b o v hb) (o + 1)
theorem At.setElem {α : Type} {pre : List Value} {f : α → List Value} {k : Nat} (hf : ∀ x, (f x).length = k) {w : World} {b : Nat} {L : List α} (h : At w b (rowV pre f L).toArray) (i : Nat) (hi : i < L.length) (x : α) (o : Nat) (ho : o = pre.length + i * k) : At (w.setCells b o (f x)) b (rowV pre f (L.set i x)).toArray := by
  have e1 := row_len (pre := pre) hf L
  have e2 := row_len (pre := pre) hf (L.set i x)
  rw [List.length_set] at e2
  have hk : i * k + k ≤ L.length * k := by
    have : (i + 1) * k ≤ L.length * k := Nat.mul_le_mul_right k hi
    rw [Nat.add_mul] at this; omega
  refine h.setRange o (f x) (by omega) (by rw [hf]; omega) (fun j hj => ?_) (fun n hn => ?_)
  · rw [hf] at hj
    rw [ho, rowv_at hf (L.set i x) i (by simpa using hi) j hj]
    simp
  · rw [hf] at hn
    by_cases q : n < pre.length
    · unfold rowV
      rw [List.getElem?_append_left q, List.getElem?_append_left q]
    · by_cases q2 : n < pre.length + L.length * k
      · have hk0 : 0 < k := by
          rcases Nat.eq_zero_or_pos k with h0 | h0
          · subst h0; simp at q2; omega
          · exact h0
        have en : n = pre.length + (n - pre.length) / k * k + (n - pre.length) % k := by
          have := Nat.div_add_mod (n - pre.length) k
          rw [Nat.mul_comm] at this
          omega
        have hd : (n - pre.length) / k < L.length := by
          rw [Nat.div_lt_iff_lt_mul hk0]; omega
        have hm := Nat.mod_lt (n - pre.length) hk0
        have hne : i ≠ (n - pre.length) / k := by
          intro e
          rw [← e] at en
          omega
        rw [en, rowv_at hf (L.set i x) _ (by simpa using hd) _ hm, rowv_at hf L _ hd _ hm, List.getElem_set_ne hne]
      · rw [List.getElem?_eq_none (by omega), List.getElem?_eq_none (by omega)]
theorem At.new' (w : World) (cs : List Value) (t : TypeId) {k : Nat} (h : w.heap.size = k) : At (w.alloc (.cells cs.toArray t)) k cs.toArray := At.at_ w _ t h
end Go.Proofs.YtcljibdikhpnlaaDoor
