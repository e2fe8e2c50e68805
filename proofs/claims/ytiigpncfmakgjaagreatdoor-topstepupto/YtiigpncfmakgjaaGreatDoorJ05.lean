import Derived.Test.YtiigpncfmakgjaaGreatDoorJ04
import Derived.Test.YtiigpncfmakgjaaGreatDoorJ02
import Derived.Deep.MidRow
import Derived.Laws.MakeOwn
import Derived.Laws.IdiomCopy
import Derived.BigFrame
namespace Go.Proofs.YtiigpncfmakgjaaGreatDoor
set_option maxRecDepth 100000
set_option maxHeartbeats 40000000
open Go.ChangeShapes Go.WideShapes Go.ChangeAt Go.RowKit Go.Deep

def Light {H : Type} (t : TypeId) (d : DataW H) : Prop := ∀ n ∈ d.weights Tryz.prog t, n ≤ reachBytes
theorem Light.part {H : Type} {t : TypeId} {fs : Array Field} {parts : List (DataW H)} (hu : Tryz.prog.underlying t = some (.struct fs)) (h : Light t (.agg parts)) {j : Nat} {tj : TypeId} {dj : DataW H}
   (ht : (fs.toList.map (·.type))[j]? = some tj) (hd : parts[j]? = some dj) : Light tj dj := fun n hn => h n (by simp only [DataW.weights, hu]; exact DataW.weights_mem_each ht hd n hn)
theorem weightsAll_mem {H : Type} {e : TypeId} : ∀ {l : List (DataW H)} {d : DataW H}, d ∈ l → ∀ n ∈ d.weights Tryz.prog e, n ∈ DataW.weightsAll Tryz.prog e l
 | x :: r, d, hd, n, hn => by
   simp only [DataW.weightsAll, List.mem_append]
   rcases List.mem_cons.1 hd with rfl | hd
   · exact .inl hn
   · exact .inr (weightsAll_mem hd n hn)
 | [], d, hd, _, _ => by simp at hd
theorem Light.row {H : Type} {t e : TypeId} {elems spare : List (DataW H)} (hu : Tryz.prog.underlying t = some (.slice e)) (h : Light t (.slice elems spare)) : elems.length * Tryz.prog.bytesOf e ≤ reachBytes ∧ ∀ d ∈ elems, Light e d := by
 constructor
 · have := h ((elems.length + spare.length) * Tryz.prog.bytesOf e) (by simp [DataW.weights, hu])
   exact Nat.le_trans (Nat.mul_le_mul_right _ (Nat.le_add_right _ _)) this
 · intro d hd n hn
   exact h n (by simp only [DataW.weights, hu]; simp [weightsAll_mem hd n hn])
theorem light_of {H : Type} {ts : List TypeId} {ds : List (DataW H)} (h : (DataW.weightsEach Tryz.prog ts ds).all (· ≤ reachBytes) = true) {j : Nat} {t : TypeId} {d : DataW H} (ht : ts[j]? = some t) (hd : ds[j]? = some d) : Light t d := fun n hn => by
 have := List.all_eq_true.1 h _ (DataW.weights_mem_each ht hd n hn)
 simpa using this
theorem reach_le : reachBytes ≤ maxG := by unfold maxG; decide
theorem long_le {n k : Nat} (hk : 1 ≤ k) (h : n * k ≤ reachBytes) : n ≤ maxG := by
 have h1 : n * 1 ≤ n * k := Nat.mul_le_mul_left n hk
 have h2 := reach_le
 omega
theorem no_spot_k {W : World} {a : Addr} {cs : List Value} {k : Nat} (hk : 0 < k) (h : W.cells? 0 (a.add (0 * k)) k = some cs) : a.spot = none := by
 obtain ⟨_, hl, hc⟩ := World.cells?_some h
 have c0 := hc 0 hk
 simp only [Nat.zero_mul, Addr.add, if_true] at c0
 have : cs[0]? = some (cs[0]'(by omega)) := by simp
 exact World.cell?_spot (c0.trans this)
theorem open_rows {H : Type} {enc : TypeId × Value → H} {W : World} {spare : Nat → Bool} {held : Bool} {α : Type} {Q : List Value → α → Prop} {Rg : α → Prop} {k : Nat} {t e : TypeId} (ht : Tryz.prog.underlying t = some (.slice e)) (hce : Tryz.prog.cellsOf e = k) (hk : 0 < k)
   (hel : ∀ (n : Nat) (cs : List Value) (x : DataW H × List MemPlace), DataW.trod enc Tryz.prog W 0 spare held n e cs = some x → ∃ a, Q cs a ∧ (Light e x.1 → Rg a))
   {fuel : Nat} {cs : List Value} {x : DataW H × List MemPlace} (h : DataW.trod enc Tryz.prog W 0 spare held fuel t cs = some x) :
   ∃ (a : Option Addr) (cap : Nat) (L : List α), cs = [.slice a L.length cap] ∧ (∀ i (h : i < L.length), ∃ b off, a = some ⟨b, off, none⟩ ∧ b < W.heap.size ∧ ∃ cs', Q cs' L[i] ∧ ∀ j, j < k → W.cell? ⟨b, off + i * k + j, none⟩ = cs'[j]?) ∧
     (Light t x.1 → L.length * Tryz.prog.bytesOf e ≤ reachBytes ∧ ∀ r ∈ L, Rg r) := by
 rcases open_slice ht h with ⟨rfl, rfl⟩ | ⟨a, len, cap, m, n, D, Pl, rfl, _, hl, hm, hmm, rfl, hx⟩
 · exact ⟨none, 0, [], rfl, fun i hi => by simp at hi, fun _ => ⟨by simp, by simp⟩⟩
 · have hlm : len ≤ m := by rw [hmm]; split <;> omega
   rw [hce] at hx
   have hk' : ∀ i, i < len → ∃ y, (∃ cs', W.cells? 0 (a.add (i * k)) k = some cs' ∧ Q cs' y) ∧ (Light e (D i) → Rg y) := fun i hi => by
     obtain ⟨cs', e1, e2⟩ := hx i (by omega)
     obtain ⟨y, q, r⟩ := hel _ _ _ e2
     exact ⟨y, ⟨cs', e1, q⟩, r⟩
   obtain ⟨L, hL, hp⟩ := choose_list _ _ hk'
   subst hL
   refine ⟨some a, cap, L, rfl, fun i hi => ?_, fun hli => ?_⟩
   · have h0 : 0 < L.length := by omega
     obtain ⟨⟨c0, hc0, _⟩, _⟩ := hp 0 h0
     have hs : a.spot = none := no_spot_k hk hc0
     obtain ⟨⟨cs', hc, q⟩, _⟩ := hp i hi
     obtain ⟨_, hlen, hcc⟩ := World.cells?_some hc
     obtain ⟨b, off, spot⟩ := a
     obtain rfl : spot = none := hs
     have hcell : ∀ j, j < k → W.cell? ⟨b, off + i * k + j, none⟩ = cs'[j]? := fun j hj => by
       have := hcc j hj
       rwa [addr_add, addr_add] at this
     have c1 := hcell 0 hk
     have : cs'[0]? = some (cs'[0]'(by omega)) := by simp
     exact ⟨b, off, rfl, World.block_lt_of_cell? W _ (c1.trans this), cs', q, hcell⟩
   · obtain ⟨h1, h2⟩ := Light.row ht hli
     refine ⟨by simpa using h1, fun r hr => ?_⟩
     obtain ⟨i, hi, rfl⟩ := List.getElem_of_mem hr
     exact (hp i hi).2 (h2 _ (by simp; exact ⟨i, hi, rfl⟩))

theorem cellsSlot : Tryz.prog.cellsOf 126 = 8 := by kernel_rfl
theorem cellsRoot : Tryz.prog.cellsOf 96 = 6 := by kernel_rfl
theorem cellsRegion : Tryz.prog.cellsOf 94 = 4 := by kernel_rfl
theorem cellsComp : Tryz.prog.cellsOf 53 = 2 := by kernel_rfl
theorem cellsGate : Tryz.prog.cellsOf 56 = 4 := by kernel_rfl
theorem cellsImage : Tryz.prog.cellsOf 26 = 4 := by kernel_rfl
theorem bytesInst : Tryz.prog.bytesOf 64 = 40 := by kernel_rfl
theorem list_2 {cs : List Value} (h : cs.length = 2) : ∃ c0 c1, cs = [c0, c1] := by
 match cs, h with
 | [c0, c1], _ => exact ⟨c0, c1, rfl⟩
theorem list_4 {cs : List Value} (h : cs.length = 4) : ∃ c0 c1 c2 c3, cs = [c0, c1, c2, c3] := by
 match cs, h with
 | [c0, c1, c2, c3], _ => exact ⟨c0, c1, c2, c3, rfl⟩
theorem list_5 {cs : List Value} (h : cs.length = 5) : ∃ c0 c1 c2 c3 c4, cs = [c0, c1, c2, c3, c4] := by
 match cs, h with
 | [c0, c1, c2, c3, c4], _ => exact ⟨c0, c1, c2, c3, c4, rfl⟩
theorem list_6 {cs : List Value} (h : cs.length = 6) : ∃ c0 c1 c2 c3 c4 c5, cs = [c0, c1, c2, c3, c4, c5] := by
 match cs, h with
 | [c0, c1, c2, c3, c4, c5], _ => exact ⟨c0, c1, c2, c3, c4, c5, rfl⟩
theorem list_7 {cs : List Value} (h : cs.length = 7) : ∃ c0 c1 c2 c3 c4 c5 c6, cs = [c0, c1, c2, c3, c4, c5, c6] := by
 match cs, h with
 | [c0, c1, c2, c3, c4, c5, c6], _ => exact ⟨c0, c1, c2, c3, c4, c5, c6, rfl⟩
theorem list_8 {cs : List Value} (h : cs.length = 8) : ∃ c0 c1 c2 c3 c4 c5 c6 c7, cs = [c0, c1, c2, c3, c4, c5, c6, c7] := by
 match cs, h with
 | [c0, c1, c2, c3, c4, c5, c6, c7], _ => exact ⟨c0, c1, c2, c3, c4, c5, c6, c7, rfl⟩
theorem trod_typ {H : Type} {enc : TypeId × Value → H} {W : World} {spare : Nat → Bool} {held : Bool} {n : Nat} {cs : List Value} {x : DataW H × List MemPlace}
   (hf : DataW.trod enc Tryz.prog W 0 spare held n 103 cs = some x) : ∃ t : PTyp, cs = t.vals ∧ t.Rng := by
 have hs := Tryz.underlying103
 obtain ⟨xs, m, _, _, hcl, hl, hx⟩ := DataW.trod_struct hs hf
 obtain ⟨c0, c1, c2, c3, c4, c5, c6, rfl⟩ := list_7 (hcl.trans cellsType)
 have at_ : ∀ i, i < 7 → ∃ y, xs[i]? = some y := by
   intro i hi
   have : i < xs.length := by rw [hl]; simpa using hi
   exact ⟨xs[i], by simp [this]⟩
 obtain ⟨y0, t0⟩ := at_ 0 (by omega)
 rw [← hx 0 _ rfl] at t0
 obtain ⟨y1, t1⟩ := at_ 1 (by omega)
 rw [← hx 1 _ rfl] at t1
 obtain ⟨y2, t2⟩ := at_ 2 (by omega)
 rw [← hx 2 _ rfl] at t2
 obtain ⟨y3, t3⟩ := at_ 3 (by omega)
 rw [← hx 3 _ rfl] at t3
 obtain ⟨y4, t4⟩ := at_ 4 (by omega)
 rw [← hx 4 _ rfl] at t4
 obtain ⟨y5, t5⟩ := at_ 5 (by omega)
 rw [← hx 5 _ rfl] at t5
 obtain ⟨y6, t6⟩ := at_ 6 (by omega)
 rw [← hx 6 _ rfl] at t6
 have kbool : Tryz.prog.cellsOf 4 = 1 := by kernel_rfl
 have ku64 : Tryz.prog.cellsOf 32 = 1 := by kernel_rfl
 have kperms : Tryz.prog.cellsOf 33 = 1 := by kernel_rfl
 have kint : Tryz.prog.cellsOf 3 = 1 := by kernel_rfl
 obtain ⟨tc, e0, _⟩ := DataW.trod_bool Tryz.underlying4 t0
 obtain ⟨tb, e1, _, w1⟩ := DataW.trod_int Tryz.underlying32 t1
 obtain ⟨te, e2, _, w2⟩ := DataW.trod_int Tryz.underlying32 t2
 obtain ⟨lo, e3, _, w3⟩ := DataW.trod_int Tryz.underlying32 t3
 obtain ⟨hi, e4, _, w4⟩ := DataW.trod_int Tryz.underlying32 t4
 obtain ⟨tp, e5, _, w5⟩ := DataW.trod_int Tryz.underlying33 t5
 obtain ⟨ts, e6, _, w6⟩ := DataW.trod_int Tryz.underlying3 t6
 simp [kbool, ku64, kperms, kint] at e0 e1 e2 e3 e4 e5 e6
 subst e0 e1 e2 e3 e4 e5 e6
 exact ⟨⟨tc, tb, te, lo, hi, tp, ts⟩, rfl, bd_u64 w1, bd_u64 w2, bd_u64 w3, bd_u64 w4, bd_u8 w5, bd_i64 w6⟩
theorem trod_slot {H : Type} {enc : TypeId × Value → H} {W : World} {spare : Nat → Bool} {held : Bool} {n : Nat} {cs : List Value} {x : DataW H × List MemPlace}
   (hf : DataW.trod enc Tryz.prog W 0 spare held n 126 cs = some x) : ∃ k : PSlot, cs = k.vals ∧ k.Rng := by
 have hs := Tryz.underlying126
 obtain ⟨xs, m, _, _, hcl, hl, hx⟩ := DataW.trod_struct hs hf
 obtain ⟨c0, c1, c2, c3, c4, c5, c6, c7, rfl⟩ := list_8 (hcl.trans cellsSlot)
 have at_ : ∀ i, i < 2 → ∃ y, xs[i]? = some y := by
   intro i hi
   have : i < xs.length := by rw [hl]; simpa using hi
   exact ⟨xs[i], by simp [this]⟩
 obtain ⟨y0, t0⟩ := at_ 0 (by omega)
 rw [← hx 0 _ rfl] at t0
 obtain ⟨y1, t1⟩ := at_ 1 (by omega)
 rw [← hx 1 _ rfl] at t1
 have ku64 : Tryz.prog.cellsOf 32 = 1 := by kernel_rfl
 obtain ⟨t, e0, r0⟩ := trod_typ t0
 obtain ⟨c, e1, _, w1⟩ := DataW.trod_int Tryz.underlying32 t1
 simp [ku64, cellsType] at e0 e1
 subst e1
 exact ⟨⟨t, c⟩, by simp [PSlot.vals, ← e0], r0, bd_u64 w1⟩
theorem trod_cap {H : Type} {enc : TypeId × Value → H} {W : World} {spare : Nat → Bool} {held : Bool} {n : Nat} {cs : List Value} {x : DataW H × List MemPlace}
   (hf : DataW.trod enc Tryz.prog W 0 spare held n 35 cs = some x) : ∃ b e c p s : Int, cs = [.int .u64 b, .int .u64 e, .int .u64 c, .int .u8 p, .int .i64 s] ∧ W64 b ∧ W64 e ∧ W64 c ∧ B8 p ∧ J64 s := by
 have hs := Tryz.underlying35
 obtain ⟨xs, m, _, _, hcl, hl, hx⟩ := DataW.trod_struct hs hf
 obtain ⟨c0, c1, c2, c3, c4, rfl⟩ := list_5 (hcl.trans cellsCap)
 have at_ : ∀ i, i < 5 → ∃ y, xs[i]? = some y := by
   intro i hi
   have : i < xs.length := by rw [hl]; simpa using hi
   exact ⟨xs[i], by simp [this]⟩
 obtain ⟨y0, t0⟩ := at_ 0 (by omega)
 rw [← hx 0 _ rfl] at t0
 obtain ⟨y1, t1⟩ := at_ 1 (by omega)
 rw [← hx 1 _ rfl] at t1
 obtain ⟨y2, t2⟩ := at_ 2 (by omega)
 rw [← hx 2 _ rfl] at t2
 obtain ⟨y3, t3⟩ := at_ 3 (by omega)
 rw [← hx 3 _ rfl] at t3
 obtain ⟨y4, t4⟩ := at_ 4 (by omega)
 rw [← hx 4 _ rfl] at t4
 have ku64 : Tryz.prog.cellsOf 32 = 1 := by kernel_rfl
 have kperms : Tryz.prog.cellsOf 33 = 1 := by kernel_rfl
 have kint : Tryz.prog.cellsOf 3 = 1 := by kernel_rfl
 obtain ⟨b, e0, _, w0⟩ := DataW.trod_int Tryz.underlying32 t0
 obtain ⟨e, e1, _, w1⟩ := DataW.trod_int Tryz.underlying32 t1
 obtain ⟨c, e2, _, w2⟩ := DataW.trod_int Tryz.underlying32 t2
 obtain ⟨p, e3, _, w3⟩ := DataW.trod_int Tryz.underlying33 t3
 obtain ⟨s, e4, _, w4⟩ := DataW.trod_int Tryz.underlying3 t4
 simp [ku64, kperms, kint] at e0 e1 e2 e3 e4
 subst e0 e1 e2 e3 e4
 exact ⟨b, e, c, p, s, rfl, bd_u64 w0, bd_u64 w1, bd_u64 w2, bd_u8 w3, bd_i64 w4⟩
theorem trod_root {H : Type} {enc : TypeId × Value → H} {W : World} {spare : Nat → Bool} {held : Bool} {n : Nat} {cs : List Value} {x : DataW H × List MemPlace}
   (hf : DataW.trod enc Tryz.prog W 0 spare held n 96 cs = some x) : ∃ k : PRoot, cs = k.vals ∧ k.Rng := by
 have hs := Tryz.underlying96
 obtain ⟨xs, m, _, _, hcl, hl, hx⟩ := DataW.trod_struct hs hf
 obtain ⟨c0, c1, c2, c3, c4, c5, rfl⟩ := list_6 (hcl.trans cellsRoot)
 have at_ : ∀ i, i < 2 → ∃ y, xs[i]? = some y := by
   intro i hi
   have : i < xs.length := by rw [hl]; simpa using hi
   exact ⟨xs[i], by simp [this]⟩
 obtain ⟨y0, t0⟩ := at_ 0 (by omega)
 rw [← hx 0 _ rfl] at t0
 obtain ⟨y1, t1⟩ := at_ 1 (by omega)
 rw [← hx 1 _ rfl] at t1
 have kint : Tryz.prog.cellsOf 3 = 1 := by kernel_rfl
 obtain ⟨r, e0, _, w0⟩ := DataW.trod_int Tryz.underlying3 t0
 obtain ⟨b, e, c, p, s, e1, r1⟩ := trod_cap t1
 simp [kint, cellsCap] at e0 e1
 obtain ⟨rfl, rfl, rfl, rfl, rfl⟩ := e1
 subst e0
 exact ⟨⟨r, b, e, c, p, s⟩, rfl, bd_i64 w0, r1⟩
end Go.Proofs.YtiigpncfmakgjaaGreatDoor


namespace Go.Proofs.YtiigpncfmakgjaaGreatDoor
open Go.RowKit

def rowV {α : Type} (pre : List Value) (f : α → List Value) (L : List α) : List Value := pre ++ L.flatMap f
theorem flat_len {α : Type} {f : α → List Value} {k : Nat} (hf : ∀ x, (f x).length = k) : ∀ L : List α, (L.flatMap f).length = L.length * k
 | [] => by simp
 | x :: L => by rw [List.flatMap_cons, List.length_append, hf, flat_len hf L, List.length_cons, Nat.add_mul]; omega
theorem flat_at' {α : Type} {f : α → List Value} {k : Nat} (hf : ∀ x, (f x).length = k) : ∀ (L : List α) (i : Nat) (h : i < L.length) (j : Nat), j < k → (L.flatMap f)[i * k + j]? = (f L[i])[j]?
 | x :: L, 0, _, j, hj => by
   rw [List.flatMap_cons, Nat.zero_mul, Nat.zero_add, List.getElem?_append_left (by rw [hf]; exact hj)]
   rfl
 | x :: L, i + 1, h, j, hj => by
   rw [List.flatMap_cons, List.getElem?_append_right (by rw [hf, Nat.add_mul]; omega), hf, show (i + 1) * k + j - k = i * k + j by rw [Nat.add_mul]; omega]
   exact flat_at' hf L i (by simpa using h) j hj
theorem rowv_at {α : Type} {pre : List Value} {f : α → List Value} {k : Nat} (hf : ∀ x, (f x).length = k) (L : List α) (i : Nat) (h : i < L.length) (j : Nat) (hj : j < k) : (rowV pre f L)[pre.length + i * k + j]? = (f L[i])[j]? := by
 unfold rowV
 rw [List.getElem?_append_right (by omega), show pre.length + i * k + j - pre.length = i * k + j by omega]
 exact flat_at' hf L i h j hj
theorem row_len {α : Type} {pre : List Value} {f : α → List Value} {k : Nat} (hf : ∀ x, (f x).length = k) (L : List α) : (rowV pre f L).length = pre.length + L.length * k := by
 unfold rowV; rw [List.length_append, flat_len hf]
theorem At.range {w : World} {b : Nat} {cs : List Value} (h : At w b cs.toArray) : w.rangeAt b 0 cs := fun j v q => by
 rw [Nat.zero_add, h.2.1]; simpa using q
theorem At.there {w : World} {b : Nat} {cs : List Value} (h : At w b cs.toArray) (o n : Nat) (hn : o + n ≤ cs.length) : w.there b o n := fun j hj => by
 refine ⟨?_, h.2.2 _⟩
 rw [h.2.1, List.getElem?_toArray, List.getElem?_eq_getElem (by omega)]
 rfl
theorem setCells_size (b : Nat) : ∀ (vs : List Value) (o : Nat) (w : World), (w.setCells b o vs).heap.size = w.heap.size
 | [], _, _ => rfl
 | v :: r, o, w => by rw [World.setCells, setCells_size b r]; simp
theorem At.setRange {w : World} {b : Nat} {cs ds : List Value} (h : At w b cs.toArray) (o : Nat) (vs : List Value) (_hl : ds.length = cs.length) (ho : o + vs.length ≤ cs.length)
   (hin : ∀ j, j < vs.length → ds[o + j]? = vs[j]?) (hout : ∀ i, i < o ∨ o + vs.length ≤ i → ds[i]? = cs[i]?) : At (w.setCells b o vs) b ds.toArray := by
 refine ⟨by rw [setCells_size]; exact h.1, fun i => ?_, fun i => by rw [World.frozen?_setCells]; exact h.2.2 i⟩
 rw [List.getElem?_toArray]
 by_cases q : o ≤ i ∧ i < o + vs.length
 · have e : i = o + (i - o) := by omega
   rw [e, World.cell?_setCells_in b vs o w (fun j hj => (h.there o vs.length ho j hj).1) (i - o) (by omega), hin _ (by omega), List.getElem?_eq_getElem (by omega)]
 · rw [World.cell?_setCells_out b vs o w ⟨b, i, none⟩ (fun _ _ => by show i < o ∨ o + vs.length ≤ i; omega), h.2.1, List.getElem?_toArray, hout i (by omega)]
theorem At.setAll {w : World} {b : Nat} {cs : List Value} (h : At w b cs.toArray) (vs : List Value) (hl : vs.length = cs.length) : At (w.setCells b 0 vs) b vs.toArray :=
 h.setRange 0 vs hl (by omega) (fun j _ => by rw [Nat.zero_add]) (fun i q => by rw [List.getElem?_eq_none (by omega), List.getElem?_eq_none (by omega)])
theorem At.other {w : World} {b b' : Nat} {cs : Array Value} (h : At w b cs) (hne : b ≠ b') (o : Nat) (vs : List Value) : At (w.setCells b' o vs) b cs :=
 ⟨by rw [setCells_size]; exact h.1, fun i => by rw [World.cell?_setCells_out b' vs o w ⟨b, i, none⟩ (fun e _ => absurd e hne)]; exact h.2.1 i, fun i => by rw [World.frozen?_setCells]; exact h.2.2 i⟩
theorem Gr.setCells {w W : World} (h : Gr w W) (b : Nat) (hb : w.heap.size ≤ b) : ∀ (vs : List Value) (o : Nat), Gr w (W.setCells b o vs) := fun vs => by
 induction vs generalizing W with
 | nil => exact fun _ => h
 | cons v r ih => exact fun o => ih (h.setCell b o v hb) (o + 1)
theorem At.setElem {α : Type} {pre : List Value} {f : α → List Value} {k : Nat} (hf : ∀ x, (f x).length = k) {w : World} {b : Nat} {L : List α} (h : At w b (rowV pre f L).toArray) (i : Nat) (hi : i < L.length) (x : α) (o : Nat) (ho : o = pre.length + i * k) : At (w.setCells b o (f x)) b (rowV pre f (L.set i x)).toArray := by
 have e1 := row_len (pre := pre) hf L
 have e2 := row_len (pre := pre) hf (L.set i x)
 rw [List.length_set] at e2
 have hk : i * k + k ≤ L.length * k := by
   have : (i + 1) * k ≤ L.length * k := Nat.mul_le_mul_right k hi
   rw [Nat.add_mul] at this; omega
 refine h.setRange o (f x) (by omega) (by rw [hf]; omega) (fun j hj => ?_) (fun n hn => ?_)
 · rw [hf] at hj
   rw [ho, rowv_at hf (L.set i x) i (by simpa using hi) j hj]
   simp
 · rw [hf] at hn
   by_cases q : n < pre.length
   · unfold rowV
     rw [List.getElem?_append_left q, List.getElem?_append_left q]
   · by_cases q2 : n < pre.length + L.length * k
     · have hk0 : 0 < k := by
         rcases Nat.eq_zero_or_pos k with h0 | h0
         · subst h0; simp at q2; omega
         · exact h0
       have en : n = pre.length + (n - pre.length) / k * k + (n - pre.length) % k := by
         have := Nat.div_add_mod (n - pre.length) k
         rw [Nat.mul_comm] at this
         omega
       have hd : (n - pre.length) / k < L.length := by
         rw [Nat.div_lt_iff_lt_mul hk0]; omega
       have hm := Nat.mod_lt (n - pre.length) hk0
       have hne : i ≠ (n - pre.length) / k := by
         intro e
         rw [← e] at en
         omega
       rw [en, rowv_at hf (L.set i x) _ (by simpa using hd) _ hm, rowv_at hf L _ hd _ hm, List.getElem_set_ne hne]
     · rw [List.getElem?_eq_none (by omega), List.getElem?_eq_none (by omega)]
end Go.Proofs.YtiigpncfmakgjaaGreatDoor


namespace Go.Proofs.YtiigpncfmakgjaaGreatDoor
namespace Q
open Go.RowKit

theorem made_k {α : Type} {vals : α → List Value} {k : Nat} (hk : 0 < k) (hv : ∀ x, (vals x).length = k) (Z : α) (n : Nat) : madeCells (vals Z).toArray (n * k) = (rowV [] vals (List.replicate n Z)).toArray := by
 apply Array.ext_getElem?
 intro i
 have e : (rowV [] vals (List.replicate n Z)).toArray[i]? = (rowV [] vals (List.replicate n Z))[i]? := by simp
 rw [e]
 have hl := row_len (pre := []) hv (List.replicate n Z)
 rw [List.length_replicate] at hl
 by_cases h : i < n * k
 · have hd : i / k < n := by rw [Nat.div_lt_iff_lt_mul hk]; exact h
   have hm := Nat.mod_lt i hk
   have ei : i = ([] : List Value).length + i / k * k + i % k := by
     have := Nat.div_add_mod i k
     rw [Nat.mul_comm] at this
     simp; omega
   have r := rowv_at (pre := []) hv (List.replicate n Z) (i / k) (by simpa using hd) (i % k) hm
   rw [← ei] at r
   rw [r]
   have hz : i % k < (vals Z).length := by rw [hv]; exact hm
   simp [madeCells, h, hv]
   rw [List.getElem?_eq_getElem hz]
   rfl
 · rw [Array.getElem?_eq_none (by rw [size_madeCells]; omega), List.getElem?_eq_none (by rw [hl]; simp; omega)]
theorem info_partsQ {t : TypeId} {z : Value} {s b : Nat} (h : (Tryz.prog.info? t).map (fun i => (i.zero, i.size, i.bytes)) = some (some z, s, b)) :
   ∃ i, Tryz.prog.info? t = some i ∧ i.zero = some z ∧ i.size = s ∧ i.bytes = b := by
 obtain ⟨i, hi, he⟩ := Option.map_eq_some_iff.1 h
 simp only [Prod.mk.injEq] at he
 exact ⟨i, hi, he.1, he.2.1, he.2.2⟩
theorem make_k {α : Type} {vals : α → List Value} {t e : TypeId} {k b : Nat} {Z : α} (hk : 0 < k) (hv : ∀ x, (vals x).length = k) (ht : Tryz.prog.underlying t = some (.slice e))
   (hi : (Tryz.prog.info? e).map (fun i => (i.zero, i.size, i.bytes)) = some (some (.agg (vals Z).toArray), k, b)) (n : Nat) (hn : n ≤ 4611686018427387904) (hb : b * n ≤ 281474976710656) (w : World) :
   (Instr.makeSlice t (.int .i64 n) (.int .i64 n)).run Tryz.prog w = .ok (.slice (some ⟨w.heap.size, 0, none⟩) n n) (w.alloc (.cells (rowV [] vals (List.replicate n Z)).toArray e)) := by
 obtain ⟨i0, hi0, hz0, hz1, hz2⟩ := info_partsQ hi
 have hbb : (i0.bytes : Int) * (n : Int) ≤ 281474976710656 := by
   rw [hz2]
   have h : ((b * n : Nat) : Int) ≤ 281474976710656 := by omega
   rwa [Int.natCast_mul] at h
 have h := run_make (P := Tryz.prog) w t e i0 _ ht hi0 hz0 .i64 .i64 n n (by omega) (by omega) hbb (by omega)
 rw [hz1, Int.toNat_natCast, show (Value.agg (vals Z).toArray).cells = (vals Z).toArray from rfl, made_k hk hv] at h
 exact h
theorem run_copy_none {P : Program} (w : World) (dT sT ty elem : TypeId) (k : Nat) (d : Addr) (dLen dCap sCap : Nat) (hu : P.underlying dT = some (.slice elem)) (hs : (P.info? elem).map (·.size) = some k) :
   (Builtin.copy_ #[dT, sT] ty #[.slice (some d) dLen dCap, .slice none 0 sCap]).run P w = .ok (goInt 0) w := by
 cases hq : P.info? elem with
 | none => simp [hq] at hs
 | some i => simp [Builtin.copy_, run_underlying hu, Builtin.lenOf, Builtin.firstCells, sizeOf, typeInfo, hq, storeCells]
theorem run_copy_q {P : Program} (w : World) (dT sT ty elem : TypeId) (k b o dLen dCap : Nat) (a : Addr) (sLen sCap : Nat) (cs : List Value)
   (hu : P.underlying dT = some (.slice elem)) (hs : (P.info? elem).map (·.size) = some k) (hn : cs.length = Nat.min sLen dLen * k)
   (hsrc : ∀ j v, cs[j]? = some v → w.cell? (a.add j) = some v) (hc : ∀ j, j < cs.length → (w.cell? ⟨b, o + j, none⟩).isSome = true) (hf : ∀ j, j < cs.length → w.frozen? ⟨b, o + j, none⟩ = false) (h1 : ∀ v ∈ cs, v.oneCell' = true) :
   (Builtin.copy_ #[dT, sT] ty #[.slice (some ⟨b, o, none⟩) dLen dCap, .slice (some a) sLen sCap]).run P w = .ok (goInt (Nat.min sLen dLen)) (w.setCells b o cs) := by
 have hl := run_loadCells_list (P := P) w a cs hsrc
 have hst := run_storeCells_cells (P := P) b o cs 0 w (by simpa using hc) (by simpa using hf) h1
 cases hq : P.info? elem with
 | none => simp [hq] at hs
 | some i =>
   have hi : i.size = k := by simpa [hq] using hs
   simp [Builtin.copy_, run_underlying hu, Builtin.lenOf, Builtin.firstCells, sizeOf, typeInfo, hq, hi, ← hn, hl, hst]
theorem addr_addQ (b o j : Nat) : (⟨b, o, none⟩ : Addr).add j = ⟨b, o + j, none⟩ := by unfold Addr.add; split <;> simp_all
theorem lin_fin {B : Nat} {w : World} {a : Option Addr} {L : List Ins} (h : LIn B w a L) : FIn 5 Ins.vals B w a L := fun i hi => by
 obtain ⟨b, off, e, h1, h2, h3⟩ := h i hi
 refine ⟨b, off, e, h1, h2, fun j hj => ?_⟩
 obtain ⟨c0, c1, c2, c3, c4⟩ := h3
 match j, hj with
 | 0, _ => exact c0
 | 1, _ => exact c1
 | 2, _ => exact c2
 | 3, _ => exact c3
 | 4, _ => exact c4
 | n + 5, h => omega
end Q
end Go.Proofs.YtiigpncfmakgjaaGreatDoor


namespace Go.Proofs.YtiigpncfmakgjaaGreatDoor
namespace Q
open Go.RowKit

theorem ins_len (x : Ins) : x.vals.length = 5 := rfl
theorem typ_len (x : PTyp) : x.vals.length = 7 := rfl
theorem typ_one (x : PTyp) : ∀ v ∈ x.vals, v.oneCell' = true := by
 intro v h
 simp only [PTyp.vals, List.mem_cons, List.not_mem_nil, or_false] at h
 rcases h with rfl | rfl | rfl | rfl | rfl | rfl | rfl <;> rfl
end Q
end Go.Proofs.YtiigpncfmakgjaaGreatDoor
