import Derived.Test.YthblllanofnmmaaTNewA
import Derived.Test.YthblllanofnmmaaP20
/-
  Stage 6, tagmem: regions that came in.
-/
namespace Go.Proofs.Ythblllanofnmmaa
namespace T
open Go.RowKit Go.ChangeShapes Go.WideShapes Go.ChangeAt Go.Deep

def slOf (k : PSlot) : Sl := ⟨k.t.cap, k.t.b, k.t.e, k.t.lo, k.t.hi, k.t.p, k.t.s, k.c.toNat⟩
def rgOf (r : PReg) : Rg := ⟨r.b.toNat, r.n, r.data, r.slots.map slOf⟩
/-- What is known of regions that came in. -/
structure RgsOk (L : List Rg) : Prop where
  ok : ∀ r ∈ L, r.Ok
  sl : ∀ r ∈ L, ∀ x ∈ r.slots, x.c < 18446744073709551616
  len : L.length ≤ 140737488355328
theorem slVals (k : PSlot) (h : k.Rng) : (slOf k).vals = k.vals := by
  have hc : ((k.c.toNat : Nat) : Int) = k.c := by have := h.2; unfold W64 at this; omega
  simp [slOf, Sl.vals, PSlot.vals, PTyp.vals, hc]
theorem ein_of {W : World} {a : Option Addr} {L : List PSlot} (h : FIn 8 PSlot.vals W.heap.size W a L) (hr : ∀ k ∈ L, k.Rng) : EIn 8 Sl.vals W a (L.map slOf) := fun i hi => by
  have hi' : i < L.length := by simpa using hi
  obtain ⟨b, off, ha, _, hb, hc⟩ := h i hi'
  refine ⟨b, off, ha, hb, fun j v q => ?_⟩
  rw [List.getElem_map, slVals _ (hr _ (List.getElem_mem hi'))] at q
  have hj : j < 8 := (List.getElem?_eq_some_iff.1 q).1
  exact (hc j hj).trans q
theorem rgs_of {W : World} {a : Option Addr} {L : List PReg} (h : RegIn W.heap.size W a L) (hr : ∀ r ∈ L, r.Rng) (hl : L.length ≤ maxG) : RgIn W a (L.map rgOf) ∧ RgsOk (L.map rgOf) := by
  refine ⟨fun i hi => ?_, ⟨fun r hm => ?_, fun r hm x hx => ?_, by unfold maxG at hl; simpa using hl⟩⟩
  · have hi' : i < L.length := by simpa using hi
    obtain ⟨b, off, sa, sc, ha, _, hb, c0, c1, c2, c3, hs⟩ := h i hi'
    have hR := hr _ (List.getElem_mem hi')
    have hb0 : ((L[i].b.toNat : Nat) : Int) = L[i].b := by have := hR.1; unfold W64 at this; omega
    refine ⟨b, off, sa, sc, ha, hb, ?_, ?_, ?_, ?_, ?_⟩
    · rw [List.getElem_map]; show _ = some (Value.int .u64 ((L[i].b.toNat : Nat) : Int)); rw [hb0]; exact c0
    · rw [List.getElem_map]; exact c1
    · rw [List.getElem_map]; exact c2
    · rw [List.getElem_map]; show _ = some (Value.slice sa (L[i].slots.map slOf).length sc); rw [List.length_map]; exact c3
    · rw [List.getElem_map]; exact ein_of hs hR.2.2.2.2
  · obtain ⟨p, hp, rfl⟩ := List.mem_map.1 hm
    have hR := hr p hp
    refine ⟨?_, hR.2.2.1, ?_⟩
    · show p.b.toNat < _; have := hR.1; unfold W64 at this; omega
    · show (p.slots.map slOf).length ≤ _; rw [List.length_map]; exact hR.2.2.2.1
  · obtain ⟨p, hp, rfl⟩ := List.mem_map.1 hm
    obtain ⟨k, hk, rfl⟩ := List.mem_map.1 hx
    have hR := (hr p hp).2.2.2.2 k hk
    show k.c.toNat < _
    have := hR.2; unfold W64 at this; omega
theorem open_regs {H : Type} {enc : TypeId × Value → H} {W : World} {spare : Nat → Bool} {held : Bool} {a : Option Addr} {len cap : Nat} {d : DataW H} {ps : List MemPlace}
    (h : DataW.Trod enc Try.prog W 0 spare held 22 (.slice a len cap) d ps) (hlt : Light 22 d) : ∃ L : List Rg, len = L.length ∧ RgIn W a L ∧ RgsOk L := by
  obtain ⟨fuel, hf⟩ := h
  obtain ⟨a', cap', L, e, hL, hr⟩ := row_regs hf
  simp [Value.cells] at e
  obtain ⟨rfl, rfl, rfl⟩ := e
  obtain ⟨h1, h2⟩ := hr hlt
  obtain ⟨g1, g2⟩ := rgs_of hL h2 h1
  exact ⟨L.map rgOf, by simp, g1, g2⟩
end T
end Go.Proofs.Ythblllanofnmmaa
