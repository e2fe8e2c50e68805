import Derived.Test.YtikbbolgobhmiaaP20
import Derived.Test.YtikbbolgobhmiaaTLent
import Derived.Test.YtikbbolgobhmiaaP24
/-
  Stage 6, tagmem: regions that came in, and how many bytes their lists have.
-/
namespace Go.Proofs.Ytikbbolgobhmiaa
namespace T
open Go.RowKit Go.ChangeShapes Go.WideShapes Go.ChangeAt Go.Deep

theorem open_regsF {H : Type} {enc : TypeId × Value → H} {W : World} {spare : Nat → Bool} {held : Bool} {a : Option Addr} {len cap : Nat} {d : DataW H} {ps : List MemPlace}
    (h : DataW.Trod enc Try.prog W 0 spare held 22 (.slice a len cap) d ps) (hlt : Light 22 d) : ∃ L : List Rg, len = L.length ∧ RgIn W a L ∧ RgsOk L ∧ LFit L := by
  obtain ⟨fuel, hf⟩ := h
  obtain ⟨a', cap', L, e, hL, hr⟩ := row_regsF hf
  simp [Value.cells] at e
  obtain ⟨rfl, rfl, rfl⟩ := e
  obtain ⟨h1, h2⟩ := hr hlt
  have hre := reach_is
  obtain ⟨g1, g2⟩ := rgs_of hL (fun r q => (h2 r q).rng) (by unfold maxG; omega)
  refine ⟨L.map rgOf, by simp, g1, g2, ⟨?_, fun r hm => ?_⟩⟩
  · rw [List.length_map]
    omega
  · obtain ⟨p, hp, rfl⟩ := List.mem_map.1 hm
    have := (h2 p hp).2.2.2.1
    show ((p.slots.map slOf).length + 6) * 64 ≤ _
    rw [List.length_map]
    omega
end T
end Go.Proofs.Ytikbbolgobhmiaa
