/-
  Stage 9, regtype: a list of what is known of registers, handed in, opened.
-/
import Derived.Test.YtihminokipepcaaROpen
namespace Go.Proofs.Ytihminokipepcaa
namespace R
open Go.ChangeShapes Go.WideShapes Go.ChangeAt Go.RowKit Go.Deep T

theorem addr_off (b off k : Nat) : (⟨b, off, none⟩ : Addr).add k = ⟨b, off + k, none⟩ := by by_cases h : k = 0 <;> simp [Addr.add, h]
theorem open_list {α : Type} {vals : α → List Value} {ok : α → Prop} {st et : TypeId} {k : Nat} (hu : Try.prog.underlying st = some (.slice et)) (hk : Try.prog.cellsOf et = k) (h0 : 0 < k) (hlen : ∀ x, (vals x).length = k)
    {H : Type} {enc : TypeId × Value → H} {W : World} {spare : Nat → Bool} {held : Bool} {a : Option Addr} {len cap : Nat} {d : DataW H} {ps : List MemPlace}
    (ht : ∀ n cs x, DataW.trod enc Try.prog W 0 spare held n et cs = some x → ∃ y, cs = vals y ∧ ok y)
    (h : DataW.Trod enc Try.prog W 0 spare held st (.slice a len cap) d ps) : ∃ L : List α, len = L.length ∧ ((∀ x ∈ L, ok x) ∧ EIn k vals W a L) ∧ L.length ≤ maxLen := by
  obtain ⟨fuel, hf⟩ := h
  rcases open_slice hu hf with ⟨hcs, _⟩ | ⟨x, l, c, m, n, D, Pl, hcs, _, hl, hm, hmm, _, hx⟩
  · simp [Value.cells] at hcs
    obtain ⟨rfl, rfl, rfl⟩ := hcs
    exact ⟨[], rfl, ⟨fun x q => by simp at q, fun i hi => by simp at hi⟩, by simp [maxLen]⟩
  · simp [Value.cells] at hcs
    obtain ⟨rfl, rfl, rfl⟩ := hcs
    obtain ⟨L, hL, hp⟩ := choose_list (fun i y => ok y ∧ W.cells? 0 (x.add (i * k)) k = some (vals y)) len (fun i hi => by
      obtain ⟨cs', h1, h2⟩ := hx i (by rw [hmm]; split <;> omega)
      obtain ⟨y, rfl, hy⟩ := ht _ _ _ h2
      rw [hk] at h1
      exact ⟨y, hy, h1⟩)
    refine ⟨L, hL.symm, ⟨fun y hy => ?_, fun i hi => ?_⟩, by omega⟩
    · obtain ⟨i, hi, rfl⟩ := List.getElem_of_mem hy
      exact (hp i hi).1
    · have h00 := (hp 0 (by omega)).2
      have hs : x.spot = none := by
        obtain ⟨_, hl', hc⟩ := World.cells?_some h00
        have c0 := hc 0 (by omega)
        simp only [Nat.zero_mul, Addr.add, if_true] at c0
        exact World.cell?_spot (c0.trans (List.getElem?_eq_getElem (by rw [hlen]; exact h0)))
      obtain ⟨b, off, spot⟩ := x
      obtain rfl : spot = none := hs
      have hi' := (hp i hi).2
      obtain ⟨_, hl', hc⟩ := World.cells?_some hi'
      have hcell : ∀ j, j < k → W.cell? ⟨b, off + i * k + j, none⟩ = (vals L[i])[j]? := fun j hj => by
        have c0 := hc j hj
        rw [addr_off, addr_off] at c0
        exact c0
      refine ⟨b, off, rfl, ?_, fun j v q => ?_⟩
      · have c0 := hcell 0 h0
        exact World.block_lt_of_cell? W _ (c0.trans (List.getElem?_eq_getElem (by rw [hlen]; exact h0)))
      · rw [hcell j (by
          have := (List.getElem?_eq_some_iff.1 q).1
          rw [hlen] at this; exact this)]
        exact q
theorem open_rts {H : Type} {enc : TypeId × Value → H} {W : World} {spare : Nat → Bool} {held : Bool} {a : Option Addr} {len cap : Nat} {d : DataW H} {ps : List MemPlace}
    (h : DataW.Trod enc Try.prog W 0 spare held 34 (.slice a len cap) d ps) : ∃ L : List RT, len = L.length ∧ ((∀ x ∈ L, x.Rng) ∧ EIn 12 RT.vals W a L) ∧ L.length ≤ maxLen :=
  open_list (k := 12) Try.underlying34 (by kernel_rfl) (by omega) (fun _ => rfl) (fun _ _ _ q => trod_rt q) h
end R
end Go.Proofs.Ytihminokipepcaa
