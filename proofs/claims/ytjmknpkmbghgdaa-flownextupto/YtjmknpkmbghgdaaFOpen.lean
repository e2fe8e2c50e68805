/-
  Stage 8, flow: code and entries that came in.
-/
import Derived.Test.YtjmknpkmbghgdaaIOpenL
import Derived.Test.YtjmknpkmbghgdaaFCome
namespace Go.Proofs.Ytjmknpkmbghgdaa
open Go.ChangeShapes Go.WideShapes Go.ChangeAt Go.RowKit Go.Deep

/-- What a row that came in reads as: so many elements. -/
def Long1 {H : Type} (d : DataW H) (n : Nat) : Prop := (d = .nil ∧ n = 0) ∨ ∃ elems spare, d = .slice elems spare ∧ elems.length = n
theorem bulk_long1 {H : Type} {d : DataW H} {n : Nat} (h : Long1 d n) : n ≤ Rows.uptoBulk d := by
  rcases h with ⟨_, rfl⟩ | ⟨e, s, rfl, rfl⟩
  · omega
  · have := bulk_len e; simp only [Rows.uptoBulk]; omega
theorem no_spot1 {W : World} {a : Addr} {v0 : Value} (h : W.cells? 0 (a.add (0 * 1)) 1 = some [v0]) : a.spot = none := by
  obtain ⟨_, _, hc⟩ := World.cells?_some h
  have c0 := hc 0 (by omega)
  simp only [Nat.zero_mul, Addr.add, if_true] at c0
  exact World.cell?_spot (c0.trans rfl)
theorem one_cell {W : World} {a : Addr} {i : Nat} {v0 : Value} (hs : a.spot = none) (h : W.cells? 0 (a.add (i * 1)) 1 = some [v0]) :
    ∃ b off, a = ⟨b, off, none⟩ ∧ b < W.heap.size ∧ W.cell? ⟨b, off + i, none⟩ = some v0 := by
  obtain ⟨_, _, hc⟩ := World.cells?_some h
  have c0 := hc 0 (by omega)
  obtain ⟨b, off, spot⟩ := a
  obtain rfl : spot = none := hs
  rw [addr_add, addr_add, Nat.mul_one, Nat.add_zero] at c0
  have hlt := World.block_lt_of_cell? W _ (c0.trans rfl)
  exact ⟨b, off, rfl, hlt, c0⟩
theorem open_nums {H : Type} {enc : TypeId × Value → H} {W : World} {spare : Nat → Bool} {held : Bool} {a : Option Addr} {len cap : Nat} {d : DataW H} {ps : List MemPlace}
    (h : DataW.Trod enc Try.prog W 0 spare held 23 (.slice a len cap) d ps) : ∃ E : List Int, E.length = len ∧ F.NIn W.heap.size W a E ∧ F.NilOk a len cap ∧ Long1 d len := by
  obtain ⟨fuel, hf⟩ := h
  have k1 : Try.prog.cellsOf 3 = 1 := by kernel_rfl
  rcases open_slice Try.underlying23 hf with ⟨hcs, hx⟩ | ⟨x, l, c, m, n, D, Pl, hcs, _, hl, hm, hmm, hx2, hx⟩
  · simp [Value.cells] at hcs
    obtain ⟨rfl, rfl, rfl⟩ := hcs
    simp only [Prod.mk.injEq] at hx
    exact ⟨[], rfl, fun i hi => by simp at hi, fun _ => ⟨rfl, rfl⟩, .inl ⟨hx.1, rfl⟩⟩
  · simp [Value.cells] at hcs
    obtain ⟨rfl, rfl, rfl⟩ := hcs
    have hlm : len ≤ m := by rw [hmm]; split <;> omega
    have hk : ∀ i, i < len → ∃ k : Int, W.cells? 0 (x.add (i * 1)) 1 = some [.int .i64 k] := fun i hi => by
      obtain ⟨cs', e1, e2⟩ := hx i (by omega)
      obtain ⟨p, rfl, _, _⟩ := DataW.trod_int Try.underlying3 e2
      rw [k1] at e1
      exact ⟨p, e1⟩
    obtain ⟨E, hE, hp⟩ := choose_list _ _ hk
    simp only [Prod.mk.injEq] at hx2
    refine ⟨E, hE, fun i hi => ?_, fun e => (by cases e), .inr ⟨_, _, hx2.1, by simp⟩⟩
    have hs : x.spot = none := no_spot1 (hp 0 (by omega))
    obtain ⟨b, off, rfl, hb, h1⟩ := one_cell hs (hp i hi)
    exact ⟨b, off, rfl, hb, hb, h1⟩
theorem insts_nil {H : Type} {enc : TypeId × Value → H} {W : World} {spare : Nat → Bool} {held : Bool} {a : Option Addr} {len cap : Nat} {d : DataW H} {ps : List MemPlace}
    (h : DataW.Trod enc Try.prog W 0 spare held 22 (.slice a len cap) d ps) : F.NilOk a len cap := by
  obtain ⟨fuel, hf⟩ := h
  rcases open_slice Try.underlying22 hf with ⟨hcs, hx⟩ | ⟨x, l, c, m, n, D, Pl, hcs, _⟩
  · simp [Value.cells] at hcs
    obtain ⟨rfl, rfl, rfl⟩ := hcs
    exact fun _ => ⟨rfl, rfl⟩
  · simp [Value.cells] at hcs
    obtain ⟨rfl, rfl, rfl⟩ := hcs
    exact fun e => by cases e
end Go.Proofs.Ytjmknpkmbghgdaa
