/-
  Stage 2, span: a slice of spans that came in, opened.
-/
import Derived.Test.YtodhgmeecphckaaSOpen
import Derived.Deep.Slices
namespace Go.Proofs.Ytodhgmeecphckaa
open Go.ChangeShapes Go.WideShapes Go.ChangeAt Go.RowKit Go.Deep

/-- A slice of spans that came in. -/
def SpansIn (w : World) (a : Option Addr) (len : Nat) : Prop := ∀ i, i < len → ∃ (b off : Nat) (x y : Int), a = some ⟨b, off, none⟩ ∧ b < w.heap.size ∧ W64 x ∧ W64 y ∧
  w.cell? ⟨b, off + i * 2, none⟩ = some (.int .u64 x) ∧ w.cell? ⟨b, off + i * 2 + 1, none⟩ = some (.int .u64 y)
theorem two_list {α : Type} {cs : List α} (h : cs.length = 2) : ∃ c0 c1, cs = [c0, c1] := by
  match cs, h with
  | [c0, c1], _ => exact ⟨c0, c1, rfl⟩
theorem trod_span {H : Type} {enc : TypeId × Value → H} {W : World} {b0 n : Nat} {spare : Nat → Bool} {held : Bool} {cs : List Value} {x : DataW H × List MemPlace}
    (hf : DataW.trod enc Try.prog W b0 spare held n 26 cs = some x) : ∃ a b : Int, cs = [.int .u64 a, .int .u64 b] ∧ W64 a ∧ W64 b := by
  have hs := Try.underlying26
  obtain ⟨xs, m, _, _, hcl, hl, hx⟩ := DataW.trod_struct hs hf
  obtain ⟨c0, c1, rfl⟩ := two_list (hcl.trans cellsSpan)
  have at_ : ∀ i, i < 2 → ∃ y, xs[i]? = some y := by
    intro i hi
    have : i < xs.length := by rw [hl]; simpa using hi
    exact ⟨xs[i], by simp [this]⟩
  have k1 : Try.prog.cellsOf 22 = 1 := by kernel_rfl
  obtain ⟨y0, t0⟩ := at_ 0 (by omega)
  rw [← hx 0 _ rfl] at t0
  obtain ⟨y1, t1⟩ := at_ 1 (by omega)
  rw [← hx 1 _ rfl] at t1
  obtain ⟨a, e0, _, w0⟩ := DataW.trod_int Try.underlying22 t0
  obtain ⟨b, e1, _, w1⟩ := DataW.trod_int Try.underlying22 t1
  simp [k1] at e0 e1
  subst e0 e1
  exact ⟨a, b, rfl, bd_u64 w0, bd_u64 w1⟩
theorem addr_add (b off k : Nat) : (⟨b, off, none⟩ : Addr).add k = ⟨b, off + k, none⟩ := by by_cases h : k = 0 <;> simp [Addr.add, h]
theorem no_spot {W : World} {a : Addr} {v0 v1 : Value} (h : W.cells? 0 (a.add (0 * 2)) 2 = some [v0, v1]) : a.spot = none := by
  obtain ⟨_, _, hc⟩ := World.cells?_some h
  have c0 := hc 0 (by omega)
  simp only [Nat.zero_mul, Addr.add, if_true] at c0
  exact World.cell?_spot (c0.trans rfl)
theorem two_cells {W : World} {a : Addr} {i : Nat} {v0 v1 : Value} (hs : a.spot = none) (h : W.cells? 0 (a.add (i * 2)) 2 = some [v0, v1]) :
    ∃ b off, a = ⟨b, off, none⟩ ∧ b < W.heap.size ∧ W.cell? ⟨b, off + i * 2, none⟩ = some v0 ∧ W.cell? ⟨b, off + i * 2 + 1, none⟩ = some v1 := by
  obtain ⟨_, _, hc⟩ := World.cells?_some h
  have c0 := hc 0 (by omega)
  have c1 := hc 1 (by omega)
  obtain ⟨b, off, spot⟩ := a
  obtain rfl : spot = none := hs
  rw [addr_add, addr_add] at c0 c1
  have hlt := World.block_lt_of_cell? W _ (c0.trans rfl)
  exact ⟨b, off, rfl, hlt, c0, c1⟩
theorem open_spans {H : Type} {enc : TypeId × Value → H} {W : World} {spare : Nat → Bool} {held : Bool} {a : Option Addr} {len cap : Nat} {d : DataW H} {ps : List MemPlace}
    (h : DataW.Trod enc Try.prog W 0 spare held 23 (.slice a len cap) d ps) : SpansIn W a len ∧ len ≤ maxLen := by
  obtain ⟨fuel, hf⟩ := h
  rcases open_slice Try.underlying23 hf with ⟨hcs, _⟩ | ⟨x, l, c, m, n, D, Pl, hcs, _, hl, hm, hmm, _, hx⟩
  · simp [Value.cells] at hcs
    obtain ⟨rfl, rfl, rfl⟩ := hcs
    exact ⟨fun i hi => by omega, by simp [maxLen]⟩
  · simp [Value.cells] at hcs
    obtain ⟨rfl, rfl, rfl⟩ := hcs
    refine ⟨fun i hi => ?_, by omega⟩
    obtain ⟨cs', h1, h2⟩ := hx i (by rw [hmm]; split <;> omega)
    obtain ⟨p, q, rfl, hp, hq⟩ := trod_span h2
    obtain ⟨cs0, g1, g2⟩ := hx 0 (by rw [hmm]; split <;> omega)
    obtain ⟨_, _, rfl, _⟩ := trod_span g2
    rw [cellsSpan] at h1 g1
    obtain ⟨b, off, rfl, hlt, c0, c1⟩ := two_cells (no_spot g1) h1
    exact ⟨b, off, p, q, rfl, hlt, hp, hq, c0, c1⟩
end Go.Proofs.Ytodhgmeecphckaa
