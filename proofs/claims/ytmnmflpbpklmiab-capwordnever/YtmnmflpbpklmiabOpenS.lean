/-
  Stage 1, capword: slices of capabilities and of acts that came in, opened.
-/
import Derived.Test.YtmnmflpbpklmiabOpen
import Derived.Test.YtmnmflpbpklmiabWNever
import Derived.Deep.Slices
namespace Go.Proofs.Ytmnmflpbpklmiab
open Go.ChangeShapes Go.WideShapes Go.ChangeAt Go.RowKit Go.Deep

theorem cellsAct : Try.prog.cellsOf 47 = 5 := by kernel_rfl
theorem five_list {α : Type} {cs : List α} (h : cs.length = 5) : ∃ c0 c1 c2 c3 c4, cs = [c0, c1, c2, c3, c4] := by
  match cs, h with
  | [c0, c1, c2, c3, c4], _ => exact ⟨c0, c1, c2, c3, c4, rfl⟩

theorem trod_cap {H : Type} {enc : TypeId × Value → H} {W : World} {b0 n : Nat} {spare : Nat → Bool} {held : Bool} {cs : List Value} {x : DataW H × List MemPlace}
    (hf : DataW.trod enc Try.prog W b0 spare held n 25 cs = some x) : ∃ k : Kap, cs = k.vals ∧ InR k.b k.e k.c k.p k.s := by
  have hs := Try.underlying25
  obtain ⟨xs, m, _, _, hcl, hl, hx⟩ := DataW.trod_struct hs hf
  obtain ⟨c0, c1, c2, c3, c4, rfl⟩ := five_list (hcl.trans cellsCap)
  have at_ : ∀ i, i < 5 → ∃ y, xs[i]? = some y := by
    intro i hi
    have : i < xs.length := by rw [hl]; simpa using hi
    exact ⟨xs[i], by simp [this]⟩
  have k1 : Try.prog.cellsOf 22 = 1 := by kernel_rfl
  have k2 : Try.prog.cellsOf 23 = 1 := by kernel_rfl
  have k3 : Try.prog.cellsOf 3 = 1 := by kernel_rfl
  obtain ⟨y0, t0⟩ := at_ 0 (by omega)
  rw [← hx 0 _ rfl] at t0
  obtain ⟨y1, t1⟩ := at_ 1 (by omega)
  rw [← hx 1 _ rfl] at t1
  obtain ⟨y2, t2⟩ := at_ 2 (by omega)
  rw [← hx 2 _ rfl] at t2
  obtain ⟨y3, t3⟩ := at_ 3 (by omega)
  rw [← hx 3 _ rfl] at t3
  obtain ⟨y4, t4⟩ := at_ 4 (by omega)
  rw [← hx 4 _ rfl] at t4
  obtain ⟨b, e0, _, w0⟩ := DataW.trod_int Try.underlying22 t0
  obtain ⟨e, e1, _, w1⟩ := DataW.trod_int Try.underlying22 t1
  obtain ⟨c, e2, _, w2⟩ := DataW.trod_int Try.underlying22 t2
  obtain ⟨p, e3, _, w3⟩ := DataW.trod_int Try.underlying23 t3
  obtain ⟨s, e4, _, w4⟩ := DataW.trod_int Try.underlying3 t4
  simp [k1, k2, k3] at e0 e1 e2 e3 e4
  subst e0 e1 e2 e3 e4
  exact ⟨⟨b, e, c, p, s⟩, rfl, bd_u64 w0, bd_u64 w1, bd_u64 w2, bd_u8 w3, bd_i64 w4⟩
theorem trod_act {H : Type} {enc : TypeId × Value → H} {W : World} {b0 n : Nat} {spare : Nat → Bool} {held : Bool} {cs : List Value} {x : DataW H × List MemPlace}
    (hf : DataW.trod enc Try.prog W b0 spare held n 47 cs = some x) : ∃ kd of by_ m p : Int, cs = [.int .i64 kd, .int .i64 of, .int .i64 by_, .int .u64 m, .int .u8 p] ∧
      (-9223372036854775808 ≤ kd ∧ kd < 9223372036854775808) ∧ (-9223372036854775808 ≤ of ∧ of < 9223372036854775808) ∧ (-9223372036854775808 ≤ by_ ∧ by_ < 9223372036854775808) ∧ (0 ≤ m ∧ m < 18446744073709551616) ∧ (0 ≤ p ∧ p < 256) := by
  have hs := Try.underlying47
  obtain ⟨xs, m, _, _, hcl, hl, hx⟩ := DataW.trod_struct hs hf
  obtain ⟨c0, c1, c2, c3, c4, rfl⟩ := five_list (hcl.trans cellsAct)
  have at_ : ∀ i, i < 5 → ∃ y, xs[i]? = some y := by
    intro i hi
    have : i < xs.length := by rw [hl]; simpa using hi
    exact ⟨xs[i], by simp [this]⟩
  have k1 : Try.prog.cellsOf 22 = 1 := by kernel_rfl
  have k2 : Try.prog.cellsOf 23 = 1 := by kernel_rfl
  have k3 : Try.prog.cellsOf 3 = 1 := by kernel_rfl
  obtain ⟨y0, t0⟩ := at_ 0 (by omega)
  rw [← hx 0 _ rfl] at t0
  obtain ⟨y1, t1⟩ := at_ 1 (by omega)
  rw [← hx 1 _ rfl] at t1
  obtain ⟨y2, t2⟩ := at_ 2 (by omega)
  rw [← hx 2 _ rfl] at t2
  obtain ⟨y3, t3⟩ := at_ 3 (by omega)
  rw [← hx 3 _ rfl] at t3
  obtain ⟨y4, t4⟩ := at_ 4 (by omega)
  rw [← hx 4 _ rfl] at t4
  obtain ⟨b, e0, _, w0⟩ := DataW.trod_int Try.underlying3 t0
  obtain ⟨e, e1, _, w1⟩ := DataW.trod_int Try.underlying3 t1
  obtain ⟨c, e2, _, w2⟩ := DataW.trod_int Try.underlying3 t2
  obtain ⟨p, e3, _, w3⟩ := DataW.trod_int Try.underlying22 t3
  obtain ⟨s, e4, _, w4⟩ := DataW.trod_int Try.underlying23 t4
  simp [k1, k2, k3] at e0 e1 e2 e3 e4
  subst e0 e1 e2 e3 e4
  exact ⟨b, e, c, p, s, rfl, bd_i64 w0, bd_i64 w1, bd_i64 w2, bd_u64 w3, bd_u8 w4⟩

theorem addr_add (b off k : Nat) : (⟨b, off, none⟩ : Addr).add k = ⟨b, off + k, none⟩ := by by_cases h : k = 0 <;> simp [Addr.add, h]
/-- Five cells from an address on. -/
theorem no_spot {W : World} {a : Addr} {v0 v1 v2 v3 v4 : Value} (h : W.cells? 0 (a.add (0 * 5)) 5 = some [v0, v1, v2, v3, v4]) : a.spot = none := by
  obtain ⟨_, _, hc⟩ := World.cells?_some h
  have c0 := hc 0 (by omega)
  simp only [Nat.zero_mul, Addr.add, if_true] at c0
  exact World.cell?_spot (c0.trans rfl)
theorem five_cells {W : World} {a : Addr} {i : Nat} {v0 v1 v2 v3 v4 : Value} (hs : a.spot = none) (h : W.cells? 0 (a.add (i * 5)) 5 = some [v0, v1, v2, v3, v4]) :
    ∃ b off, a = ⟨b, off, none⟩ ∧ b < W.heap.size ∧ W.cell? ⟨b, off + i * 5, none⟩ = some v0 ∧ W.cell? ⟨b, off + i * 5 + 1, none⟩ = some v1 ∧ W.cell? ⟨b, off + i * 5 + 1 + 1, none⟩ = some v2 ∧ W.cell? ⟨b, off + i * 5 + 1 + 1 + 1, none⟩ = some v3 ∧ W.cell? ⟨b, off + i * 5 + 1 + 1 + 1 + 1, none⟩ = some v4 := by
  obtain ⟨_, _, hc⟩ := World.cells?_some h
  have c0 := hc 0 (by omega)
  have c1 := hc 1 (by omega)
  have c2 := hc 2 (by omega)
  have c3 := hc 3 (by omega)
  have c4 := hc 4 (by omega)
  obtain ⟨b, off, spot⟩ := a
  obtain rfl : spot = none := hs
  rw [addr_add, addr_add] at c0 c1 c2 c3 c4
  have hlt := World.block_lt_of_cell? W _ (c0.trans rfl)
  exact ⟨b, off, rfl, hlt, c0, c1, c2, c3, c4⟩
theorem open_caps {H : Type} {enc : TypeId × Value → H} {W : World} {spare : Nat → Bool} {held : Bool} {a : Option Addr} {len cap : Nat} {d : DataW H} {ps : List MemPlace}
    (h : DataW.Trod enc Try.prog W 0 spare held 42 (.slice a len cap) d ps) : CapsIn W a len ∧ len ≤ maxLen := by
  obtain ⟨fuel, hf⟩ := h
  rcases open_slice Try.underlying42 hf with ⟨hcs, _⟩ | ⟨x, l, c, m, n, D, Pl, hcs, _, hl, hm, hmm, _, hx⟩
  · simp [Value.cells] at hcs
    obtain ⟨rfl, rfl, rfl⟩ := hcs
    exact ⟨fun i hi => by omega, by simp [maxLen]⟩
  · simp [Value.cells] at hcs
    obtain ⟨rfl, rfl, rfl⟩ := hcs
    refine ⟨fun i hi => ?_, by omega⟩
    obtain ⟨cs', h1, h2⟩ := hx i (by rw [hmm]; split <;> omega)
    obtain ⟨k, rfl, hk⟩ := trod_cap h2
    obtain ⟨cs0, g1, g2⟩ := hx 0 (by rw [hmm]; split <;> omega)
    obtain ⟨k0, rfl, _⟩ := trod_cap g2
    rw [cellsCap] at h1 g1
    obtain ⟨b, off, rfl, hlt, c0, c1, c2, c3, c4⟩ := five_cells (no_spot g1) h1
    exact ⟨b, off, k, rfl, hlt, hk, c0, c1, c2, c3, c4⟩
theorem open_acts {H : Type} {enc : TypeId × Value → H} {W : World} {spare : Nat → Bool} {held : Bool} {a : Option Addr} {len cap : Nat} {d : DataW H} {ps : List MemPlace}
    (h : DataW.Trod enc Try.prog W 0 spare held 43 (.slice a len cap) d ps) : ActsIn W a len ∧ len ≤ maxLen := by
  obtain ⟨fuel, hf⟩ := h
  rcases open_slice Try.underlying43 hf with ⟨hcs, _⟩ | ⟨x, l, c, m, n, D, Pl, hcs, _, hl, hm, hmm, _, hx⟩
  · simp [Value.cells] at hcs
    obtain ⟨rfl, rfl, rfl⟩ := hcs
    exact ⟨fun i hi => by omega, by simp [maxLen]⟩
  · simp [Value.cells] at hcs
    obtain ⟨rfl, rfl, rfl⟩ := hcs
    refine ⟨fun i hi => ?_, by omega⟩
    obtain ⟨cs', h1, h2⟩ := hx i (by rw [hmm]; split <;> omega)
    obtain ⟨kd, of, by_, q, p, rfl, r1, r2, r3, r4, r5⟩ := trod_act h2
    obtain ⟨cs0, g1, g2⟩ := hx 0 (by rw [hmm]; split <;> omega)
    obtain ⟨_, _, _, _, _, rfl, _⟩ := trod_act g2
    rw [cellsAct] at h1 g1
    obtain ⟨b, off, rfl, hlt, c0, c1, c2, c3, c4⟩ := five_cells (no_spot g1) h1
    exact ⟨b, off, kd, of, by_, q, p, rfl, hlt, r1, r2, r3, r4, r5, c0, c1, c2, c3, c4⟩
end Go.Proofs.Ytmnmflpbpklmiab
