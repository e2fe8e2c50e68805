/-
  Stage 4, image: a number, a type, a value that came in, opened.
-/
import Derived.Test.YthmfaafpdogpdaaDoorIOpen
import Derived.Test.YthmfaafpdogpdaaDoorMMath
namespace Go.Proofs.YthmfaafpdogpdaaDoor
open Go.ChangeShapes Go.WideShapes Go.ChangeAt Go.RowKit

theorem bd_u64 {n : Int} (h : (Lit.int .u64 n).wf = true) : 0 ≤ n ∧ n < 18446744073709551616 := by
  have := bounds_u64 h; omega
theorem sevenCells {cs : Array Value} (h : cs.size = 7) : ∃ c0 c1 c2 c3 c4 c5 c6, cs = #[c0, c1, c2, c3, c4, c5, c6] := by
  rcases cs with ⟨l⟩
  match l, h with
  | [c0, c1, c2, c3, c4, c5, c6], _ => exact ⟨c0, c1, c2, c3, c4, c5, c6, rfl⟩
theorem cellsType : Tryd.prog.cellsOf 54 = 7 := by kernel_rfl
theorem cellsValue : Tryd.prog.cellsOf 62 = 7 := by kernel_rfl
theorem cellsCap : Tryd.prog.cellsOf 58 = 5 := by kernel_rfl
set_option maxRecDepth 100000 in
theorem open_type {H : Type} {enc : TypeId × Value → H} {W : World} {r : Reach} {base b0 : Nat} {spare : Nat → Bool} {held : Bool} {v : Value} {d : DataW H} {ps : List MemPlace}
    (hv : Value.okWide Tryd.prog W r base 54 v) (h : DataW.Trod enc Tryd.prog W b0 spare held 54 v d ps) :
    ∃ t : PTyp, v = .agg #[.bool t.cap, .int .u64 t.b, .int .u64 t.e, .int .u64 t.lo, .int .u64 t.hi, .int .u8 t.p, .int .i64 t.s] ∧ t.Rng := by
  have hs := Tryd.underlying54
  obtain ⟨cs, rfl, hsz⟩ := okWide_struct hs hv
  obtain ⟨c0, c1, c2, c3, c4, c5, c6, rfl⟩ := sevenCells (hsz.trans cellsType)
  obtain ⟨fuel, hf⟩ := h
  obtain ⟨xs, n, _, _, _, hl, hx⟩ := DataW.trod_struct hs hf
  have at_ : ∀ i, i < 7 → ∃ y, xs[i]? = some y := by
    intro i hi
    have : i < xs.length := by rw [hl]; simpa using hi
    exact ⟨xs[i], by simp [this]⟩
  have k1 : Tryd.prog.cellsOf 4 = 1 := by kernel_rfl
  have k2 : Tryd.prog.cellsOf 48 = 1 := by kernel_rfl
  have k3 : Tryd.prog.cellsOf 52 = 1 := by kernel_rfl
  have k4 : Tryd.prog.cellsOf 3 = 1 := by kernel_rfl
  obtain ⟨y0, t0⟩ := at_ 0 (by omega)
  rw [← hx 0 _ rfl] at t0
  obtain ⟨y1, t1⟩ := at_ 1 (by omega)
  rw [← hx 1 _ rfl] at t1
  obtain ⟨y2, t2⟩ := at_ 2 (by omega)
  rw [← hx 2 _ rfl] at t2
  obtain ⟨y3, t3⟩ := at_ 3 (by omega)
  rw [← hx 3 _ rfl] at t3
  obtain ⟨y4, t4⟩ := at_ 4 (by omega)
  rw [← hx 4 _ rfl] at t4
  obtain ⟨y5, t5⟩ := at_ 5 (by omega)
  rw [← hx 5 _ rfl] at t5
  obtain ⟨y6, t6⟩ := at_ 6 (by omega)
  rw [← hx 6 _ rfl] at t6
  obtain ⟨tc, e0, _⟩ := DataW.trod_bool Tryd.underlying4 t0
  obtain ⟨tb, e1, _, w1⟩ := DataW.trod_int Tryd.underlying48 t1
  obtain ⟨te, e2, _, w2⟩ := DataW.trod_int Tryd.underlying48 t2
  obtain ⟨lo, e3, _, w3⟩ := DataW.trod_int Tryd.underlying48 t3
  obtain ⟨hi, e4, _, w4⟩ := DataW.trod_int Tryd.underlying48 t4
  obtain ⟨tp, e5, _, w5⟩ := DataW.trod_int Tryd.underlying52 t5
  obtain ⟨ts, e6, _, w6⟩ := DataW.trod_int Tryd.underlying3 t6
  simp [Value.cells, k1, k2, k3, k4] at e0 e1 e2 e3 e4 e5 e6
  subst e0 e1 e2 e3 e4 e5 e6
  exact ⟨⟨tc, tb, te, lo, hi, tp, ts⟩, rfl, bd_u64 w1, bd_u64 w2, bd_u64 w3, bd_u64 w4, bd_u8 w5, bd_i64 w6⟩
set_option maxRecDepth 100000 in
theorem open_value {H : Type} {enc : TypeId × Value → H} {W : World} {r : Reach} {base b0 : Nat} {spare : Nat → Bool} {held : Bool} {v : Value} {d : DataW H} {ps : List MemPlace}
    (hv : Value.okWide Tryd.prog W r base 62 v) (h : DataW.Trod enc Tryd.prog W b0 spare held 62 v d ps) :
    ∃ (tag : Bool) (n b e c p s : Int), v = .agg #[.bool tag, .int .u64 n, .int .u64 b, .int .u64 e, .int .u64 c, .int .u8 p, .int .i64 s] ∧ (W64 n ∧ W64 b ∧ W64 e ∧ W64 c ∧ B8 p ∧ J64 s) := by
  have hs := Tryd.underlying62
  obtain ⟨cs, rfl, hsz⟩ := okWide_struct hs hv
  obtain ⟨c0, c1, c2, c3, c4, c5, c6, rfl⟩ := sevenCells (hsz.trans cellsValue)
  obtain ⟨fuel, hf⟩ := h
  obtain ⟨xs, n, _, _, _, hl, hx⟩ := DataW.trod_struct hs hf
  have at_ : ∀ i, i < 3 → ∃ y, xs[i]? = some y := by
    intro i hi
    have : i < xs.length := by rw [hl]; simpa using hi
    exact ⟨xs[i], by simp [this]⟩
  have k1 : Tryd.prog.cellsOf 4 = 1 := by kernel_rfl
  have k2 : Tryd.prog.cellsOf 48 = 1 := by kernel_rfl
  have k3 : Tryd.prog.cellsOf 52 = 1 := by kernel_rfl
  have k4 : Tryd.prog.cellsOf 3 = 1 := by kernel_rfl
  obtain ⟨y0, t0⟩ := at_ 0 (by omega)
  rw [← hx 0 _ rfl] at t0
  obtain ⟨y1, t1⟩ := at_ 1 (by omega)
  rw [← hx 1 _ rfl] at t1
  obtain ⟨y2, t2⟩ := at_ 2 (by omega)
  rw [← hx 2 _ rfl] at t2
  obtain ⟨tag, e0, _⟩ := DataW.trod_bool Tryd.underlying4 t0
  obtain ⟨nn, e1, _, w1⟩ := DataW.trod_int Tryd.underlying48 t1
  obtain ⟨xs2, n2, _, _, _, hl2, hx2⟩ := DataW.trod_struct Tryd.underlying58 t2
  have at2 : ∀ i, i < 5 → ∃ y, xs2[i]? = some y := by
    intro i hi
    have : i < xs2.length := by rw [hl2]; simpa using hi
    exact ⟨xs2[i], by simp [this]⟩
  obtain ⟨z0, s0⟩ := at2 0 (by omega)
  rw [← hx2 0 _ rfl] at s0
  obtain ⟨z1, s1⟩ := at2 1 (by omega)
  rw [← hx2 1 _ rfl] at s1
  obtain ⟨z2, s2⟩ := at2 2 (by omega)
  rw [← hx2 2 _ rfl] at s2
  obtain ⟨z3, s3⟩ := at2 3 (by omega)
  rw [← hx2 3 _ rfl] at s3
  obtain ⟨z4, s4⟩ := at2 4 (by omega)
  rw [← hx2 4 _ rfl] at s4
  obtain ⟨b, f0, _, v0⟩ := DataW.trod_int Tryd.underlying48 s0
  obtain ⟨e, f1, _, v1⟩ := DataW.trod_int Tryd.underlying48 s1
  obtain ⟨c, f2, _, v2⟩ := DataW.trod_int Tryd.underlying48 s2
  obtain ⟨p, f3, _, v3⟩ := DataW.trod_int Tryd.underlying52 s3
  obtain ⟨s, f4, _, v4⟩ := DataW.trod_int Tryd.underlying3 s4
  simp [Value.cells, k1, k2, k3, k4, cellsCap] at e0 e1 f0 f1 f2 f3 f4
  subst e0 e1 f0 f1 f2 f3 f4
  exact ⟨tag, nn, b, e, c, p, s, rfl, bd_u64 w1, bd_u64 v0, bd_u64 v1, bd_u64 v2, bd_u8 v3, bd_i64 v4⟩
end Go.Proofs.YthmfaafpdogpdaaDoor
