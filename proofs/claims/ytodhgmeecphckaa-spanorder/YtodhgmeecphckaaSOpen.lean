/-
  Stage 2, span: a span by value, opened: its two numbers, each in its range.
-/
import Derived.Test.YtodhgmeecphckaaChecked
import Derived.Test.YtodhgmeecphckaaSMath
import Derived.ProofKit
import Derived.OpenShut
import Derived.ChangeOld
namespace Go.Proofs.Ytodhgmeecphckaa
open Go.ChangeShapes Go.WideShapes Go.ChangeAt Go.RowKit

theorem own : ownKnob Try.prog.godebug = none := by kernel_rfl
theorem laidOut : laidOutB Try.prog = true := by kernel_rfl
theorem cellsSpan : Try.prog.cellsOf 26 = 2 := by kernel_rfl

theorem twoCells {α : Type} {cs : Array α} (h : cs.size = 2) : ∃ c0 c1, cs = #[c0, c1] := by
  obtain ⟨l⟩ := cs
  match l, h with
  | [c0, c1], _ => exact ⟨c0, c1, rfl⟩
theorem bd_u64 {n : Int} (h : (Lit.int .u64 n).wf = true) : W64 n := by
  have := bounds_u64 h; unfold W64; omega
theorem bd_u8 {n : Int} (h : (Lit.int .u8 n).wf = true) : 0 ≤ n ∧ n < 256 := by
  have := bounds_u8 h; omega
theorem bd_i64 {n : Int} (h : (Lit.int .i64 n).wf = true) : -9223372036854775808 ≤ n ∧ n < 9223372036854775808 := by
  have := bounds_i64 h; omega

theorem open_span {H : Type} {enc : TypeId × Value → H} {W : World} {r : Reach} {base b0 : Nat} {spare : Nat → Bool} {held : Bool} {v : Value} {d : DataW H} {ps : List MemPlace}
    (hv : Value.okWide Try.prog W r base 26 v) (h : DataW.Trod enc Try.prog W b0 spare held 26 v d ps) :
    ∃ a b : Int, v = .agg #[.int .u64 a, .int .u64 b] ∧ W64 a ∧ W64 b := by
  have hs := Try.underlying26
  obtain ⟨cs, rfl, hsz⟩ := okWide_struct hs hv
  obtain ⟨c0, c1, rfl⟩ := twoCells (hsz.trans cellsSpan)
  obtain ⟨fuel, hf⟩ := h
  obtain ⟨xs, n, _, _, _, hl, hx⟩ := DataW.trod_struct hs hf
  have at_ : ∀ i, i < 2 → ∃ y, xs[i]? = some y := by
    intro i hi
    have : i < xs.length := by rw [hl]; simpa using hi
    exact ⟨xs[i], by simp [this]⟩
  have k1 : Try.prog.cellsOf 22 = 1 := by kernel_rfl
  obtain ⟨y0, t0⟩ := at_ 0 (by omega)
  rw [← hx 0 _ rfl] at t0
  obtain ⟨y1, t1⟩ := at_ 1 (by omega)
  rw [← hx 1 _ rfl] at t1
  obtain ⟨a, e0, _, w0⟩ := DataW.trod_int Try.underlying22 t0
  obtain ⟨b, e1, _, w1⟩ := DataW.trod_int Try.underlying22 t1
  simp [Value.cells, k1] at e0 e1
  subst e0 e1
  exact ⟨a, b, rfl, bd_u64 w0, bd_u64 w1⟩
end Go.Proofs.Ytodhgmeecphckaa
