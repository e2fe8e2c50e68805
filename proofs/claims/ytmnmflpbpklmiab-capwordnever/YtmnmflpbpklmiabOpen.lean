/-
  Stage 1, capword: a capability by value, opened: its five numbers, each in its range.
-/
import Derived.Test.YtmnmflpbpklmiabChecked
import Derived.Test.YtmnmflpbpklmiabPlain
import Derived.ProofKit
import Derived.OpenShut
import Derived.ChangeOld
namespace Go.Proofs.Ytmnmflpbpklmiab
open Go.ChangeShapes Go.WideShapes Go.ChangeAt Go.RowKit

theorem own : ownKnob Try.prog.godebug = none := by kernel_rfl
theorem laidOut : laidOutB Try.prog = true := by kernel_rfl
theorem cellsCap : Try.prog.cellsOf 25 = 5 := by kernel_rfl

theorem fiveCells {α : Type} {cs : Array α} (h : cs.size = 5) : ∃ c0 c1 c2 c3 c4, cs = #[c0, c1, c2, c3, c4] := by
  obtain ⟨l⟩ := cs
  match l, h with
  | [c0, c1, c2, c3, c4], _ => exact ⟨c0, c1, c2, c3, c4, rfl⟩

/-- A capability's numbers are in their ranges. -/
def InR (b e c p s : Int) : Prop :=
  (0 ≤ b ∧ b < 18446744073709551616) ∧ (0 ≤ e ∧ e < 18446744073709551616) ∧ (0 ≤ c ∧ c < 18446744073709551616) ∧ (0 ≤ p ∧ p < 256) ∧ (-9223372036854775808 ≤ s ∧ s < 9223372036854775808)

theorem bd_u64 {n : Int} (h : (Lit.int .u64 n).wf = true) : 0 ≤ n ∧ n < 18446744073709551616 := by
  have := bounds_u64 h; omega
theorem bd_u8 {n : Int} (h : (Lit.int .u8 n).wf = true) : 0 ≤ n ∧ n < 256 := by
  have := bounds_u8 h; omega
theorem bd_i64 {n : Int} (h : (Lit.int .i64 n).wf = true) : -9223372036854775808 ≤ n ∧ n < 9223372036854775808 := by
  have := bounds_i64 h; omega

theorem open_cap {H : Type} {enc : TypeId × Value → H} {W : World} {r : Reach} {base b0 : Nat} {spare : Nat → Bool} {held : Bool} {v : Value} {d : DataW H} {ps : List MemPlace}
    (hv : Value.okWide Try.prog W r base 25 v) (h : DataW.Trod enc Try.prog W b0 spare held 25 v d ps) :
    ∃ b e c p s : Int, v = .agg #[.int .u64 b, .int .u64 e, .int .u64 c, .int .u8 p, .int .i64 s] ∧ InR b e c p s := by
  have hs := Try.underlying25
  obtain ⟨cs, rfl, hsz⟩ := okWide_struct hs hv
  obtain ⟨c0, c1, c2, c3, c4, rfl⟩ := fiveCells (hsz.trans cellsCap)
  obtain ⟨fuel, hf⟩ := h
  obtain ⟨xs, n, _, _, _, hl, hx⟩ := DataW.trod_struct hs hf
  have at_ : ∀ i, i < 5 → ∃ y, xs[i]? = some y := by
    intro i hi
    have : i < xs.length := by rw [hl]; simpa using hi
    exact ⟨xs[i], by simp [this]⟩
  have k1 : Try.prog.cellsOf 22 = 1 := by kernel_rfl
  have k2 : Try.prog.cellsOf 23 = 1 := by kernel_rfl
  have k3 : Try.prog.cellsOf 3 = 1 := by kernel_rfl
  obtain ⟨y0, t0⟩ := at_ 0 (by omega)
  rw [← hx 0 _ rfl] at t0
  obtain ⟨y1, t1⟩ := at_ 1 (by omega)
  rw [← hx 1 _ rfl] at t1
  obtain ⟨y2, t2⟩ := at_ 2 (by omega)
  rw [← hx 2 _ rfl] at t2
  obtain ⟨y3, t3⟩ := at_ 3 (by omega)
  rw [← hx 3 _ rfl] at t3
  obtain ⟨y4, t4⟩ := at_ 4 (by omega)
  rw [← hx 4 _ rfl] at t4
  obtain ⟨b, e0, _, w0⟩ := DataW.trod_int Try.underlying22 t0
  obtain ⟨e, e1, _, w1⟩ := DataW.trod_int Try.underlying22 t1
  obtain ⟨c, e2, _, w2⟩ := DataW.trod_int Try.underlying22 t2
  obtain ⟨p, e3, _, w3⟩ := DataW.trod_int Try.underlying23 t3
  obtain ⟨s, e4, _, w4⟩ := DataW.trod_int Try.underlying3 t4
  simp [Value.cells, k1, k2, k3] at e0 e1 e2 e3 e4
  subst e0 e1 e2 e3 e4
  exact ⟨b, e, c, p, s, rfl, bd_u64 w0, bd_u64 w1, bd_u64 w2, bd_u8 w3, bd_i64 w4⟩
end Go.Proofs.Ytmnmflpbpklmiab
