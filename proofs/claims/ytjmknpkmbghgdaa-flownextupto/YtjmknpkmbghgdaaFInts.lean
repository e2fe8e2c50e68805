/-
  Stage 8, flow: lists of numbers that are the same.
-/
import Derived.Test.YtjmknpkmbghgdaaFBookS
namespace Go.Proofs.Ytjmknpkmbghgdaa
namespace F
open Go.RowKit
open T

set_option maxHeartbeats 2000000 in
theorem ints_any (E : List Int) (a b : Option Addr) (c d : Nat) (w : World) (h1 : NIn w.heap.size w a E) (h2 : NIn w.heap.size w b E) (hn : E.length < 2000000) :
    Calls Try.prog 17 #[.slice a E.length c, .slice b E.length d] w fun e w' => e = .returned (.bool true) ∧ Below w.heap.size w w' := by
  have hnn : ((E.length : Int) != (E.length : Int)) = false := by simp
  replace h1 := Hid.mk h1
  replace h2 := Hid.mk h2
  go_enter Try.func17, Try.ntmps17
  go_wp2_with fail
  go_loopw [5] (fun x wr => ∃ j : Nat, x = .int .i64 j ∧ j ≤ E.length ∧ Hid (Below w.heap.size w wr)) (fun x _ => E.length - (intOf x).toNat)
  case atStart => exact ⟨0, rfl, by omega, Hid.mk (Below.refl _ _)⟩
  case round =>
    obtain ⟨j, rfl, hj, hI⟩ := hrel
    by_cases hlt : j < E.length
    · have hi1 : (j : Int) < E.length := by omega
      obtain ⟨b1, o1, rfl, _, q1, y1⟩ := h1.out j hlt
      obtain ⟨b2, o2, rfl, _, q2, y2⟩ := h2.out j hlt
      have z1 := (hI.out.cell (p := ⟨b1, o1 + j, none⟩) q1).trans y1
      have z2 := (hI.out.cell (p := ⟨b2, o2 + j, none⟩) q2).trans y2
      clear y1 y2
      generalize E[j] = x at *
      have hxx : (x != x) = false := by simp
      go_wp2_with fail
      go_quiet (fail)
      go_wp2_with fail
      go_roundw
      all_goals first | exact ⟨j + 1, by simp, by omega, Hid.mk (bel_drewN hI.out _)⟩ | (simp only [intOf]; omega)
    · have hi1 : ¬ (j : Int) < E.length := by omega
      go_wp2_with fail
      go_ret
      exact ⟨rfl, hI.out⟩
end F
end Go.Proofs.Ytjmknpkmbghgdaa
