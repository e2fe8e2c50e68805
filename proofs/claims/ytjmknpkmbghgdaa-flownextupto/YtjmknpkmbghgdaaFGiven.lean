/-
  Stage 8, flow: what was lent is as it was.
-/
import Derived.Test.YtjmknpkmbghgdaaFLent
namespace Go.Proofs.Ytjmknpkmbghgdaa
namespace F
open Go.RowKit
open T

theorem bel_drewN {B : Nat} {a w : World} (h : Below B a w) (n : Nat) : Below B a (w.drewN n) := h.trans ⟨rfl, rfl, rfl, Nat.le_refl _, fun _ _ => rfl⟩
set_option maxRecDepth 100000 in
set_option maxHeartbeats 4000000 in
theorem givenInts_any (E : List Int) (ea : Option Addr) (ec g : Nat) (w : World) (hE : NIn w.heap.size w ea E) (h : At w g (numA (E ++ mkN))) (he : E.length ≤ 1900000) :
    Calls Try.prog 24 #[.slice (some ⟨g, 0, none⟩) E.length (E.length + 8), .slice ea E.length ec] w fun e w' => e = .returned (.bool true) ∧ Below w.heap.size w w' := by
  have hc1 : ∀ j (hj : j < E.length), w.cell? ⟨g, j, none⟩ = some (.int .i64 E[j]) := fun j hj => by
    rw [numA_at h j (by simp; omega), List.getElem_append_left hj]
  have hc2 : ∀ j, E.length ≤ j → j < E.length + 8 → w.cell? ⟨g, j, none⟩ = some (.int .i64 (-99)) := fun j h1 h2 => by
    rw [numA_at h j (by simp [mkN]; omega), List.getElem_append_right h1]
    have : ∀ k, k < 8 → mkN[k]? = some (-99) := by
      intro k hk
      obtain rfl | rfl | rfl | rfl | rfl | rfl | rfl | rfl : k = 0 ∨ k = 1 ∨ k = 2 ∨ k = 3 ∨ k = 4 ∨ k = 5 ∨ k = 6 ∨ k = 7 := by omega
      all_goals rfl
    have h3 := this (j - E.length) (by omega)
    rw [List.getElem?_eq_some_iff] at h3
    obtain ⟨_, h3⟩ := h3
    rw [h3]
  have hgl := h.1
  replace hE := Hid.mk hE
  replace h := Hid.mk h
  replace hc1 := Hid.mk hc1
  replace hc2 := Hid.mk hc2
  go_enter Try.func24, Try.ntmps24
  go_wp2_with fail
  go_loopw [6] (fun x wr => ∃ j : Nat, x = .int .i64 j ∧ j ≤ E.length + 8 ∧ Hid (Below w.heap.size w wr)) (fun x _ => E.length + 8 - (intOf x).toNat)
  case atStart => exact ⟨0, rfl, by omega, Hid.mk (Below.refl _ _)⟩
  case round =>
    obtain ⟨j, rfl, hj, hI⟩ := hrel
    by_cases hlt : j < E.length + 8
    · have hi1 : (j : Int) < (E.length : Int) + 8 := by omega
      by_cases hje : j < E.length
      · obtain ⟨b', off, rfl, hb0', hb1, hcj⟩ := hE.out j hje
        have z1 := (hI.out.cell (p := ⟨b', off + j, none⟩) hb0').trans hcj
        have z2 := (hI.out.cell (p := ⟨g, j, none⟩) hgl).trans (hc1.out j hje)
        have hi2 : (j : Int) < (E.length : Int) := by omega
        have hi3 : ¬ (E.length : Int) ≤ j := by omega
        generalize E[j] = y at *
        have hbb : (y != y) = false := by simp
        have hde : decide (E.length ≤ j) = false := by simp; omega
        clear hcj
        go_wp2_with fail
        go_quiet (fail)
        go_wp2_with fail
        go_roundw
        all_goals first | exact ⟨j + 1, by simp, by omega, Hid.mk (bel_drewN hI.out _)⟩ | (simp only [intOf]; omega)
      · have z2 := (hI.out.cell (p := ⟨g, j, none⟩) hgl).trans (hc2.out j (by omega) hlt)
        have hi2 : ¬ (j : Int) < (E.length : Int) := by omega
        have hi3 : (E.length : Int) ≤ j := by omega
        go_wp2_with fail
        go_quiet (fail)
        go_wp2_with fail
        go_roundw
        all_goals first | exact ⟨j + 1, by simp, by omega, Hid.mk (bel_drewN hI.out _)⟩ | (simp only [intOf]; omega)
    · have hi1 : ¬ (j : Int) < (E.length : Int) + 8 := by omega
      go_wp2_with fail
      go_ret
      exact ⟨rfl, hI.out⟩
end F
end Go.Proofs.Ytjmknpkmbghgdaa
