/-
  Stage 2, span: what the moves do to two spans.
-/
import Derived.Test.YtodhgmeecphckaaSCaps
import Derived.Laws.Shifts
namespace Go.Proofs.Ytodhgmeecphckaa
open Go.RowKit

set_option maxHeartbeats 400000 in
theorem places_any (c d : Int) (w : World) (hc : 0 ≤ c) (hd : 0 ≤ d) :
    Calls Try.prog 65 #[.agg #[.int .u64 c, .int .u64 d]] w fun x w' => x = .returned (.agg #[.int .u64 (plc c d c), .int .u64 (plc c d d)]) ∧ ((w.alloc (.cells #[.int .u64 c, .int .u64 d] 51)).alloc (.cells #[.int .u64 (plc c d c), .int .u64 (plc c d d)] 51)).alloc (.cells #[.int .u64 c, .int .u64 d] 51) = w' := by
  by_cases e : c = d
  · subst e
    have hm : c.tmod 64 = c % 64 := Int.tmod_eq_emod_of_nonneg hc
    rw [show plc c c c = c % 64 by simp [plc]]
    go_enter Try.func65, Try.ntmps65
    go_wp2_with (go_at_call 31; refine (single_any _ _ _).mono ?_; rintro x w' ⟨rfl, rfl⟩)
    simp [bodyPost, results, Try.results65, go_sem]
  · have e' : (c == d) = false := by simp [e]
    rw [show plc c d c = c by simp [plc, e], show plc c d d = d by simp [plc, e]]
    clear e
    go_enter Try.func65, Try.ntmps65
    go_wp2_with (go_at_call 31; refine (single_any _ _ _).mono ?_; rintro x w' ⟨rfl, rfl⟩)
    simp [bodyPost, results, Try.results65, go_sem]

theorem plc_nonneg (c d x : Int) (h : 0 ≤ x) : 0 ≤ plc c d x := by unfold plc; split <;> omega
theorem plc_le (c d : Int) (h : c ≤ d) : plc c d c ≤ plc c d d := by unfold plc; split <;> omega
set_option maxHeartbeats 1000000 in
theorem movesDown_any (a b c d : Int) (w : World) (hc : 0 ≤ c) (hd : 0 ≤ d) (hcd : c ≤ d) :
    Calls Try.prog 51 #[.agg #[.int .u64 a, .int .u64 b], .agg #[.int .u64 c, .int .u64 d]] w fun x w' => x = .returned (.agg #[.int .u64 (dnLo a c d), .int .u64 (dnHi b c d)]) ∧ Gr w w' := by
  unfold dnLo dnHi
  have hp := fun w => places_any c d w hc hd
  have p1 := plc_nonneg c d c hc
  have p2 := plc_nonneg c d d hd
  have p3 := plc_le c d hcd
  generalize plc c d c = k1 at hp p1 p3 ⊢
  generalize plc c d d = k2 at hp p2 p3 ⊢
  by_cases h : 64 ≤ k2
  · rw [if_pos h, if_pos h]
    go_enter Try.func51, Try.ntmps51
    go_wp2_with (go_at_call 65; refine (hp _).mono ?_; rintro x w' ⟨rfl, rfl⟩)
    simp [bodyPost, results, Try.results51, go_sem]
    repeat (first | exact Gr.refl _ | refine Gr.alloc ?_ _ | refine Gr.grow ?_ _ | refine Gr.drew ?_)
  · rw [if_neg h, if_neg h]
    have h1 : k2 < 64 := by omega
    have h2 : k2 ≤ 64 := by omega
    have h3 : k1 ≤ 64 := by omega
    go_enter Try.func51, Try.ntmps51
    go_wp2_with (go_at_call 65; refine (hp _).mono ?_; rintro x w' ⟨rfl, rfl⟩)
    simp [bodyPost, results, Try.results51, go_sem]
    repeat (first | exact Gr.refl _ | refine Gr.alloc ?_ _ | refine Gr.grow ?_ _ | refine Gr.drew ?_)

set_option maxHeartbeats 1000000 in
theorem movesUp_any (a b c d : Int) (w : World) (hc : 0 ≤ c) (hd : 0 ≤ d) (hcd : c ≤ d) :
    Calls Try.prog 49 #[.agg #[.int .u64 a, .int .u64 b], .agg #[.int .u64 c, .int .u64 d]] w fun x w' => x = .returned (.agg #[.int .u64 (upLo a b c d), .int .u64 (upHi b c d)]) ∧ Gr w w' := by
  have L1 := grow_cell
  have L2 := grow_frozen
  have L3 := grow_set
  have L4 := grow_lt
  have L5 := glt1
  have L6 := glt2
  have L7 := glt3
  have L8 := glt4
  have L9 := glt5
  have L10 := glt6
  have L11 := lt1
  have L12 := lt2
  have L13 := lt3
  have L14 := lt4
  have L15 := lt5
  have L16 := lt6
  have L17 := lt7
  have L18 := lt8
  unfold upLo upHi
  have hp := fun w => places_any c d w hc hd
  have p1 := plc_nonneg c d c hc
  have p2 := plc_nonneg c d d hd
  have p3 := plc_le c d hcd
  generalize plc c d c = k1 at hp p1 p3 ⊢
  generalize plc c d d = k2 at hp p2 p3 ⊢
  by_cases h : k2 < 64
  · have h2 : k2 ≤ 64 := by omega
    have h3 : k1 ≤ 64 := by omega
    by_cases e : b * 2 ^ k2.toNat % 18446744073709551616 / 2 ^ k2.toNat = b
    · have u : upOk b k2 = true := by unfold upOk; rw [decide_eq_true h, e]; simp
      rw [if_pos u, if_pos u, ← IntKind.wrap_u64, ← IntKind.wrap_u64]
      rw [← IntKind.wrap_u64] at e
      have e' : (IntKind.u64.wrap (b * 2 ^ k2.toNat) / 2 ^ k2.toNat != b) = false := by simp [e]
      clear e u
      go_enter Try.func49, Try.ntmps49
      go_wp2_with (first | (go_at_call 65; refine (hp _).mono ?_; rintro x w' ⟨rfl, rfl⟩) | (go_at_call 35; refine (full_any _).mono ?_; rintro x w' ⟨rfl, rfl⟩))
      simp [bodyPost, results, Try.results49, go_sem, *]
      repeat (first | exact Gr.refl _ | refine Gr.alloc ?_ _ | refine Gr.grow ?_ _ | refine Gr.drew ?_)
    · have u : ¬ upOk b k2 = true := by unfold upOk; simp [e]
      rw [if_neg u, if_neg u]
      rw [← IntKind.wrap_u64] at e
      have e' : (IntKind.u64.wrap (b * 2 ^ k2.toNat) / 2 ^ k2.toNat != b) = true := by simp [e]
      clear e u
      go_enter Try.func49, Try.ntmps49
      go_wp2_with (first | (go_at_call 65; refine (hp _).mono ?_; rintro x w' ⟨rfl, rfl⟩) | (go_at_call 35; refine (full_any _).mono ?_; rintro x w' ⟨rfl, rfl⟩))
      simp [bodyPost, results, Try.results49, go_sem, *]
      repeat (first | exact Gr.refl _ | refine Gr.alloc ?_ _ | refine Gr.grow ?_ _ | refine Gr.drew ?_)
  · have u : ¬ upOk b k2 = true := by unfold upOk; simp [h]
    have h1 : 64 ≤ k2 := by omega
    rw [if_neg u, if_neg u]
    clear u
    go_enter Try.func49, Try.ntmps49
    go_wp2_with (first | (go_at_call 65; refine (hp _).mono ?_; rintro x w' ⟨rfl, rfl⟩) | (go_at_call 35; refine (full_any _).mono ?_; rintro x w' ⟨rfl, rfl⟩))
    simp [bodyPost, results, Try.results49, go_sem, *]
    repeat (first | exact Gr.refl _ | refine Gr.alloc ?_ _ | refine Gr.grow ?_ _ | refine Gr.drew ?_)

end Go.Proofs.Ytodhgmeecphckaa
