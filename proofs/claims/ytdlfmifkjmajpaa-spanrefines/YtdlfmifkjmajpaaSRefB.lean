/-
  Stage 2, span: the document's own Refine of BLT and BGE.
-/
import Derived.Test.YtdlfmifkjmajpaaSRefR
namespace Go.Proofs.Ytdlfmifkjmajpaa
open Go.RowKit

set_option maxHeartbeats 4000000 in
theorem refRefine_23n (a b c d : Int) (w : World) (h2 : a ≤ b) (h3 : c ≤ d) (h4 : d ≤ a) :
    Calls Try.prog 22 #[.int .u8 23, .agg #[.int .u64 a, .int .u64 b], .agg #[.int .u64 c, .int .u64 d]] w fun x w' => x = .returned (.tuple #[.agg #[.int .u64 1, .int .u64 0], .agg #[.int .u64 1, .int .u64 0], .bool false]) ∧ Gr w w' := by
  have d1 : decide (b < a) = false := by simp; omega
  have d2 : decide (d < c) = false := by simp; omega
  go_enter Try.func22, Try.ntmps22
  go_wp2_with (first | (go_at_call 32; refine (refEmpty_any _ _ _).mono ?_; rintro x w' ⟨rfl, rfl⟩) | (go_at_call 40; refine (refNone_any _).mono ?_; rintro x w' ⟨rfl, rfl⟩) | (go_at_call 41; refine (refOne_any _ _ _).mono ?_; rintro x w' ⟨rfl, rfl⟩))
  simp [bodyPost, results, Try.results22, go_sem]
  repeat (first | exact Gr.refl _ | refine Gr.alloc ?_ _ | refine Gr.grow ?_ _ | refine Gr.drew ?_)

set_option maxHeartbeats 4000000 in
theorem refRefine_23 (a b c d : Int) (w : World) (h2 : a ≤ b) (h3 : c ≤ d) (h4 : a < d) (ha : W64 a) (hd : W64 d) :
    Calls Try.prog 22 #[.int .u8 23, .agg #[.int .u64 a, .int .u64 b], .agg #[.int .u64 c, .int .u64 d]] w fun x w' => x = .returned (.tuple #[.agg #[.int .u64 a, .int .u64 (minI b (d - 1))], .agg #[.int .u64 (maxI c (a + 1)), .int .u64 d], .bool true]) ∧ Gr w w' := by
  have d1 : decide (b < a) = false := by simp; omega
  have d2 : decide (d < c) = false := by simp; omega
  obtain ⟨a0, a1⟩ := ha; obtain ⟨d0, d1'⟩ := hd
  have w1 : IntKind.u64.wrap (d - 1) = d - 1 := by rw [IntKind.wrap_u64]; omega
  have w2 : IntKind.u64.wrap (a + 1) = a + 1 := by rw [IntKind.wrap_u64]; omega
  go_enter Try.func22, Try.ntmps22
  go_wp2_with (first | (go_at_call 32; refine (refEmpty_any _ _ _).mono ?_; rintro x w' ⟨rfl, rfl⟩) | (go_at_call 40; refine (refNone_any _).mono ?_; rintro x w' ⟨rfl, rfl⟩) | (go_at_call 41; refine (refOne_any _ _ _).mono ?_; rintro x w' ⟨rfl, rfl⟩))
  go_region_held3 (fun w' => w'.cell? ⟨w.heap.size, 0, none⟩ = some (.int .u64 a) ∧ w'.cell? ⟨w.heap.size, 1, none⟩ = some (.int .u64 b) ∧ w'.cell? ⟨w.heap.size + 1, 0, none⟩ = some (.int .u64 c) ∧ w'.cell? ⟨w.heap.size + 1, 1, none⟩ = some (.int .u64 d)) (simp [go_sem, World.cell?_alloc_past]) (first | fail)
  all_goals
    go_wp2
    simp [bodyPost, results, Try.results22, go_sem]
    refine ⟨by unfold minI maxI; refine ⟨?_, ?_⟩ <;> (repeat' split) <;> omega, ?_⟩
    repeat (first | exact Gr.refl _ | refine Gr.alloc ?_ _ | refine Gr.grow ?_ _ | refine Gr.drew ?_)

set_option maxHeartbeats 4000000 in
theorem refRefine_24n (a b c d : Int) (w : World) (h2 : a ≤ b) (h3 : c ≤ d) (h4 : b < c) :
    Calls Try.prog 22 #[.int .u8 24, .agg #[.int .u64 a, .int .u64 b], .agg #[.int .u64 c, .int .u64 d]] w fun x w' => x = .returned (.tuple #[.agg #[.int .u64 1, .int .u64 0], .agg #[.int .u64 1, .int .u64 0], .bool false]) ∧ Gr w w' := by
  have d1 : decide (b < a) = false := by simp; omega
  have d2 : decide (d < c) = false := by simp; omega
  go_enter Try.func22, Try.ntmps22
  go_wp2_with (first | (go_at_call 32; refine (refEmpty_any _ _ _).mono ?_; rintro x w' ⟨rfl, rfl⟩) | (go_at_call 40; refine (refNone_any _).mono ?_; rintro x w' ⟨rfl, rfl⟩) | (go_at_call 41; refine (refOne_any _ _ _).mono ?_; rintro x w' ⟨rfl, rfl⟩))
  simp [bodyPost, results, Try.results22, go_sem]
  repeat (first | exact Gr.refl _ | refine Gr.alloc ?_ _ | refine Gr.grow ?_ _ | refine Gr.drew ?_)

set_option maxHeartbeats 4000000 in
theorem refRefine_24 (a b c d : Int) (w : World) (h2 : a ≤ b) (h3 : c ≤ d) (h4 : c ≤ b) :
    Calls Try.prog 22 #[.int .u8 24, .agg #[.int .u64 a, .int .u64 b], .agg #[.int .u64 c, .int .u64 d]] w fun x w' => x = .returned (.tuple #[.agg #[.int .u64 (maxI a c), .int .u64 b], .agg #[.int .u64 c, .int .u64 (minI d b)], .bool true]) ∧ Gr w w' := by
  have d1 : decide (b < a) = false := by simp; omega
  have d2 : decide (d < c) = false := by simp; omega
  go_enter Try.func22, Try.ntmps22
  go_wp2_with (first | (go_at_call 32; refine (refEmpty_any _ _ _).mono ?_; rintro x w' ⟨rfl, rfl⟩) | (go_at_call 40; refine (refNone_any _).mono ?_; rintro x w' ⟨rfl, rfl⟩) | (go_at_call 41; refine (refOne_any _ _ _).mono ?_; rintro x w' ⟨rfl, rfl⟩))
  go_region_held3 (fun w' => w'.cell? ⟨w.heap.size, 0, none⟩ = some (.int .u64 a) ∧ w'.cell? ⟨w.heap.size, 1, none⟩ = some (.int .u64 b) ∧ w'.cell? ⟨w.heap.size + 1, 0, none⟩ = some (.int .u64 c) ∧ w'.cell? ⟨w.heap.size + 1, 1, none⟩ = some (.int .u64 d)) (simp [go_sem, World.cell?_alloc_past]) (first | fail)
  all_goals
    go_wp2
    simp [bodyPost, results, Try.results22, go_sem]
    refine ⟨by unfold minI maxI; refine ⟨?_, ?_⟩ <;> (repeat' split) <;> omega, ?_⟩
    repeat (first | exact Gr.refl _ | refine Gr.alloc ?_ _ | refine Gr.grow ?_ _ | refine Gr.drew ?_)

end Go.Proofs.Ytdlfmifkjmajpaa
