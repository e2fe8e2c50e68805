/-
  Stage 2, span: what BNE, BLT, BGE leave of two spans.
-/
import Derived.Test.YtodhgmeecphckaaSLeft
import Derived.Deep.RegionHeld3
import Derived.StillTactics
namespace Go.Proofs.Ytodhgmeecphckaa
open Go.RowKit

set_option maxHeartbeats 2000000 in
theorem whereBelow_any (a b c d : Int) (w : World) (ha : W64 a) (hd : W64 d) :
    Calls Try.prog 59 #[.agg #[.int .u64 a, .int .u64 b], .agg #[.int .u64 c, .int .u64 d]] w fun x w' => x = .returned (.tuple #[.agg #[.int .u64 (if d ≤ a then 1 else a), .int .u64 (if d ≤ a then 0 else minI b (d - 1))], .agg #[.int .u64 (if d ≤ a then 1 else maxI c (a + 1)), .int .u64 (if d ≤ a then 0 else d)]]) ∧ Gr w w' := by
  obtain ⟨a0, a1⟩ := ha; obtain ⟨d0, d1⟩ := hd
  by_cases e : d ≤ a
  · rw [if_pos e, if_pos e, if_pos e, if_pos e]
    go_enter Try.func59, Try.ntmps59
    go_wp2_with (go_at_call 30; refine (none_any _).mono ?_; rintro x w' ⟨rfl, rfl⟩)
    simp [bodyPost, results, Try.results59, go_sem]
    repeat (first | exact Gr.refl _ | refine Gr.alloc ?_ _ | refine Gr.grow ?_ _ | refine Gr.drew ?_)
  rw [if_neg e, if_neg e, if_neg e, if_neg e]
  have w1 : IntKind.u64.wrap (d - 1) = d - 1 := by rw [IntKind.wrap_u64]; omega
  have w2 : IntKind.u64.wrap (a + 1) = a + 1 := by rw [IntKind.wrap_u64]; omega
  go_enter Try.func59, Try.ntmps59
  go_wp2
  go_region_held3 (fun w' => w'.cell? ⟨w.heap.size, 0, none⟩ = some (.int .u64 a) ∧ w'.cell? ⟨w.heap.size, 1, none⟩ = some (.int .u64 b) ∧ w'.cell? ⟨w.heap.size + 1, 0, none⟩ = some (.int .u64 c) ∧ w'.cell? ⟨w.heap.size + 1, 1, none⟩ = some (.int .u64 d)) (simp [go_sem, World.cell?_alloc_past]) (first | fail)
  all_goals
    go_wp2
    simp [bodyPost, results, Try.results59, go_sem]
    refine ⟨by unfold minI maxI; refine ⟨?_, ?_⟩ <;> (repeat' split) <;> omega, ?_⟩
    repeat (first | exact Gr.refl _ | refine Gr.alloc ?_ _ | refine Gr.grow ?_ _ | refine Gr.drew ?_)

set_option maxHeartbeats 2000000 in
theorem whereNotBelow_any (a b c d : Int) (w : World) :
    Calls Try.prog 60 #[.agg #[.int .u64 a, .int .u64 b], .agg #[.int .u64 c, .int .u64 d]] w fun x w' => x = .returned (.tuple #[.agg #[.int .u64 (maxI a c), .int .u64 (b)], .agg #[.int .u64 (c), .int .u64 (minI d b)]]) ∧ Gr w w' := by
  go_enter Try.func60, Try.ntmps60
  go_wp2
  go_region_held3 (fun w' => w'.cell? ⟨w.heap.size, 0, none⟩ = some (.int .u64 a) ∧ w'.cell? ⟨w.heap.size, 1, none⟩ = some (.int .u64 b) ∧ w'.cell? ⟨w.heap.size + 1, 0, none⟩ = some (.int .u64 c) ∧ w'.cell? ⟨w.heap.size + 1, 1, none⟩ = some (.int .u64 d)) (simp [go_sem, World.cell?_alloc_past]) (first | fail)
  all_goals
    go_wp2
    simp [bodyPost, results, Try.results60, go_sem]
    refine ⟨by unfold minI maxI; refine ⟨?_, ?_⟩ <;> (repeat' split) <;> omega, ?_⟩
    repeat (first | exact Gr.refl _ | refine Gr.alloc ?_ _ | refine Gr.grow ?_ _ | refine Gr.drew ?_)

end Go.Proofs.Ytodhgmeecphckaa
