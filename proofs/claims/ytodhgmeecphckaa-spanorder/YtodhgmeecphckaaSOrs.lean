/-
  Stage 2, span: what OR does to two spans.
-/
import Derived.Test.YtodhgmeecphckaaSAll
import Derived.Deep.RegionHeld3
import Derived.StillTactics
namespace Go.Proofs.Ytodhgmeecphckaa
open Go.RowKit

set_option maxHeartbeats 1000000 in
theorem ors_any (a b c d : Int) (w : World) (hb : W64 b) (hd : W64 d) :
    Calls Try.prog 45 #[.agg #[.int .u64 a, .int .u64 b], .agg #[.int .u64 c, .int .u64 d]] w fun x w' => x = .returned (.agg #[.int .u64 (maxI a c), .int .u64 (ones b d)]) ∧ Gr w w' := by
  obtain ⟨b0, b1⟩ := hb; obtain ⟨d0, d1⟩ := hd
  go_enter Try.func45, Try.ntmps45
  go_wp2
  go_region_held3 (fun w' => w'.cell? ⟨w.heap.size, 0, none⟩ = some (.int .u64 a) ∧ w'.cell? ⟨w.heap.size, 1, none⟩ = some (.int .u64 b) ∧ w'.cell? ⟨w.heap.size + 1, 0, none⟩ = some (.int .u64 c) ∧ w'.cell? ⟨w.heap.size + 1, 1, none⟩ = some (.int .u64 d)) (simp [go_sem, World.cell?_alloc_past]) (first | (go_at_call 64; refine (allOnes_any _ _ _ _ _ ⟨b0, b1⟩ ⟨d0, d1⟩).mono ?_; rintro x w' ⟨rfl, rfl⟩))
  all_goals
    go_wp2
    simp [bodyPost, results, Try.results45, go_sem]
    refine ⟨by unfold maxI; (repeat' split) <;> omega, ?_⟩
    repeat (first | exact Gr.refl _ | refine Gr.alloc ?_ _ | refine Gr.grow ?_ _ | refine Gr.drew ?_)

end Go.Proofs.Ytodhgmeecphckaa
