/-
  Stage 2, span: what BNE leaves of two spans.
-/
import Derived.Test.YtodhgmeecphckaaSLeft
import Derived.Deep.RegionHeld3
import Derived.StillTactics
namespace Go.Proofs.Ytodhgmeecphckaa
open Go.RowKit

set_option maxHeartbeats 2000000 in
theorem whereUnlike_any (a b c d : Int) (w : World) (ha : W64 a) (hb : W64 b) (hc : W64 c) (hd : W64 d) (hab : a ≤ b) (hcd : c ≤ d) :
    Calls Try.prog 58 #[.agg #[.int .u64 a, .int .u64 b], .agg #[.int .u64 c, .int .u64 d]] w fun x w' => x = .returned (.tuple #[.agg #[.int .u64 (woLo a b c d), .int .u64 (woHi a b c d)], .agg #[.int .u64 (woLo c d a b), .int .u64 (woHi c d a b)]]) ∧ Gr w w' := by
  by_cases hx : c = d ∧ a = c ∧ b = d
  · obtain ⟨rfl, rfl, rfl⟩ := hx
    rw [show woLo b b b b = 1 by simp [woLo], show woHi b b b b = 0 by simp [woHi]]
    have k1 := without_s b
    clear ha hb hc hd hab hcd
    go_enter Try.func58, Try.ntmps58
    go_wp2
    go_region_held3 (fun w' => w'.cell? ⟨w.heap.size, 0, none⟩ = some (.int .u64 b) ∧ w'.cell? ⟨w.heap.size, 1, none⟩ = some (.int .u64 b) ∧ w'.cell? ⟨w.heap.size + 1, 0, none⟩ = some (.int .u64 b) ∧ w'.cell? ⟨w.heap.size + 1, 1, none⟩ = some (.int .u64 b)) (simp [go_sem, World.cell?_alloc_past]) (first | (go_at_call 66; refine (k1 _).mono ?_; rintro x w' ⟨rfl, rfl⟩))
    all_goals
      go_wp2
      simp [bodyPost, results, Try.results58, go_sem]
      repeat (first | exact Gr.refl _ | refine Gr.alloc ?_ _ | refine Gr.grow ?_ _ | refine Gr.drew ?_)
  · have k1 : Hid (W64 a ∧ W64 b ∧ a ≤ b ∧ ¬ (c = d ∧ a = c ∧ b = d)) := ⟨ha, hb, hab, hx⟩
    have k2 : Hid (W64 c ∧ W64 d ∧ c ≤ d ∧ ¬ (a = b ∧ c = a ∧ d = b)) := ⟨hc, hd, hcd, fun ⟨p, q, r⟩ => hx ⟨by omega, by omega, by omega⟩⟩
    clear ha hb hc hd hab hcd hx
    go_enter Try.func58, Try.ntmps58
    go_wp2
    go_region_held3 (fun w' => w'.cell? ⟨w.heap.size, 0, none⟩ = some (.int .u64 a) ∧ w'.cell? ⟨w.heap.size, 1, none⟩ = some (.int .u64 b) ∧ w'.cell? ⟨w.heap.size + 1, 0, none⟩ = some (.int .u64 c) ∧ w'.cell? ⟨w.heap.size + 1, 1, none⟩ = some (.int .u64 d)) (simp [go_sem, World.cell?_alloc_past]) (first | (go_at_call 66; refine (without_y _ _ _ _ _ (by assumption)).mono ?_; rintro x w' ⟨rfl, rfl⟩))
    all_goals
      go_wp2
      simp [bodyPost, results, Try.results58, go_sem]
      repeat (first | exact Gr.refl _ | refine Gr.alloc ?_ _ | refine Gr.grow ?_ _ | refine Gr.drew ?_)

end Go.Proofs.Ytodhgmeecphckaa
