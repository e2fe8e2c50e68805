/-
  Stage 4, image: hasInst, countsRight.
-/
import Derived.Test.YthmfaafpdogpdaaDoorMRep
import Derived.Test.YthmfaafpdogpdaaDoorMTypes
namespace Go.Proofs.YthmfaafpdogpdaaDoor
open Go.RowKit

set_option maxHeartbeats 1000000 in
theorem hasInst_any (m : PImg) (c e : Int) (ra ca ga : Option Addr) (rn rc cc gn gc : Nat) (w : World) (hc : CompIn w.heap.size w ca m.comps) :
    Calls Tryd.prog 36 #[.agg #[.slice ra rn rc, .slice ca m.comps.length cc, .slice ga gn gc, .int .i64 m.depth], .int .i64 c, .int .i64 e] w fun x w' => x = .returned (.bool (hasI m.comps c e)) ∧ Gr w w' := by
  unfold hasI
  by_cases h : 0 ≤ c ∧ c < m.comps.length ∧ 0 ≤ e
  · obtain ⟨h0, h1, h2⟩ := h
    rw [if_pos ⟨h0, h1, h2⟩]
    obtain ⟨j, rfl⟩ : ∃ j : Nat, c = j := ⟨c.toNat, by omega⟩
    have hlt : j < m.comps.length := by omega
    rw [Int.toNat_natCast, List.getElem?_eq_getElem hlt]
    obtain ⟨b, off, ra', rc', ka, kc, rfl, h3, h4, c0, c1, _, _⟩ := hc j hlt
    generalize m.comps[j] = k at *
    simp only []
    have L1 := fun o => World.cell?_alloc_past (w := w) o b (off + j * 2 + 1) h4
    go_enter Tryd.func36, Tryd.ntmps36
    go_wp2
    all_goals
      go_ret
      refine ⟨ret_bool (by simp_all), ?_⟩
      (with_reducible repeat (first | exact Gr.refl _ | refine Gr.alloc ?_ _ | refine Gr.grow ?_ _ | refine Gr.drew ?_ | refine Gr.setCell ?_ _ _ _ (gr_size ?_)))
  · rw [if_neg h]
    clear hc
    go_enter Tryd.func36, Tryd.ntmps36
    go_wp2
    all_goals
      go_ret
      exact ⟨rfl, (Gr.refl w).alloc _⟩
set_option maxHeartbeats 1000000 in
theorem countsRight_any (d : Int) (ra ca ga : Option Addr) (rn rc cn cc gn gc : Nat) (w : World) :
    Calls Tryd.prog 30 #[.agg #[.slice ra rn rc, .slice ca cn cc, .slice ga gn gc, .int .i64 d]] w fun x w' => x = .returned (.bool (countsB rn cn gn d)) ∧ Gr w w' := by
  go_enter Tryd.func30, Tryd.ntmps30
  go_wp2
  all_goals
    go_ret
    refine ⟨ret_bool (by unfold countsB; simp_all <;> omega), ?_⟩
    (with_reducible repeat (first | exact Gr.refl _ | refine Gr.alloc ?_ _ | refine Gr.grow ?_ _ | refine Gr.drew ?_ | refine Gr.setCell ?_ _ _ _ (gr_size ?_)))
end Go.Proofs.YthmfaafpdogpdaaDoor
