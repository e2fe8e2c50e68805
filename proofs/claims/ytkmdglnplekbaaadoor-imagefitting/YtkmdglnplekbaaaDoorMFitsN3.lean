/-
  Stage 4, image: Fits, where a field is another one.
-/
import Derived.Test.YtkmdglnplekbaaaDoorMLeaf
import Derived.Test.YtkmdglnplekbaaaDoorIRead
import Derived.Deep.RegionWith
namespace Go.Proofs.YtkmdglnplekbaaaDoor
open Go.RowKit

set_option maxHeartbeats 8000000 in
theorem Fits_n3 (n b e c p s lo hi ts : Int) (w : World) (h : ¬ s = ts) :
    Calls Tryd.prog 19 #[.agg #[.bool true, .int .u64 n, .int .u64 b, .int .u64 e, .int .u64 c, .int .u8 p, .int .i64 s], .agg #[.bool true, .int .u64 b, .int .u64 e, .int .u64 lo, .int .u64 hi, .int .u8 p, .int .i64 ts]] w fun x w' => x = .returned (.bool false) ∧ Gr w w' := by
  have hc := CapOf_any ⟨true, b, e, lo, hi, p, ts⟩ c
  have hp := pointsWithin_any ⟨true, b, e, lo, hi, p, ts⟩ c
  simp only at hc hp
  generalize inLH lo hi c = q at hp
  have g : (s == ts) = false := by simpa using h
  have L1 := grow_cell; have L2 := grow_frozen; have L3 := grow_set; have L4 := grow_lt; have L5 := glt1; have L6 := glt2; have L7 := glt3; have L8 := glt4; have L9 := glt5; have L10 := glt6; have L11 := lt1; have L12 := lt2; have L13 := lt3; have L14 := lt4; have L15 := lt5; have L16 := lt6; have L17 := lt7; have L18 := lt8
  go_enter Tryd.func19, Tryd.ntmps19
  go_wp2_with fail
  first | (go_region_with (first | (go_at_call 18; refine (hc _).mono ?_; rintro x w' ⟨rfl, hG⟩; (repeat (replace hG := Gr.of_grow hG)); obtain ⟨l, rfl⟩ := hG) | (go_at_call 35; refine (hp _).mono ?_; rintro x w' ⟨rfl, hG⟩; (repeat (replace hG := Gr.of_grow hG)); obtain ⟨l, rfl⟩ := hG))) | fail
  all_goals
    clear L1 L2 L3 L4 L5 L6 L7 L8 L9 L10 L11 L12 L13 L14 L15 L16 L17 L18
    go_wp2_with fail
    go_ret
    refine ⟨rfl, ?_⟩
    (with_reducible repeat (first | exact Gr.refl _ | refine Gr.alloc ?_ _ | refine Gr.grow ?_ _ | refine Gr.drew ?_ | refine Gr.drewN ?_ _))
end Go.Proofs.YtkmdglnplekbaaaDoor
