/-
  Stage 2, span: Has, Join, Meet, Widen, Under.
-/
import Derived.Test.YtbbpbfbifgfjdaaSCaps
import Derived.Deep.RegionWith
namespace Go.Proofs.Ytbbpbfbifgfjdaa
open Go.RowKit

set_option maxHeartbeats 400000 in
theorem Has_any (a b n : Int) (w : World) :
    Calls Try.prog 30 #[.agg #[.int .u64 a, .int .u64 b], .int .u64 n] w fun x w' => x = .returned (.bool (hasN a b n)) ∧ (w.alloc (.cells #[.int .u64 a, .int .u64 b] 25)).alloc (.cells #[.int .u64 a, .int .u64 b] 74) = w' := by
  go_enter Try.func30, Try.ntmps30
  go_wp2_with (go_at_call 49; refine (has_any _ _ _ _).mono ?_; rintro x w' ⟨rfl, rfl⟩)
  go_ret
  exact ⟨rfl, rfl⟩

set_option maxHeartbeats 400000 in
theorem Under_any (a b c d : Int) (w : World) :
    Calls Try.prog 27 #[.agg #[.int .u64 a, .int .u64 b], .agg #[.int .u64 c, .int .u64 d]] w fun x w' => x = .returned (.bool (inB a b c d)) ∧ Gr w w' := by
  have L1 := grow_cell
  have L2 := grow_frozen
  have L3 := grow_set
  have L4 := grow_lt
  have L5 := glt1
  have L6 := glt2
  have L7 := glt3
  have L8 := glt4
  have L9 := glt5
  have L10 := glt6
  have L11 := lt1
  have L12 := lt2
  have L13 := lt3
  have L14 := lt4
  have L15 := lt5
  have L16 := lt6
  have L17 := lt7
  have L18 := lt8
  go_enter Try.func27, Try.ntmps27
  go_wp2_with (go_at_call 46; refine (within_any _ _ _ _ _).mono ?_; rintro x w' ⟨rfl, l, rfl⟩)
  go_ret
  refine ⟨rfl, ?_⟩
  repeat (first | exact Gr.refl _ | refine Gr.alloc ?_ _ | refine Gr.grow ?_ _ | refine Gr.drew ?_)

set_option maxHeartbeats 400000 in
theorem Join_any (a b c d : Int) (w : World) :
    Calls Try.prog 29 #[.agg #[.int .u64 a, .int .u64 b], .agg #[.int .u64 c, .int .u64 d]] w fun x w' => x = .returned (.agg #[.int .u64 (jLo a b c d), .int .u64 (jHi a b c d)]) ∧ Gr w w' := by
  have L1 := grow_cell
  have L2 := grow_frozen
  have L3 := grow_set
  have L4 := grow_lt
  have L5 := glt1
  have L6 := glt2
  have L7 := glt3
  have L8 := glt4
  have L9 := glt5
  have L10 := glt6
  have L11 := lt1
  have L12 := lt2
  have L13 := lt3
  have L14 := lt4
  have L15 := lt5
  have L16 := lt6
  have L17 := lt7
  have L18 := lt8
  go_enter Try.func29, Try.ntmps29
  go_wp2_with (first | (go_at_call 48; refine (join_any _ _ _ _ _).mono ?_; rintro x w' ⟨rfl, l, rfl⟩) | (go_at_call 47; refine (told_any _ _ _).mono ?_; rintro x w' ⟨rfl, l, rfl⟩))
  simp [bodyPost, results, Try.results29, go_sem, *]
  refine ⟨⟨rfl, rfl⟩, ?_⟩
  repeat (first | exact Gr.refl _ | refine Gr.alloc ?_ _ | refine Gr.grow ?_ _ | refine Gr.drew ?_)

set_option maxHeartbeats 400000 in
theorem Widen_any (a b c d : Int) (w : World) :
    Calls Try.prog 52 #[.agg #[.int .u64 a, .int .u64 b], .agg #[.int .u64 c, .int .u64 d]] w fun x w' => x = .returned (.agg #[.int .u64 (wLo a b c d), .int .u64 (wHi a b c d)]) ∧ Gr w w' := by
  have L1 := grow_cell
  have L2 := grow_frozen
  have L3 := grow_set
  have L4 := grow_lt
  have L5 := glt1
  have L6 := glt2
  have L7 := glt3
  have L8 := glt4
  have L9 := glt5
  have L10 := glt6
  have L11 := lt1
  have L12 := lt2
  have L13 := lt3
  have L14 := lt4
  have L15 := lt5
  have L16 := lt6
  have L17 := lt7
  have L18 := lt8
  go_enter Try.func52, Try.ntmps52
  go_wp2_with (first | (go_at_call 63; refine (widen_any _ _ _ _ _).mono ?_; rintro x w' ⟨rfl, l, rfl⟩) | (go_at_call 47; refine (told_any _ _ _).mono ?_; rintro x w' ⟨rfl, l, rfl⟩))
  simp [bodyPost, results, Try.results52, go_sem, *]
  refine ⟨⟨rfl, rfl⟩, ?_⟩
  repeat (first | exact Gr.refl _ | refine Gr.alloc ?_ _ | refine Gr.grow ?_ _ | refine Gr.drew ?_)

end Go.Proofs.Ytbbpbfbifgfjdaa
