/-
  Stage 2, span: Has, Join, Meet, Widen, Under.
-/
import Derived.Test.YtihminokipepcabSCaps
import Derived.Deep.RegionWith
namespace Go.Proofs.Ytihminokipepcab
open Go.RowKit

set_option maxHeartbeats 400000 in
theorem Under_any (a b c d : Int) (w : World) :
    Calls Try.prog 22 #[.agg #[.int .u64 a, .int .u64 b], .agg #[.int .u64 c, .int .u64 d]] w fun x w' => x = .returned (.bool (inB a b c d)) ∧ Gr w w' := by
  have L1 := grow_cell
  have L2 := grow_frozen
  have L3 := grow_set
  have L4 := grow_lt
  have L5 := glt1
  have L6 := glt2
  have L7 := glt3
  have L8 := glt4
  have L9 := glt5
  have L10 := glt6
  have L11 := lt1
  have L12 := lt2
  have L13 := lt3
  have L14 := lt4
  have L15 := lt5
  have L16 := lt6
  have L17 := lt7
  have L18 := lt8
  go_enter Try.func22, Try.ntmps22
  go_wp2_with (go_at_call 40; refine (within_any _ _ _ _ _).mono ?_; rintro x w' ⟨rfl, l, rfl⟩)
  go_ret
  refine ⟨rfl, ?_⟩
  repeat (first | exact Gr.refl _ | refine Gr.alloc ?_ _ | refine Gr.grow ?_ _ | refine Gr.drew ?_)

set_option maxHeartbeats 400000 in
theorem Join_any (a b c d : Int) (w : World) :
    Calls Try.prog 35 #[.agg #[.int .u64 a, .int .u64 b], .agg #[.int .u64 c, .int .u64 d]] w fun x w' => x = .returned (.agg #[.int .u64 (jLo a b c d), .int .u64 (jHi a b c d)]) ∧ Gr w w' := by
  have L1 := grow_cell
  have L2 := grow_frozen
  have L3 := grow_set
  have L4 := grow_lt
  have L5 := glt1
  have L6 := glt2
  have L7 := glt3
  have L8 := glt4
  have L9 := glt5
  have L10 := glt6
  have L11 := lt1
  have L12 := lt2
  have L13 := lt3
  have L14 := lt4
  have L15 := lt5
  have L16 := lt6
  have L17 := lt7
  have L18 := lt8
  go_enter Try.func35, Try.ntmps35
  go_wp2_with (first | (go_at_call 45; refine (join_any _ _ _ _ _).mono ?_; rintro x w' ⟨rfl, l, rfl⟩) | (go_at_call 44; refine (told_any _ _ _).mono ?_; rintro x w' ⟨rfl, l, rfl⟩))
  simp [bodyPost, results, Try.results35, go_sem, *]
  refine ⟨⟨rfl, rfl⟩, ?_⟩
  repeat (first | exact Gr.refl _ | refine Gr.alloc ?_ _ | refine Gr.grow ?_ _ | refine Gr.drew ?_)

set_option maxHeartbeats 400000 in
theorem Widen_any (a b c d : Int) (w : World) :
    Calls Try.prog 37 #[.agg #[.int .u64 a, .int .u64 b], .agg #[.int .u64 c, .int .u64 d]] w fun x w' => x = .returned (.agg #[.int .u64 (wLo a b c d), .int .u64 (wHi a b c d)]) ∧ Gr w w' := by
  have L1 := grow_cell
  have L2 := grow_frozen
  have L3 := grow_set
  have L4 := grow_lt
  have L5 := glt1
  have L6 := glt2
  have L7 := glt3
  have L8 := glt4
  have L9 := glt5
  have L10 := glt6
  have L11 := lt1
  have L12 := lt2
  have L13 := lt3
  have L14 := lt4
  have L15 := lt5
  have L16 := lt6
  have L17 := lt7
  have L18 := lt8
  go_enter Try.func37, Try.ntmps37
  go_wp2_with (first | (go_at_call 49; refine (widen_any _ _ _ _ _).mono ?_; rintro x w' ⟨rfl, l, rfl⟩) | (go_at_call 44; refine (told_any _ _ _).mono ?_; rintro x w' ⟨rfl, l, rfl⟩))
  simp [bodyPost, results, Try.results37, go_sem, *]
  refine ⟨⟨rfl, rfl⟩, ?_⟩
  repeat (first | exact Gr.refl _ | refine Gr.alloc ?_ _ | refine Gr.grow ?_ _ | refine Gr.drew ?_)

end Go.Proofs.Ytihminokipepcab
