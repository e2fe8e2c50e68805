/-
  Stage 2, span: what the program's own calls on ends do, each by a contract.
-/
import Derived.Test.YtbbpbfbifgfjdaaChecked
import Derived.Test.YtbbpbfbifgfjdaaSGrow
import Derived.Test.YtbbpbfbifgfjdaaSMath
import Derived.WalkSpells
import Derived.WalkLawsBesides
namespace Go.Proofs.Ytbbpbfbifgfjdaa
open Go.RowKit

set_option maxHeartbeats 400000 in
theorem empty_any (a b : Int) (w : World) :
    Calls Try.prog 60 #[.agg #[.int .u64 a, .int .u64 b]] w fun x w' => x = .returned (.bool (decide (b < a))) ∧ w.alloc (.cells #[.int .u64 a, .int .u64 b] 74) = w' := by
  go_enter Try.func60, Try.ntmps60
  go_wp2
  go_ret
  exact ⟨rfl, rfl⟩

set_option maxHeartbeats 400000 in
theorem has_any (a b n : Int) (w : World) :
    Calls Try.prog 49 #[.agg #[.int .u64 a, .int .u64 b], .int .u64 n] w fun x w' => x = .returned (.bool (hasN a b n)) ∧ w.alloc (.cells #[.int .u64 a, .int .u64 b] 74) = w' := by
  go_enter Try.func49, Try.ntmps49
  go_wp2
  all_goals
    go_ret
    refine ⟨ret_bool (by unfold hasN; simp_all <;> omega), rfl⟩

set_option maxHeartbeats 400000 in
theorem within_any (a b c d : Int) (w : World) :
    Calls Try.prog 46 #[.agg #[.int .u64 a, .int .u64 b], .agg #[.int .u64 c, .int .u64 d]] w fun x w' => x = .returned (.bool (inB a b c d)) ∧ Gr w w' := by
  go_enter Try.func46, Try.ntmps46
  go_wp2_with (go_at_call 60; refine (empty_any _ _ _).mono ?_; rintro x w' ⟨rfl, rfl⟩)
  all_goals
    go_ret
    refine ⟨ret_bool (by unfold inB; simp_all <;> omega), ?_⟩
    repeat (first | exact Gr.refl _ | refine Gr.alloc ?_ _ | refine Gr.grow ?_ _ | refine Gr.drew ?_)

set_option maxHeartbeats 400000 in
theorem join_any (a b c d : Int) (w : World) :
    Calls Try.prog 48 #[.agg #[.int .u64 a, .int .u64 b], .agg #[.int .u64 c, .int .u64 d]] w fun x w' => x = .returned (.agg #[.int .u64 (joinLo a b c d), .int .u64 (joinHi a b c d)]) ∧ Gr w w' := by
  go_enter Try.func48, Try.ntmps48
  go_wp2_with (go_at_call 60; refine (empty_any _ _ _).mono ?_; rintro x w' ⟨rfl, rfl⟩)
  all_goals
    simp [bodyPost, results, Try.results48, go_sem]
    refine ⟨by unfold joinLo joinHi; constructor <;> (repeat' split) <;> omega, ?_⟩
    repeat (first | exact Gr.refl _ | refine Gr.alloc ?_ _ | refine Gr.grow ?_ _ | refine Gr.drew ?_)

set_option maxHeartbeats 2000000 in
theorem widen_any (a b c d : Int) (w : World) :
    Calls Try.prog 63 #[.agg #[.int .u64 a, .int .u64 b], .agg #[.int .u64 c, .int .u64 d], .int .u64 0, .int .u64 18446744073709551615] w fun x w' => x = .returned (.agg #[.int .u64 (widLo a b c d), .int .u64 (widHi a b c d)]) ∧ Gr w w' := by
  have L1 := grow_cell
  have L2 := grow_frozen
  have L3 := grow_set
  have L4 := grow_lt
  have L5 := glt1
  have L6 := glt2
  have L7 := glt3
  have L8 := glt4
  have L9 := glt5
  have L10 := glt6
  have L11 := lt1
  have L12 := lt2
  have L13 := lt3
  have L14 := lt4
  have L15 := lt5
  have L16 := lt6
  have L17 := lt7
  have L18 := lt8
  have hw : ∀ p q : Int, (p != q) = !(p == q) := fun p q => rfl
  go_enter Try.func63, Try.ntmps63
  go_wp2_with (first | (go_at_call 60; refine (empty_any _ _ _).mono ?_; rintro x w' ⟨rfl, rfl⟩) | (go_at_call 48; refine (join_any _ _ _ _ _).mono ?_; rintro x w' ⟨rfl, l, rfl⟩))
  all_goals
    simp [bodyPost, results, Try.results63, go_sem, *]
    refine ⟨by unfold widLo widHi; constructor <;> (repeat' split) <;> simp_all <;> omega, ?_⟩
    repeat (first | exact Gr.refl _ | refine Gr.alloc ?_ _ | refine Gr.grow ?_ _ | refine Gr.drew ?_)

set_option maxHeartbeats 400000 in
theorem none_any  (w : World) :
    Calls Try.prog 61 #[] w fun x w' => x = .returned (.agg #[.int .u64 1, .int .u64 0]) ∧ w.alloc (.cells #[.int .u64 1, .int .u64 0] 74) = w' := by
  go_enter Try.func61, Try.ntmps61
  go_wp2
  simp [bodyPost, results, Try.results61, go_sem]

set_option maxHeartbeats 400000 in
theorem full_any  (w : World) :
    Calls Try.prog 43 #[] w fun x w' => x = .returned (.agg #[.int .u64 0, .int .u64 18446744073709551615]) ∧ w.alloc (.cells #[.int .u64 0, .int .u64 18446744073709551615] 74) = w' := by
  go_enter Try.func43, Try.ntmps43
  go_wp2
  simp [bodyPost, results, Try.results43, go_sem]

set_option maxHeartbeats 400000 in
theorem Full_any  (w : World) :
    Calls Try.prog 23 #[] w fun x w' => x = .returned (.agg #[.int .u64 0, .int .u64 18446744073709551615]) ∧ (w.alloc (.cells #[.int .u64 0, .int .u64 18446744073709551615] 25)).alloc (.cells #[.int .u64 0, .int .u64 18446744073709551615] 74) = w' := by
  go_enter Try.func23, Try.ntmps23
  go_wp2_with (go_at_call 43; refine (full_any _).mono ?_; rintro x w' ⟨rfl, rfl⟩)
  simp [bodyPost, results, Try.results23, go_sem]

set_option maxHeartbeats 400000 in
theorem Of_any (n : Int) (w : World) :
    Calls Try.prog 25 #[.int .u64 n] w fun x w' => x = .returned (.agg #[.int .u64 n, .int .u64 n]) ∧ w.alloc (.cells #[.int .u64 n, .int .u64 n] 25) = w' := by
  go_enter Try.func25, Try.ntmps25
  go_wp2
  simp [bodyPost, results, Try.results25, go_sem]

set_option maxHeartbeats 400000 in
theorem told_any (a b : Int) (w : World) :
    Calls Try.prog 47 #[.agg #[.int .u64 a, .int .u64 b]] w fun x w' => x = .returned (.agg #[.int .u64 (tLo a b), .int .u64 (tHi a b)]) ∧ Gr w w' := by
  have L1 := grow_cell
  have L2 := grow_frozen
  have L3 := grow_set
  have L4 := grow_lt
  have L5 := glt1
  have L6 := glt2
  have L7 := glt3
  have L8 := glt4
  have L9 := glt5
  have L10 := glt6
  have L11 := lt1
  have L12 := lt2
  have L13 := lt3
  have L14 := lt4
  have L15 := lt5
  have L16 := lt6
  have L17 := lt7
  have L18 := lt8
  go_enter Try.func47, Try.ntmps47
  go_wp2_with (first | (go_at_call 60; refine (empty_any _ _ _).mono ?_; rintro x w' ⟨rfl, rfl⟩) | (go_at_call 61; refine (none_any _).mono ?_; rintro x w' ⟨rfl, rfl⟩))
  all_goals
    simp [bodyPost, results, Try.results47, go_sem, *]
    refine ⟨by unfold tLo tHi; constructor <;> (repeat' split) <;> omega, ?_⟩
    repeat (first | exact Gr.refl _ | refine Gr.alloc ?_ _ | refine Gr.grow ?_ _ | refine Gr.drew ?_)

end Go.Proofs.Ytbbpbfbifgfjdaa
