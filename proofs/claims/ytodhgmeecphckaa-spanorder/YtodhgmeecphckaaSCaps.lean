/-
  Stage 2, span: what the program's own calls on ends do, each by a contract.
-/
import Derived.Test.YtodhgmeecphckaaChecked
import Derived.Test.YtodhgmeecphckaaSGrow
import Derived.Test.YtodhgmeecphckaaSMath
import Derived.WalkSpells
import Derived.WalkLawsBesides
namespace Go.Proofs.Ytodhgmeecphckaa
open Go.RowKit

set_option maxHeartbeats 400000 in
theorem empty_any (a b : Int) (w : World) :
    Calls Try.prog 29 #[.agg #[.int .u64 a, .int .u64 b]] w fun x w' => x = .returned (.bool (decide (b < a))) ∧ w.alloc (.cells #[.int .u64 a, .int .u64 b] 51) = w' := by
  go_enter Try.func29, Try.ntmps29
  go_wp2
  go_ret
  exact ⟨rfl, rfl⟩

set_option maxHeartbeats 400000 in
theorem single_any (a b : Int) (w : World) :
    Calls Try.prog 31 #[.agg #[.int .u64 a, .int .u64 b]] w fun x w' => x = .returned (.bool (a == b)) ∧ w.alloc (.cells #[.int .u64 a, .int .u64 b] 51) = w' := by
  go_enter Try.func31, Try.ntmps31
  go_wp2
  go_ret
  exact ⟨rfl, rfl⟩

set_option maxHeartbeats 400000 in
theorem has_any (a b n : Int) (w : World) :
    Calls Try.prog 32 #[.agg #[.int .u64 a, .int .u64 b], .int .u64 n] w fun x w' => x = .returned (.bool (hasN a b n)) ∧ w.alloc (.cells #[.int .u64 a, .int .u64 b] 51) = w' := by
  go_enter Try.func32, Try.ntmps32
  go_wp2
  all_goals
    go_ret
    refine ⟨ret_bool (by unfold hasN; simp_all <;> omega), rfl⟩

set_option maxHeartbeats 400000 in
theorem within_any (a b c d : Int) (w : World) :
    Calls Try.prog 26 #[.agg #[.int .u64 a, .int .u64 b], .agg #[.int .u64 c, .int .u64 d]] w fun x w' => x = .returned (.bool (inB a b c d)) ∧ Gr w w' := by
  go_enter Try.func26, Try.ntmps26
  go_wp2_with (go_at_call 29; refine (empty_any _ _ _).mono ?_; rintro x w' ⟨rfl, rfl⟩)
  all_goals
    go_ret
    refine ⟨ret_bool (by unfold inB; simp_all <;> omega), ?_⟩
    repeat (first | exact Gr.refl _ | refine Gr.alloc ?_ _ | refine Gr.grow ?_ _ | refine Gr.drew ?_)

set_option maxHeartbeats 400000 in
theorem join_any (a b c d : Int) (w : World) :
    Calls Try.prog 33 #[.agg #[.int .u64 a, .int .u64 b], .agg #[.int .u64 c, .int .u64 d]] w fun x w' => x = .returned (.agg #[.int .u64 (joinLo a b c d), .int .u64 (joinHi a b c d)]) ∧ Gr w w' := by
  go_enter Try.func33, Try.ntmps33
  go_wp2_with (go_at_call 29; refine (empty_any _ _ _).mono ?_; rintro x w' ⟨rfl, rfl⟩)
  all_goals
    simp [bodyPost, results, Try.results33, go_sem]
    refine ⟨by unfold joinLo joinHi; constructor <;> (repeat' split) <;> omega, ?_⟩
    repeat (first | exact Gr.refl _ | refine Gr.alloc ?_ _ | refine Gr.grow ?_ _ | refine Gr.drew ?_)

set_option maxHeartbeats 400000 in
theorem meet_any (a b c d : Int) (w : World) :
    Calls Try.prog 34 #[.agg #[.int .u64 a, .int .u64 b], .agg #[.int .u64 c, .int .u64 d]] w fun x w' => x = .returned (.agg #[.int .u64 (maxI a c), .int .u64 (minI b d)]) ∧ ((w.alloc (.cells #[.int .u64 a, .int .u64 b] 51)).alloc (.cells #[.int .u64 c, .int .u64 d] 51)).alloc (.cells #[.int .u64 (maxI a c), .int .u64 (minI b d)] 51) = w' := by
  by_cases h1 : a < c
  · by_cases h2 : d < b
    · rw [show maxI a c = c by unfold maxI; split <;> omega, show minI b d = d by unfold minI; split <;> omega]
      go_enter Try.func34, Try.ntmps34
      go_wp2
      simp [bodyPost, results, Try.results34, go_sem]
      rw [show max a c = c by omega, show min b d = d by omega]
      exact ⟨⟨rfl, rfl⟩, rfl⟩
    · rw [show maxI a c = c by unfold maxI; split <;> omega, show minI b d = b by unfold minI; split <;> omega]
      go_enter Try.func34, Try.ntmps34
      go_wp2
      simp [bodyPost, results, Try.results34, go_sem]
      rw [show max a c = c by omega, show min b d = b by omega]
      exact ⟨⟨rfl, rfl⟩, rfl⟩
  · by_cases h2 : d < b
    · rw [show maxI a c = a by unfold maxI; split <;> omega, show minI b d = d by unfold minI; split <;> omega]
      go_enter Try.func34, Try.ntmps34
      go_wp2
      simp [bodyPost, results, Try.results34, go_sem]
      rw [show max a c = a by omega, show min b d = d by omega]
      exact ⟨⟨rfl, rfl⟩, rfl⟩
    · rw [show maxI a c = a by unfold maxI; split <;> omega, show minI b d = b by unfold minI; split <;> omega]
      go_enter Try.func34, Try.ntmps34
      go_wp2
      simp [bodyPost, results, Try.results34, go_sem]
      rw [show max a c = a by omega, show min b d = b by omega]
      exact ⟨⟨rfl, rfl⟩, rfl⟩

set_option maxHeartbeats 2000000 in
theorem widen_any (a b c d : Int) (w : World) :
    Calls Try.prog 25 #[.agg #[.int .u64 a, .int .u64 b], .agg #[.int .u64 c, .int .u64 d], .int .u64 0, .int .u64 18446744073709551615] w fun x w' => x = .returned (.agg #[.int .u64 (widLo a b c d), .int .u64 (widHi a b c d)]) ∧ Gr w w' := by
  have L1 := grow_cell
  have L2 := grow_frozen
  have L3 := grow_set
  have L4 := grow_lt
  have L5 := glt1
  have L6 := glt2
  have L7 := glt3
  have L8 := glt4
  have L9 := glt5
  have L10 := glt6
  have L11 := lt1
  have L12 := lt2
  have L13 := lt3
  have L14 := lt4
  have L15 := lt5
  have L16 := lt6
  have L17 := lt7
  have L18 := lt8
  have hw : ∀ p q : Int, (p != q) = !(p == q) := fun p q => rfl
  go_enter Try.func25, Try.ntmps25
  go_wp2_with (first | (go_at_call 29; refine (empty_any _ _ _).mono ?_; rintro x w' ⟨rfl, rfl⟩) | (go_at_call 33; refine (join_any _ _ _ _ _).mono ?_; rintro x w' ⟨rfl, l, rfl⟩))
  all_goals
    simp [bodyPost, results, Try.results25, go_sem, *]
    refine ⟨by unfold widLo widHi; constructor <;> (repeat' split) <;> simp_all <;> omega, ?_⟩
    repeat (first | exact Gr.refl _ | refine Gr.alloc ?_ _ | refine Gr.grow ?_ _ | refine Gr.drew ?_)

set_option maxHeartbeats 400000 in
theorem none_any  (w : World) :
    Calls Try.prog 30 #[] w fun x w' => x = .returned (.agg #[.int .u64 1, .int .u64 0]) ∧ w.alloc (.cells #[.int .u64 1, .int .u64 0] 51) = w' := by
  go_enter Try.func30, Try.ntmps30
  go_wp2
  simp [bodyPost, results, Try.results30, go_sem]

set_option maxHeartbeats 400000 in
theorem full_any  (w : World) :
    Calls Try.prog 35 #[] w fun x w' => x = .returned (.agg #[.int .u64 0, .int .u64 18446744073709551615]) ∧ w.alloc (.cells #[.int .u64 0, .int .u64 18446744073709551615] 51) = w' := by
  go_enter Try.func35, Try.ntmps35
  go_wp2
  simp [bodyPost, results, Try.results35, go_sem]

set_option maxHeartbeats 400000 in
theorem Full_any  (w : World) :
    Calls Try.prog 23 #[] w fun x w' => x = .returned (.agg #[.int .u64 0, .int .u64 18446744073709551615]) ∧ (w.alloc (.cells #[.int .u64 0, .int .u64 18446744073709551615] 26)).alloc (.cells #[.int .u64 0, .int .u64 18446744073709551615] 51) = w' := by
  go_enter Try.func23, Try.ntmps23
  go_wp2_with (go_at_call 35; refine (full_any _).mono ?_; rintro x w' ⟨rfl, rfl⟩)
  simp [bodyPost, results, Try.results23, go_sem]

set_option maxHeartbeats 400000 in
theorem Of_any (n : Int) (w : World) :
    Calls Try.prog 16 #[.int .u64 n] w fun x w' => x = .returned (.agg #[.int .u64 n, .int .u64 n]) ∧ w.alloc (.cells #[.int .u64 n, .int .u64 n] 26) = w' := by
  go_enter Try.func16, Try.ntmps16
  go_wp2
  simp [bodyPost, results, Try.results16, go_sem]

set_option maxHeartbeats 400000 in
theorem told_any (a b : Int) (w : World) :
    Calls Try.prog 24 #[.agg #[.int .u64 a, .int .u64 b]] w fun x w' => x = .returned (.agg #[.int .u64 (tLo a b), .int .u64 (tHi a b)]) ∧ Gr w w' := by
  have L1 := grow_cell
  have L2 := grow_frozen
  have L3 := grow_set
  have L4 := grow_lt
  have L5 := glt1
  have L6 := glt2
  have L7 := glt3
  have L8 := glt4
  have L9 := glt5
  have L10 := glt6
  have L11 := lt1
  have L12 := lt2
  have L13 := lt3
  have L14 := lt4
  have L15 := lt5
  have L16 := lt6
  have L17 := lt7
  have L18 := lt8
  go_enter Try.func24, Try.ntmps24
  go_wp2_with (first | (go_at_call 29; refine (empty_any _ _ _).mono ?_; rintro x w' ⟨rfl, rfl⟩) | (go_at_call 30; refine (none_any _).mono ?_; rintro x w' ⟨rfl, rfl⟩))
  all_goals
    simp [bodyPost, results, Try.results24, go_sem, *]
    refine ⟨by unfold tLo tHi; constructor <;> (repeat' split) <;> omega, ?_⟩
    repeat (first | exact Gr.refl _ | refine Gr.alloc ?_ _ | refine Gr.grow ?_ _ | refine Gr.drew ?_)

end Go.Proofs.Ytodhgmeecphckaa
