/-
  Stage 2, span: Refine, whatever the row's functions are.
-/
import Derived.Test.YtodhgmeecphckaaSCaps
import Derived.Test.YtodhgmeecphckaaSRow
import Derived.Laws.EntriesVeiled
import Derived.RegionTactic
import Derived.BigRegion
namespace Go.Proofs.Ytodhgmeecphckaa
open Go.RowKit

theorem fn_left (f : Nat) (w : World) : (binOp .neq 58 (.func (.func f) #[] #[]) .nilFunc).run Try.prog w = .ok (.bool true) w := by rfl
theorem nil_left (w : World) : (binOp .neq 58 .nilFunc .nilFunc).run Try.prog w = .ok (.bool false) w := by rfl

set_option maxHeartbeats 4000000 in
theorem Refine_e1n (op a b c d : Int) (w : World) (h0 : 0 ≤ op) (h1 : op < 256) (h2 : b < a) (q2 : rowV op 2 = .nilFunc) :
    Calls Try.prog 17 #[.int .u8 op, .agg #[.int .u64 a, .int .u64 b], .agg #[.int .u64 c, .int .u64 d]] w fun x w' => x = .returned (.tuple #[.agg #[.int .u64 1, .int .u64 0], .agg #[.int .u64 1, .int .u64 0], .bool false]) ∧ Gr w w' := by
  have s0 := fun a m w => run_store Try.prog w a (rowV op 0) m (row_one op 0)
  have s1 := fun a m w => run_store Try.prog w a (rowV op 1) m (row_one op 1)
  have hr := fun w => rowOf_any op w h0 h1
  rw [q2] at hr
  have hn := nil_left
  have t1 : tLo 1 0 = 1 := rfl
  have t2 : tHi 1 0 = 0 := rfl
  go_enter Try.func17, Try.ntmps17
  go_wp2
  go_region
  all_goals
    have L1 := grow_cell
    have L2 := grow_frozen
    have L3 := grow_set
    have L4 := grow_lt
    have L5 := glt1
    have L6 := glt2
    have L7 := glt3
    have L8 := glt4
    have L9 := glt5
    have L10 := glt6
    have L11 := lt1
    have L12 := lt2
    have L13 := lt3
    have L14 := lt4
    have L15 := lt5
    have L16 := lt6
    have L17 := lt7
    have L18 := lt8
    go_wp2_with (first | (go_at_call 28; refine (hr _).mono ?_; rintro x w' ⟨rfl, l, rfl⟩) | (go_at_call 29; refine (empty_any _ _ _).mono ?_; rintro x w' ⟨rfl, rfl⟩) | (go_at_call 30; refine (none_any _).mono ?_; rintro x w' ⟨rfl, rfl⟩) | (go_at_call 24; refine (told_any _ _ _).mono ?_; rintro x w' ⟨rfl, hG⟩; (repeat (first | replace hG := Gr.of_alloc hG | replace hG := Gr.of_grow hG)); obtain ⟨l, rfl⟩ := hG))
    simp [bodyPost, results, Try.results17, go_sem, *]
    repeat (first | exact Gr.refl _ | refine Gr.alloc ?_ _ | refine Gr.grow ?_ _ | refine Gr.drew ?_)

set_option maxHeartbeats 4000000 in
theorem Refine_e2n (op a b c d : Int) (w : World) (h0 : 0 ≤ op) (h1 : op < 256) (h2 : a ≤ b) (h3 : d < c) (q2 : rowV op 2 = .nilFunc) :
    Calls Try.prog 17 #[.int .u8 op, .agg #[.int .u64 a, .int .u64 b], .agg #[.int .u64 c, .int .u64 d]] w fun x w' => x = .returned (.tuple #[.agg #[.int .u64 1, .int .u64 0], .agg #[.int .u64 1, .int .u64 0], .bool false]) ∧ Gr w w' := by
  have s0 := fun a m w => run_store Try.prog w a (rowV op 0) m (row_one op 0)
  have s1 := fun a m w => run_store Try.prog w a (rowV op 1) m (row_one op 1)
  have hr := fun w => rowOf_any op w h0 h1
  rw [q2] at hr
  have hn := nil_left
  have t1 : tLo 1 0 = 1 := rfl
  have t2 : tHi 1 0 = 0 := rfl
  go_enter Try.func17, Try.ntmps17
  go_wp2
  go_region
  all_goals
    have L1 := grow_cell
    have L2 := grow_frozen
    have L3 := grow_set
    have L4 := grow_lt
    have L5 := glt1
    have L6 := glt2
    have L7 := glt3
    have L8 := glt4
    have L9 := glt5
    have L10 := glt6
    have L11 := lt1
    have L12 := lt2
    have L13 := lt3
    have L14 := lt4
    have L15 := lt5
    have L16 := lt6
    have L17 := lt7
    have L18 := lt8
    go_wp2_with (first | (go_at_call 28; refine (hr _).mono ?_; rintro x w' ⟨rfl, l, rfl⟩) | (go_at_call 29; refine (empty_any _ _ _).mono ?_; rintro x w' ⟨rfl, rfl⟩) | (go_at_call 30; refine (none_any _).mono ?_; rintro x w' ⟨rfl, rfl⟩) | (go_at_call 24; refine (told_any _ _ _).mono ?_; rintro x w' ⟨rfl, hG⟩; (repeat (first | replace hG := Gr.of_alloc hG | replace hG := Gr.of_grow hG)); obtain ⟨l, rfl⟩ := hG))
    simp [bodyPost, results, Try.results17, go_sem, *]
    repeat (first | exact Gr.refl _ | refine Gr.alloc ?_ _ | refine Gr.grow ?_ _ | refine Gr.drew ?_)

set_option maxHeartbeats 4000000 in
theorem Refine_e1f (op a b c d : Int) (w : World) (h0 : 0 ≤ op) (h1 : op < 256) (h2 : b < a) (g : Nat) (q2 : rowV op 2 = .func (.func g) #[] #[]) :
    Calls Try.prog 17 #[.int .u8 op, .agg #[.int .u64 a, .int .u64 b], .agg #[.int .u64 c, .int .u64 d]] w fun x w' => x = .returned (.tuple #[.agg #[.int .u64 1, .int .u64 0], .agg #[.int .u64 1, .int .u64 0], .bool false]) ∧ Gr w w' := by
  have s0 := fun a m w => run_store Try.prog w a (rowV op 0) m (row_one op 0)
  have s1 := fun a m w => run_store Try.prog w a (rowV op 1) m (row_one op 1)
  have hr := fun w => rowOf_any op w h0 h1
  rw [q2] at hr
  have hn := fn_left g
  have t1 : tLo 1 0 = 1 := rfl
  have t2 : tHi 1 0 = 0 := rfl
  go_enter Try.func17, Try.ntmps17
  go_wp2
  go_region
  all_goals
    have L1 := grow_cell
    have L2 := grow_frozen
    have L3 := grow_set
    have L4 := grow_lt
    have L5 := glt1
    have L6 := glt2
    have L7 := glt3
    have L8 := glt4
    have L9 := glt5
    have L10 := glt6
    have L11 := lt1
    have L12 := lt2
    have L13 := lt3
    have L14 := lt4
    have L15 := lt5
    have L16 := lt6
    have L17 := lt7
    have L18 := lt8
    go_wp2_with (first | (go_at_call 28; refine (hr _).mono ?_; rintro x w' ⟨rfl, l, rfl⟩) | (go_at_call 29; refine (empty_any _ _ _).mono ?_; rintro x w' ⟨rfl, rfl⟩) | (go_at_call 30; refine (none_any _).mono ?_; rintro x w' ⟨rfl, rfl⟩) | (go_at_call 24; refine (told_any _ _ _).mono ?_; rintro x w' ⟨rfl, hG⟩; (repeat (first | replace hG := Gr.of_alloc hG | replace hG := Gr.of_grow hG)); obtain ⟨l, rfl⟩ := hG))
    simp [bodyPost, results, Try.results17, go_sem, *]
    repeat (first | exact Gr.refl _ | refine Gr.alloc ?_ _ | refine Gr.grow ?_ _ | refine Gr.drew ?_)

set_option maxHeartbeats 4000000 in
theorem Refine_e2f (op a b c d : Int) (w : World) (h0 : 0 ≤ op) (h1 : op < 256) (h2 : a ≤ b) (h3 : d < c) (g : Nat) (q2 : rowV op 2 = .func (.func g) #[] #[]) :
    Calls Try.prog 17 #[.int .u8 op, .agg #[.int .u64 a, .int .u64 b], .agg #[.int .u64 c, .int .u64 d]] w fun x w' => x = .returned (.tuple #[.agg #[.int .u64 1, .int .u64 0], .agg #[.int .u64 1, .int .u64 0], .bool false]) ∧ Gr w w' := by
  have s0 := fun a m w => run_store Try.prog w a (rowV op 0) m (row_one op 0)
  have s1 := fun a m w => run_store Try.prog w a (rowV op 1) m (row_one op 1)
  have hr := fun w => rowOf_any op w h0 h1
  rw [q2] at hr
  have hn := fn_left g
  have t1 : tLo 1 0 = 1 := rfl
  have t2 : tHi 1 0 = 0 := rfl
  go_enter Try.func17, Try.ntmps17
  go_wp2
  go_region
  all_goals
    have L1 := grow_cell
    have L2 := grow_frozen
    have L3 := grow_set
    have L4 := grow_lt
    have L5 := glt1
    have L6 := glt2
    have L7 := glt3
    have L8 := glt4
    have L9 := glt5
    have L10 := glt6
    have L11 := lt1
    have L12 := lt2
    have L13 := lt3
    have L14 := lt4
    have L15 := lt5
    have L16 := lt6
    have L17 := lt7
    have L18 := lt8
    go_wp2_with (first | (go_at_call 28; refine (hr _).mono ?_; rintro x w' ⟨rfl, l, rfl⟩) | (go_at_call 29; refine (empty_any _ _ _).mono ?_; rintro x w' ⟨rfl, rfl⟩) | (go_at_call 30; refine (none_any _).mono ?_; rintro x w' ⟨rfl, rfl⟩) | (go_at_call 24; refine (told_any _ _ _).mono ?_; rintro x w' ⟨rfl, hG⟩; (repeat (first | replace hG := Gr.of_alloc hG | replace hG := Gr.of_grow hG)); obtain ⟨l, rfl⟩ := hG))
    simp [bodyPost, results, Try.results17, go_sem, *]
    repeat (first | exact Gr.refl _ | refine Gr.alloc ?_ _ | refine Gr.grow ?_ _ | refine Gr.drew ?_)

set_option maxHeartbeats 4000000 in
theorem Refine_n (op a b c d : Int) (w : World) (h0 : 0 ≤ op) (h1 : op < 256) (h2 : a ≤ b) (h3 : c ≤ d) (q2 : rowV op 2 = .nilFunc) :
    Calls Try.prog 17 #[.int .u8 op, .agg #[.int .u64 a, .int .u64 b], .agg #[.int .u64 c, .int .u64 d]] w fun x w' => x = .returned (.tuple #[.agg #[.int .u64 a, .int .u64 b], .agg #[.int .u64 c, .int .u64 d], .bool true]) ∧ Gr w w' := by
  have s0 := fun a m w => run_store Try.prog w a (rowV op 0) m (row_one op 0)
  have s1 := fun a m w => run_store Try.prog w a (rowV op 1) m (row_one op 1)
  have hr := fun w => rowOf_any op w h0 h1
  rw [q2] at hr
  have hn := nil_left
  go_enter Try.func17, Try.ntmps17
  go_wp2
  go_region
  all_goals
    have L1 := grow_cell
    have L2 := grow_frozen
    have L3 := grow_set
    have L4 := grow_lt
    have L5 := glt1
    have L6 := glt2
    have L7 := glt3
    have L8 := glt4
    have L9 := glt5
    have L10 := glt6
    have L11 := lt1
    have L12 := lt2
    have L13 := lt3
    have L14 := lt4
    have L15 := lt5
    have L16 := lt6
    have L17 := lt7
    have L18 := lt8
    go_wp2_with (first | (go_at_call 28; refine (hr _).mono ?_; rintro x w' ⟨rfl, l, rfl⟩) | (go_at_call 29; refine (empty_any _ _ _).mono ?_; rintro x w' ⟨rfl, rfl⟩) | (go_at_call 30; refine (none_any _).mono ?_; rintro x w' ⟨rfl, rfl⟩) | (go_at_call 24; refine (told_any _ _ _).mono ?_; rintro x w' ⟨rfl, hG⟩; (repeat (first | replace hG := Gr.of_alloc hG | replace hG := Gr.of_grow hG)); obtain ⟨l, rfl⟩ := hG))
    go_region
    all_goals
      go_wp2
      simp [bodyPost, results, Try.results17, go_sem, *]
      repeat (first | exact Gr.refl _ | refine Gr.alloc ?_ _ | refine Gr.grow ?_ _ | refine Gr.drew ?_)

end Go.Proofs.Ytodhgmeecphckaa
