/-
  Stage 2, span: Apply, whatever the row's functions are.
-/
import Derived.Test.YtodhgmeecphckaaSCaps
import Derived.Test.YtodhgmeecphckaaSRow
import Derived.Laws.EntriesVeiled
import Derived.Deep.RegionWith
import Derived.RegionTactic
import Derived.BigRegion
namespace Go.Proofs.Ytodhgmeecphckaa
open Go.RowKit

theorem fn_nil (f : Nat) (w : World) : (binOp .eql 56 (.func (.func f) #[] #[]) .nilFunc).run Try.prog w = .ok (.bool false) w := by rfl
theorem nil_nil (w : World) : (binOp .eql 56 .nilFunc .nilFunc).run Try.prog w = .ok (.bool true) w := by rfl

set_option maxHeartbeats 4000000 in
theorem Apply_e1 (op a b c d : Int) (w : World) (h0 : 0 ≤ op) (h1 : op < 256) (h2 : b < a) :
    Calls Try.prog 14 #[.int .u8 op, .agg #[.int .u64 a, .int .u64 b], .agg #[.int .u64 c, .int .u64 d]] w fun x w' => x = .returned (.agg #[.int .u64 1, .int .u64 0]) ∧ Gr w w' := by
  have s0 := fun a m w => run_store Try.prog w a (rowV op 0) m (row_one op 0)
  have s1 := fun a m w => run_store Try.prog w a (rowV op 1) m (row_one op 1)
  have s2 := fun a m w => run_store Try.prog w a (rowV op 2) m (row_one op 2)
  have hr := fun w => rowOf_any op w h0 h1
  have t1 : tLo 1 0 = 1 := rfl
  have t2 : tHi 1 0 = 0 := rfl
  go_enter Try.func14, Try.ntmps14
  go_wp2
  go_region
  all_goals
    have L1 := grow_cell
    have L2 := grow_frozen
    have L3 := grow_set
    have L4 := grow_lt
    have L5 := glt1
    have L6 := glt2
    have L7 := glt3
    have L8 := glt4
    have L9 := glt5
    have L10 := glt6
    have L11 := lt1
    have L12 := lt2
    have L13 := lt3
    have L14 := lt4
    have L15 := lt5
    have L16 := lt6
    have L17 := lt7
    have L18 := lt8
    go_wp2_with (first | (go_at_call 28; refine (hr _).mono ?_; rintro x w' ⟨rfl, l, rfl⟩) | (go_at_call 29; refine (empty_any _ _ _).mono ?_; rintro x w' ⟨rfl, rfl⟩) | (go_at_call 31; refine (single_any _ _ _).mono ?_; rintro x w' ⟨rfl, rfl⟩) | (go_at_call 30; refine (none_any _).mono ?_; rintro x w' ⟨rfl, rfl⟩) | (go_at_call 24; refine (told_any _ _ _).mono ?_; rintro x w' ⟨rfl, l, rfl⟩))
    simp [bodyPost, results, Try.results14, go_sem, *]
    repeat (first | exact Gr.refl _ | refine Gr.alloc ?_ _ | refine Gr.grow ?_ _ | refine Gr.drew ?_)

set_option maxHeartbeats 4000000 in
theorem Apply_e2 (op a b c d : Int) (w : World) (h0 : 0 ≤ op) (h1 : op < 256) (h2 : a ≤ b) (h3 : d < c) :
    Calls Try.prog 14 #[.int .u8 op, .agg #[.int .u64 a, .int .u64 b], .agg #[.int .u64 c, .int .u64 d]] w fun x w' => x = .returned (.agg #[.int .u64 1, .int .u64 0]) ∧ Gr w w' := by
  have s0 := fun a m w => run_store Try.prog w a (rowV op 0) m (row_one op 0)
  have s1 := fun a m w => run_store Try.prog w a (rowV op 1) m (row_one op 1)
  have s2 := fun a m w => run_store Try.prog w a (rowV op 2) m (row_one op 2)
  have hr := fun w => rowOf_any op w h0 h1
  have t1 : tLo 1 0 = 1 := rfl
  have t2 : tHi 1 0 = 0 := rfl
  go_enter Try.func14, Try.ntmps14
  go_wp2
  go_region
  all_goals
    have L1 := grow_cell
    have L2 := grow_frozen
    have L3 := grow_set
    have L4 := grow_lt
    have L5 := glt1
    have L6 := glt2
    have L7 := glt3
    have L8 := glt4
    have L9 := glt5
    have L10 := glt6
    have L11 := lt1
    have L12 := lt2
    have L13 := lt3
    have L14 := lt4
    have L15 := lt5
    have L16 := lt6
    have L17 := lt7
    have L18 := lt8
    go_wp2_with (first | (go_at_call 28; refine (hr _).mono ?_; rintro x w' ⟨rfl, l, rfl⟩) | (go_at_call 29; refine (empty_any _ _ _).mono ?_; rintro x w' ⟨rfl, rfl⟩) | (go_at_call 31; refine (single_any _ _ _).mono ?_; rintro x w' ⟨rfl, rfl⟩) | (go_at_call 30; refine (none_any _).mono ?_; rintro x w' ⟨rfl, rfl⟩) | (go_at_call 24; refine (told_any _ _ _).mono ?_; rintro x w' ⟨rfl, l, rfl⟩))
    simp [bodyPost, results, Try.results14, go_sem, *]
    repeat (first | exact Gr.refl _ | refine Gr.alloc ?_ _ | refine Gr.grow ?_ _ | refine Gr.drew ?_)

set_option maxHeartbeats 4000000 in
theorem Apply_n (op a b c d : Int) (w : World) (h0 : 0 ≤ op) (h1 : op < 256) (h2 : a ≤ b) (h3 : c ≤ d) (q0 : rowV op 0 = .nilFunc) :
    Calls Try.prog 14 #[.int .u8 op, .agg #[.int .u64 a, .int .u64 b], .agg #[.int .u64 c, .int .u64 d]] w fun x w' => x = .returned (.agg #[.int .u64 0, .int .u64 18446744073709551615]) ∧ Gr w w' := by
  have s1 := fun a m w => run_store Try.prog w a (rowV op 1) m (row_one op 1)
  have s2 := fun a m w => run_store Try.prog w a (rowV op 2) m (row_one op 2)
  have hr := fun w => rowOf_any op w h0 h1
  rw [q0] at hr
  have hn := nil_nil
  go_enter Try.func14, Try.ntmps14
  go_wp2
  go_region
  all_goals
    have L1 := grow_cell
    have L2 := grow_frozen
    have L3 := grow_set
    have L4 := grow_lt
    have L5 := glt1
    have L6 := glt2
    have L7 := glt3
    have L8 := glt4
    have L9 := glt5
    have L10 := glt6
    have L11 := lt1
    have L12 := lt2
    have L13 := lt3
    have L14 := lt4
    have L15 := lt5
    have L16 := lt6
    have L17 := lt7
    have L18 := lt8
    go_wp2_with (first | (go_at_call 28; refine (hr _).mono ?_; rintro x w' ⟨rfl, l, rfl⟩) | (go_at_call 29; refine (empty_any _ _ _).mono ?_; rintro x w' ⟨rfl, rfl⟩) | (go_at_call 31; refine (single_any _ _ _).mono ?_; rintro x w' ⟨rfl, rfl⟩) | (go_at_call 23; refine (Full_any _).mono ?_; rintro x w' ⟨rfl, rfl⟩))
    simp [bodyPost, results, Try.results14, go_sem, *]
    repeat (first | exact Gr.refl _ | refine Gr.alloc ?_ _ | refine Gr.grow ?_ _ | refine Gr.drew ?_)

set_option maxHeartbeats 4000000 in
theorem Apply_o (op a c v : Int) (f g : Nat) (w : World) (h0 : 0 ≤ op) (h1 : op < 256) (q0 : rowV op 0 = .func (.func f) #[] #[]) (q1 : rowV op 1 = .func (.func g) #[] #[])
    (e1 : ∀ args w, (callFunc f args).run Try.prog w = .ok (.enter f args) w)
    (k1 : ∀ w, Calls Try.prog f #[.int .u64 a, .int .u64 c] w fun x w' => x = .returned (.int .u64 v) ∧ w = w') :
    Calls Try.prog 14 #[.int .u8 op, .agg #[.int .u64 a, .int .u64 a], .agg #[.int .u64 c, .int .u64 c]] w fun x w' => x = .returned (.agg #[.int .u64 v, .int .u64 v]) ∧ Gr w w' := by
  have s2 := fun a m w => run_store Try.prog w a (rowV op 2) m (row_one op 2)
  have hr := fun w => rowOf_any op w h0 h1
  rw [q0, q1] at hr
  have hn := fn_nil f
  go_enter Try.func14, Try.ntmps14
  go_wp2
  go_region
  all_goals
    have L1 := grow_cell
    have L2 := grow_frozen
    have L3 := grow_set
    have L4 := grow_lt
    have L5 := glt1
    have L6 := glt2
    have L7 := glt3
    have L8 := glt4
    have L9 := glt5
    have L10 := glt6
    have L11 := lt1
    have L12 := lt2
    have L13 := lt3
    have L14 := lt4
    have L15 := lt5
    have L16 := lt6
    have L17 := lt7
    have L18 := lt8
    go_wp2_with (first | (go_at_call 28; refine (hr _).mono ?_; rintro x w' ⟨rfl, l, rfl⟩) | (go_at_call 29; refine (empty_any _ _ _).mono ?_; rintro x w' ⟨rfl, rfl⟩) | (go_at_call 31; refine (single_any _ _ _).mono ?_; rintro x w' ⟨rfl, rfl⟩) | (go_at_call 16; refine (Of_any _ _).mono ?_; rintro x w' ⟨rfl, rfl⟩) | (go_at_fn f; refine (k1 _).mono ?_; rintro x w' ⟨rfl, rfl⟩))
    simp [bodyPost, results, Try.results14, go_sem, *]
    repeat (first | exact Gr.refl _ | refine Gr.alloc ?_ _ | refine Gr.grow ?_ _ | refine Gr.drew ?_)

set_option maxHeartbeats 4000000 in
theorem Apply_a1 (op a b c d r1 r2 : Int) (f g : Nat) (w : World) (h0 : 0 ≤ op) (h1 : op < 256) (h2 : a ≤ b) (h3 : c ≤ d) (h4 : (a == b) = false) (q0 : rowV op 0 = .func (.func f) #[] #[]) (q1 : rowV op 1 = .func (.func g) #[] #[])
    (e1 : ∀ args w, (callFunc g args).run Try.prog w = .ok (.enter g args) w)
    (k1 : ∀ w, Calls Try.prog g #[.agg #[.int .u64 a, .int .u64 b], .agg #[.int .u64 c, .int .u64 d]] w fun x w' => x = .returned (.agg #[.int .u64 r1, .int .u64 r2]) ∧ Gr w w') :
    Calls Try.prog 14 #[.int .u8 op, .agg #[.int .u64 a, .int .u64 b], .agg #[.int .u64 c, .int .u64 d]] w fun x w' => x = .returned (.agg #[.int .u64 r1, .int .u64 r2]) ∧ Gr w w' := by
  have s2 := fun a m w => run_store Try.prog w a (rowV op 2) m (row_one op 2)
  have hr := fun w => rowOf_any op w h0 h1
  rw [q0, q1] at hr
  have hn := fn_nil f
  go_enter Try.func14, Try.ntmps14
  go_wp2
  go_region
  all_goals
    have L1 := grow_cell
    have L2 := grow_frozen
    have L3 := grow_set
    have L4 := grow_lt
    have L5 := glt1
    have L6 := glt2
    have L7 := glt3
    have L8 := glt4
    have L9 := glt5
    have L10 := glt6
    have L11 := lt1
    have L12 := lt2
    have L13 := lt3
    have L14 := lt4
    have L15 := lt5
    have L16 := lt6
    have L17 := lt7
    have L18 := lt8
    go_wp2_with (first | (go_at_call 28; refine (hr _).mono ?_; rintro x w' ⟨rfl, l, rfl⟩) | (go_at_call 29; refine (empty_any _ _ _).mono ?_; rintro x w' ⟨rfl, rfl⟩) | (go_at_call 31; refine (single_any _ _ _).mono ?_; rintro x w' ⟨rfl, rfl⟩) | (go_at_fn g; refine (k1 _).mono ?_; rintro x w' ⟨rfl, l, rfl⟩))
    simp [bodyPost, results, Try.results14, go_sem, *]
    repeat (first | exact Gr.refl _ | refine Gr.alloc ?_ _ | refine Gr.grow ?_ _ | refine Gr.drew ?_)

set_option maxHeartbeats 4000000 in
theorem Apply_a2 (op a c d r1 r2 : Int) (f g : Nat) (w : World) (h0 : 0 ≤ op) (h1 : op < 256) (h3 : c ≤ d) (h4 : (c == d) = false) (q0 : rowV op 0 = .func (.func f) #[] #[]) (q1 : rowV op 1 = .func (.func g) #[] #[])
    (e1 : ∀ args w, (callFunc g args).run Try.prog w = .ok (.enter g args) w)
    (k1 : ∀ w, Calls Try.prog g #[.agg #[.int .u64 a, .int .u64 a], .agg #[.int .u64 c, .int .u64 d]] w fun x w' => x = .returned (.agg #[.int .u64 r1, .int .u64 r2]) ∧ Gr w w') :
    Calls Try.prog 14 #[.int .u8 op, .agg #[.int .u64 a, .int .u64 a], .agg #[.int .u64 c, .int .u64 d]] w fun x w' => x = .returned (.agg #[.int .u64 r1, .int .u64 r2]) ∧ Gr w w' := by
  have s2 := fun a m w => run_store Try.prog w a (rowV op 2) m (row_one op 2)
  have hr := fun w => rowOf_any op w h0 h1
  rw [q0, q1] at hr
  have hn := fn_nil f
  go_enter Try.func14, Try.ntmps14
  go_wp2
  go_region
  all_goals
    have L1 := grow_cell
    have L2 := grow_frozen
    have L3 := grow_set
    have L4 := grow_lt
    have L5 := glt1
    have L6 := glt2
    have L7 := glt3
    have L8 := glt4
    have L9 := glt5
    have L10 := glt6
    have L11 := lt1
    have L12 := lt2
    have L13 := lt3
    have L14 := lt4
    have L15 := lt5
    have L16 := lt6
    have L17 := lt7
    have L18 := lt8
    go_wp2_with (first | (go_at_call 28; refine (hr _).mono ?_; rintro x w' ⟨rfl, l, rfl⟩) | (go_at_call 29; refine (empty_any _ _ _).mono ?_; rintro x w' ⟨rfl, rfl⟩) | (go_at_call 31; refine (single_any _ _ _).mono ?_; rintro x w' ⟨rfl, rfl⟩) | (go_at_fn g; refine (k1 _).mono ?_; rintro x w' ⟨rfl, l, rfl⟩))
    simp [bodyPost, results, Try.results14, go_sem, *]
    repeat (first | exact Gr.refl _ | refine Gr.alloc ?_ _ | refine Gr.grow ?_ _ | refine Gr.drew ?_)

end Go.Proofs.Ytodhgmeecphckaa
