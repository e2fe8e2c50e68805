/-
  Stage 2, span: is a branch taken; are ends met.
-/
import Derived.Test.YtdlfmifkjmajpaaSTakM
import Derived.Test.YtdlfmifkjmajpaaSAt
import Derived.Test.YtdlfmifkjmajpaaSCaps
namespace Go.Proofs.Ytdlfmifkjmajpaa
open Go.RowKit

set_option maxHeartbeats 400000 in
theorem taken_21 (p q : Int) (w : World) :
    Calls Try.prog 23 #[.int .u8 21, .int .u64 p, .int .u64 q] w fun x w' => x = .returned (.bool (takenB 21 p q)) ∧ Gr w w' := by
  go_enter Try.func23, Try.ntmps23
  go_wp2
  go_ret
  exact ⟨ret_bool (by simp [takenB]), Gr.refl _⟩

set_option maxHeartbeats 400000 in
theorem taken_22 (p q : Int) (w : World) :
    Calls Try.prog 23 #[.int .u8 22, .int .u64 p, .int .u64 q] w fun x w' => x = .returned (.bool (takenB 22 p q)) ∧ Gr w w' := by
  go_enter Try.func23, Try.ntmps23
  go_wp2
  go_ret
  exact ⟨ret_bool (by simp [takenB]), Gr.refl _⟩

set_option maxHeartbeats 400000 in
theorem taken_23 (p q : Int) (w : World) :
    Calls Try.prog 23 #[.int .u8 23, .int .u64 p, .int .u64 q] w fun x w' => x = .returned (.bool (takenB 23 p q)) ∧ Gr w w' := by
  go_enter Try.func23, Try.ntmps23
  go_wp2
  go_ret
  exact ⟨ret_bool (by simp [takenB]), Gr.refl _⟩

set_option maxHeartbeats 400000 in
theorem taken_24 (p q : Int) (w : World) :
    Calls Try.prog 23 #[.int .u8 24, .int .u64 p, .int .u64 q] w fun x w' => x = .returned (.bool (takenB 24 p q)) ∧ Gr w w' := by
  go_enter Try.func23, Try.ntmps23
  go_wp2
  go_ret
  exact ⟨ret_bool (by simp [takenB]), Gr.refl _⟩

set_option maxHeartbeats 400000 in
theorem meets_21 (a b n : Int) (w : World) :
    Calls Try.prog 24 #[.int .u8 21, .int .u64 n, .agg #[.int .u64 a, .int .u64 b]] w fun x w' => x = .returned (.bool (meetsB 21 n a b)) ∧ w.alloc (.cells #[.int .u64 a, .int .u64 b] 26) = w' := by
  go_enter Try.func24, Try.ntmps24
  go_wp2
  all_goals
    go_ret
    exact ⟨ret_bool (by simp_all [meetsB] <;> omega), rfl⟩

set_option maxHeartbeats 400000 in
theorem meets_22 (a b n : Int) (w : World) :
    Calls Try.prog 24 #[.int .u8 22, .int .u64 n, .agg #[.int .u64 a, .int .u64 b]] w fun x w' => x = .returned (.bool (meetsB 22 n a b)) ∧ w.alloc (.cells #[.int .u64 a, .int .u64 b] 26) = w' := by
  by_cases e : a = n
  · subst e
    go_enter Try.func24, Try.ntmps24
    go_wp2
    go_ret
    exact ⟨ret_bool (by simp [meetsB]), rfl⟩
  · have e' : (a != n) = true := by simpa using e
    clear e
    go_enter Try.func24, Try.ntmps24
    go_wp2
    go_ret
    exact ⟨ret_bool (by simp [meetsB, e']), rfl⟩

set_option maxHeartbeats 400000 in
theorem meets_23 (a b n : Int) (w : World) :
    Calls Try.prog 24 #[.int .u8 23, .int .u64 n, .agg #[.int .u64 a, .int .u64 b]] w fun x w' => x = .returned (.bool (meetsB 23 n a b)) ∧ w.alloc (.cells #[.int .u64 a, .int .u64 b] 26) = w' := by
  go_enter Try.func24, Try.ntmps24
  go_wp2
  all_goals
    go_ret
    exact ⟨ret_bool (by simp_all [meetsB] <;> omega), rfl⟩

set_option maxHeartbeats 400000 in
theorem meets_24 (a b n : Int) (w : World) :
    Calls Try.prog 24 #[.int .u8 24, .int .u64 n, .agg #[.int .u64 a, .int .u64 b]] w fun x w' => x = .returned (.bool (meetsB 24 n a b)) ∧ w.alloc (.cells #[.int .u64 a, .int .u64 b] 26) = w' := by
  go_enter Try.func24, Try.ntmps24
  go_wp2
  all_goals
    go_ret
    exact ⟨ret_bool (by simp_all [meetsB] <;> omega), rfl⟩

set_option maxHeartbeats 400000 in
theorem met_of21 (a b n : Int) (w : World) :
    Calls Try.prog 25 #[.int .u8 21, .agg #[.int .u64 a, .int .u64 b], .int .u64 n] w fun x w' => x = .returned (.bool (metB 21 a b n)) ∧ Gr w w' := by
  go_enter Try.func25, Try.ntmps25
  go_wp2_with (go_at_call 24; refine (meets_21 _ _ _ _).mono ?_; rintro x w' ⟨rfl, rfl⟩)
  all_goals
    go_ret
    refine ⟨ret_bool (by simp [metB]), ?_⟩
    repeat (first | exact Gr.refl _ | refine Gr.alloc ?_ _ | refine Gr.grow ?_ _ | refine Gr.drew ?_)

set_option maxHeartbeats 400000 in
theorem met_of22 (a b n : Int) (w : World) :
    Calls Try.prog 25 #[.int .u8 22, .agg #[.int .u64 a, .int .u64 b], .int .u64 n] w fun x w' => x = .returned (.bool (metB 22 a b n)) ∧ Gr w w' := by
  go_enter Try.func25, Try.ntmps25
  go_wp2_with (go_at_call 24; refine (meets_22 _ _ _ _).mono ?_; rintro x w' ⟨rfl, rfl⟩)
  all_goals
    go_ret
    refine ⟨ret_bool (by simp [metB]), ?_⟩
    repeat (first | exact Gr.refl _ | refine Gr.alloc ?_ _ | refine Gr.grow ?_ _ | refine Gr.drew ?_)

set_option maxHeartbeats 400000 in
theorem met_of23 (a b n : Int) (w : World) :
    Calls Try.prog 25 #[.int .u8 23, .agg #[.int .u64 a, .int .u64 b], .int .u64 n] w fun x w' => x = .returned (.bool (metB 23 a b n)) ∧ Gr w w' := by
  go_enter Try.func25, Try.ntmps25
  go_wp2
  all_goals
    go_ret
    refine ⟨ret_bool (by simp [metB]), ?_⟩
    repeat (first | exact Gr.refl _ | refine Gr.alloc ?_ _ | refine Gr.grow ?_ _ | refine Gr.drew ?_)

set_option maxHeartbeats 400000 in
theorem met_of24 (a b n : Int) (w : World) :
    Calls Try.prog 25 #[.int .u8 24, .agg #[.int .u64 a, .int .u64 b], .int .u64 n] w fun x w' => x = .returned (.bool (metB 24 a b n)) ∧ Gr w w' := by
  go_enter Try.func25, Try.ntmps25
  go_wp2
  all_goals
    go_ret
    refine ⟨ret_bool (by simp [metB]), ?_⟩
    repeat (first | exact Gr.refl _ | refine Gr.alloc ?_ _ | refine Gr.grow ?_ _ | refine Gr.drew ?_)

theorem taken_any (op p q : Int) (w : World) (ho : 21 ≤ op ∧ op ≤ 24) : Calls Try.prog 23 #[.int .u8 op, .int .u64 p, .int .u64 q] w fun x w' => x = .returned (.bool (takenB op p q)) ∧ Gr w w' := by
  have t : op = 21 ∨ op = 22 ∨ op = 23 ∨ op = 24 := by omega
  rcases t with rfl | rfl | rfl | rfl
  · exact taken_21 p q w
  · exact taken_22 p q w
  · exact taken_23 p q w
  · exact taken_24 p q w
theorem meets_any (op a b n : Int) (w : World) (ho : 21 ≤ op ∧ op ≤ 24) : Calls Try.prog 24 #[.int .u8 op, .int .u64 n, .agg #[.int .u64 a, .int .u64 b]] w fun x w' => x = .returned (.bool (meetsB op n a b)) ∧ Gr w w' := by
  have t : op = 21 ∨ op = 22 ∨ op = 23 ∨ op = 24 := by omega
  rcases t with rfl | rfl | rfl | rfl
  · exact (meets_21 a b n w).mono fun x w' h => ⟨h.1, by rw [← h.2]; exact (Gr.refl w).alloc _⟩
  · exact (meets_22 a b n w).mono fun x w' h => ⟨h.1, by rw [← h.2]; exact (Gr.refl w).alloc _⟩
  · exact (meets_23 a b n w).mono fun x w' h => ⟨h.1, by rw [← h.2]; exact (Gr.refl w).alloc _⟩
  · exact (meets_24 a b n w).mono fun x w' h => ⟨h.1, by rw [← h.2]; exact (Gr.refl w).alloc _⟩
theorem met_any (op a b n : Int) (w : World) (ho : 21 ≤ op ∧ op ≤ 24) : Calls Try.prog 25 #[.int .u8 op, .agg #[.int .u64 a, .int .u64 b], .int .u64 n] w fun x w' => x = .returned (.bool (metB op a b n)) ∧ Gr w w' := by
  have t : op = 21 ∨ op = 22 ∨ op = 23 ∨ op = 24 := by omega
  rcases t with rfl | rfl | rfl | rfl
  · exact met_of21 a b n w
  · exact met_of22 a b n w
  · exact met_of23 a b n w
  · exact met_of24 a b n w
/-- Of ends that are met. -/
theorem meets_y (op a b n : Int) (w : World) (h : Hid ((21 ≤ op ∧ op ≤ 24) ∧ meetsB op n a b = true)) : Calls Try.prog 24 #[.int .u8 op, .int .u64 n, .agg #[.int .u64 a, .int .u64 b]] w fun x w' => x = .returned (.bool true) ∧ Gr w w' := by
  have k := meets_any op a b n w h.out.1
  rwa [h.out.2] at k
theorem met_y (op a b n : Int) (w : World) (h : Hid ((21 ≤ op ∧ op ≤ 24) ∧ metB op a b n = true)) : Calls Try.prog 25 #[.int .u8 op, .agg #[.int .u64 a, .int .u64 b], .int .u64 n] w fun x w' => x = .returned (.bool true) ∧ Gr w w' := by
  have k := met_any op a b n w h.out.1
  rwa [h.out.2] at k
theorem At.grown0 {w : World} {k : Nat} {cs : Array Value} (h : At w k cs) (l : List (Option Obj)) (o : Nat) : (grow w l).cell? ⟨k, o, none⟩ = cs[o]? := (grow_cell w l k o h.1).trans (h.2.1 o)
end Go.Proofs.Ytdlfmifkjmajpaa
