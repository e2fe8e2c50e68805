/-
  Stage 1, capword: the chapter's examples, which each statement asks first.
-/
import Derived.Test.YtmnmflpbpklmiaaCaps
namespace Go.Proofs.Ytmnmflpbpklmiaa
open Go.RowKit

set_option maxHeartbeats 400000 in
theorem ex_set32 (w : World) :
    Calls Try.prog 20 #[.agg #[.int .u64 64, .int .u64 128, .int .u64 96, .int .u8 3, .int .i64 0], .int .u64 32] w fun x w' =>
      x = .returned (.tuple #[.agg #[.int .u64 96, .int .u64 128, .int .u64 96, .int .u8 3, .int .i64 0], .int .i64 0]) ∧ (((w.alloc (.cells #[.int .u64 96, .int .u64 128, .int .u64 96, .int .u8 3, .int .i64 0] 25)).alloc (.cells #[.int .u64 96, .int .u64 128, .int .u64 96, .int .u8 3, .int .i64 0] 25)).alloc (.cells #[.int .u64 64, .int .u64 128, .int .u64 96, .int .u8 3, .int .i64 0] 25)).alloc (.cells #[.int .u64 64, .int .u64 128, .int .u64 96, .int .u8 3, .int .i64 0] 25) = w' := by
  go_enter Try.func20, Try.ntmps20
  go_wp2
  exact bodyPost_ret (v := .tuple #[.agg #[.int .u64 96, .int .u64 128, .int .u64 96, .int .u8 3, .int .i64 0], .int .i64 0]) (by simp [results, Try.results20, go_sem]) rfl ⟨rfl, rfl⟩

set_option maxHeartbeats 400000 in
theorem ex_set33 (w : World) :
    Calls Try.prog 20 #[.agg #[.int .u64 64, .int .u64 128, .int .u64 96, .int .u8 3, .int .i64 0], .int .u64 33] w fun x w' =>
      x = .returned (.tuple #[.agg #[.int .u64 0, .int .u64 0, .int .u64 0, .int .u8 0, .int .i64 0], .int .i64 5]) ∧ (((w.alloc (.cells #[.int .u64 64, .int .u64 128, .int .u64 96, .int .u8 3, .int .i64 0] 25)).alloc (.cells #[.int .u64 0, .int .u64 0, .int .u64 0, .int .u8 0, .int .i64 0] 25)).alloc (.cells #[.int .u64 64, .int .u64 128, .int .u64 96, .int .u8 3, .int .i64 0] 25)).alloc (.cells #[.int .u64 64, .int .u64 128, .int .u64 96, .int .u8 3, .int .i64 0] 25) = w' := by
  go_enter Try.func20, Try.ntmps20
  go_wp2
  exact bodyPost_ret (v := .tuple #[.agg #[.int .u64 0, .int .u64 0, .int .u64 0, .int .u8 0, .int .i64 0], .int .i64 5]) (by simp [results, Try.results20, go_sem]) rfl ⟨rfl, rfl⟩

set_option maxHeartbeats 400000 in
theorem ex_seal (w : World) :
    Calls Try.prog 22 #[.agg #[.int .u64 64, .int .u64 128, .int .u64 96, .int .u8 3, .int .i64 0], .agg #[.int .u64 0, .int .u64 16, .int .u64 5, .int .u8 32, .int .i64 0]] w fun x w' =>
      x = .returned (.tuple #[.agg #[.int .u64 64, .int .u64 128, .int .u64 96, .int .u8 3, .int .i64 5], .int .i64 0]) ∧ (((((w.alloc (.cells #[.int .u64 64, .int .u64 128, .int .u64 96, .int .u8 3, .int .i64 5] 25)).alloc (.cells #[.int .u64 0, .int .u64 16, .int .u64 5, .int .u8 32, .int .i64 0] 25)).alloc (.cells #[.int .u64 64, .int .u64 128, .int .u64 96, .int .u8 3, .int .i64 5] 25)).alloc (.cells #[.int .u64 64, .int .u64 128, .int .u64 96, .int .u8 3, .int .i64 0] 25)).alloc (.cells #[.int .u64 0, .int .u64 16, .int .u64 5, .int .u8 32, .int .i64 0] 25)).alloc (.cells #[.int .u64 0, .int .u64 16, .int .u64 5, .int .u8 32, .int .i64 0] 25) = w' := by
  go_enter Try.func22, Try.ntmps22
  go_wp2
  exact bodyPost_ret (v := .tuple #[.agg #[.int .u64 64, .int .u64 128, .int .u64 96, .int .u8 3, .int .i64 5], .int .i64 0]) (by simp [results, Try.results22, go_sem]) rfl ⟨rfl, rfl⟩

end Go.Proofs.Ytmnmflpbpklmiaa
