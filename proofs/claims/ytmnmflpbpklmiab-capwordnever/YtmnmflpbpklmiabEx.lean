/-
  Stage 1, capword: the chapter's examples, which each statement asks first.
-/
import Derived.Test.YtmnmflpbpklmiabCaps
namespace Go.Proofs.Ytmnmflpbpklmiab
open Go.RowKit

set_option maxHeartbeats 400000 in
theorem ex_set32 (w : World) :
    Calls Try.prog 14 #[.agg #[.int .u64 64, .int .u64 128, .int .u64 96, .int .u8 3, .int .i64 0], .int .u64 32] w fun x w' =>
      x = .returned (.tuple #[.agg #[.int .u64 96, .int .u64 128, .int .u64 96, .int .u8 3, .int .i64 0], .int .i64 0]) ∧ (((w.alloc (.cells #[.int .u64 96, .int .u64 128, .int .u64 96, .int .u8 3, .int .i64 0] 25)).alloc (.cells #[.int .u64 96, .int .u64 128, .int .u64 96, .int .u8 3, .int .i64 0] 25)).alloc (.cells #[.int .u64 64, .int .u64 128, .int .u64 96, .int .u8 3, .int .i64 0] 25)).alloc (.cells #[.int .u64 64, .int .u64 128, .int .u64 96, .int .u8 3, .int .i64 0] 25) = w' := by
  go_enter Try.func14, Try.ntmps14
  go_wp2
  exact bodyPost_ret (v := .tuple #[.agg #[.int .u64 96, .int .u64 128, .int .u64 96, .int .u8 3, .int .i64 0], .int .i64 0]) (by simp [results, Try.results14, go_sem]) rfl ⟨rfl, rfl⟩

set_option maxHeartbeats 400000 in
theorem ex_set33 (w : World) :
    Calls Try.prog 14 #[.agg #[.int .u64 64, .int .u64 128, .int .u64 96, .int .u8 3, .int .i64 0], .int .u64 33] w fun x w' =>
      x = .returned (.tuple #[.agg #[.int .u64 0, .int .u64 0, .int .u64 0, .int .u8 0, .int .i64 0], .int .i64 5]) ∧ (((w.alloc (.cells #[.int .u64 64, .int .u64 128, .int .u64 96, .int .u8 3, .int .i64 0] 25)).alloc (.cells #[.int .u64 0, .int .u64 0, .int .u64 0, .int .u8 0, .int .i64 0] 25)).alloc (.cells #[.int .u64 64, .int .u64 128, .int .u64 96, .int .u8 3, .int .i64 0] 25)).alloc (.cells #[.int .u64 64, .int .u64 128, .int .u64 96, .int .u8 3, .int .i64 0] 25) = w' := by
  go_enter Try.func14, Try.ntmps14
  go_wp2
  exact bodyPost_ret (v := .tuple #[.agg #[.int .u64 0, .int .u64 0, .int .u64 0, .int .u8 0, .int .i64 0], .int .i64 5]) (by simp [results, Try.results14, go_sem]) rfl ⟨rfl, rfl⟩

set_option maxHeartbeats 400000 in
theorem ex_seal (w : World) :
    Calls Try.prog 8 #[.agg #[.int .u64 64, .int .u64 128, .int .u64 96, .int .u8 3, .int .i64 0], .agg #[.int .u64 0, .int .u64 16, .int .u64 5, .int .u8 32, .int .i64 0]] w fun x w' =>
      x = .returned (.tuple #[.agg #[.int .u64 64, .int .u64 128, .int .u64 96, .int .u8 3, .int .i64 5], .int .i64 0]) ∧ (((((w.alloc (.cells #[.int .u64 64, .int .u64 128, .int .u64 96, .int .u8 3, .int .i64 5] 25)).alloc (.cells #[.int .u64 0, .int .u64 16, .int .u64 5, .int .u8 32, .int .i64 0] 25)).alloc (.cells #[.int .u64 64, .int .u64 128, .int .u64 96, .int .u8 3, .int .i64 5] 25)).alloc (.cells #[.int .u64 64, .int .u64 128, .int .u64 96, .int .u8 3, .int .i64 0] 25)).alloc (.cells #[.int .u64 0, .int .u64 16, .int .u64 5, .int .u8 32, .int .i64 0] 25)).alloc (.cells #[.int .u64 0, .int .u64 16, .int .u64 5, .int .u8 32, .int .i64 0] 25) = w' := by
  go_enter Try.func8, Try.ntmps8
  go_wp2
  exact bodyPost_ret (v := .tuple #[.agg #[.int .u64 64, .int .u64 128, .int .u64 96, .int .u8 3, .int .i64 5], .int .i64 0]) (by simp [results, Try.results8, go_sem]) rfl ⟨rfl, rfl⟩

end Go.Proofs.Ytmnmflpbpklmiab
