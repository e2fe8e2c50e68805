/-
  Stage 6, tagmem: nil pointers.
-/
import Derived.Test.YtbmkefpgfifigaaTAlive
namespace Go.Proofs.Ytbmkefpgfifigaa
namespace T
open Go.RowKit

set_option maxHeartbeats 1000000 in
theorem tgLoad_nil (m n : Int) (w : World) : Calls Try.prog 15 #[.pointer none, .int .u64 m, .int .u64 n] w fun x w' => x = .returned (.tuple #[.int .u64 0, .int .i64 60]) ∧ w' = w := by
  go_enter Try.func15, Try.ntmps15
  go_wp2_with fail
  go_ret2
  exact ⟨rfl, rfl⟩
set_option maxHeartbeats 1000000 in
theorem tgStore_nil (m n k : Int) (w : World) : Calls Try.prog 14 #[.pointer none, .int .u64 m, .int .u64 n, .int .u64 k] w fun x w' => x = .returned (.int .i64 60) ∧ w' = w := by
  go_enter Try.func14, Try.ntmps14
  go_wp2_with fail
  go_ret
  exact ⟨rfl, rfl⟩
set_option maxHeartbeats 1000000 in
theorem flLoad_nil (m n : Int) (w : World) : Calls Try.prog 17 #[.pointer none, .int .u64 m, .int .u64 n] w fun x w' => x = .returned (.tuple #[.int .u64 0, .int .i64 60]) ∧ w' = w := by
  go_enter Try.func17, Try.ntmps17
  go_wp2_with fail
  go_ret2
  exact ⟨rfl, rfl⟩
set_option maxHeartbeats 1000000 in
theorem flStore_nil (m n k : Int) (w : World) : Calls Try.prog 19 #[.pointer none, .int .u64 m, .int .u64 n, .int .u64 k] w fun x w' => x = .returned (.int .i64 60) ∧ w' = w := by
  go_enter Try.func19, Try.ntmps19
  go_wp2_with fail
  go_ret
  exact ⟨rfl, rfl⟩
set_option maxHeartbeats 1000000 in
theorem tgLoadCap_nil (m : Int) (w : World) : Calls Try.prog 23 #[.pointer none, .int .u64 m] w fun x w' => x = .returned (.tuple #[.agg #[.bool false, .int .u64 0, .int .u64 0, .int .u64 0, .int .u64 0, .int .u8 0, .int .i64 0], .int .i64 60]) ∧ Below w.heap.size w w' := by
  go_enter Try.func23, Try.ntmps23
  go_wp2_with fail
  simp [bodyPost, results, Try.results23, go_sem]
  exact (Below.refl _ w).alloc (Nat.le_refl _) _
set_option maxHeartbeats 1000000 in
theorem tgStoreCap_nil (m : Int) (w : World) : Calls Try.prog 27 #[.pointer none, .int .u64 m, .agg #[.bool false, .int .u64 0, .int .u64 0, .int .u64 0, .int .u64 0, .int .u8 0, .int .i64 0]] w fun x w' => x = .returned (.int .i64 60) ∧ Below w.heap.size w w' := by
  go_enter Try.func27, Try.ntmps27
  go_wp2_with fail
  go_ret
  exact ⟨rfl, (Below.refl _ w).alloc (Nat.le_refl _) _⟩
set_option maxHeartbeats 1000000 in
theorem tgTags_nil (w : World) : Calls Try.prog 25 #[.pointer none] w fun x w' => x = .returned (.slice none 0 0) ∧ w' = w := by
  go_enter Try.func25, Try.ntmps25
  go_wp2_with fail
  go_ret
  exact ⟨rfl, rfl⟩
set_option maxHeartbeats 1000000 in
theorem tgBytes_nil (w : World) : Calls Try.prog 12 #[.pointer none] w fun x w' => x = .returned (.string ⟨#[]⟩) ∧ w' = w := by
  go_enter Try.func12, Try.ntmps12
  go_wp2_with fail
  go_ret
  exact ⟨rfl, rfl⟩
set_option maxHeartbeats 1000000 in
theorem flBytes_nil (w : World) : Calls Try.prog 21 #[.pointer none] w fun x w' => x = .returned (.string ⟨#[]⟩) ∧ w' = w := by
  go_enter Try.func21, Try.ntmps21
  go_wp2_with fail
  go_ret
  exact ⟨rfl, rfl⟩
end T
end Go.Proofs.Ytbmkefpgfifigaa
