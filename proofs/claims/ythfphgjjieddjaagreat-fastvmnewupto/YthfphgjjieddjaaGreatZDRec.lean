import Derived.Test.YthfphgjjieddjaaGreatP37
namespace Go.Proofs.YthfphgjjieddjaaGreat
set_option maxRecDepth 100000
set_option maxHeartbeats 40000000
namespace Z
open Go.RowKit
open T (Sep Ob Kp Mf FlIn)

theorem sh64 (y : Int) (hn : 0 ≤ y) : min (y.tmod 64).toNat 64 = (y % 64).toNat := by
 rw [Int.tmod_eq_emod_of_nonneg hn]
 omega
theorem reck3 (x y : Int) (w : World) :
   Calls Tryz.prog 68 #[.int .u8 3, .int .u64 x, .int .u64 y] w fun r w' => r = .returned (.int .u64 (IntKind.u64.wrap (x + y))) ∧ w' = w := by
 go_enter Tryz.func68, Tryz.ntmps68
 go_wp2_with fail
 go_ret
 exact ⟨rfl, rfl⟩
theorem reck4 (x y : Int) (w : World) :
   Calls Tryz.prog 68 #[.int .u8 4, .int .u64 x, .int .u64 y] w fun r w' => r = .returned (.int .u64 (IntKind.u64.wrap (x - y))) ∧ w' = w := by
 go_enter Tryz.func68, Tryz.ntmps68
 go_wp2_with fail
 go_ret
 exact ⟨rfl, rfl⟩
theorem reck5 (x y : Int) (w : World) :
   Calls Tryz.prog 68 #[.int .u8 5, .int .u64 x, .int .u64 y] w fun r w' => r = .returned (.int .u64 (IntKind.u64.wrap (x * y))) ∧ w' = w := by
 go_enter Tryz.func68, Tryz.ntmps68
 go_wp2_with fail
 go_ret
 exact ⟨rfl, rfl⟩
theorem reck6 (x y : Int) (w : World) :
   Calls Tryz.prog 68 #[.int .u8 6, .int .u64 x, .int .u64 y] w fun r w' => r = .returned (.int .u64 (bits .and .u64 x y)) ∧ w' = w := by
 go_enter Tryz.func68, Tryz.ntmps68
 go_wp2_with fail
 go_ret
 exact ⟨rfl, rfl⟩
theorem reck7 (x y : Int) (w : World) :
   Calls Tryz.prog 68 #[.int .u8 7, .int .u64 x, .int .u64 y] w fun r w' => r = .returned (.int .u64 (bits .or .u64 x y)) ∧ w' = w := by
 go_enter Tryz.func68, Tryz.ntmps68
 go_wp2_with fail
 go_ret
 exact ⟨rfl, rfl⟩
theorem reck8 (x y : Int) (w : World) :
   Calls Tryz.prog 68 #[.int .u8 8, .int .u64 x, .int .u64 y] w fun r w' => r = .returned (.int .u64 (bits .xor .u64 x y)) ∧ w' = w := by
 go_enter Tryz.func68, Tryz.ntmps68
 go_wp2_with fail
 go_ret
 exact ⟨rfl, rfl⟩
theorem reck9 (x y : Int) (w : World) (hn : 0 ≤ y) :
   Calls Tryz.prog 68 #[.int .u8 9, .int .u64 x, .int .u64 y] w fun r w' => r = .returned (.int .u64 (IntKind.u64.wrap (x * 2 ^ min (y.tmod 64).toNat 64))) ∧ w' = w := by
 rw [sh64 y hn]
 go_enter Tryz.func68, Tryz.ntmps68
 go_wp2_with fail
 go_ret
 exact ⟨rfl, rfl⟩
theorem reck10 (x y : Int) (w : World) (hn : 0 ≤ y) :
   Calls Tryz.prog 68 #[.int .u8 10, .int .u64 x, .int .u64 y] w fun r w' => r = .returned (.int .u64 (x / 2 ^ min (y.tmod 64).toNat 64)) ∧ w' = w := by
 rw [sh64 y hn]
 go_enter Tryz.func68, Tryz.ntmps68
 go_wp2_with fail
 go_ret
 exact ⟨rfl, rfl⟩
theorem reck12 (x y : Int) (w : World) :
   Calls Tryz.prog 68 #[.int .u8 12, .int .u64 x, .int .u64 y] w fun r w' => r = .returned (.int .u64 (if x < y then 1 else 0)) ∧ w' = w := by
 by_cases hq : x < y
 · rw [if_pos hq]
   have hq2 : decide (x < y) = true := decide_eq_true hq
   go_enter Tryz.func68, Tryz.ntmps68
   go_wp2_with fail
   go_ret
   exact ⟨rfl, rfl⟩
 · rw [if_neg hq]
   have hq2 : decide (x < y) = false := decide_eq_false hq
   go_enter Tryz.func68, Tryz.ntmps68
   go_wp2_with fail
   go_ret
   exact ⟨rfl, rfl⟩
theorem reck13 (x y : Int) (w : World) :
   Calls Tryz.prog 68 #[.int .u8 13, .int .u64 x, .int .u64 y] w fun r w' => r = .returned (.int .u64 (if x = y then 1 else 0)) ∧ w' = w := by
 by_cases hq : x = y
 · rw [if_pos hq]
   have hq2 : (x == y) = true := by simpa using hq
   go_enter Tryz.func68, Tryz.ntmps68
   go_wp2_with fail
   go_ret
   exact ⟨rfl, rfl⟩
 · rw [if_neg hq]
   have hq2 : (x == y) = false := by simpa using hq
   go_enter Tryz.func68, Tryz.ntmps68
   go_wp2_with fail
   go_ret
   exact ⟨rfl, rfl⟩
end Z
end Go.Proofs.YthfphgjjieddjaaGreat
