/-
  Stage 1, capword: the walk of the statement on SetBounds, AndPerm, Inc.
-/
import Derived.Test.YtmnmflpbpklmiabExB
import Derived.Test.YtmnmflpbpklmiabOpen
import Derived.Test.YtmnmflpbpklmiabPlainC
import Derived.Test.YtmnmflpbpklmiabRefsB
import Derived.Test.YtmnmflpbpklmiabRefsD
namespace Go.Proofs.Ytmnmflpbpklmiab
open Go.RowKit

set_option maxHeartbeats 400000 in
theorem num_any (f : Int) (w : World) :
    Calls Try.prog 12 #[.int .i64 f] w fun x w' => x = .returned (.int .i64 f) ∧ w = w' := by
  go_enter Try.func12, Try.ntmps12
  go_wp2
  go_ret
  exact ⟨rfl, rfl⟩

set_option maxHeartbeats 2000000 in
theorem walk_CapwordDerive (b e c p s n q : Int) (hr : InR b e c p s) (_hn : 0 ≤ n ∧ n < 18446744073709551616) (hq : 0 ≤ q ∧ q < 256) (w : World) :
    Calls Try.prog 5 #[.agg #[.int .u64 b, .int .u64 e, .int .u64 c, .int .u8 p, .int .i64 s], .int .u64 n, .int .u8 q] w fun x w' => x = .returned (.bool true) ∧ Below w.heap.size w w' := by
  obtain ⟨_, _, _, ⟨hp0, hp1⟩, _⟩ := hr
  obtain ⟨hq0, hq1⟩ := hq
  go_enter Try.func5, Try.ntmps5
  go_wp2_with fail
  refine (examples_any _).mono ?_
  rintro x w1 ⟨rfl, hb⟩
  have hC : At w1 w.heap.size #[.int .u64 b, .int .u64 e, .int .u64 c, .int .u8 p, .int .i64 s] := (At.new _ _ _).below hb
  replace hb := bstep (below_one w _) hb
  have hB := hb
  clear hb
  have q_hC := hC.2.1
  have z_hC := hC.1
  go_wp2_with fail
  refine (setBounds_any _ _ _ _ _ _ _).mono ?_
  rintro x w2 ⟨b1, e1, c1, p1, s1, f1, rfl, hS1, hb⟩
  clear q_hC z_hC
  replace hC := hC.below hb
  replace hB := bstep hB hb
  clear hb
  have q_hC := hC.2.1
  have z_hC := hC.1
  go_wp2_with fail
  refine (refSetBounds_any _ _ _ _ _ _ _).mono ?_
  rintro x w3 ⟨b2, e2, c2, p2, s2, f2, rfl, hS2, hb⟩
  clear q_hC z_hC
  replace hC := (hC.alloc _).below hb
  have hR1 : At w3 w2.heap.size _ := (At.new _ _ _).below hb
  replace hB := bstep (hB.alloc hB.size _) hb
  clear hb
  obtain ⟨rfl, rfl, rfl, rfl, rfl, rfl⟩ := SetB_det hS1 hS2
  have q_hC := hC.2.1
  have z_hC := hC.1
  have q_hR1 := hR1.2.1
  have z_hR1 := hR1.1
  go_wp2_with fail
  refine (andPerm_any _ _ _ _ _ _ _).mono ?_
  rintro x w4 ⟨b3, e3, c3, p3, s3, f3, rfl, hS3, hb⟩
  clear q_hC z_hC q_hR1 z_hR1
  replace hC := (hC.alloc _).below hb
  replace hR1 := (hR1.alloc _).below hb
  have hR2 : At w4 w3.heap.size _ := (At.new _ _ _).below hb
  replace hB := bstep (hB.alloc hB.size _) hb
  clear hb
  have q_hC := hC.2.1
  have z_hC := hC.1
  have q_hR1 := hR1.2.1
  have z_hR1 := hR1.1
  have q_hR2 := hR2.2.1
  have z_hR2 := hR2.1
  go_wp2_with fail
  refine (refAndPerm_any _ _ _ _ _ _ _ hp0 hp1 hq0 hq1).mono ?_
  rintro x w5 ⟨b4, e4, c4, p4, s4, f4, rfl, hS4, hb⟩
  clear q_hC z_hC q_hR1 z_hR1 q_hR2 z_hR2
  replace hC := (hC.alloc _).below hb
  replace hR1 := (hR1.alloc _).below hb
  replace hR2 := (hR2.alloc _).below hb
  have hR3 : At w5 w4.heap.size _ := (At.new _ _ _).below hb
  replace hB := bstep (hB.alloc hB.size _) hb
  clear hb
  obtain ⟨rfl, rfl, rfl, rfl, rfl, rfl⟩ := AndP_det hS3 hS4
  have q_hC := hC.2.1
  have z_hC := hC.1
  have q_hR1 := hR1.2.1
  have z_hR1 := hR1.1
  have q_hR2 := hR2.2.1
  have z_hR2 := hR2.1
  have q_hR3 := hR3.2.1
  have z_hR3 := hR3.1
  go_wp2_with fail
  refine (inc_any _ _ _ _ _ _ _).mono ?_
  rintro x w6 ⟨b5, e5, c5, p5, s5, f5, rfl, hS5, hb⟩
  clear q_hC z_hC q_hR1 z_hR1 q_hR2 z_hR2 q_hR3 z_hR3
  replace hC := (hC.alloc _).below hb
  replace hR1 := (hR1.alloc _).below hb
  replace hR2 := (hR2.alloc _).below hb
  replace hR3 := (hR3.alloc _).below hb
  have hR4 : At w6 w5.heap.size _ := (At.new _ _ _).below hb
  replace hB := bstep (hB.alloc hB.size _) hb
  clear hb
  have q_hC := hC.2.1
  have z_hC := hC.1
  have q_hR1 := hR1.2.1
  have z_hR1 := hR1.1
  have q_hR2 := hR2.2.1
  have z_hR2 := hR2.1
  have q_hR3 := hR3.2.1
  have z_hR3 := hR3.1
  have q_hR4 := hR4.2.1
  have z_hR4 := hR4.1
  go_wp2_with fail
  refine (refInc_any _ _ _ _ _ _ _).mono ?_
  rintro x w7 ⟨b6, e6, c6, p6, s6, f6, rfl, hS6, hb⟩
  clear q_hC z_hC q_hR1 z_hR1 q_hR2 z_hR2 q_hR3 z_hR3 q_hR4 z_hR4
  replace hC := (hC.alloc _).below hb
  replace hR1 := (hR1.alloc _).below hb
  replace hR2 := (hR2.alloc _).below hb
  replace hR3 := (hR3.alloc _).below hb
  replace hR4 := (hR4.alloc _).below hb
  have hR5 : At w7 w6.heap.size _ := (At.new _ _ _).below hb
  replace hB := bstep (hB.alloc hB.size _) hb
  clear hb
  obtain ⟨rfl, rfl, rfl, rfl, rfl, rfl⟩ := IncR_det hS5 hS6
  have q_hC := hC.2.1
  have z_hC := hC.1
  have q_hR1 := hR1.2.1
  have z_hR1 := hR1.1
  have q_hR2 := hR2.2.1
  have z_hR2 := hR2.1
  have q_hR3 := hR3.2.1
  have z_hR3 := hR3.1
  have q_hR4 := hR4.2.1
  have z_hR4 := hR4.1
  have q_hR5 := hR5.2.1
  have z_hR5 := hR5.1
  go_wp2_with fail
  refine (setBounds_any _ _ _ _ _ _ _).mono ?_
  rintro x w8 ⟨b7, e7, c7, p7, s7, f7, rfl, hS7, hb⟩
  clear q_hC z_hC q_hR1 z_hR1 q_hR2 z_hR2 q_hR3 z_hR3 q_hR4 z_hR4 q_hR5 z_hR5
  replace hC := (hC.alloc _).below hb
  replace hR1 := (hR1.alloc _).below hb
  replace hR2 := (hR2.alloc _).below hb
  replace hR3 := (hR3.alloc _).below hb
  replace hR4 := (hR4.alloc _).below hb
  replace hR5 := (hR5.alloc _).below hb
  have hR6 : At w8 w7.heap.size _ := (At.new _ _ _).below hb
  replace hB := bstep (hB.alloc hB.size _) hb
  clear hb
  obtain ⟨rfl, rfl, rfl, rfl, rfl, rfl⟩ := SetB_det hS1 hS7
  have q_hC := hC.2.1
  have z_hC := hC.1
  have q_hR1 := hR1.2.1
  have z_hR1 := hR1.1
  have q_hR2 := hR2.2.1
  have z_hR2 := hR2.1
  have q_hR3 := hR3.2.1
  have z_hR3 := hR3.1
  have q_hR4 := hR4.2.1
  have z_hR4 := hR4.1
  have q_hR5 := hR5.2.1
  have z_hR5 := hR5.1
  have q_hR6 := hR6.2.1
  have z_hR6 := hR6.1
  go_wp2
  go_ret
  exact ⟨ret_bool (by simp), hB.alloc hB.size _⟩
end Go.Proofs.Ytmnmflpbpklmiab
