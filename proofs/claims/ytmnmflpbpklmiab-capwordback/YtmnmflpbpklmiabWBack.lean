/-
  Stage 1, capword: the walk of the statement on sealing there and back.
-/
import Derived.Test.YtmnmflpbpklmiabExB
import Derived.Test.YtmnmflpbpklmiabOpen
import Derived.Test.YtmnmflpbpklmiabPlainD
import Derived.Test.YtmnmflpbpklmiabCapsB
import Derived.Test.YtmnmflpbpklmiabCapsN
import Derived.Deep.DeepCutAuto
namespace Go.Proofs.Ytmnmflpbpklmiab
open Go.RowKit

theorem k_neg (n : Int) (h : n < 0) (h0 : -9223372036854775808 ≤ n) : 1 ≤ IntKind.u64.wrap (wrap64 (1 + -(n + 1).tmod 15)) ∧ IntKind.u64.wrap (wrap64 (1 + -(n + 1).tmod 15)) ≤ 15 := by
  have h1 : -(n + 1).tmod 15 = -(n + 1) % 15 := by
    rw [← Int.neg_tmod, Int.tmod_eq_emod_of_nonneg (by omega)]
  rw [h1, IntKind.wrap_u64]
  unfold wrap64
  omega

set_option maxHeartbeats 2000000 in
theorem walk_CapwordBack (b e c p s n wide q m : Int) (hr : InR b e c p s) (hn : -9223372036854775808 ≤ n ∧ n < 9223372036854775808) (hw : 0 ≤ wide ∧ wide < 18446744073709551616) (_hq : 0 ≤ q ∧ q < 256) (_hm : 0 ≤ m ∧ m < 18446744073709551616) (w : World) :
    Calls Try.prog 4 #[.agg #[.int .u64 b, .int .u64 e, .int .u64 c, .int .u8 p, .int .i64 s], .int .i64 n, .int .u64 wide, .int .u8 q, .int .u64 m] w fun x w' => x = .returned (.bool true) ∧ Below w.heap.size w w' := by
  obtain ⟨hn0, hn1⟩ := hn
  obtain ⟨hw0, hw1⟩ := hw
  by_cases hneg : n < 0
  · go_enter Try.func4, Try.ntmps4
    go_wp2_with fail
    refine (examples_any _).mono ?_
    rintro x w1 ⟨rfl, hb⟩
    have hC : At w1 w.heap.size #[.int .u64 b, .int .u64 e, .int .u64 c, .int .u8 p, .int .i64 s] := (At.new _ _ _).below hb
    have hB := bstep (below_one w _) hb
    clear hb
    have q_hC := hC.2.1
    have z_hC := hC.1
    go_wp2_with fail
    refine (built_any _ _ _ _ _ _ hr).mono ?_
    rintro x w2 ⟨b1, e1, p1, s1, rfl, hR, hb⟩
    clear q_hC z_hC
    replace hC := hC.below hb
    replace hB := bstep hB hb
    clear hb hR
    have q_hC := hC.2.1
    have z_hC := hC.1
    have f_hC := hC.2.2
    go_upto_region 3 with fail
    clear q_hC z_hC
    clear f_hC
    refine wp_world (fun w3 => At w3 w.heap.size #[.int .u64 b1, .int .u64 e1, .int .u64 c, .int .u8 p1, .int .i64 s1] ∧ Below w.heap.size w w3) ⟨?_, ?_⟩ ?_
    · exact ((((hC.set 0 _ (by simp)).set 1 _ (by simp)).set 2 _ (by simp)).set 3 _ (by simp)).set 4 _ (by simp)
    · exact ((((hB.setCell (by simp) _).setCell (by simp) _).setCell (by simp) _).setCell (by simp) _).setCell (by simp) _
    clear hC hB
    rintro w3 ⟨hC, hB⟩
    have q_hC := hC.2.1
    have z_hC := hC.1
    have f_hC := hC.2.2
    go_upto_region 7 with fail
    clear q_hC z_hC
    clear f_hC
    refine wp_world (fun w4 => At w4 w.heap.size #[.int .u64 b1, .int .u64 e1, .int .u64 c, .int .u8 p1, .int .i64 0] ∧ Below w.heap.size w w4) ⟨hC.set 4 _ (by simp), hB.setCell (by simp) _⟩ ?_
    clear hC hB
    rintro w4 ⟨hC, hB⟩
    have hw4 := hB.size
    obtain ⟨hk1, hk2⟩ := k_neg n hneg hn0
    generalize IntKind.u64.wrap (wrap64 (1 + -(n + 1).tmod 15)) = k at hk1 hk2 ⊢
    have q_hC := hC.2.1
    have z_hC := hC.1
    go_wp2_with fail
    refine (sealBy_any _ _ _ _ _ _ _ _ _ _ _).mono ?_
    rintro x w5 ⟨b2, e2, c2, p2, s2, f2, rfl, hS, hb⟩
    clear q_hC z_hC
    replace hC := ((hC.alloc _).alloc _).below hb
    have hY : At w5 w4.heap.size #[.int .u64 (wide % 2), .int .u64 (16 + wide % 1000), .int .u64 k, .int .u8 32, .int .i64 0] := ((At.new _ _ _).alloc _).below hb
    have hT : At w5 (w4.heap.size + 1) #[.int .u64 k, .int .u64 (k + 1), .int .u64 k, .int .u8 64, .int .i64 0] := (size_one w4 _ ▸ At.new (w4.alloc _) _ _ : At _ (w4.heap.size + 1) _).below hb
    replace hB := bstep ((hB.alloc hB.size _).alloc (by have := hB.size; simp; omega) _) hb
    clear hb
    obtain ⟨rfl, rfl, rfl, rfl, rfl, rfl⟩ := seal_ok hS (by omega) (by omega) hk1 hk2
    clear hS
    have q_hC := hC.2.1
    have z_hC := hC.1
    have q_hY := hY.2.1
    have z_hY := hY.1
    have q_hT := hT.2.1
    have z_hT := hT.1
    go_wp2_with fail
    refine (unsealBy_any _ _ _ _ _ _ _ _ _ _ _ (by omega)).mono ?_
    rintro x w6 ⟨b3, e3, c3, p3, s3, f3, rfl, hU, hb⟩
    have hTS : w4.heap.size + 1 ≠ w5.heap.size := by have := hT.1; omega
    have hwT : w.heap.size ≤ w4.heap.size + 1 := by have := hw4; omega
    clear q_hC z_hC q_hY z_hY q_hT z_hT
    replace hC := (hC.alloc _).below hb
    replace hY := (hY.alloc _).below hb
    replace hT := (hT.alloc _).below hb
    have hS : At w6 w5.heap.size _ := (At.new _ _ _).below hb
    replace hB := bstep (hB.alloc hB.size _) hb
    clear hb
    obtain ⟨rfl, rfl, rfl, rfl, rfl, rfl⟩ := unseal_ok hU (by omega) (by omega) (by omega)
    clear hU
    have hk0 : k ≠ 0 := by omega
    have hk0' : (k == 0) = false := by simpa using hk0
    have q_hC := hC.2.1
    have z_hC := hC.1
    have q_hY := hY.2.1
    have z_hY := hY.1
    have q_hT := hT.2.1
    have z_hT := hT.1
    have q_hS := hS.2.1
    have z_hS := hS.1
    go_wp2_with fail
    refine (setBounds_any _ _ _ _ _ _ _).mono ?_
    rintro x w7 ⟨b4, e4, c4, p4, s4, f4, rfl, hU, hb⟩
    clear q_hC z_hC q_hY z_hY q_hT z_hT q_hS z_hS
    replace hC := (hC.alloc _).below hb
    replace hY := (hY.alloc _).below hb
    replace hT := (hT.alloc _).below hb
    replace hS := (hS.alloc _).below hb
    have hD : At w7 w6.heap.size _ := (At.new _ _ _).below hb
    replace hB := bstep (hB.alloc hB.size _) hb
    clear hb
    obtain rfl := set_sealed hU hk0
    clear hU hD hC
    have q_hY := hY.2.1
    have z_hY := hY.1
    have q_hT := hT.2.1
    have z_hT := hT.1
    have q_hS := hS.2.1
    have z_hS := hS.1
    go_wp2_with fail
    refine (andPerm_any _ _ _ _ _ _ _).mono ?_
    rintro x w8 ⟨b5, e5, c5, p5, s5, f5, rfl, hU, hb⟩
    clear q_hY z_hY q_hT z_hT q_hS z_hS
    replace hY := (hY.alloc _).below hb
    replace hT := (hT.alloc _).below hb
    replace hS := (hS.alloc _).below hb
    have _h7 : At w8 w7.heap.size _ := (At.new _ _ _).below hb
    replace hB := bstep (hB.alloc hB.size _) hb
    clear hb
    obtain rfl := and_sealed hU hk0
    clear hU
    have q_hY := hY.2.1
    have z_hY := hY.1
    have q_hT := hT.2.1
    have z_hT := hT.1
    have q_hS := hS.2.1
    have z_hS := hS.1
    go_wp2_with fail
    refine (inc_any _ _ _ _ _ _ _).mono ?_
    rintro x w9 ⟨b6, e6, c6, p6, s6, f6, rfl, hU, hb⟩
    clear q_hY z_hY q_hT z_hT q_hS z_hS
    replace hY := (hY.alloc _).below hb
    replace hT := (hT.alloc _).below hb
    replace hS := (hS.alloc _).below hb
    have _h8 : At w9 w8.heap.size _ := (At.new _ _ _).below hb
    replace hB := bstep (hB.alloc hB.size _) hb
    clear hb
    obtain rfl := inc_sealed hU hk0
    clear hU
    have q_hY := hY.2.1
    have z_hY := hY.1
    have q_hT := hT.2.1
    have z_hT := hT.1
    have q_hS := hS.2.1
    have z_hS := hS.1
    go_wp2_with fail
    refine (sealBy_any _ _ _ _ _ _ _ _ _ _ _).mono ?_
    rintro x w10 ⟨b7, e7, c7, p7, s7, f7, rfl, hU, hb⟩
    clear q_hY z_hY q_hT z_hT q_hS z_hS
    replace hY := (hY.alloc _).below hb
    replace hT := (hT.alloc _).below hb
    replace hS := (hS.alloc _).below hb
    have _h9 : At w10 w9.heap.size _ := (At.new _ _ _).below hb
    replace hB := bstep (hB.alloc hB.size _) hb
    clear hb
    obtain rfl := seal_sealed hU hk0
    clear hU hY
    have q_hT := hT.2.1
    have z_hT := hT.1
    have q_hS := hS.2.1
    have z_hS := hS.1
    have f_hT := hT.2.2
    go_upto_region 19 with fail
    clear q_hT z_hT q_hS z_hS
    clear f_hT
    have hne : w4.heap.size + 1 ≠ w5.heap.size := hTS
    refine wp_world (fun w11 => At w11 (w4.heap.size + 1) #[.int .u64 k, .int .u64 (k + 2), .int .u64 (k + 1), .int .u8 64, .int .i64 0] ∧ At w11 w5.heap.size #[.int .u64 b1, .int .u64 e1, .int .u64 c, .int .u8 p1, .int .i64 k] ∧ Below w.heap.size w w11) ⟨?_, ?_, ?_⟩ ?_
    · exact ((hT.set 2 _ (by simp)).set 1 _ (by simp)).alloc _
    · exact ((hS.set_other _ hne).set_other _ hne).alloc _
    · exact Below.alloc (Below.setCell (Below.setCell hB (by exact hwT) _) (by exact hwT) _) (by have := hB.size; simpa using this) _
    clear hT hS hB
    rintro w11 ⟨hT, hS, hB⟩
    have q_hT := hT.2.1
    have z_hT := hT.1
    have q_hS := hS.2.1
    have z_hS := hS.1
    go_wp2_with fail
    refine (unsealBy_any _ _ _ _ _ _ _ _ _ _ _ (by omega)).mono ?_
    rintro x w12 ⟨b8, e8, c8, p8, s8, f8, rfl, hU, hb⟩
    clear q_hT z_hT q_hS z_hS
    replace hT := hT.below hb
    replace hS := hS.below hb
    replace hB := bstep hB hb
    clear hb
    obtain rfl := unseal_other hU (by omega) hk0 (by omega)
    clear hU
    have q_hT := hT.2.1
    have z_hT := hT.1
    have q_hS := hS.2.1
    have z_hS := hS.1
    have f_hT := hT.2.2
    go_upto_region 21 with fail
    clear q_hT z_hT q_hS z_hS
    clear f_hT
    refine wp_world (fun w13 => At w13 (w4.heap.size + 1) #[.int .u64 k, .int .u64 (k + 2), .int .u64 (k + 1), .int .u8 63, .int .i64 0] ∧ At w13 w5.heap.size #[.int .u64 b1, .int .u64 e1, .int .u64 c, .int .u8 p1, .int .i64 k] ∧ Below w.heap.size w w13) ⟨?_, ?_, ?_⟩ ?_
    · exact (hT.set 3 _ (by simp)).alloc _
    · exact (hS.set_other _ hne).alloc _
    · exact Below.alloc (Below.setCell hB (by exact hwT) _) (by have := hB.size; simpa using this) _
    clear hT hS hB
    rintro w13 ⟨hT, hS, hB⟩
    have q_hT := hT.2.1
    have z_hT := hT.1
    have q_hS := hS.2.1
    have z_hS := hS.1
    go_wp2_with fail
    refine (unsealBy_any _ _ _ _ _ _ _ _ _ _ _ (by omega)).mono ?_
    rintro x w14 ⟨b9, e9, c9, p9, s9, f9, rfl, hU, hb⟩
    clear q_hT z_hT q_hS z_hS
    replace hT := hT.below hb
    replace hS := hS.below hb
    replace hB := bstep hB hb
    clear hb
    obtain rfl := unseal_perm hU hk0
    clear hU hT
    have q_hS := hS.2.1
    have z_hS := hS.1
    go_wp2_with fail
    refine (access_any _ _ _ _ _ _ _ _ _).mono ?_
    rintro x w15 ⟨rfl, hb⟩
    clear q_hS z_hS
    rw [access_sealed hk0]
    replace hB := bstep (hB.alloc hB.size _) hb
    clear hb
    go_wp2
    go_ret
    exact ⟨ret_bool (by simp), hB⟩
  · go_enter Try.func4, Try.ntmps4
    go_wp2_with fail
    refine (examples_any _).mono ?_
    rintro x w1 ⟨rfl, hb⟩
    have hC : At w1 w.heap.size #[.int .u64 b, .int .u64 e, .int .u64 c, .int .u8 p, .int .i64 s] := (At.new _ _ _).below hb
    have hB := bstep (below_one w _) hb
    clear hb
    have q_hC := hC.2.1
    have z_hC := hC.1
    go_wp2_with fail
    refine (built_any _ _ _ _ _ _ hr).mono ?_
    rintro x w2 ⟨b1, e1, p1, s1, rfl, hR, hb⟩
    clear q_hC z_hC
    replace hC := hC.below hb
    replace hB := bstep hB hb
    clear hb hR
    have q_hC := hC.2.1
    have z_hC := hC.1
    have f_hC := hC.2.2
    go_upto_region 3 with fail
    clear q_hC z_hC
    clear f_hC
    refine wp_world (fun w3 => At w3 w.heap.size #[.int .u64 b1, .int .u64 e1, .int .u64 c, .int .u8 p1, .int .i64 s1] ∧ Below w.heap.size w w3) ⟨?_, ?_⟩ ?_
    · exact ((((hC.set 0 _ (by simp)).set 1 _ (by simp)).set 2 _ (by simp)).set 3 _ (by simp)).set 4 _ (by simp)
    · exact ((((hB.setCell (by simp) _).setCell (by simp) _).setCell (by simp) _).setCell (by simp) _).setCell (by simp) _
    clear hC hB
    rintro w3 ⟨hC, hB⟩
    have q_hC := hC.2.1
    have z_hC := hC.1
    have f_hC := hC.2.2
    go_upto_region 7 with fail
    clear q_hC z_hC
    clear f_hC
    refine wp_world (fun w4 => At w4 w.heap.size #[.int .u64 b1, .int .u64 e1, .int .u64 c, .int .u8 p1, .int .i64 0] ∧ Below w.heap.size w w4) ⟨hC.set 4 _ (by simp), hB.setCell (by simp) _⟩ ?_
    clear hC hB
    rintro w4 ⟨hC, hB⟩
    have hw4 := hB.size
    have hk1 : 1 ≤ 1 + n % 15 := by omega
    have hk2 : 1 + n % 15 ≤ 15 := by omega
    generalize 1 + n % 15 = k at hk1 hk2 ⊢
    have q_hC := hC.2.1
    have z_hC := hC.1
    go_wp2_with fail
    refine (sealBy_any _ _ _ _ _ _ _ _ _ _ _).mono ?_
    rintro x w5 ⟨b2, e2, c2, p2, s2, f2, rfl, hS, hb⟩
    clear q_hC z_hC
    replace hC := ((hC.alloc _).alloc _).below hb
    have hY : At w5 w4.heap.size #[.int .u64 (wide % 2), .int .u64 (16 + wide % 1000), .int .u64 k, .int .u8 32, .int .i64 0] := ((At.new _ _ _).alloc _).below hb
    have hT : At w5 (w4.heap.size + 1) #[.int .u64 k, .int .u64 (k + 1), .int .u64 k, .int .u8 64, .int .i64 0] := (size_one w4 _ ▸ At.new (w4.alloc _) _ _ : At _ (w4.heap.size + 1) _).below hb
    replace hB := bstep ((hB.alloc hB.size _).alloc (by have := hB.size; simp; omega) _) hb
    clear hb
    obtain ⟨rfl, rfl, rfl, rfl, rfl, rfl⟩ := seal_ok hS (by omega) (by omega) hk1 hk2
    clear hS
    have q_hC := hC.2.1
    have z_hC := hC.1
    have q_hY := hY.2.1
    have z_hY := hY.1
    have q_hT := hT.2.1
    have z_hT := hT.1
    go_wp2_with fail
    refine (unsealBy_any _ _ _ _ _ _ _ _ _ _ _ (by omega)).mono ?_
    rintro x w6 ⟨b3, e3, c3, p3, s3, f3, rfl, hU, hb⟩
    have hTS : w4.heap.size + 1 ≠ w5.heap.size := by have := hT.1; omega
    have hwT : w.heap.size ≤ w4.heap.size + 1 := by have := hw4; omega
    clear q_hC z_hC q_hY z_hY q_hT z_hT
    replace hC := (hC.alloc _).below hb
    replace hY := (hY.alloc _).below hb
    replace hT := (hT.alloc _).below hb
    have hS : At w6 w5.heap.size _ := (At.new _ _ _).below hb
    replace hB := bstep (hB.alloc hB.size _) hb
    clear hb
    obtain ⟨rfl, rfl, rfl, rfl, rfl, rfl⟩ := unseal_ok hU (by omega) (by omega) (by omega)
    clear hU
    have hk0 : k ≠ 0 := by omega
    have hk0' : (k == 0) = false := by simpa using hk0
    have q_hC := hC.2.1
    have z_hC := hC.1
    have q_hY := hY.2.1
    have z_hY := hY.1
    have q_hT := hT.2.1
    have z_hT := hT.1
    have q_hS := hS.2.1
    have z_hS := hS.1
    go_wp2_with fail
    refine (setBounds_any _ _ _ _ _ _ _).mono ?_
    rintro x w7 ⟨b4, e4, c4, p4, s4, f4, rfl, hU, hb⟩
    clear q_hC z_hC q_hY z_hY q_hT z_hT q_hS z_hS
    replace hC := (hC.alloc _).below hb
    replace hY := (hY.alloc _).below hb
    replace hT := (hT.alloc _).below hb
    replace hS := (hS.alloc _).below hb
    have hD : At w7 w6.heap.size _ := (At.new _ _ _).below hb
    replace hB := bstep (hB.alloc hB.size _) hb
    clear hb
    obtain rfl := set_sealed hU hk0
    clear hU hD hC
    have q_hY := hY.2.1
    have z_hY := hY.1
    have q_hT := hT.2.1
    have z_hT := hT.1
    have q_hS := hS.2.1
    have z_hS := hS.1
    go_wp2_with fail
    refine (andPerm_any _ _ _ _ _ _ _).mono ?_
    rintro x w8 ⟨b5, e5, c5, p5, s5, f5, rfl, hU, hb⟩
    clear q_hY z_hY q_hT z_hT q_hS z_hS
    replace hY := (hY.alloc _).below hb
    replace hT := (hT.alloc _).below hb
    replace hS := (hS.alloc _).below hb
    have _h7 : At w8 w7.heap.size _ := (At.new _ _ _).below hb
    replace hB := bstep (hB.alloc hB.size _) hb
    clear hb
    obtain rfl := and_sealed hU hk0
    clear hU
    have q_hY := hY.2.1
    have z_hY := hY.1
    have q_hT := hT.2.1
    have z_hT := hT.1
    have q_hS := hS.2.1
    have z_hS := hS.1
    go_wp2_with fail
    refine (inc_any _ _ _ _ _ _ _).mono ?_
    rintro x w9 ⟨b6, e6, c6, p6, s6, f6, rfl, hU, hb⟩
    clear q_hY z_hY q_hT z_hT q_hS z_hS
    replace hY := (hY.alloc _).below hb
    replace hT := (hT.alloc _).below hb
    replace hS := (hS.alloc _).below hb
    have _h8 : At w9 w8.heap.size _ := (At.new _ _ _).below hb
    replace hB := bstep (hB.alloc hB.size _) hb
    clear hb
    obtain rfl := inc_sealed hU hk0
    clear hU
    have q_hY := hY.2.1
    have z_hY := hY.1
    have q_hT := hT.2.1
    have z_hT := hT.1
    have q_hS := hS.2.1
    have z_hS := hS.1
    go_wp2_with fail
    refine (sealBy_any _ _ _ _ _ _ _ _ _ _ _).mono ?_
    rintro x w10 ⟨b7, e7, c7, p7, s7, f7, rfl, hU, hb⟩
    clear q_hY z_hY q_hT z_hT q_hS z_hS
    replace hY := (hY.alloc _).below hb
    replace hT := (hT.alloc _).below hb
    replace hS := (hS.alloc _).below hb
    have _h9 : At w10 w9.heap.size _ := (At.new _ _ _).below hb
    replace hB := bstep (hB.alloc hB.size _) hb
    clear hb
    obtain rfl := seal_sealed hU hk0
    clear hU hY
    have q_hT := hT.2.1
    have z_hT := hT.1
    have q_hS := hS.2.1
    have z_hS := hS.1
    have f_hT := hT.2.2
    go_upto_region 19 with fail
    clear q_hT z_hT q_hS z_hS
    clear f_hT
    have hne : w4.heap.size + 1 ≠ w5.heap.size := hTS
    refine wp_world (fun w11 => At w11 (w4.heap.size + 1) #[.int .u64 k, .int .u64 (k + 2), .int .u64 (k + 1), .int .u8 64, .int .i64 0] ∧ At w11 w5.heap.size #[.int .u64 b1, .int .u64 e1, .int .u64 c, .int .u8 p1, .int .i64 k] ∧ Below w.heap.size w w11) ⟨?_, ?_, ?_⟩ ?_
    · exact ((hT.set 2 _ (by simp)).set 1 _ (by simp)).alloc _
    · exact ((hS.set_other _ hne).set_other _ hne).alloc _
    · exact Below.alloc (Below.setCell (Below.setCell hB (by exact hwT) _) (by exact hwT) _) (by have := hB.size; simpa using this) _
    clear hT hS hB
    rintro w11 ⟨hT, hS, hB⟩
    have q_hT := hT.2.1
    have z_hT := hT.1
    have q_hS := hS.2.1
    have z_hS := hS.1
    go_wp2_with fail
    refine (unsealBy_any _ _ _ _ _ _ _ _ _ _ _ (by omega)).mono ?_
    rintro x w12 ⟨b8, e8, c8, p8, s8, f8, rfl, hU, hb⟩
    clear q_hT z_hT q_hS z_hS
    replace hT := hT.below hb
    replace hS := hS.below hb
    replace hB := bstep hB hb
    clear hb
    obtain rfl := unseal_other hU (by omega) hk0 (by omega)
    clear hU
    have q_hT := hT.2.1
    have z_hT := hT.1
    have q_hS := hS.2.1
    have z_hS := hS.1
    have f_hT := hT.2.2
    go_upto_region 21 with fail
    clear q_hT z_hT q_hS z_hS
    clear f_hT
    refine wp_world (fun w13 => At w13 (w4.heap.size + 1) #[.int .u64 k, .int .u64 (k + 2), .int .u64 (k + 1), .int .u8 63, .int .i64 0] ∧ At w13 w5.heap.size #[.int .u64 b1, .int .u64 e1, .int .u64 c, .int .u8 p1, .int .i64 k] ∧ Below w.heap.size w w13) ⟨?_, ?_, ?_⟩ ?_
    · exact (hT.set 3 _ (by simp)).alloc _
    · exact (hS.set_other _ hne).alloc _
    · exact Below.alloc (Below.setCell hB (by exact hwT) _) (by have := hB.size; simpa using this) _
    clear hT hS hB
    rintro w13 ⟨hT, hS, hB⟩
    have q_hT := hT.2.1
    have z_hT := hT.1
    have q_hS := hS.2.1
    have z_hS := hS.1
    go_wp2_with fail
    refine (unsealBy_any _ _ _ _ _ _ _ _ _ _ _ (by omega)).mono ?_
    rintro x w14 ⟨b9, e9, c9, p9, s9, f9, rfl, hU, hb⟩
    clear q_hT z_hT q_hS z_hS
    replace hT := hT.below hb
    replace hS := hS.below hb
    replace hB := bstep hB hb
    clear hb
    obtain rfl := unseal_perm hU hk0
    clear hU hT
    have q_hS := hS.2.1
    have z_hS := hS.1
    go_wp2_with fail
    refine (access_any _ _ _ _ _ _ _ _ _).mono ?_
    rintro x w15 ⟨rfl, hb⟩
    clear q_hS z_hS
    rw [access_sealed hk0]
    replace hB := bstep (hB.alloc hB.size _) hb
    clear hb
    go_wp2
    go_ret
    exact ⟨ret_bool (by simp), hB⟩
end Go.Proofs.Ytmnmflpbpklmiab
