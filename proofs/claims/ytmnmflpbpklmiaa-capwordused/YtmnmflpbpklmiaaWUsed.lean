/-
  Stage 1, capword: the walk of the statement on what is used.
-/
import Derived.Test.YtmnmflpbpklmiaaExB
import Derived.Test.YtmnmflpbpklmiaaOpen
import Derived.Test.YtmnmflpbpklmiaaPlainE
import Derived.Test.YtmnmflpbpklmiaaCapsN
import Derived.Deep.DeepCutAuto
namespace Go.Proofs.Ytmnmflpbpklmiaa
open Go.RowKit

set_option maxHeartbeats 2000000 in
theorem walk_CapwordUsed (b e c p s b' e' c' p' s' off n q : Int) (hr : InR b e c p s) (hr' : InR b' e' c' p' s') (ho : 0 ≤ off ∧ off < 18446744073709551616) (hn : 0 ≤ n ∧ n < 18446744073709551616) (hq : 0 ≤ q ∧ q < 256) (w : World) :
    Calls Try.prog 4 #[.agg #[.int .u64 b, .int .u64 e, .int .u64 c, .int .u8 p, .int .i64 s], .agg #[.int .u64 b', .int .u64 e', .int .u64 c', .int .u8 p', .int .i64 s'], .int .u64 off, .int .u64 n, .int .u8 q] w fun x w' => x = .returned (.bool true) ∧ Below w.heap.size w w' := by
  obtain ⟨ho0, ho1⟩ := ho
  obtain ⟨hn0, hn1⟩ := hn
  go_enter Try.func4, Try.ntmps4
  go_wp2_with fail
  refine (examples_any _).mono ?_
  rintro x w1 ⟨rfl, hb⟩
  have hX : At w1 w.heap.size #[.int .u64 b, .int .u64 e, .int .u64 c, .int .u8 p, .int .i64 s] := ((At.new _ _ _).alloc _).below hb
  have hY : At w1 (w.heap.size + 1) #[.int .u64 b', .int .u64 e', .int .u64 c', .int .u8 p', .int .i64 s'] := (size_one w _ ▸ At.new (w.alloc _) _ _ : At _ (w.heap.size + 1) _).below hb
  have hB := bstep (below_two w _ _) hb
  clear hb
  have q_hX := hX.2.1
  have z_hX := hX.1
  have q_hY := hY.2.1
  have z_hY := hY.1
  go_wp2_with fail
  refine (near_any _ _ _ _ _ _ hr).mono ?_
  rintro x w2 ⟨b1, e1, c1, p1, s1, rfl, hN, hb⟩
  clear q_hX z_hX q_hY z_hY
  replace hX := hX.below hb
  replace hY := hY.below hb
  replace hB := bstep hB hb
  clear hb
  have q_hX := hX.2.1
  have z_hX := hX.1
  have q_hY := hY.2.1
  have z_hY := hY.1
  have f_hX := hX.2.2
  go_upto_region 3 with fail
  clear q_hX z_hX q_hY z_hY
  clear f_hX
  refine wp_world (fun w3 => At w3 w.heap.size #[.int .u64 b1, .int .u64 e1, .int .u64 c1, .int .u8 p1, .int .i64 s1] ∧ At w3 (w.heap.size + 1) #[.int .u64 b', .int .u64 e', .int .u64 c', .int .u8 p', .int .i64 s'] ∧ Below w.heap.size w w3) ⟨?_, ?_, ?_⟩ ?_
  · exact ((((hX.set 0 _ (by simp)).set 1 _ (by simp)).set 2 _ (by simp)).set 3 _ (by simp)).set 4 _ (by simp)
  · exact ((((hY.set_other _ (by omega)).set_other _ (by omega)).set_other _ (by omega)).set_other _ (by omega)).set_other _ (by omega)
  · exact ((((hB.setCell (by simp) _).setCell (by simp) _).setCell (by simp) _).setCell (by simp) _).setCell (by simp) _
  clear hX hY hB
  rintro w3 ⟨hX, hY, hB⟩
  have q_hX := hX.2.1
  have z_hX := hX.1
  have q_hY := hY.2.1
  have z_hY := hY.1
  go_wp2_with fail
  refine (near_any _ _ _ _ _ _ hr').mono ?_
  rintro x w4 ⟨b2, e2, c2, p2, s2, rfl, hM, hb⟩
  clear q_hX z_hX q_hY z_hY
  replace hX := hX.below hb
  replace hY := hY.below hb
  replace hB := bstep hB hb
  clear hb
  have q_hX := hX.2.1
  have z_hX := hX.1
  have q_hY := hY.2.1
  have z_hY := hY.1
  have f_hY := hY.2.2
  go_upto_region 4 with fail
  clear q_hX z_hX q_hY z_hY
  clear f_hY
  refine wp_world (fun w5 => At w5 w.heap.size #[.int .u64 b1, .int .u64 e1, .int .u64 c1, .int .u8 p1, .int .i64 s1] ∧ At w5 (w.heap.size + 1) #[.int .u64 b2, .int .u64 e2, .int .u64 c2, .int .u8 p2, .int .i64 s2] ∧ Below w.heap.size w w5) ⟨?_, ?_, ?_⟩ ?_
  · exact ((((hX.set_other _ (by omega)).set_other _ (by omega)).set_other _ (by omega)).set_other _ (by omega)).set_other _ (by omega)
  · exact ((((hY.set 0 _ (by simp)).set 1 _ (by simp)).set 2 _ (by simp)).set 3 _ (by simp)).set 4 _ (by simp)
  · exact ((((hB.setCell (by simp) _).setCell (by simp) _).setCell (by simp) _).setCell (by simp) _).setCell (by simp) _
  clear hX hY hB
  rintro w5 ⟨hX, hY, hB⟩
  have q_hX := hX.2.1
  have z_hX := hX.1
  have q_hY := hY.2.1
  have z_hY := hY.1
  have f_hY := hY.2.2
  go_upto_region 7 with fail
  clear q_hX z_hX q_hY z_hY
  clear f_hY
  refine wp_world (fun w6 => At w6 w.heap.size #[.int .u64 b1, .int .u64 e1, .int .u64 c1, .int .u8 p1, .int .i64 s1] ∧ At w6 (w.heap.size + 1) #[.int .u64 b2, .int .u64 e2, .int .u64 c1, .int .u8 p2, .int .i64 s2] ∧ Below w.heap.size w w6) ⟨hX.set_other _ (by omega), hY.set 2 _ (by simp), hB.setCell (by simp) _⟩ ?_
  clear hX hY hB
  rintro w6 ⟨hX, hY, hB⟩
  have hm0 : 0 ≤ n % 20 := by omega
  have hm1 : n % 20 < 20 := by omega
  generalize n % 20 = m at hm0 hm1 ⊢
  generalize IntKind.u64.wrap (off % 40 - 20) = o at ⊢
  have q_hX := hX.2.1
  have z_hX := hX.1
  have q_hY := hY.2.1
  have z_hY := hY.1
  go_wp2_with fail
  refine (access_any _ _ _ _ _ _ _ _ _).mono ?_
  rintro x w7 ⟨rfl, hb⟩
  clear q_hX z_hX q_hY z_hY
  replace hX := hX.below hb
  replace hY := hY.below hb
  replace hB := bstep hB hb
  clear hb
  have q_hX := hX.2.1
  have z_hX := hX.1
  have q_hY := hY.2.1
  have z_hY := hY.1
  go_wp2_with fail
  refine (access_any _ _ _ _ _ _ _ _ _).mono ?_
  rintro x w8 ⟨rfl, hb⟩
  clear q_hX z_hX q_hY z_hY
  replace hX := hX.below hb
  replace hY := hY.below hb
  replace hB := bstep hB hb
  clear hb
  have q_hX := hX.2.1
  have z_hX := hX.1
  have q_hY := hY.2.1
  have z_hY := hY.1
  go_wp2_with fail
  refine (under_any _ _ _ _ _ _ _ _ _ _ _).mono ?_
  rintro x w9 ⟨rfl, hw⟩
  clear q_hX z_hX q_hY z_hY
  have hb : Below w8.heap.size w8 w9 := hw ▸ below_two _ _ _
  replace hX := hX.below hb
  replace hY := hY.below hb
  replace hB := bstep hB hb
  clear hb hw hY
  obtain ⟨⟨nb0, nb1⟩, ⟨ne0, ne1⟩, _, ⟨np0, np1⟩, _⟩ := hN
  obtain ⟨⟨mb0, mb1⟩, ⟨me0, me1⟩, _, ⟨mp0, mp1⟩, _⟩ := hM
  have HU : Hid (underB b1 e1 p1 s1 b2 e2 p2 s2 = true → accessF b1 e1 c1 p1 s1 o m q = 0 → accessF b2 e2 c1 p2 s2 o m q = 0) := fun h1 h2 => used_under ⟨np0, by omega⟩ ⟨mp0, by omega⟩ hq nb0 (by omega) h1 h2
  by_cases hz : accessF b1 e1 c1 p1 s1 o m q = 0
  · obtain ⟨rfl, z2, z3⟩ := access_zero.mp hz
    have hx0 : (accessF b1 e1 c1 p1 0 o m q == 0) = true := by simp [hz]
    have hx1 : (accessF b1 e1 c1 p1 0 o m q != 0) = false := by simp [hz]
    have hand := has_and ⟨np0, by omega⟩ hq z2
    have HA : Hid (bits .and .u8 p1 q = q) := hand
    clear hand
    have HZ : Hid (accessF b1 e1 c1 p1 0 o m q = 0) := hz
    clear hz
    by_cases hu : underB b1 e1 p1 0 b2 e2 p2 s2 = true
    · have hf := HU.out hu HZ.out
      have hf1 : (accessF b2 e2 c1 p2 s2 o m q != 0) = false := by simp [hf]
      clear hf
      go_wp2_with fail
      go_loopw [15] (fun i wr => ∃ k : Nat, (k : Int) ≤ m ∧ i = .int .u64 k ∧ At wr w.heap.size #[.int .u64 b1, .int .u64 e1, .int .u64 c1, .int .u8 p1, .int .i64 0] ∧ Below w.heap.size w wr) (fun i _ => (m - intOf i).toNat)
      case atStart => exact ⟨0, by omega, rfl, hX, hB⟩
      case round =>
        clear hX hB
        obtain ⟨k, hk, rfl, hX, hB⟩ := hrel
        have q_hX := hX.2.1
        have z_hX := hX.1
        by_cases hlt : (k : Int) < m
        · obtain ⟨u1, u2, u3⟩ := used_step nb0 (by omega) z2 z3 (show (0 : Int) ≤ k by omega) hlt
          have u1' : (accessF b1 e1 c1 p1 0 (IntKind.u64.wrap (o + k)) 1 q != 0) = false := by simp [u1]
          clear u1
          go_wp2_with fail
          refine (access_any _ _ _ _ _ _ _ _ _).mono ?_
          rintro x w10 ⟨rfl, hb⟩
          clear q_hX z_hX
          replace hX := hX.below hb
          replace hB := bstep hB hb
          clear hb
          have q_hX := hX.2.1
          have z_hX := hX.1
          go_wp2
          go_roundw
          case rel => exact ⟨k + 1, by omega, by go_num, hX, hB⟩
          case measure => simp [intOf]; omega
        · go_wp2
          go_ret
          exact ⟨ret_bool (by rw [HA.out]; simp), hB⟩
    · have hu' : underB b1 e1 p1 0 b2 e2 p2 s2 = false := by simpa using hu
      go_wp2_with fail
      go_loopw [15] (fun i wr => ∃ k : Nat, (k : Int) ≤ m ∧ i = .int .u64 k ∧ At wr w.heap.size #[.int .u64 b1, .int .u64 e1, .int .u64 c1, .int .u8 p1, .int .i64 0] ∧ Below w.heap.size w wr) (fun i _ => (m - intOf i).toNat)
      case atStart => exact ⟨0, by omega, rfl, hX, hB⟩
      case round =>
        clear hX hB
        obtain ⟨k, hk, rfl, hX, hB⟩ := hrel
        have q_hX := hX.2.1
        have z_hX := hX.1
        by_cases hlt : (k : Int) < m
        · obtain ⟨u1, u2, u3⟩ := used_step nb0 (by omega) z2 z3 (show (0 : Int) ≤ k by omega) hlt
          have u1' : (accessF b1 e1 c1 p1 0 (IntKind.u64.wrap (o + k)) 1 q != 0) = false := by simp [u1]
          clear u1
          go_wp2_with fail
          refine (access_any _ _ _ _ _ _ _ _ _).mono ?_
          rintro x w10 ⟨rfl, hb⟩
          clear q_hX z_hX
          replace hX := hX.below hb
          replace hB := bstep hB hb
          clear hb
          have q_hX := hX.2.1
          have z_hX := hX.1
          go_wp2
          go_roundw
          case rel => exact ⟨k + 1, by omega, by go_num, hX, hB⟩
          case measure => simp [intOf]; omega
        · go_wp2
          go_ret
          exact ⟨ret_bool (by rw [HA.out]; simp), hB⟩
  · have hx0 : (accessF b1 e1 c1 p1 s1 o m q == 0) = false := by simpa using hz
    have hx1 : (accessF b1 e1 c1 p1 s1 o m q != 0) = true := by simpa using hz
    by_cases hu : underB b1 e1 p1 s1 b2 e2 p2 s2 = true
    · go_wp2
      go_ret
      exact ⟨rfl, hB⟩
    · have hu' : underB b1 e1 p1 s1 b2 e2 p2 s2 = false := by simpa using hu
      go_wp2
      go_ret
      exact ⟨rfl, hB⟩
end Go.Proofs.Ytmnmflpbpklmiaa
