/-
  Stage 9, regtype: the document's Join.
-/
import Derived.Test.YtbbpbfbifgfjdaaRRefU
namespace Go.Proofs.Ytbbpbfbifgfjdaa
namespace R
open Go.RowKit

set_option maxHeartbeats 1000000 in
theorem dspans_jn (a b : Sp) (w : World) (ha : a.ok) (hb : b.ok) : Calls Try.prog 66 #[.agg #[.int .u64 a.lo, .int .u64 a.hi], .agg #[.int .u64 b.lo, .int .u64 b.hi], .bool false] w fun x w' => x = .returned (.agg #[.int .u64 (a.jn b).lo, .int .u64 (a.jn b).hi]) ∧ Gr w w' := by
  have t := jn_told ha hb
  rw [← t.1, ← t.2]
  clear t
  unfold Sp.ok at ha hb
  have L1 := grow_cell
  have L2 := grow_frozen
  have L3 := grow_set
  have L4 := grow_lt
  have L5 := glt1
  have L6 := glt2
  have L7 := glt3
  have L8 := lt1
  have L9 := lt2
  have L10 := lt3
  have L11 := lt4
  clear ha hb
  go_enter Try.func66, Try.ntmps66
  go_wp2_with (go_at_call 70; refine (refJoin_any _ _ _ _ _).mono ?_; rintro x w' ⟨rfl, l, rfl⟩)
  simp [bodyPost, results, Try.results66, go_sem, grow_cell]
  repeat (first | exact Gr.refl _ | refine Gr.alloc ?_ _ | refine Gr.grow ?_ _ | refine Gr.drew ?_)
set_option maxHeartbeats 16000000 in
theorem dJoin0_any (a b : RT) (w : World) (ha : a.Rng) (hb : b.Rng) : Calls Try.prog 57 #[a.agg, b.agg, .bool false] w fun x w' => x = .returned (a.nm.jn b.nm).rt.agg ∧ Gr w w' := by
  have hN1 := T.Hid.mk (fun W => Norm_any a W ha)
  have hN2 := T.Hid.mk (fun W => Norm_any b W hb)
  have hA := RT.nm_ok ha
  have hB := RT.nm_ok hb
  generalize a.nm = A at *
  generalize b.nm = B at *
  clear ha hb
  obtain ⟨k, ⟨n1, n2⟩, ⟨b1, b2⟩, ⟨e1, e2⟩, ⟨p1, p2⟩, mu, ma, s⟩ := a
  obtain ⟨k', ⟨n1', n2'⟩, ⟨b1', b2'⟩, ⟨e1', e2'⟩, ⟨p1', p2'⟩, mu', ma', s'⟩ := b
  simp only [RT.agg] at hN1 hN2 ⊢
  have L1 := grow_cell
  have L2 := grow_frozen
  have L3 := grow_set
  have L4 := grow_lt
  have L5 := glt1
  have L6 := glt2
  have L7 := glt3
  have L8 := glt4
  have L9 := glt5
  have L10 := glt6
  have L11 := lt1
  have L12 := lt2
  have L13 := lt3
  have L14 := lt4
  have L15 := lt5
  have L16 := lt6
  have L17 := lt7
  have L18 := lt8
  cases A with
  | any =>
    cases B
    all_goals
      simp only [RV.rt, RV.jn, Sp.no, Int.cast_ofNat_Int] at hN1 hN2 ⊢
      clear hA hB
      go_enter Try.func57, Try.ntmps57
      go_upto_region 2 with (go_at_call 53; refine (hN1.out _).mono ?_; rintro x w' ⟨rfl, l, rfl⟩)
      go_upto_region 3 with (go_at_call 53; refine (hN2.out _).mono ?_; rintro x w' ⟨rfl, l', rfl⟩; rw [← grow_app]; generalize l ++ l' = lm)
      go_wp2_with fail
      clear hN1 hN2
      simp [bodyPost, results, Try.results57, go_sem, *]
      repeat (first | exact Gr.refl _ | refine Gr.alloc ?_ _ | refine Gr.grow ?_ _ | refine Gr.drew ?_)
  | int n =>
    cases B with
    | int m =>
      simp only [RV.rt, RV.jn, Sp.no, Int.cast_ofNat_Int] at hN1 hN2 ⊢
      have hS := T.Hid.mk (fun W => dspans_jn n m W hA hB)
      clear hA hB
      go_enter Try.func57, Try.ntmps57
      go_upto_region 2 with (go_at_call 53; refine (hN1.out _).mono ?_; rintro x w' ⟨rfl, l, rfl⟩)
      go_upto_region 3 with (go_at_call 53; refine (hN2.out _).mono ?_; rintro x w' ⟨rfl, l', rfl⟩; rw [← grow_app]; generalize l ++ l' = lm)
      go_wp2_with (go_at_call 66; refine (hS.out _).mono ?_; rintro x w' ⟨rfl, l2, rfl⟩)
      clear hN1 hN2
      simp [bodyPost, results, Try.results57, go_sem, *]
      repeat (first | exact Gr.refl _ | refine Gr.alloc ?_ _ | refine Gr.grow ?_ _ | refine Gr.drew ?_)
    | _ =>
      simp only [RV.rt, RV.jn, Sp.no, Int.cast_ofNat_Int] at hN1 hN2 ⊢
      clear hA hB
      go_enter Try.func57, Try.ntmps57
      go_upto_region 2 with (go_at_call 53; refine (hN1.out _).mono ?_; rintro x w' ⟨rfl, l, rfl⟩)
      go_upto_region 3 with (go_at_call 53; refine (hN2.out _).mono ?_; rintro x w' ⟨rfl, l', rfl⟩; rw [← grow_app]; generalize l ++ l' = lm)
      go_wp2_with fail
      clear hN1 hN2
      simp [bodyPost, results, Try.results57, go_sem, *]
      repeat (first | exact Gr.refl _ | refine Gr.alloc ?_ _ | refine Gr.grow ?_ _ | refine Gr.drew ?_)
  | cap b4 e4 p4 mu4 ma4 s4 =>
    cases B with
    | cap b5 e5 p5 mu5 ma5 s5 =>
      simp only [RV.rt, RV.jn, Sp.no] at hN1 hN2 ⊢
      have m1 : ma4 < 256 := Nat.lt_trans (amg_lt hA.2.2.2.2.1) (by decide)
      have m2 : mu4 < 256 := Nat.lt_trans (amg_lt (amg_trans hA.2.2.2.1 hA.2.2.2.2.1)) (by decide)
      have m3 : ma5 < 256 := Nat.lt_trans (amg_lt hB.2.2.2.2.1) (by decide)
      have m4 : mu5 < 256 := Nat.lt_trans (amg_lt (amg_trans hB.2.2.2.1 hB.2.2.2.2.1)) (by decide)
      have hS1 := T.Hid.mk (fun W => dspans_jn b4 b5 W hA.1 hB.1)
      have hS2 := T.Hid.mk (fun W => dspans_jn e4 e5 W hA.2.1 hB.2.1)
      have hS3 := T.Hid.mk (fun W => dspans_jn p4 p5 W hA.2.2.1 hB.2.2.1)
      have hC1 := T.Hid.mk (fun W => both_any mu4 mu5 W m2 m4)
      have hC2 := T.Hid.mk (fun W => either_any ma4 ma5 W m1 m3)
      clear hA hB m1 m2 m3 m4
      generalize mu4 &&& mu5 = mn at *
      generalize ma4 ||| ma5 = mx at *
      by_cases hs : s4 = s5
      · subst hs
        rw [if_pos rfl]
        go_enter Try.func57, Try.ntmps57
        go_upto_region 2 with (go_at_call 53; refine (hN1.out _).mono ?_; rintro x w' ⟨rfl, l, rfl⟩)
        go_upto_region 3 with (go_at_call 53; refine (hN2.out _).mono ?_; rintro x w' ⟨rfl, l', rfl⟩; rw [← grow_app]; generalize l ++ l' = lm)
        go_upto_region 10 with (go_at_call 66; refine (hS1.out _).mono ?_; rintro x w' ⟨rfl, l2, rfl⟩)
        go_upto_region 11 with (go_at_call 66; refine (hS2.out _).mono ?_; rintro x w' ⟨rfl, l3, rfl⟩; rw [← grow_app]; generalize l2 ++ l3 = l4)
        go_upto_region 12 with (go_at_call 66; refine (hS3.out _).mono ?_; rintro x w' ⟨rfl, l5, rfl⟩; rw [← grow_app]; generalize l4 ++ l5 = l6)
        go_wp2_with (first | (go_at_call 67; refine (hC1.out _).mono ?_; rintro x w' ⟨rfl, rfl⟩) | (go_at_call 68; refine (hC2.out _).mono ?_; rintro x w' ⟨rfl, rfl⟩))
        clear hS1 hS2 hS3 hC1 hC2
        clear hN1 hN2
        simp [bodyPost, results, Try.results57, go_sem, *]
        repeat (first | exact Gr.refl _ | refine Gr.alloc ?_ _ | refine Gr.grow ?_ _ | refine Gr.drew ?_)
      · rw [if_neg hs]
        go_enter Try.func57, Try.ntmps57
        go_upto_region 2 with (go_at_call 53; refine (hN1.out _).mono ?_; rintro x w' ⟨rfl, l, rfl⟩)
        go_upto_region 3 with (go_at_call 53; refine (hN2.out _).mono ?_; rintro x w' ⟨rfl, l', rfl⟩; rw [← grow_app]; generalize l ++ l' = lm)
        go_upto_region 10 with (go_at_call 66; refine (hS1.out _).mono ?_; rintro x w' ⟨rfl, l2, rfl⟩)
        go_upto_region 11 with (go_at_call 66; refine (hS2.out _).mono ?_; rintro x w' ⟨rfl, l3, rfl⟩; rw [← grow_app]; generalize l2 ++ l3 = l4)
        go_upto_region 12 with (go_at_call 66; refine (hS3.out _).mono ?_; rintro x w' ⟨rfl, l5, rfl⟩; rw [← grow_app]; generalize l4 ++ l5 = l6)
        go_wp2_with (first | (go_at_call 67; refine (hC1.out _).mono ?_; rintro x w' ⟨rfl, rfl⟩) | (go_at_call 68; refine (hC2.out _).mono ?_; rintro x w' ⟨rfl, rfl⟩))
        clear hS1 hS2 hS3 hC1 hC2
        clear hN1 hN2
        simp [bodyPost, results, Try.results57, go_sem, *]
        repeat (first | exact Gr.refl _ | refine Gr.alloc ?_ _ | refine Gr.grow ?_ _ | refine Gr.drew ?_)
    | _ =>
      simp only [RV.rt, RV.jn, Sp.no, Int.cast_ofNat_Int] at hN1 hN2 ⊢
      clear hA hB
      go_enter Try.func57, Try.ntmps57
      go_upto_region 2 with (go_at_call 53; refine (hN1.out _).mono ?_; rintro x w' ⟨rfl, l, rfl⟩)
      go_upto_region 3 with (go_at_call 53; refine (hN2.out _).mono ?_; rintro x w' ⟨rfl, l', rfl⟩; rw [← grow_app]; generalize l ++ l' = lm)
      go_wp2_with fail
      clear hN1 hN2
      simp [bodyPost, results, Try.results57, go_sem, *]
      repeat (first | exact Gr.refl _ | refine Gr.alloc ?_ _ | refine Gr.grow ?_ _ | refine Gr.drew ?_)
end R
end Go.Proofs.Ytbbpbfbifgfjdaa
