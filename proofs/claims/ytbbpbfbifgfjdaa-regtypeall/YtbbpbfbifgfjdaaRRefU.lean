/-
  Stage 9, regtype: the document's Under.
-/
import Derived.Test.YtbbpbfbifgfjdaaRRef
namespace Go.Proofs.Ytbbpbfbifgfjdaa
namespace R
open Go.RowKit

set_option maxHeartbeats 16000000 in
theorem dUnder_any (a b : RT) (w : World) (ha : a.Rng) (hb : b.Rng) : Calls Try.prog 40 #[a.agg, b.agg] w fun x w' => x = .returned (.bool (a.nm.und b.nm)) ∧ Gr w w' := by
  have hN1 := T.Hid.mk (fun W => Norm_any a W ha)
  have hN2 := T.Hid.mk (fun W => Norm_any b W hb)
  have hA := RT.nm_ok ha
  have hB := RT.nm_ok hb
  generalize a.nm = A at *
  generalize b.nm = B at *
  clear ha hb
  obtain ⟨k, ⟨n1, n2⟩, ⟨b1, b2⟩, ⟨e1, e2⟩, ⟨p1, p2⟩, mu, ma, s⟩ := a
  obtain ⟨k', ⟨n1', n2'⟩, ⟨b1', b2'⟩, ⟨e1', e2'⟩, ⟨p1', p2'⟩, mu', ma', s'⟩ := b
  simp only [RT.agg] at hN1 hN2 ⊢
  have L1 := grow_cell
  have L2 := grow_frozen
  have L3 := grow_set
  have L4 := grow_lt
  have L5 := glt1
  have L6 := glt2
  have L7 := glt3
  have L8 := glt4
  have L9 := glt5
  have L10 := glt6
  have L11 := lt1
  have L12 := lt2
  have L13 := lt3
  have L14 := lt4
  have L15 := lt5
  have L16 := lt6
  have L17 := lt7
  have L18 := lt8
  cases B with
  | any =>
    cases A
    all_goals
      simp only [RV.rt, Sp.no, Int.cast_ofNat_Int] at hN1 hN2
      clear hA hB
      go_enter Try.func40, Try.ntmps40
      go_upto_region 2 with (go_at_call 53; refine (hN1.out _).mono ?_; rintro x w' ⟨rfl, l, rfl⟩)
      go_upto_region 3 with (go_at_call 53; refine (hN2.out _).mono ?_; rintro x w' ⟨rfl, l', rfl⟩; rw [← grow_app]; generalize l ++ l' = lm)
      go_wp2_with fail
      go_ret
      refine ⟨rfl, ?_⟩
      repeat (first | exact Gr.refl _ | refine Gr.alloc ?_ _ | refine Gr.grow ?_ _ | refine Gr.drew ?_)
  | int m =>
    cases A with
    | int n =>
      simp only [RV.rt, Sp.no, Int.cast_ofNat_Int] at hN1 hN2
      have t1 := und_told (b := m) hA
      rw [show (RV.int n).und (RV.int m) = n.und m from rfl]
      generalize n.und m = u at *
      clear hA hB
      go_enter Try.func40, Try.ntmps40
      go_upto_region 2 with (go_at_call 53; refine (hN1.out _).mono ?_; rintro x w' ⟨rfl, l, rfl⟩)
      go_upto_region 3 with (go_at_call 53; refine (hN2.out _).mono ?_; rintro x w' ⟨rfl, l', rfl⟩; rw [← grow_app]; generalize l ++ l' = lm)
      go_wp2_with (go_at_call 54; refine (refUnder_any _ _ _ _ _).mono ?_; rintro x w' ⟨rfl, l2, rfl⟩)
      go_ret
      refine ⟨rfl, ?_⟩
      repeat (first | exact Gr.refl _ | refine Gr.alloc ?_ _ | refine Gr.grow ?_ _ | refine Gr.drew ?_)
    | _ =>
      simp only [RV.rt, Sp.no, Int.cast_ofNat_Int] at hN1 hN2
      clear hA hB
      go_enter Try.func40, Try.ntmps40
      go_upto_region 2 with (go_at_call 53; refine (hN1.out _).mono ?_; rintro x w' ⟨rfl, l, rfl⟩)
      go_upto_region 3 with (go_at_call 53; refine (hN2.out _).mono ?_; rintro x w' ⟨rfl, l', rfl⟩; rw [← grow_app]; generalize l ++ l' = lm)
      go_wp2_with fail
      go_ret
      refine ⟨rfl, ?_⟩
      repeat (first | exact Gr.refl _ | refine Gr.alloc ?_ _ | refine Gr.grow ?_ _ | refine Gr.drew ?_)
  | cap b5 e5 p5 mu5 ma5 s5 =>
    cases A with
    | cap b4 e4 p4 mu4 ma4 s4 =>
      simp only [RV.rt, Sp.no] at hN1 hN2
      have t1 := und_told (b := b5) hA.1
      have t2 := und_told (b := e5) hA.2.1
      have t3 := und_told (b := p5) hA.2.2.1
      have m1 : ma4 < 256 := Nat.lt_trans (amg_lt hA.2.2.2.2.1) (by decide)
      have m2 : mu4 < 256 := Nat.lt_trans (amg_lt (amg_trans hA.2.2.2.1 hA.2.2.2.2.1)) (by decide)
      have m3 : ma5 < 256 := Nat.lt_trans (amg_lt hB.2.2.2.2.1) (by decide)
      have m4 : mu5 < 256 := Nat.lt_trans (amg_lt (amg_trans hB.2.2.2.1 hB.2.2.2.2.1)) (by decide)
      rw [show (RV.cap b4 e4 p4 mu4 ma4 s4).und (RV.cap b5 e5 p5 mu5 ma5 s5) = (b4.und b5 && e4.und e5 && p4.und p5 && amg mu5 mu4 && amg ma4 ma5 && (decide (s5 < 0) || s4 == s5)) from rfl]
      generalize b4.und b5 = u1 at *
      generalize e4.und e5 = u2 at *
      generalize p4.und p5 = u3 at *
      clear hA hB
      go_enter Try.func40, Try.ntmps40
      go_upto_region 2 with (go_at_call 53; refine (hN1.out _).mono ?_; rintro x w' ⟨rfl, l, rfl⟩)
      go_upto_region 3 with (go_at_call 53; refine (hN2.out _).mono ?_; rintro x w' ⟨rfl, l', rfl⟩; rw [← grow_app]; generalize l ++ l' = lm)
      go_wp2_with (first | (go_at_call 54; refine (refUnder_any _ _ _ _ _).mono ?_; rintro x w' ⟨rfl, l2, rfl⟩; rw [← grow_app]; generalize _ ++ l2 = lm) | (go_at_call 55; refine (among_any _ _ _ (by assumption) (by assumption)).mono ?_; rintro x w' ⟨rfl, rfl⟩))
      all_goals
        go_ret
        refine ⟨ret_bool (by simp_all), ?_⟩
        repeat (first | exact Gr.refl _ | refine Gr.alloc ?_ _ | refine Gr.grow ?_ _ | refine Gr.drew ?_)
    | _ =>
      simp only [RV.rt, Sp.no, Int.cast_ofNat_Int] at hN1 hN2
      clear hA hB
      go_enter Try.func40, Try.ntmps40
      go_upto_region 2 with (go_at_call 53; refine (hN1.out _).mono ?_; rintro x w' ⟨rfl, l, rfl⟩)
      go_upto_region 3 with (go_at_call 53; refine (hN2.out _).mono ?_; rintro x w' ⟨rfl, l', rfl⟩; rw [← grow_app]; generalize l ++ l' = lm)
      go_wp2_with fail
      go_ret
      refine ⟨rfl, ?_⟩
      repeat (first | exact Gr.refl _ | refine Gr.alloc ?_ _ | refine Gr.grow ?_ _ | refine Gr.drew ?_)
end R
end Go.Proofs.Ytbbpbfbifgfjdaa
