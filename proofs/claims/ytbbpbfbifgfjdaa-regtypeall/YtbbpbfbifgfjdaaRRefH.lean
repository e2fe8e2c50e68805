/-
  Stage 9, regtype: the document's Join, Widen, Has.
-/
import Derived.Test.YtbbpbfbifgfjdaaRRefJ
import Derived.Test.YtbbpbfbifgfjdaaRRefX
namespace Go.Proofs.Ytbbpbfbifgfjdaa
namespace R
open Go.RowKit

def Vv.agg (v : Vv) : Value := .agg #[.bool v.tag, .int .u64 v.n, .int .u64 v.c.b, .int .u64 v.c.e, .int .u64 v.c.c, .int .u8 v.c.pm, .int .i64 v.c.s]
set_option maxHeartbeats 8000000 in
theorem dHas_any (a : RT) (v : Vv) (w : World) (ha : a.Rng) (hv : v.c.pm < 256) : Calls Try.prog 42 #[a.agg, v.agg] w fun x w' => x = .returned (.bool (a.nm.has v)) ∧ Gr w w' := by
  have hN1 := T.Hid.mk (fun W => Norm_any a W ha)
  have hA := RT.nm_ok ha
  generalize a.nm = A at *
  clear ha
  obtain ⟨k, ⟨n1, n2⟩, ⟨b1, b2⟩, ⟨e1, e2⟩, ⟨p1, p2⟩, mu, ma, s⟩ := a
  obtain ⟨vt, vn, ⟨vb, ve, vc, vp, vs⟩⟩ := v
  simp only [RT.agg, Vv.agg] at hN1 hv ⊢
  have L1 := grow_cell
  have L2 := grow_frozen
  have L3 := grow_set
  have L4 := grow_lt
  have L5 := glt1
  have L6 := glt2
  have L7 := glt3
  have L8 := glt4
  have L9 := glt5
  have L10 := glt6
  have L11 := lt1
  have L12 := lt2
  have L13 := lt3
  have L14 := lt4
  have L15 := lt5
  have L16 := lt6
  have L17 := lt7
  have L18 := lt8
  cases A with
  | any =>
    simp only [RV.rt, Sp.no, Int.cast_ofNat_Int] at hN1
    clear hA
    go_enter Try.func42, Try.ntmps42
    go_upto_region 2 with (go_at_call 53; refine (hN1.out _).mono ?_; rintro x w' ⟨rfl, l, rfl⟩)
    go_wp2_with fail
    go_ret
    refine ⟨rfl, ?_⟩
    repeat (first | exact Gr.refl _ | refine Gr.alloc ?_ _ | refine Gr.grow ?_ _ | refine Gr.drew ?_)
  | int n =>
    simp only [RV.rt, Sp.no, Int.cast_ofNat_Int] at hN1
    have hS := T.Hid.mk (fun W => refHas_any n.lo n.hi vn W)
    simp only [has_told] at hS
    rw [show (RV.int n).has ⟨vt, vn, ⟨vb, ve, vc, vp, vs⟩⟩ = (!vt && n.has vn) from rfl]
    generalize n.has vn = u at *
    clear hA
    go_enter Try.func42, Try.ntmps42
    go_upto_region 2 with (go_at_call 53; refine (hN1.out _).mono ?_; rintro x w' ⟨rfl, l, rfl⟩)
    go_wp2_with (go_at_call 58; refine (hS.out _).mono ?_; rintro x w' ⟨rfl, l2, rfl⟩)
    all_goals
      go_ret
      refine ⟨ret_bool (by simp_all), ?_⟩
      repeat (first | exact Gr.refl _ | refine Gr.alloc ?_ _ | refine Gr.grow ?_ _ | refine Gr.drew ?_)
  | cap b4 e4 p4 mu4 ma4 s4 =>
    simp only [RV.rt, Sp.no] at hN1
    have m1 : ma4 < 256 := Nat.lt_trans (amg_lt hA.2.2.2.2.1) (by decide)
    have m2 : mu4 < 256 := Nat.lt_trans (amg_lt (amg_trans hA.2.2.2.1 hA.2.2.2.2.1)) (by decide)
    have hS1 := T.Hid.mk (fun W => refHas_any b4.lo b4.hi vb W)
    have hS2 := T.Hid.mk (fun W => refHas_any e4.lo e4.hi ve W)
    have hS3 := T.Hid.mk (fun W => refHas_any p4.lo p4.hi vc W)
    simp only [has_told] at hS1 hS2 hS3
    have hC1 := T.Hid.mk (fun W => among_any mu4 vp W m2 hv)
    have hC2 := T.Hid.mk (fun W => among_any vp ma4 W hv m1)
    rw [show (RV.cap b4 e4 p4 mu4 ma4 s4).has ⟨vt, vn, ⟨vb, ve, vc, vp, vs⟩⟩ = (vt && b4.has vb && e4.has ve && p4.has vc && amg mu4 vp && amg vp ma4 && (decide (s4 < 0) || s4 == vs)) from rfl]
    generalize b4.has vb = u1 at *
    generalize e4.has ve = u2 at *
    generalize p4.has vc = u3 at *
    generalize amg mu4 vp = u4 at *
    generalize amg vp ma4 = u5 at *
    clear hA m1 m2 hv
    go_enter Try.func42, Try.ntmps42
    go_upto_region 2 with (go_at_call 53; refine (hN1.out _).mono ?_; rintro x w' ⟨rfl, l, rfl⟩)
    go_upto_region 8 with (go_at_call 58; refine (hS1.out _).mono ?_; rintro x w' ⟨rfl, l2, rfl⟩; rw [← grow_app]; generalize l ++ l2 = l3)
    go_upto_region 9 with (go_at_call 58; refine (hS2.out _).mono ?_; rintro x w' ⟨rfl, l4, rfl⟩; rw [← grow_app]; generalize l3 ++ l4 = l5)
    go_upto_region 10 with (go_at_call 58; refine (hS3.out _).mono ?_; rintro x w' ⟨rfl, l6, rfl⟩; rw [← grow_app]; generalize l5 ++ l6 = l7)
    go_upto_region 11 with (go_at_call 55; refine (hC1.out _).mono ?_; rintro x w' ⟨rfl, rfl⟩)
    go_wp2_with (go_at_call 55; refine (hC2.out _).mono ?_; rintro x w' ⟨rfl, rfl⟩)
    all_goals
      go_ret
      refine ⟨ret_bool (by simp_all), ?_⟩
      repeat (first | exact Gr.refl _ | refine Gr.alloc ?_ _ | refine Gr.grow ?_ _ | refine Gr.drew ?_)
end R
end Go.Proofs.Ytbbpbfbifgfjdaa
