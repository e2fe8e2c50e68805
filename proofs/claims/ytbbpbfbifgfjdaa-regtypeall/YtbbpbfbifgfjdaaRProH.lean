/-
  Stage 9, regtype: the program's Int, Has.
-/
import Derived.Test.YtbbpbfbifgfjdaaRProB
import Derived.Test.YtbbpbfbifgfjdaaRRefH
import Derived.Test.YtbbpbfbifgfjdaaRRefE
namespace Go.Proofs.Ytbbpbfbifgfjdaa
namespace R
open Go.RowKit

theorem vv_of (v : Vv) : v = ⟨v.tag, v.n, v.c⟩ := rfl
set_option maxHeartbeats 2000000 in
theorem pInt_any (s : Sp) (w : World) (h : s.u64) : Calls Try.prog 22 #[.agg #[.int .u64 s.lo, .int .u64 s.hi]] w fun x w' => x = .returned (mkInt s).rt.agg ∧ Gr w w' := by
  have hN := T.Hid.mk (fun W => pKnown_any ⟨1, s, Sp.no, Sp.no, Sp.no, 0, 0, 0⟩ W ⟨h, no_u64, no_u64, no_u64, show (0 : Nat) < 256 by decide, show (0 : Nat) < 256 by decide⟩)
  rw [nm_int] at hN
  clear h
  generalize (mkInt s).rt = r at *
  obtain ⟨k0, ⟨n10, n20⟩, ⟨b10, b20⟩, ⟨e10, e20⟩, ⟨p10, p20⟩, mu0, ma0, s0⟩ := r
  simp only [RT.agg, Sp.no, Int.cast_ofNat_Int] at hN ⊢
  have L1 := grow_cell
  have L2 := grow_frozen
  have L3 := grow_set
  have L4 := grow_lt
  have L5 := glt1
  have L6 := glt2
  have L7 := glt3
  have L8 := lt1
  have L9 := lt2
  have L10 := lt3
  have L11 := lt4
  go_enter Try.func22, Try.ntmps22
  go_wp2_with (go_at_call 24; refine (hN.out _).mono ?_; rintro x w' ⟨rfl, l, rfl⟩; (try (rw [← grow_app]; generalize _ ++ l = lm)))
  clear hN
  simp [bodyPost, results, Try.results22, go_sem, *]
  repeat (first | exact Gr.refl _ | refine Gr.alloc ?_ _ | refine Gr.grow ?_ _ | refine Gr.drew ?_)
def Kc.agg' (c : Kc) : Value := .agg #[.int .u64 c.b, .int .u64 c.e, .int .u64 c.c, .int .u8 c.pm, .int .i64 c.s]
def hasC (r : RT) (c : Kc) : Bool := r.b.has c.b && r.e.has c.e && r.p.has c.c && amI r.mu c.pm && amI c.pm r.ma && swB c.s r.s
set_option maxHeartbeats 8000000 in
theorem pHasCap_any (r : RT) (c : Kc) (w : World) (hr : r.mu < 256 ∧ r.ma < 256) (hc : c.pm < 256) : Calls Try.prog 31 #[r.agg, c.agg'] w fun x w' => x = .returned (.bool (hasC r c)) ∧ Gr w w' := by
  have h1 : 0 ≤ (r.mu : Int) ∧ (r.mu : Int) < 256 := by omega
  have h2 : 0 ≤ (r.ma : Int) ∧ (r.ma : Int) < 256 := by omega
  have h3 : 0 ≤ (c.pm : Int) ∧ (c.pm : Int) < 256 := by omega
  unfold hasC
  rw [← has_told, ← has_told, ← has_told]
  clear hr hc
  obtain ⟨k, ⟨n1, n2⟩, ⟨b1, b2⟩, ⟨e1, e2⟩, ⟨p1, p2⟩, mu, ma, s⟩ := r
  obtain ⟨vb, ve, vc, vp, vs⟩ := c
  simp only [RT.agg, Kc.agg'] at h1 h2 h3 ⊢
  generalize (mu : Int) = mu at *
  generalize (ma : Int) = ma at *
  generalize (vp : Int) = vp at *
  replace h1 := T.Hid.mk h1
  replace h2 := T.Hid.mk h2
  replace h3 := T.Hid.mk h3
  have L1 := grow_cell
  have L2 := grow_frozen
  have L3 := grow_set
  have L4 := grow_lt
  have L5 := glt1
  have L6 := glt2
  have L7 := glt3
  have L8 := glt4
  have L9 := lt1
  have L10 := lt2
  have L11 := lt3
  have L12 := lt4
  have L13 := lt5
  go_enter Try.func31, Try.ntmps31
  go_wp2_with (first | (go_at_call 30; refine (Has_gr _ _ _ _).mono ?_; rintro x w' ⟨rfl, l, rfl⟩; (try (rw [← grow_app]; generalize _ ++ l = lm))) | (go_at_call 32; refine (pAmong_int _ _ _ (by first | exact h1.out | exact h2.out | exact h3.out) (by first | exact h1.out | exact h2.out | exact h3.out)).mono ?_; rintro x w' ⟨rfl, rfl⟩) | (go_at_call 33; refine (pSeal_any _ _ _).mono ?_; rintro x w' ⟨rfl, rfl⟩))
  all_goals
    go_ret
    refine ⟨ret_bool (by simp_all), ?_⟩
    repeat (first | exact Gr.refl _ | refine Gr.alloc ?_ _ | refine Gr.grow ?_ _ | refine Gr.drew ?_)
theorem hasC_eq {b e p : Sp} {mu ma : Nat} {s : Int} {v : Vv} (h : -1 ≤ s) : (v.tag && hasC (RV.cap b e p mu ma s).rt v.c) = (RV.cap b e p mu ma s).has v := by
  simp only [hasC, RV.rt, RV.has, amI_nat, swB_eq h]
  rw [show (v.c.s == s) = (s == v.c.s) from Bool.eq_iff_iff.2 ⟨fun q => by simp at *; exact q.symm, fun q => by simp at *; exact q.symm⟩]
  simp only [Bool.and_assoc]
set_option maxHeartbeats 8000000 in
theorem pHas_any (a : RT) (v : Vv) (w : World) (ha : a.Rng) (hv : v.c.pm < 256) : Calls Try.prog 10 #[a.agg, v.agg] w fun x w' => x = .returned (.bool (a.nm.has v)) ∧ Gr w w' := by
  have hN1 := T.Hid.mk (fun W => pKnown_any a W ha)
  have hA := RT.nm_ok ha
  generalize a.nm = A at *
  clear ha
  obtain ⟨k, ⟨n1, n2⟩, ⟨b1, b2⟩, ⟨e1, e2⟩, ⟨p1, p2⟩, mu, ma, s⟩ := a
  cases A with
  | any =>
    obtain ⟨vt, vn, ⟨vb, ve, vc, vp, vs⟩⟩ := v
    simp only [RT.agg, Vv.agg, RV.rt, Sp.no, Int.cast_ofNat_Int] at hN1 ⊢
    clear hA hv
    have L1 := grow_cell
    have L2 := grow_frozen
    have L3 := grow_set
    have L4 := grow_lt
    have L5 := glt1
    have L6 := glt2
    have L7 := glt3
    have L8 := glt4
    have L9 := lt1
    have L10 := lt2
    have L11 := lt3
    have L12 := lt4
    have L13 := lt5
    go_enter Try.func10, Try.ntmps10
    go_wp2_with (go_at_call 24; refine (hN1.out _).mono ?_; rintro x w' ⟨rfl, l, rfl⟩; (try (rw [← grow_app]; generalize _ ++ l = lm)))
    go_ret
    refine ⟨rfl, ?_⟩
    repeat (first | exact Gr.refl _ | refine Gr.alloc ?_ _ | refine Gr.grow ?_ _ | refine Gr.drew ?_)
  | int n =>
    obtain ⟨vt, vn, ⟨vb, ve, vc, vp, vs⟩⟩ := v
    have hS := T.Hid.mk (fun W => Has_gr n.lo n.hi vn W)
    simp only [has_told] at hS
    rw [show (RV.int n).has ⟨vt, vn, ⟨vb, ve, vc, vp, vs⟩⟩ = (!vt && n.has vn) from rfl]
    generalize n.has vn = u at *
    simp only [RT.agg, Vv.agg, RV.rt, Sp.no, Int.cast_ofNat_Int] at hN1 ⊢
    clear hA hv
    have L1 := grow_cell
    have L2 := grow_frozen
    have L3 := grow_set
    have L4 := grow_lt
    have L5 := glt1
    have L6 := glt2
    have L7 := glt3
    have L8 := glt4
    have L9 := lt1
    have L10 := lt2
    have L11 := lt3
    have L12 := lt4
    have L13 := lt5
    go_enter Try.func10, Try.ntmps10
    go_wp2_with (first | (go_at_call 24; refine (hN1.out _).mono ?_; rintro x w' ⟨rfl, l, rfl⟩; (try (rw [← grow_app]; generalize _ ++ l = lm))) | (go_at_call 30; refine (hS.out _).mono ?_; rintro x w' ⟨rfl, l, rfl⟩; (try (rw [← grow_app]; generalize _ ++ l = lm))))
    all_goals
      go_ret
      refine ⟨ret_bool (by simp_all), ?_⟩
      repeat (first | exact Gr.refl _ | refine Gr.alloc ?_ _ | refine Gr.grow ?_ _ | refine Gr.drew ?_)
  | cap b4 e4 p4 mu4 ma4 s4 =>
    have m1 : ma4 < 256 := Nat.lt_trans (amg_lt hA.2.2.2.2.1) (by decide)
    have m2 : mu4 < 256 := Nat.lt_trans (amg_lt (amg_trans hA.2.2.2.1 hA.2.2.2.2.1)) (by decide)
    have hS := T.Hid.mk (fun W => pHasCap_any (RV.cap b4 e4 p4 mu4 ma4 s4).rt v.c W ⟨m2, m1⟩ hv)
    rw [← hasC_eq hA.2.2.2.2.2.1]
    generalize hasC (RV.cap b4 e4 p4 mu4 ma4 s4).rt v.c = u at *
    obtain ⟨vt, vn, ⟨vb, ve, vc, vp, vs⟩⟩ := v
    simp only [RT.agg, Vv.agg, Kc.agg', RV.rt, Sp.no] at hN1 hS ⊢
    clear hA hv m1 m2
    have L1 := grow_cell
    have L2 := grow_frozen
    have L3 := grow_set
    have L4 := grow_lt
    have L5 := glt1
    have L6 := glt2
    have L7 := glt3
    have L8 := glt4
    have L9 := lt1
    have L10 := lt2
    have L11 := lt3
    have L12 := lt4
    have L13 := lt5
    go_enter Try.func10, Try.ntmps10
    go_wp2_with (first | (go_at_call 24; refine (hN1.out _).mono ?_; rintro x w' ⟨rfl, l, rfl⟩; (try (rw [← grow_app]; generalize _ ++ l = lm))) | (go_at_call 31; refine (hS.out _).mono ?_; rintro x w' ⟨rfl, l, rfl⟩; (try (rw [← grow_app]; generalize _ ++ l = lm))))
    all_goals
      go_ret
      refine ⟨ret_bool (by simp_all), ?_⟩
      repeat (first | exact Gr.refl _ | refine Gr.alloc ?_ _ | refine Gr.grow ?_ _ | refine Gr.drew ?_)
end R
end Go.Proofs.Ytbbpbfbifgfjdaa
