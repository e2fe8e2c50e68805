/-
  Stage 9, regtype: Sure: the program's.
-/
import Derived.Test.YtedbfnmmdlcbgaaRLaw
import Derived.Test.YtedbfnmmdlcbgaaRProO
import Derived.Test.YtedbfnmmdlcbgaaRSt12
import Derived.Test.YtedbfnmmdlcbgaaRNum
import Derived.Test.YtedbfnmmdlcbgaaSSet
import Derived.Deep.RegionHeld3
import Derived.Deep.QuietTactic
import Derived.BigQuiet
namespace Go.Proofs.Ytedbfnmmdlcbgaa
namespace R
open Go.RowKit

theorem gr_drewN (W : World) (n : Nat) : Gr W (W.drewN n) := by
  induction n with
  | zero => exact Gr.refl _
  | succ n ih => exact ih.drew
theorem sure_pro {b e p : Sp} {mu ma : Nat} {s : Int} (h : (RV.cap b e p mu ma s).ok) {t : Tt} (ht : t.cap = true) :
    (RV.cap b e p mu ma s).sure t = (inB p.lo p.hi t.lo t.hi && (RV.cap b e p mu ma s).rt.eqB ⟨(ofT t).rt.k, (ofT t).rt.n, (ofT t).rt.b, (ofT t).rt.e, p, (ofT t).rt.mu, (ofT t).rt.ma, (ofT t).rt.s⟩) := by
  have hp := h.2.2.1
  rw [show inB p.lo p.hi t.lo t.hi = p.und ⟨t.lo, t.hi⟩ from und_told (b := ⟨t.lo, t.hi⟩) hp]
  rw [Bool.eq_iff_iff, Bool.and_eq_true, RT.eqB_iff, ofT_eq, ht, if_pos rfl, Sp.und_iff]
  have h1 := amg_lt h.2.2.2.2.1
  have h2 := h.2.2.2.2.2
  unfold Sp.ok at hp
  by_cases hh : t.lo ≤ t.hi ∧ t.pm < 128 ∧ 0 ≤ t.s ∧ t.s ≤ 15
  · rw [if_pos hh]
    simp only [RV.rt, RV.sure, on, ht, Sp.eq_iff, RT.mk.injEq, Bool.and_eq_true, decide_eq_true_eq, beq_iff_eq, true_and]
    omega
  · rw [if_neg hh]
    simp only [RV.rt, RV.sure, ht, RT.mk.injEq, Bool.and_eq_true, decide_eq_true_eq, beq_iff_eq, true_and]
    omega
set_option maxHeartbeats 16000000 in
theorem pSure_any (r : RT) (t : Tt) (w : World) (hr : r.Rng) (ht : t.Rng) : Calls Try.prog 8 #[r.agg, t.agg] w fun x w' => x = .returned (.bool (r.nm.sure t)) ∧ Gr w w' := by
  have hK := T.Hid.mk (fun W => pKnown_any r W hr)
  have oA := RT.nm_ok hr
  have h1 := T.Hid.mk (fun W => pOf_any t W ht)
  clear hr ht
  generalize r.nm = A at *
  cases A with
  | any =>
    cases hc : t.cap
    all_goals
      rw [show RV.any.sure t = false from rfl]
      clear oA
      obtain ⟨tg, tb, te, tl, th, tp, ts⟩ := t
      subst hc
      simp only [RT.agg, Tt.agg, RV.rt, Sp.no, Int.cast_ofNat_Int] at hK ⊢
      clear h1
    · go_enter Try.func8, Try.ntmps8
      go_upto_region 1 with fail
      have B0 : T.Hid (At (((w).alloc (.cells #[.int .i64 r.k, .int .u64 r.n.lo, .int .u64 r.n.hi, .int .u64 r.b.lo, .int .u64 r.b.hi, .int .u64 r.e.lo, .int .u64 r.e.hi, .int .u64 r.p.lo, .int .u64 r.p.hi, .int .u8 r.mu, .int .u8 r.ma, .int .i64 r.s] 28)).alloc (.cells #[.bool false, .int .u64 tb, .int .u64 te, .int .u64 tl, .int .u64 th, .int .u8 (tp : Nat), .int .i64 ts] 30)) (w.heap.size) #[.int .i64 r.k, .int .u64 r.n.lo, .int .u64 r.n.hi, .int .u64 r.b.lo, .int .u64 r.b.hi, .int .u64 r.e.lo, .int .u64 r.e.hi, .int .u64 r.p.lo, .int .u64 r.p.hi, .int .u8 r.mu, .int .u8 r.ma, .int .i64 r.s]) := T.Hid.mk ((At.at_ (w) _ _ (by simp)).alloc _)
      have B1 : T.Hid (At (((w).alloc (.cells #[.int .i64 r.k, .int .u64 r.n.lo, .int .u64 r.n.hi, .int .u64 r.b.lo, .int .u64 r.b.hi, .int .u64 r.e.lo, .int .u64 r.e.hi, .int .u64 r.p.lo, .int .u64 r.p.hi, .int .u8 r.mu, .int .u8 r.ma, .int .i64 r.s] 28)).alloc (.cells #[.bool false, .int .u64 tb, .int .u64 te, .int .u64 tl, .int .u64 th, .int .u8 (tp : Nat), .int .i64 ts] 30)) (w.heap.size + 1) #[.bool false, .int .u64 tb, .int .u64 te, .int .u64 tl, .int .u64 th, .int .u8 (tp : Nat), .int .i64 ts]) := T.Hid.mk (At.at_ ((w).alloc (.cells #[.int .i64 r.k, .int .u64 r.n.lo, .int .u64 r.n.hi, .int .u64 r.b.lo, .int .u64 r.b.hi, .int .u64 r.e.lo, .int .u64 r.e.hi, .int .u64 r.p.lo, .int .u64 r.p.hi, .int .u8 r.mu, .int .u8 r.ma, .int .i64 r.s] 28)) _ _ (by simp))
      have G := T.Hid.mk (show Gr w (((w).alloc (.cells #[.int .i64 r.k, .int .u64 r.n.lo, .int .u64 r.n.hi, .int .u64 r.b.lo, .int .u64 r.b.hi, .int .u64 r.e.lo, .int .u64 r.e.hi, .int .u64 r.p.lo, .int .u64 r.p.hi, .int .u8 r.mu, .int .u8 r.ma, .int .i64 r.s] 28)).alloc (.cells #[.bool false, .int .u64 tb, .int .u64 te, .int .u64 tl, .int .u64 th, .int .u8 (tp : Nat), .int .i64 ts] 30)) from (((Gr.refl w).alloc _).alloc _))
      generalize ((w).alloc (.cells #[.int .i64 r.k, .int .u64 r.n.lo, .int .u64 r.n.hi, .int .u64 r.b.lo, .int .u64 r.b.hi, .int .u64 r.e.lo, .int .u64 r.e.hi, .int .u64 r.p.lo, .int .u64 r.p.hi, .int .u8 r.mu, .int .u8 r.ma, .int .i64 r.s] 28)).alloc (.cells #[.bool false, .int .u64 tb, .int .u64 te, .int .u64 tl, .int .u64 th, .int .u8 (tp : Nat), .int .i64 ts] 30) = W0 at G B0 B1 ⊢
      have ⟨z0, p0, f0⟩ := B0.out
      have ⟨z1, p1, f1⟩ := B1.out
      clear f0 f1
      go_upto_region 2 with (go_at_call 24; refine (hK.out _).mono ?_; rintro x w1 ⟨rfl, q⟩; have ⟨z9, p9, f9⟩ := B0.out.gr q)
      clear z9 p9 f9
      clear z0 p0 z1 p1
      replace B0 : T.Hid (At (((((((((((((w1).setCell ⟨w.heap.size, 0, none⟩ (.int .i64 0)).setCell ⟨w.heap.size, 1, none⟩ (.int .u64 0)).setCell ⟨w.heap.size, 2, none⟩ (.int .u64 0)).setCell ⟨w.heap.size, 3, none⟩ (.int .u64 0)).setCell ⟨w.heap.size, 4, none⟩ (.int .u64 0)).setCell ⟨w.heap.size, 5, none⟩ (.int .u64 0)).setCell ⟨w.heap.size, 6, none⟩ (.int .u64 0)).setCell ⟨w.heap.size, 7, none⟩ (.int .u64 0)).setCell ⟨w.heap.size, 8, none⟩ (.int .u64 0)).setCell ⟨w.heap.size, 9, none⟩ (.int .u8 0)).setCell ⟨w.heap.size, 10, none⟩ (.int .u8 0)).setCell ⟨w.heap.size, 11, none⟩ (.int .i64 0)) w.heap.size #[.int .i64 0, .int .u64 0, .int .u64 0, .int .u64 0, .int .u64 0, .int .u64 0, .int .u64 0, .int .u64 0, .int .u64 0, .int .u8 0, .int .u8 0, .int .i64 0]) := T.Hid.mk (st12_new (B0.out.gr q) _ _ _ _ _ _ _ _ _ _ _ _)
      replace B1 : T.Hid (At (((((((((((((w1).setCell ⟨w.heap.size, 0, none⟩ (.int .i64 0)).setCell ⟨w.heap.size, 1, none⟩ (.int .u64 0)).setCell ⟨w.heap.size, 2, none⟩ (.int .u64 0)).setCell ⟨w.heap.size, 3, none⟩ (.int .u64 0)).setCell ⟨w.heap.size, 4, none⟩ (.int .u64 0)).setCell ⟨w.heap.size, 5, none⟩ (.int .u64 0)).setCell ⟨w.heap.size, 6, none⟩ (.int .u64 0)).setCell ⟨w.heap.size, 7, none⟩ (.int .u64 0)).setCell ⟨w.heap.size, 8, none⟩ (.int .u64 0)).setCell ⟨w.heap.size, 9, none⟩ (.int .u8 0)).setCell ⟨w.heap.size, 10, none⟩ (.int .u8 0)).setCell ⟨w.heap.size, 11, none⟩ (.int .i64 0)) (w.heap.size + 1) #[.bool false, .int .u64 tb, .int .u64 te, .int .u64 tl, .int .u64 th, .int .u8 (tp : Nat), .int .i64 ts]) := T.Hid.mk (st12_old (B1.out.gr q) (by omega) _ _ _ _ _ _ _ _ _ _ _ _)
      replace G : T.Hid (Gr w (((((((((((((w1).setCell ⟨w.heap.size, 0, none⟩ (.int .i64 0)).setCell ⟨w.heap.size, 1, none⟩ (.int .u64 0)).setCell ⟨w.heap.size, 2, none⟩ (.int .u64 0)).setCell ⟨w.heap.size, 3, none⟩ (.int .u64 0)).setCell ⟨w.heap.size, 4, none⟩ (.int .u64 0)).setCell ⟨w.heap.size, 5, none⟩ (.int .u64 0)).setCell ⟨w.heap.size, 6, none⟩ (.int .u64 0)).setCell ⟨w.heap.size, 7, none⟩ (.int .u64 0)).setCell ⟨w.heap.size, 8, none⟩ (.int .u64 0)).setCell ⟨w.heap.size, 9, none⟩ (.int .u8 0)).setCell ⟨w.heap.size, 10, none⟩ (.int .u8 0)).setCell ⟨w.heap.size, 11, none⟩ (.int .i64 0))) := T.Hid.mk (st12_gr (G.out.trans q) (Nat.le_refl _) _ _ _ _ _ _ _ _ _ _ _ _)
      generalize ((((((((((((w1).setCell ⟨w.heap.size, 0, none⟩ (.int .i64 0)).setCell ⟨w.heap.size, 1, none⟩ (.int .u64 0)).setCell ⟨w.heap.size, 2, none⟩ (.int .u64 0)).setCell ⟨w.heap.size, 3, none⟩ (.int .u64 0)).setCell ⟨w.heap.size, 4, none⟩ (.int .u64 0)).setCell ⟨w.heap.size, 5, none⟩ (.int .u64 0)).setCell ⟨w.heap.size, 6, none⟩ (.int .u64 0)).setCell ⟨w.heap.size, 7, none⟩ (.int .u64 0)).setCell ⟨w.heap.size, 8, none⟩ (.int .u64 0)).setCell ⟨w.heap.size, 9, none⟩ (.int .u8 0)).setCell ⟨w.heap.size, 10, none⟩ (.int .u8 0)).setCell ⟨w.heap.size, 11, none⟩ (.int .i64 0) = W1 at B0 B1 G ⊢
      clear q hK
      have ⟨z0, p0, f0⟩ := B0.out
      have ⟨z1, p1, f1⟩ := B1.out
      clear f0 f1
      go_wp2_with fail
      go_ret
      exact ⟨rfl, G.out⟩
    · go_enter Try.func8, Try.ntmps8
      go_upto_region 1 with fail
      have B0 : T.Hid (At (((w).alloc (.cells #[.int .i64 r.k, .int .u64 r.n.lo, .int .u64 r.n.hi, .int .u64 r.b.lo, .int .u64 r.b.hi, .int .u64 r.e.lo, .int .u64 r.e.hi, .int .u64 r.p.lo, .int .u64 r.p.hi, .int .u8 r.mu, .int .u8 r.ma, .int .i64 r.s] 28)).alloc (.cells #[.bool true, .int .u64 tb, .int .u64 te, .int .u64 tl, .int .u64 th, .int .u8 (tp : Nat), .int .i64 ts] 30)) (w.heap.size) #[.int .i64 r.k, .int .u64 r.n.lo, .int .u64 r.n.hi, .int .u64 r.b.lo, .int .u64 r.b.hi, .int .u64 r.e.lo, .int .u64 r.e.hi, .int .u64 r.p.lo, .int .u64 r.p.hi, .int .u8 r.mu, .int .u8 r.ma, .int .i64 r.s]) := T.Hid.mk ((At.at_ (w) _ _ (by simp)).alloc _)
      have B1 : T.Hid (At (((w).alloc (.cells #[.int .i64 r.k, .int .u64 r.n.lo, .int .u64 r.n.hi, .int .u64 r.b.lo, .int .u64 r.b.hi, .int .u64 r.e.lo, .int .u64 r.e.hi, .int .u64 r.p.lo, .int .u64 r.p.hi, .int .u8 r.mu, .int .u8 r.ma, .int .i64 r.s] 28)).alloc (.cells #[.bool true, .int .u64 tb, .int .u64 te, .int .u64 tl, .int .u64 th, .int .u8 (tp : Nat), .int .i64 ts] 30)) (w.heap.size + 1) #[.bool true, .int .u64 tb, .int .u64 te, .int .u64 tl, .int .u64 th, .int .u8 (tp : Nat), .int .i64 ts]) := T.Hid.mk (At.at_ ((w).alloc (.cells #[.int .i64 r.k, .int .u64 r.n.lo, .int .u64 r.n.hi, .int .u64 r.b.lo, .int .u64 r.b.hi, .int .u64 r.e.lo, .int .u64 r.e.hi, .int .u64 r.p.lo, .int .u64 r.p.hi, .int .u8 r.mu, .int .u8 r.ma, .int .i64 r.s] 28)) _ _ (by simp))
      have G := T.Hid.mk (show Gr w (((w).alloc (.cells #[.int .i64 r.k, .int .u64 r.n.lo, .int .u64 r.n.hi, .int .u64 r.b.lo, .int .u64 r.b.hi, .int .u64 r.e.lo, .int .u64 r.e.hi, .int .u64 r.p.lo, .int .u64 r.p.hi, .int .u8 r.mu, .int .u8 r.ma, .int .i64 r.s] 28)).alloc (.cells #[.bool true, .int .u64 tb, .int .u64 te, .int .u64 tl, .int .u64 th, .int .u8 (tp : Nat), .int .i64 ts] 30)) from (((Gr.refl w).alloc _).alloc _))
      generalize ((w).alloc (.cells #[.int .i64 r.k, .int .u64 r.n.lo, .int .u64 r.n.hi, .int .u64 r.b.lo, .int .u64 r.b.hi, .int .u64 r.e.lo, .int .u64 r.e.hi, .int .u64 r.p.lo, .int .u64 r.p.hi, .int .u8 r.mu, .int .u8 r.ma, .int .i64 r.s] 28)).alloc (.cells #[.bool true, .int .u64 tb, .int .u64 te, .int .u64 tl, .int .u64 th, .int .u8 (tp : Nat), .int .i64 ts] 30) = W0 at G B0 B1 ⊢
      have ⟨z0, p0, f0⟩ := B0.out
      have ⟨z1, p1, f1⟩ := B1.out
      clear f0 f1
      go_upto_region 2 with (go_at_call 24; refine (hK.out _).mono ?_; rintro x w1 ⟨rfl, q⟩; have ⟨z9, p9, f9⟩ := B0.out.gr q)
      clear z9 p9 f9
      clear z0 p0 z1 p1
      replace B0 : T.Hid (At (((((((((((((w1).setCell ⟨w.heap.size, 0, none⟩ (.int .i64 0)).setCell ⟨w.heap.size, 1, none⟩ (.int .u64 0)).setCell ⟨w.heap.size, 2, none⟩ (.int .u64 0)).setCell ⟨w.heap.size, 3, none⟩ (.int .u64 0)).setCell ⟨w.heap.size, 4, none⟩ (.int .u64 0)).setCell ⟨w.heap.size, 5, none⟩ (.int .u64 0)).setCell ⟨w.heap.size, 6, none⟩ (.int .u64 0)).setCell ⟨w.heap.size, 7, none⟩ (.int .u64 0)).setCell ⟨w.heap.size, 8, none⟩ (.int .u64 0)).setCell ⟨w.heap.size, 9, none⟩ (.int .u8 0)).setCell ⟨w.heap.size, 10, none⟩ (.int .u8 0)).setCell ⟨w.heap.size, 11, none⟩ (.int .i64 0)) w.heap.size #[.int .i64 0, .int .u64 0, .int .u64 0, .int .u64 0, .int .u64 0, .int .u64 0, .int .u64 0, .int .u64 0, .int .u64 0, .int .u8 0, .int .u8 0, .int .i64 0]) := T.Hid.mk (st12_new (B0.out.gr q) _ _ _ _ _ _ _ _ _ _ _ _)
      replace B1 : T.Hid (At (((((((((((((w1).setCell ⟨w.heap.size, 0, none⟩ (.int .i64 0)).setCell ⟨w.heap.size, 1, none⟩ (.int .u64 0)).setCell ⟨w.heap.size, 2, none⟩ (.int .u64 0)).setCell ⟨w.heap.size, 3, none⟩ (.int .u64 0)).setCell ⟨w.heap.size, 4, none⟩ (.int .u64 0)).setCell ⟨w.heap.size, 5, none⟩ (.int .u64 0)).setCell ⟨w.heap.size, 6, none⟩ (.int .u64 0)).setCell ⟨w.heap.size, 7, none⟩ (.int .u64 0)).setCell ⟨w.heap.size, 8, none⟩ (.int .u64 0)).setCell ⟨w.heap.size, 9, none⟩ (.int .u8 0)).setCell ⟨w.heap.size, 10, none⟩ (.int .u8 0)).setCell ⟨w.heap.size, 11, none⟩ (.int .i64 0)) (w.heap.size + 1) #[.bool true, .int .u64 tb, .int .u64 te, .int .u64 tl, .int .u64 th, .int .u8 (tp : Nat), .int .i64 ts]) := T.Hid.mk (st12_old (B1.out.gr q) (by omega) _ _ _ _ _ _ _ _ _ _ _ _)
      replace G : T.Hid (Gr w (((((((((((((w1).setCell ⟨w.heap.size, 0, none⟩ (.int .i64 0)).setCell ⟨w.heap.size, 1, none⟩ (.int .u64 0)).setCell ⟨w.heap.size, 2, none⟩ (.int .u64 0)).setCell ⟨w.heap.size, 3, none⟩ (.int .u64 0)).setCell ⟨w.heap.size, 4, none⟩ (.int .u64 0)).setCell ⟨w.heap.size, 5, none⟩ (.int .u64 0)).setCell ⟨w.heap.size, 6, none⟩ (.int .u64 0)).setCell ⟨w.heap.size, 7, none⟩ (.int .u64 0)).setCell ⟨w.heap.size, 8, none⟩ (.int .u64 0)).setCell ⟨w.heap.size, 9, none⟩ (.int .u8 0)).setCell ⟨w.heap.size, 10, none⟩ (.int .u8 0)).setCell ⟨w.heap.size, 11, none⟩ (.int .i64 0))) := T.Hid.mk (st12_gr (G.out.trans q) (Nat.le_refl _) _ _ _ _ _ _ _ _ _ _ _ _)
      generalize ((((((((((((w1).setCell ⟨w.heap.size, 0, none⟩ (.int .i64 0)).setCell ⟨w.heap.size, 1, none⟩ (.int .u64 0)).setCell ⟨w.heap.size, 2, none⟩ (.int .u64 0)).setCell ⟨w.heap.size, 3, none⟩ (.int .u64 0)).setCell ⟨w.heap.size, 4, none⟩ (.int .u64 0)).setCell ⟨w.heap.size, 5, none⟩ (.int .u64 0)).setCell ⟨w.heap.size, 6, none⟩ (.int .u64 0)).setCell ⟨w.heap.size, 7, none⟩ (.int .u64 0)).setCell ⟨w.heap.size, 8, none⟩ (.int .u64 0)).setCell ⟨w.heap.size, 9, none⟩ (.int .u8 0)).setCell ⟨w.heap.size, 10, none⟩ (.int .u8 0)).setCell ⟨w.heap.size, 11, none⟩ (.int .i64 0) = W1 at B0 B1 G ⊢
      clear q hK
      have ⟨z0, p0, f0⟩ := B0.out
      have ⟨z1, p1, f1⟩ := B1.out
      clear f0 f1
      go_upto_region 4 with fail
      go_quiet (fail)
      go_wp2_with fail
      go_ret
      exact ⟨rfl, G.out.trans (gr_drewN _ _)⟩
  | int n =>
    cases hc : t.cap
    all_goals
      have eS : (RV.int n).sure t = !t.cap := rfl
      rw [eS, hc]
      clear oA eS
      obtain ⟨tg, tb, te, tl, th, tp, ts⟩ := t
      subst hc
      obtain ⟨n1, n2⟩ := n
      simp only [RT.agg, Tt.agg, RV.rt, Sp.no, Int.cast_ofNat_Int] at hK ⊢
      clear h1
    · go_enter Try.func8, Try.ntmps8
      go_upto_region 1 with fail
      have B0 : T.Hid (At (((w).alloc (.cells #[.int .i64 r.k, .int .u64 r.n.lo, .int .u64 r.n.hi, .int .u64 r.b.lo, .int .u64 r.b.hi, .int .u64 r.e.lo, .int .u64 r.e.hi, .int .u64 r.p.lo, .int .u64 r.p.hi, .int .u8 r.mu, .int .u8 r.ma, .int .i64 r.s] 28)).alloc (.cells #[.bool false, .int .u64 tb, .int .u64 te, .int .u64 tl, .int .u64 th, .int .u8 (tp : Nat), .int .i64 ts] 30)) (w.heap.size) #[.int .i64 r.k, .int .u64 r.n.lo, .int .u64 r.n.hi, .int .u64 r.b.lo, .int .u64 r.b.hi, .int .u64 r.e.lo, .int .u64 r.e.hi, .int .u64 r.p.lo, .int .u64 r.p.hi, .int .u8 r.mu, .int .u8 r.ma, .int .i64 r.s]) := T.Hid.mk ((At.at_ (w) _ _ (by simp)).alloc _)
      have B1 : T.Hid (At (((w).alloc (.cells #[.int .i64 r.k, .int .u64 r.n.lo, .int .u64 r.n.hi, .int .u64 r.b.lo, .int .u64 r.b.hi, .int .u64 r.e.lo, .int .u64 r.e.hi, .int .u64 r.p.lo, .int .u64 r.p.hi, .int .u8 r.mu, .int .u8 r.ma, .int .i64 r.s] 28)).alloc (.cells #[.bool false, .int .u64 tb, .int .u64 te, .int .u64 tl, .int .u64 th, .int .u8 (tp : Nat), .int .i64 ts] 30)) (w.heap.size + 1) #[.bool false, .int .u64 tb, .int .u64 te, .int .u64 tl, .int .u64 th, .int .u8 (tp : Nat), .int .i64 ts]) := T.Hid.mk (At.at_ ((w).alloc (.cells #[.int .i64 r.k, .int .u64 r.n.lo, .int .u64 r.n.hi, .int .u64 r.b.lo, .int .u64 r.b.hi, .int .u64 r.e.lo, .int .u64 r.e.hi, .int .u64 r.p.lo, .int .u64 r.p.hi, .int .u8 r.mu, .int .u8 r.ma, .int .i64 r.s] 28)) _ _ (by simp))
      have G := T.Hid.mk (show Gr w (((w).alloc (.cells #[.int .i64 r.k, .int .u64 r.n.lo, .int .u64 r.n.hi, .int .u64 r.b.lo, .int .u64 r.b.hi, .int .u64 r.e.lo, .int .u64 r.e.hi, .int .u64 r.p.lo, .int .u64 r.p.hi, .int .u8 r.mu, .int .u8 r.ma, .int .i64 r.s] 28)).alloc (.cells #[.bool false, .int .u64 tb, .int .u64 te, .int .u64 tl, .int .u64 th, .int .u8 (tp : Nat), .int .i64 ts] 30)) from (((Gr.refl w).alloc _).alloc _))
      generalize ((w).alloc (.cells #[.int .i64 r.k, .int .u64 r.n.lo, .int .u64 r.n.hi, .int .u64 r.b.lo, .int .u64 r.b.hi, .int .u64 r.e.lo, .int .u64 r.e.hi, .int .u64 r.p.lo, .int .u64 r.p.hi, .int .u8 r.mu, .int .u8 r.ma, .int .i64 r.s] 28)).alloc (.cells #[.bool false, .int .u64 tb, .int .u64 te, .int .u64 tl, .int .u64 th, .int .u8 (tp : Nat), .int .i64 ts] 30) = W0 at G B0 B1 ⊢
      have ⟨z0, p0, f0⟩ := B0.out
      have ⟨z1, p1, f1⟩ := B1.out
      clear f0 f1
      go_upto_region 2 with (go_at_call 24; refine (hK.out _).mono ?_; rintro x w1 ⟨rfl, q⟩; have ⟨z9, p9, f9⟩ := B0.out.gr q)
      clear z9 p9 f9
      clear z0 p0 z1 p1
      replace B0 : T.Hid (At (((((((((((((w1).setCell ⟨w.heap.size, 0, none⟩ (.int .i64 1)).setCell ⟨w.heap.size, 1, none⟩ (.int .u64 n1)).setCell ⟨w.heap.size, 2, none⟩ (.int .u64 n2)).setCell ⟨w.heap.size, 3, none⟩ (.int .u64 0)).setCell ⟨w.heap.size, 4, none⟩ (.int .u64 0)).setCell ⟨w.heap.size, 5, none⟩ (.int .u64 0)).setCell ⟨w.heap.size, 6, none⟩ (.int .u64 0)).setCell ⟨w.heap.size, 7, none⟩ (.int .u64 0)).setCell ⟨w.heap.size, 8, none⟩ (.int .u64 0)).setCell ⟨w.heap.size, 9, none⟩ (.int .u8 0)).setCell ⟨w.heap.size, 10, none⟩ (.int .u8 0)).setCell ⟨w.heap.size, 11, none⟩ (.int .i64 0)) w.heap.size #[.int .i64 1, .int .u64 n1, .int .u64 n2, .int .u64 0, .int .u64 0, .int .u64 0, .int .u64 0, .int .u64 0, .int .u64 0, .int .u8 0, .int .u8 0, .int .i64 0]) := T.Hid.mk (st12_new (B0.out.gr q) _ _ _ _ _ _ _ _ _ _ _ _)
      replace B1 : T.Hid (At (((((((((((((w1).setCell ⟨w.heap.size, 0, none⟩ (.int .i64 1)).setCell ⟨w.heap.size, 1, none⟩ (.int .u64 n1)).setCell ⟨w.heap.size, 2, none⟩ (.int .u64 n2)).setCell ⟨w.heap.size, 3, none⟩ (.int .u64 0)).setCell ⟨w.heap.size, 4, none⟩ (.int .u64 0)).setCell ⟨w.heap.size, 5, none⟩ (.int .u64 0)).setCell ⟨w.heap.size, 6, none⟩ (.int .u64 0)).setCell ⟨w.heap.size, 7, none⟩ (.int .u64 0)).setCell ⟨w.heap.size, 8, none⟩ (.int .u64 0)).setCell ⟨w.heap.size, 9, none⟩ (.int .u8 0)).setCell ⟨w.heap.size, 10, none⟩ (.int .u8 0)).setCell ⟨w.heap.size, 11, none⟩ (.int .i64 0)) (w.heap.size + 1) #[.bool false, .int .u64 tb, .int .u64 te, .int .u64 tl, .int .u64 th, .int .u8 (tp : Nat), .int .i64 ts]) := T.Hid.mk (st12_old (B1.out.gr q) (by omega) _ _ _ _ _ _ _ _ _ _ _ _)
      replace G : T.Hid (Gr w (((((((((((((w1).setCell ⟨w.heap.size, 0, none⟩ (.int .i64 1)).setCell ⟨w.heap.size, 1, none⟩ (.int .u64 n1)).setCell ⟨w.heap.size, 2, none⟩ (.int .u64 n2)).setCell ⟨w.heap.size, 3, none⟩ (.int .u64 0)).setCell ⟨w.heap.size, 4, none⟩ (.int .u64 0)).setCell ⟨w.heap.size, 5, none⟩ (.int .u64 0)).setCell ⟨w.heap.size, 6, none⟩ (.int .u64 0)).setCell ⟨w.heap.size, 7, none⟩ (.int .u64 0)).setCell ⟨w.heap.size, 8, none⟩ (.int .u64 0)).setCell ⟨w.heap.size, 9, none⟩ (.int .u8 0)).setCell ⟨w.heap.size, 10, none⟩ (.int .u8 0)).setCell ⟨w.heap.size, 11, none⟩ (.int .i64 0))) := T.Hid.mk (st12_gr (G.out.trans q) (Nat.le_refl _) _ _ _ _ _ _ _ _ _ _ _ _)
      generalize ((((((((((((w1).setCell ⟨w.heap.size, 0, none⟩ (.int .i64 1)).setCell ⟨w.heap.size, 1, none⟩ (.int .u64 n1)).setCell ⟨w.heap.size, 2, none⟩ (.int .u64 n2)).setCell ⟨w.heap.size, 3, none⟩ (.int .u64 0)).setCell ⟨w.heap.size, 4, none⟩ (.int .u64 0)).setCell ⟨w.heap.size, 5, none⟩ (.int .u64 0)).setCell ⟨w.heap.size, 6, none⟩ (.int .u64 0)).setCell ⟨w.heap.size, 7, none⟩ (.int .u64 0)).setCell ⟨w.heap.size, 8, none⟩ (.int .u64 0)).setCell ⟨w.heap.size, 9, none⟩ (.int .u8 0)).setCell ⟨w.heap.size, 10, none⟩ (.int .u8 0)).setCell ⟨w.heap.size, 11, none⟩ (.int .i64 0) = W1 at B0 B1 G ⊢
      clear q hK
      have ⟨z0, p0, f0⟩ := B0.out
      have ⟨z1, p1, f1⟩ := B1.out
      clear f0 f1
      go_wp2_with fail
      go_ret
      exact ⟨rfl, G.out⟩
    · go_enter Try.func8, Try.ntmps8
      go_upto_region 1 with fail
      have B0 : T.Hid (At (((w).alloc (.cells #[.int .i64 r.k, .int .u64 r.n.lo, .int .u64 r.n.hi, .int .u64 r.b.lo, .int .u64 r.b.hi, .int .u64 r.e.lo, .int .u64 r.e.hi, .int .u64 r.p.lo, .int .u64 r.p.hi, .int .u8 r.mu, .int .u8 r.ma, .int .i64 r.s] 28)).alloc (.cells #[.bool true, .int .u64 tb, .int .u64 te, .int .u64 tl, .int .u64 th, .int .u8 (tp : Nat), .int .i64 ts] 30)) (w.heap.size) #[.int .i64 r.k, .int .u64 r.n.lo, .int .u64 r.n.hi, .int .u64 r.b.lo, .int .u64 r.b.hi, .int .u64 r.e.lo, .int .u64 r.e.hi, .int .u64 r.p.lo, .int .u64 r.p.hi, .int .u8 r.mu, .int .u8 r.ma, .int .i64 r.s]) := T.Hid.mk ((At.at_ (w) _ _ (by simp)).alloc _)
      have B1 : T.Hid (At (((w).alloc (.cells #[.int .i64 r.k, .int .u64 r.n.lo, .int .u64 r.n.hi, .int .u64 r.b.lo, .int .u64 r.b.hi, .int .u64 r.e.lo, .int .u64 r.e.hi, .int .u64 r.p.lo, .int .u64 r.p.hi, .int .u8 r.mu, .int .u8 r.ma, .int .i64 r.s] 28)).alloc (.cells #[.bool true, .int .u64 tb, .int .u64 te, .int .u64 tl, .int .u64 th, .int .u8 (tp : Nat), .int .i64 ts] 30)) (w.heap.size + 1) #[.bool true, .int .u64 tb, .int .u64 te, .int .u64 tl, .int .u64 th, .int .u8 (tp : Nat), .int .i64 ts]) := T.Hid.mk (At.at_ ((w).alloc (.cells #[.int .i64 r.k, .int .u64 r.n.lo, .int .u64 r.n.hi, .int .u64 r.b.lo, .int .u64 r.b.hi, .int .u64 r.e.lo, .int .u64 r.e.hi, .int .u64 r.p.lo, .int .u64 r.p.hi, .int .u8 r.mu, .int .u8 r.ma, .int .i64 r.s] 28)) _ _ (by simp))
      have G := T.Hid.mk (show Gr w (((w).alloc (.cells #[.int .i64 r.k, .int .u64 r.n.lo, .int .u64 r.n.hi, .int .u64 r.b.lo, .int .u64 r.b.hi, .int .u64 r.e.lo, .int .u64 r.e.hi, .int .u64 r.p.lo, .int .u64 r.p.hi, .int .u8 r.mu, .int .u8 r.ma, .int .i64 r.s] 28)).alloc (.cells #[.bool true, .int .u64 tb, .int .u64 te, .int .u64 tl, .int .u64 th, .int .u8 (tp : Nat), .int .i64 ts] 30)) from (((Gr.refl w).alloc _).alloc _))
      generalize ((w).alloc (.cells #[.int .i64 r.k, .int .u64 r.n.lo, .int .u64 r.n.hi, .int .u64 r.b.lo, .int .u64 r.b.hi, .int .u64 r.e.lo, .int .u64 r.e.hi, .int .u64 r.p.lo, .int .u64 r.p.hi, .int .u8 r.mu, .int .u8 r.ma, .int .i64 r.s] 28)).alloc (.cells #[.bool true, .int .u64 tb, .int .u64 te, .int .u64 tl, .int .u64 th, .int .u8 (tp : Nat), .int .i64 ts] 30) = W0 at G B0 B1 ⊢
      have ⟨z0, p0, f0⟩ := B0.out
      have ⟨z1, p1, f1⟩ := B1.out
      clear f0 f1
      go_upto_region 2 with (go_at_call 24; refine (hK.out _).mono ?_; rintro x w1 ⟨rfl, q⟩; have ⟨z9, p9, f9⟩ := B0.out.gr q)
      clear z9 p9 f9
      clear z0 p0 z1 p1
      replace B0 : T.Hid (At (((((((((((((w1).setCell ⟨w.heap.size, 0, none⟩ (.int .i64 1)).setCell ⟨w.heap.size, 1, none⟩ (.int .u64 n1)).setCell ⟨w.heap.size, 2, none⟩ (.int .u64 n2)).setCell ⟨w.heap.size, 3, none⟩ (.int .u64 0)).setCell ⟨w.heap.size, 4, none⟩ (.int .u64 0)).setCell ⟨w.heap.size, 5, none⟩ (.int .u64 0)).setCell ⟨w.heap.size, 6, none⟩ (.int .u64 0)).setCell ⟨w.heap.size, 7, none⟩ (.int .u64 0)).setCell ⟨w.heap.size, 8, none⟩ (.int .u64 0)).setCell ⟨w.heap.size, 9, none⟩ (.int .u8 0)).setCell ⟨w.heap.size, 10, none⟩ (.int .u8 0)).setCell ⟨w.heap.size, 11, none⟩ (.int .i64 0)) w.heap.size #[.int .i64 1, .int .u64 n1, .int .u64 n2, .int .u64 0, .int .u64 0, .int .u64 0, .int .u64 0, .int .u64 0, .int .u64 0, .int .u8 0, .int .u8 0, .int .i64 0]) := T.Hid.mk (st12_new (B0.out.gr q) _ _ _ _ _ _ _ _ _ _ _ _)
      replace B1 : T.Hid (At (((((((((((((w1).setCell ⟨w.heap.size, 0, none⟩ (.int .i64 1)).setCell ⟨w.heap.size, 1, none⟩ (.int .u64 n1)).setCell ⟨w.heap.size, 2, none⟩ (.int .u64 n2)).setCell ⟨w.heap.size, 3, none⟩ (.int .u64 0)).setCell ⟨w.heap.size, 4, none⟩ (.int .u64 0)).setCell ⟨w.heap.size, 5, none⟩ (.int .u64 0)).setCell ⟨w.heap.size, 6, none⟩ (.int .u64 0)).setCell ⟨w.heap.size, 7, none⟩ (.int .u64 0)).setCell ⟨w.heap.size, 8, none⟩ (.int .u64 0)).setCell ⟨w.heap.size, 9, none⟩ (.int .u8 0)).setCell ⟨w.heap.size, 10, none⟩ (.int .u8 0)).setCell ⟨w.heap.size, 11, none⟩ (.int .i64 0)) (w.heap.size + 1) #[.bool true, .int .u64 tb, .int .u64 te, .int .u64 tl, .int .u64 th, .int .u8 (tp : Nat), .int .i64 ts]) := T.Hid.mk (st12_old (B1.out.gr q) (by omega) _ _ _ _ _ _ _ _ _ _ _ _)
      replace G : T.Hid (Gr w (((((((((((((w1).setCell ⟨w.heap.size, 0, none⟩ (.int .i64 1)).setCell ⟨w.heap.size, 1, none⟩ (.int .u64 n1)).setCell ⟨w.heap.size, 2, none⟩ (.int .u64 n2)).setCell ⟨w.heap.size, 3, none⟩ (.int .u64 0)).setCell ⟨w.heap.size, 4, none⟩ (.int .u64 0)).setCell ⟨w.heap.size, 5, none⟩ (.int .u64 0)).setCell ⟨w.heap.size, 6, none⟩ (.int .u64 0)).setCell ⟨w.heap.size, 7, none⟩ (.int .u64 0)).setCell ⟨w.heap.size, 8, none⟩ (.int .u64 0)).setCell ⟨w.heap.size, 9, none⟩ (.int .u8 0)).setCell ⟨w.heap.size, 10, none⟩ (.int .u8 0)).setCell ⟨w.heap.size, 11, none⟩ (.int .i64 0))) := T.Hid.mk (st12_gr (G.out.trans q) (Nat.le_refl _) _ _ _ _ _ _ _ _ _ _ _ _)
      generalize ((((((((((((w1).setCell ⟨w.heap.size, 0, none⟩ (.int .i64 1)).setCell ⟨w.heap.size, 1, none⟩ (.int .u64 n1)).setCell ⟨w.heap.size, 2, none⟩ (.int .u64 n2)).setCell ⟨w.heap.size, 3, none⟩ (.int .u64 0)).setCell ⟨w.heap.size, 4, none⟩ (.int .u64 0)).setCell ⟨w.heap.size, 5, none⟩ (.int .u64 0)).setCell ⟨w.heap.size, 6, none⟩ (.int .u64 0)).setCell ⟨w.heap.size, 7, none⟩ (.int .u64 0)).setCell ⟨w.heap.size, 8, none⟩ (.int .u64 0)).setCell ⟨w.heap.size, 9, none⟩ (.int .u8 0)).setCell ⟨w.heap.size, 10, none⟩ (.int .u8 0)).setCell ⟨w.heap.size, 11, none⟩ (.int .i64 0) = W1 at B0 B1 G ⊢
      clear q hK
      have ⟨z0, p0, f0⟩ := B0.out
      have ⟨z1, p1, f1⟩ := B1.out
      clear f0 f1
      go_upto_region 4 with fail
      go_quiet (fail)
      go_wp2_with fail
      go_ret
      exact ⟨rfl, G.out.trans (gr_drewN _ _)⟩
  | cap b e p mu ma s =>
    cases hc : t.cap
    · rw [show (RV.cap b e p mu ma s).sure t = false from by simp [RV.sure, hc]]
      clear oA
      obtain ⟨tg, tb, te, tl, th, tp, ts⟩ := t
      subst hc
      simp only [RT.agg, Tt.agg, RV.rt, Sp.no] at hK ⊢
      clear h1
      go_enter Try.func8, Try.ntmps8
      go_upto_region 1 with fail
      have B0 : T.Hid (At (((w).alloc (.cells #[.int .i64 r.k, .int .u64 r.n.lo, .int .u64 r.n.hi, .int .u64 r.b.lo, .int .u64 r.b.hi, .int .u64 r.e.lo, .int .u64 r.e.hi, .int .u64 r.p.lo, .int .u64 r.p.hi, .int .u8 r.mu, .int .u8 r.ma, .int .i64 r.s] 28)).alloc (.cells #[.bool false, .int .u64 tb, .int .u64 te, .int .u64 tl, .int .u64 th, .int .u8 (tp : Nat), .int .i64 ts] 30)) (w.heap.size) #[.int .i64 r.k, .int .u64 r.n.lo, .int .u64 r.n.hi, .int .u64 r.b.lo, .int .u64 r.b.hi, .int .u64 r.e.lo, .int .u64 r.e.hi, .int .u64 r.p.lo, .int .u64 r.p.hi, .int .u8 r.mu, .int .u8 r.ma, .int .i64 r.s]) := T.Hid.mk ((At.at_ (w) _ _ (by simp)).alloc _)
      have B1 : T.Hid (At (((w).alloc (.cells #[.int .i64 r.k, .int .u64 r.n.lo, .int .u64 r.n.hi, .int .u64 r.b.lo, .int .u64 r.b.hi, .int .u64 r.e.lo, .int .u64 r.e.hi, .int .u64 r.p.lo, .int .u64 r.p.hi, .int .u8 r.mu, .int .u8 r.ma, .int .i64 r.s] 28)).alloc (.cells #[.bool false, .int .u64 tb, .int .u64 te, .int .u64 tl, .int .u64 th, .int .u8 (tp : Nat), .int .i64 ts] 30)) (w.heap.size + 1) #[.bool false, .int .u64 tb, .int .u64 te, .int .u64 tl, .int .u64 th, .int .u8 (tp : Nat), .int .i64 ts]) := T.Hid.mk (At.at_ ((w).alloc (.cells #[.int .i64 r.k, .int .u64 r.n.lo, .int .u64 r.n.hi, .int .u64 r.b.lo, .int .u64 r.b.hi, .int .u64 r.e.lo, .int .u64 r.e.hi, .int .u64 r.p.lo, .int .u64 r.p.hi, .int .u8 r.mu, .int .u8 r.ma, .int .i64 r.s] 28)) _ _ (by simp))
      have G := T.Hid.mk (show Gr w (((w).alloc (.cells #[.int .i64 r.k, .int .u64 r.n.lo, .int .u64 r.n.hi, .int .u64 r.b.lo, .int .u64 r.b.hi, .int .u64 r.e.lo, .int .u64 r.e.hi, .int .u64 r.p.lo, .int .u64 r.p.hi, .int .u8 r.mu, .int .u8 r.ma, .int .i64 r.s] 28)).alloc (.cells #[.bool false, .int .u64 tb, .int .u64 te, .int .u64 tl, .int .u64 th, .int .u8 (tp : Nat), .int .i64 ts] 30)) from (((Gr.refl w).alloc _).alloc _))
      generalize ((w).alloc (.cells #[.int .i64 r.k, .int .u64 r.n.lo, .int .u64 r.n.hi, .int .u64 r.b.lo, .int .u64 r.b.hi, .int .u64 r.e.lo, .int .u64 r.e.hi, .int .u64 r.p.lo, .int .u64 r.p.hi, .int .u8 r.mu, .int .u8 r.ma, .int .i64 r.s] 28)).alloc (.cells #[.bool false, .int .u64 tb, .int .u64 te, .int .u64 tl, .int .u64 th, .int .u8 (tp : Nat), .int .i64 ts] 30) = W0 at G B0 B1 ⊢
      have ⟨z0, p0, f0⟩ := B0.out
      have ⟨z1, p1, f1⟩ := B1.out
      clear f0 f1
      go_upto_region 2 with (go_at_call 24; refine (hK.out _).mono ?_; rintro x w1 ⟨rfl, q⟩; have ⟨z9, p9, f9⟩ := B0.out.gr q)
      clear z9 p9 f9
      clear z0 p0 z1 p1
      replace B0 : T.Hid (At (((((((((((((w1).setCell ⟨w.heap.size, 0, none⟩ (.int .i64 2)).setCell ⟨w.heap.size, 1, none⟩ (.int .u64 0)).setCell ⟨w.heap.size, 2, none⟩ (.int .u64 0)).setCell ⟨w.heap.size, 3, none⟩ (.int .u64 b.lo)).setCell ⟨w.heap.size, 4, none⟩ (.int .u64 b.hi)).setCell ⟨w.heap.size, 5, none⟩ (.int .u64 e.lo)).setCell ⟨w.heap.size, 6, none⟩ (.int .u64 e.hi)).setCell ⟨w.heap.size, 7, none⟩ (.int .u64 p.lo)).setCell ⟨w.heap.size, 8, none⟩ (.int .u64 p.hi)).setCell ⟨w.heap.size, 9, none⟩ (.int .u8 (mu : Nat))).setCell ⟨w.heap.size, 10, none⟩ (.int .u8 (ma : Nat))).setCell ⟨w.heap.size, 11, none⟩ (.int .i64 s)) w.heap.size #[.int .i64 2, .int .u64 0, .int .u64 0, .int .u64 b.lo, .int .u64 b.hi, .int .u64 e.lo, .int .u64 e.hi, .int .u64 p.lo, .int .u64 p.hi, .int .u8 (mu : Nat), .int .u8 (ma : Nat), .int .i64 s]) := T.Hid.mk (st12_new (B0.out.gr q) _ _ _ _ _ _ _ _ _ _ _ _)
      replace B1 : T.Hid (At (((((((((((((w1).setCell ⟨w.heap.size, 0, none⟩ (.int .i64 2)).setCell ⟨w.heap.size, 1, none⟩ (.int .u64 0)).setCell ⟨w.heap.size, 2, none⟩ (.int .u64 0)).setCell ⟨w.heap.size, 3, none⟩ (.int .u64 b.lo)).setCell ⟨w.heap.size, 4, none⟩ (.int .u64 b.hi)).setCell ⟨w.heap.size, 5, none⟩ (.int .u64 e.lo)).setCell ⟨w.heap.size, 6, none⟩ (.int .u64 e.hi)).setCell ⟨w.heap.size, 7, none⟩ (.int .u64 p.lo)).setCell ⟨w.heap.size, 8, none⟩ (.int .u64 p.hi)).setCell ⟨w.heap.size, 9, none⟩ (.int .u8 (mu : Nat))).setCell ⟨w.heap.size, 10, none⟩ (.int .u8 (ma : Nat))).setCell ⟨w.heap.size, 11, none⟩ (.int .i64 s)) (w.heap.size + 1) #[.bool false, .int .u64 tb, .int .u64 te, .int .u64 tl, .int .u64 th, .int .u8 (tp : Nat), .int .i64 ts]) := T.Hid.mk (st12_old (B1.out.gr q) (by omega) _ _ _ _ _ _ _ _ _ _ _ _)
      replace G : T.Hid (Gr w (((((((((((((w1).setCell ⟨w.heap.size, 0, none⟩ (.int .i64 2)).setCell ⟨w.heap.size, 1, none⟩ (.int .u64 0)).setCell ⟨w.heap.size, 2, none⟩ (.int .u64 0)).setCell ⟨w.heap.size, 3, none⟩ (.int .u64 b.lo)).setCell ⟨w.heap.size, 4, none⟩ (.int .u64 b.hi)).setCell ⟨w.heap.size, 5, none⟩ (.int .u64 e.lo)).setCell ⟨w.heap.size, 6, none⟩ (.int .u64 e.hi)).setCell ⟨w.heap.size, 7, none⟩ (.int .u64 p.lo)).setCell ⟨w.heap.size, 8, none⟩ (.int .u64 p.hi)).setCell ⟨w.heap.size, 9, none⟩ (.int .u8 (mu : Nat))).setCell ⟨w.heap.size, 10, none⟩ (.int .u8 (ma : Nat))).setCell ⟨w.heap.size, 11, none⟩ (.int .i64 s))) := T.Hid.mk (st12_gr (G.out.trans q) (Nat.le_refl _) _ _ _ _ _ _ _ _ _ _ _ _)
      generalize ((((((((((((w1).setCell ⟨w.heap.size, 0, none⟩ (.int .i64 2)).setCell ⟨w.heap.size, 1, none⟩ (.int .u64 0)).setCell ⟨w.heap.size, 2, none⟩ (.int .u64 0)).setCell ⟨w.heap.size, 3, none⟩ (.int .u64 b.lo)).setCell ⟨w.heap.size, 4, none⟩ (.int .u64 b.hi)).setCell ⟨w.heap.size, 5, none⟩ (.int .u64 e.lo)).setCell ⟨w.heap.size, 6, none⟩ (.int .u64 e.hi)).setCell ⟨w.heap.size, 7, none⟩ (.int .u64 p.lo)).setCell ⟨w.heap.size, 8, none⟩ (.int .u64 p.hi)).setCell ⟨w.heap.size, 9, none⟩ (.int .u8 (mu : Nat))).setCell ⟨w.heap.size, 10, none⟩ (.int .u8 (ma : Nat))).setCell ⟨w.heap.size, 11, none⟩ (.int .i64 s) = W1 at B0 B1 G ⊢
      clear q hK
      have ⟨z0, p0, f0⟩ := B0.out
      have ⟨z1, p1, f1⟩ := B1.out
      clear f0 f1
      go_wp2_with fail
      go_ret
      exact ⟨rfl, G.out⟩
    · rw [sure_pro oA hc]
      have qE := fun W => eqRT (RV.cap b e p mu ma s).rt ⟨(ofT t).rt.k, (ofT t).rt.n, (ofT t).rt.b, (ofT t).rt.e, p, (ofT t).rt.mu, (ofT t).rt.ma, (ofT t).rt.s⟩ W
      generalize (RV.cap b e p mu ma s).rt.eqB ⟨(ofT t).rt.k, (ofT t).rt.n, (ofT t).rt.b, (ofT t).rt.e, p, (ofT t).rt.mu, (ofT t).rt.ma, (ofT t).rt.s⟩ = v at *
      generalize (ofT t).rt = O at *
      clear oA
      obtain ⟨tg, tb, te, tl, th, tp, ts⟩ := t
      subst hc
      have hU := T.Hid.mk (fun W => Under_any p.lo p.hi tl th W)
      simp only [RT.agg, Tt.agg, RV.rt, Sp.no] at hK h1 qE ⊢
      generalize inB p.lo p.hi tl th = u at *
      go_enter Try.func8, Try.ntmps8
      go_upto_region 1 with fail
      have B0 : T.Hid (At (((w).alloc (.cells #[.int .i64 r.k, .int .u64 r.n.lo, .int .u64 r.n.hi, .int .u64 r.b.lo, .int .u64 r.b.hi, .int .u64 r.e.lo, .int .u64 r.e.hi, .int .u64 r.p.lo, .int .u64 r.p.hi, .int .u8 r.mu, .int .u8 r.ma, .int .i64 r.s] 28)).alloc (.cells #[.bool true, .int .u64 tb, .int .u64 te, .int .u64 tl, .int .u64 th, .int .u8 (tp : Nat), .int .i64 ts] 30)) (w.heap.size) #[.int .i64 r.k, .int .u64 r.n.lo, .int .u64 r.n.hi, .int .u64 r.b.lo, .int .u64 r.b.hi, .int .u64 r.e.lo, .int .u64 r.e.hi, .int .u64 r.p.lo, .int .u64 r.p.hi, .int .u8 r.mu, .int .u8 r.ma, .int .i64 r.s]) := T.Hid.mk ((At.at_ (w) _ _ (by simp)).alloc _)
      have B1 : T.Hid (At (((w).alloc (.cells #[.int .i64 r.k, .int .u64 r.n.lo, .int .u64 r.n.hi, .int .u64 r.b.lo, .int .u64 r.b.hi, .int .u64 r.e.lo, .int .u64 r.e.hi, .int .u64 r.p.lo, .int .u64 r.p.hi, .int .u8 r.mu, .int .u8 r.ma, .int .i64 r.s] 28)).alloc (.cells #[.bool true, .int .u64 tb, .int .u64 te, .int .u64 tl, .int .u64 th, .int .u8 (tp : Nat), .int .i64 ts] 30)) (w.heap.size + 1) #[.bool true, .int .u64 tb, .int .u64 te, .int .u64 tl, .int .u64 th, .int .u8 (tp : Nat), .int .i64 ts]) := T.Hid.mk (At.at_ ((w).alloc (.cells #[.int .i64 r.k, .int .u64 r.n.lo, .int .u64 r.n.hi, .int .u64 r.b.lo, .int .u64 r.b.hi, .int .u64 r.e.lo, .int .u64 r.e.hi, .int .u64 r.p.lo, .int .u64 r.p.hi, .int .u8 r.mu, .int .u8 r.ma, .int .i64 r.s] 28)) _ _ (by simp))
      have G := T.Hid.mk (show Gr w (((w).alloc (.cells #[.int .i64 r.k, .int .u64 r.n.lo, .int .u64 r.n.hi, .int .u64 r.b.lo, .int .u64 r.b.hi, .int .u64 r.e.lo, .int .u64 r.e.hi, .int .u64 r.p.lo, .int .u64 r.p.hi, .int .u8 r.mu, .int .u8 r.ma, .int .i64 r.s] 28)).alloc (.cells #[.bool true, .int .u64 tb, .int .u64 te, .int .u64 tl, .int .u64 th, .int .u8 (tp : Nat), .int .i64 ts] 30)) from (((Gr.refl w).alloc _).alloc _))
      generalize ((w).alloc (.cells #[.int .i64 r.k, .int .u64 r.n.lo, .int .u64 r.n.hi, .int .u64 r.b.lo, .int .u64 r.b.hi, .int .u64 r.e.lo, .int .u64 r.e.hi, .int .u64 r.p.lo, .int .u64 r.p.hi, .int .u8 r.mu, .int .u8 r.ma, .int .i64 r.s] 28)).alloc (.cells #[.bool true, .int .u64 tb, .int .u64 te, .int .u64 tl, .int .u64 th, .int .u8 (tp : Nat), .int .i64 ts] 30) = W0 at G B0 B1 ⊢
      have ⟨z0, p0, f0⟩ := B0.out
      have ⟨z1, p1, f1⟩ := B1.out
      clear f0 f1
      go_upto_region 2 with (go_at_call 24; refine (hK.out _).mono ?_; rintro x w1 ⟨rfl, q⟩; have ⟨z9, p9, f9⟩ := B0.out.gr q)
      clear z9 p9 f9
      clear z0 p0 z1 p1
      replace B0 : T.Hid (At (((((((((((((w1).setCell ⟨w.heap.size, 0, none⟩ (.int .i64 2)).setCell ⟨w.heap.size, 1, none⟩ (.int .u64 0)).setCell ⟨w.heap.size, 2, none⟩ (.int .u64 0)).setCell ⟨w.heap.size, 3, none⟩ (.int .u64 b.lo)).setCell ⟨w.heap.size, 4, none⟩ (.int .u64 b.hi)).setCell ⟨w.heap.size, 5, none⟩ (.int .u64 e.lo)).setCell ⟨w.heap.size, 6, none⟩ (.int .u64 e.hi)).setCell ⟨w.heap.size, 7, none⟩ (.int .u64 p.lo)).setCell ⟨w.heap.size, 8, none⟩ (.int .u64 p.hi)).setCell ⟨w.heap.size, 9, none⟩ (.int .u8 (mu : Nat))).setCell ⟨w.heap.size, 10, none⟩ (.int .u8 (ma : Nat))).setCell ⟨w.heap.size, 11, none⟩ (.int .i64 s)) w.heap.size #[.int .i64 2, .int .u64 0, .int .u64 0, .int .u64 b.lo, .int .u64 b.hi, .int .u64 e.lo, .int .u64 e.hi, .int .u64 p.lo, .int .u64 p.hi, .int .u8 (mu : Nat), .int .u8 (ma : Nat), .int .i64 s]) := T.Hid.mk (st12_new (B0.out.gr q) _ _ _ _ _ _ _ _ _ _ _ _)
      replace B1 : T.Hid (At (((((((((((((w1).setCell ⟨w.heap.size, 0, none⟩ (.int .i64 2)).setCell ⟨w.heap.size, 1, none⟩ (.int .u64 0)).setCell ⟨w.heap.size, 2, none⟩ (.int .u64 0)).setCell ⟨w.heap.size, 3, none⟩ (.int .u64 b.lo)).setCell ⟨w.heap.size, 4, none⟩ (.int .u64 b.hi)).setCell ⟨w.heap.size, 5, none⟩ (.int .u64 e.lo)).setCell ⟨w.heap.size, 6, none⟩ (.int .u64 e.hi)).setCell ⟨w.heap.size, 7, none⟩ (.int .u64 p.lo)).setCell ⟨w.heap.size, 8, none⟩ (.int .u64 p.hi)).setCell ⟨w.heap.size, 9, none⟩ (.int .u8 (mu : Nat))).setCell ⟨w.heap.size, 10, none⟩ (.int .u8 (ma : Nat))).setCell ⟨w.heap.size, 11, none⟩ (.int .i64 s)) (w.heap.size + 1) #[.bool true, .int .u64 tb, .int .u64 te, .int .u64 tl, .int .u64 th, .int .u8 (tp : Nat), .int .i64 ts]) := T.Hid.mk (st12_old (B1.out.gr q) (by omega) _ _ _ _ _ _ _ _ _ _ _ _)
      replace G : T.Hid (Gr w (((((((((((((w1).setCell ⟨w.heap.size, 0, none⟩ (.int .i64 2)).setCell ⟨w.heap.size, 1, none⟩ (.int .u64 0)).setCell ⟨w.heap.size, 2, none⟩ (.int .u64 0)).setCell ⟨w.heap.size, 3, none⟩ (.int .u64 b.lo)).setCell ⟨w.heap.size, 4, none⟩ (.int .u64 b.hi)).setCell ⟨w.heap.size, 5, none⟩ (.int .u64 e.lo)).setCell ⟨w.heap.size, 6, none⟩ (.int .u64 e.hi)).setCell ⟨w.heap.size, 7, none⟩ (.int .u64 p.lo)).setCell ⟨w.heap.size, 8, none⟩ (.int .u64 p.hi)).setCell ⟨w.heap.size, 9, none⟩ (.int .u8 (mu : Nat))).setCell ⟨w.heap.size, 10, none⟩ (.int .u8 (ma : Nat))).setCell ⟨w.heap.size, 11, none⟩ (.int .i64 s))) := T.Hid.mk (st12_gr (G.out.trans q) (Nat.le_refl _) _ _ _ _ _ _ _ _ _ _ _ _)
      generalize ((((((((((((w1).setCell ⟨w.heap.size, 0, none⟩ (.int .i64 2)).setCell ⟨w.heap.size, 1, none⟩ (.int .u64 0)).setCell ⟨w.heap.size, 2, none⟩ (.int .u64 0)).setCell ⟨w.heap.size, 3, none⟩ (.int .u64 b.lo)).setCell ⟨w.heap.size, 4, none⟩ (.int .u64 b.hi)).setCell ⟨w.heap.size, 5, none⟩ (.int .u64 e.lo)).setCell ⟨w.heap.size, 6, none⟩ (.int .u64 e.hi)).setCell ⟨w.heap.size, 7, none⟩ (.int .u64 p.lo)).setCell ⟨w.heap.size, 8, none⟩ (.int .u64 p.hi)).setCell ⟨w.heap.size, 9, none⟩ (.int .u8 (mu : Nat))).setCell ⟨w.heap.size, 10, none⟩ (.int .u8 (ma : Nat))).setCell ⟨w.heap.size, 11, none⟩ (.int .i64 s) = W1 at B0 B1 G ⊢
      clear q hK
      have ⟨z0, p0, f0⟩ := B0.out
      have ⟨z1, p1, f1⟩ := B1.out
      clear f0 f1
      go_upto_region 4 with fail
      clear z0 p0 z1 p1
      have KS : T.Hid (∀ W, Gr W1 W → W.cell? ⟨w.heap.size, 0, none⟩ = some (.int .i64 2) ∧ W.cell? ⟨w.heap.size, 1, none⟩ = some (.int .u64 0) ∧ W.cell? ⟨w.heap.size, 2, none⟩ = some (.int .u64 0) ∧ W.cell? ⟨w.heap.size, 3, none⟩ = some (.int .u64 b.lo) ∧ W.cell? ⟨w.heap.size, 4, none⟩ = some (.int .u64 b.hi) ∧ W.cell? ⟨w.heap.size, 5, none⟩ = some (.int .u64 e.lo) ∧ W.cell? ⟨w.heap.size, 6, none⟩ = some (.int .u64 e.hi) ∧ W.cell? ⟨w.heap.size, 7, none⟩ = some (.int .u64 p.lo) ∧ W.cell? ⟨w.heap.size, 8, none⟩ = some (.int .u64 p.hi) ∧ W.cell? ⟨w.heap.size, 9, none⟩ = some (.int .u8 (mu : Nat)) ∧ W.cell? ⟨w.heap.size, 10, none⟩ = some (.int .u8 (ma : Nat)) ∧ W.cell? ⟨w.heap.size, 11, none⟩ = some (.int .i64 s) ∧ W.cell? ⟨w.heap.size + 1, 0, none⟩ = some (.bool true) ∧ W.cell? ⟨w.heap.size + 1, 1, none⟩ = some (.int .u64 tb) ∧ W.cell? ⟨w.heap.size + 1, 2, none⟩ = some (.int .u64 te) ∧ W.cell? ⟨w.heap.size + 1, 3, none⟩ = some (.int .u64 tl) ∧ W.cell? ⟨w.heap.size + 1, 4, none⟩ = some (.int .u64 th) ∧ W.cell? ⟨w.heap.size + 1, 5, none⟩ = some (.int .u8 (tp : Nat)) ∧ W.cell? ⟨w.heap.size + 1, 6, none⟩ = some (.int .i64 ts)) := T.Hid.mk (fun W g => by
        have a0 := (B0.out.gr g).2.1
        have a1 := (B1.out.gr g).2.1
        exact ⟨a0 0, a0 1, a0 2, a0 3, a0 4, a0 5, a0 6, a0 7, a0 8, a0 9, a0 10, a0 11, a1 0, a1 1, a1 2, a1 3, a1 4, a1 5, a1 6⟩)
      apply cut_rule
      · intro key
        first | (go_region_held3 (fun W => W.cell? ⟨w.heap.size, 0, none⟩ = some (.int .i64 2) ∧ W.cell? ⟨w.heap.size, 1, none⟩ = some (.int .u64 0) ∧ W.cell? ⟨w.heap.size, 2, none⟩ = some (.int .u64 0) ∧ W.cell? ⟨w.heap.size, 3, none⟩ = some (.int .u64 b.lo) ∧ W.cell? ⟨w.heap.size, 4, none⟩ = some (.int .u64 b.hi) ∧ W.cell? ⟨w.heap.size, 5, none⟩ = some (.int .u64 e.lo) ∧ W.cell? ⟨w.heap.size, 6, none⟩ = some (.int .u64 e.hi) ∧ W.cell? ⟨w.heap.size, 7, none⟩ = some (.int .u64 p.lo) ∧ W.cell? ⟨w.heap.size, 8, none⟩ = some (.int .u64 p.hi) ∧ W.cell? ⟨w.heap.size, 9, none⟩ = some (.int .u8 (mu : Nat)) ∧ W.cell? ⟨w.heap.size, 10, none⟩ = some (.int .u8 (ma : Nat)) ∧ W.cell? ⟨w.heap.size, 11, none⟩ = some (.int .i64 s) ∧ W.cell? ⟨w.heap.size + 1, 0, none⟩ = some (.bool true) ∧ W.cell? ⟨w.heap.size + 1, 1, none⟩ = some (.int .u64 tb) ∧ W.cell? ⟨w.heap.size + 1, 2, none⟩ = some (.int .u64 te) ∧ W.cell? ⟨w.heap.size + 1, 3, none⟩ = some (.int .u64 tl) ∧ W.cell? ⟨w.heap.size + 1, 4, none⟩ = some (.int .u64 th) ∧ W.cell? ⟨w.heap.size + 1, 5, none⟩ = some (.int .u8 (tp : Nat)) ∧ W.cell? ⟨w.heap.size + 1, 6, none⟩ = some (.int .i64 ts)) ((refine KS.out _ ?_; (repeat (first | with_reducible assumption | with_reducible exact Gr.refl _ | with_reducible refine Gr.drew ?_ | with_reducible refine Gr.alloc ?_ _)))) (first | (go_at_call 26; refine (pCursors_any _ _ _ _ _ _ _ _).mono ?_; rintro x wq ⟨rfl, q9⟩; have d1 : Gr W1 wq := Gr.trans (by (repeat (first | with_reducible assumption | with_reducible exact Gr.refl _ | with_reducible refine Gr.drew ?_ | with_reducible refine Gr.alloc ?_ _))) q9; clear q9) | (go_at_call 27; refine (hU.out _).mono ?_; rintro x wq ⟨rfl, q9⟩; have d1 : Gr W1 wq := Gr.trans (by (repeat (first | with_reducible assumption | with_reducible exact Gr.refl _ | with_reducible refine Gr.drew ?_ | with_reducible refine Gr.alloc ?_ _))) q9; clear q9))) | fail
        · revert d1
          revert wq
          exact key.out
      intro wz hz q
      clear hz KS
      replace B0 := T.Hid.mk (B0.out.gr q)
      replace B1 := T.Hid.mk (B1.out.gr q)
      replace G := T.Hid.mk (G.out.trans q)
      clear q hU
      have ⟨z0, p0, f0⟩ := B0.out
      have ⟨z1, p1, f1⟩ := B1.out
      clear f0 f1
      cases u
      · clear h1 qE
        go_wp2_with fail
        go_ret
        exact ⟨rfl, G.out⟩
      · go_upto_region 7 with (go_at_call 7; refine (h1.out _).mono ?_; rintro x w5 ⟨rfl, q⟩)
        clear z0 p0 z1 p1
        have hlt := (B0.out.gr q).1
        replace B0 := T.Hid.mk (B0.out.gr (q.alloc (.cells #[.int .i64 O.k, .int .u64 O.n.lo, .int .u64 O.n.hi, .int .u64 O.b.lo, .int .u64 O.b.hi, .int .u64 O.e.lo, .int .u64 O.e.hi, .int .u64 O.p.lo, .int .u64 O.p.hi, .int .u8 O.mu, .int .u8 O.ma, .int .i64 O.s] 28)))
        replace B1 := T.Hid.mk (B1.out.gr (q.alloc (.cells #[.int .i64 O.k, .int .u64 O.n.lo, .int .u64 O.n.hi, .int .u64 O.b.lo, .int .u64 O.b.hi, .int .u64 O.e.lo, .int .u64 O.e.hi, .int .u64 O.p.lo, .int .u64 O.p.hi, .int .u8 O.mu, .int .u8 O.ma, .int .i64 O.s] 28)))
        have G0 := G
        replace G := T.Hid.mk (G.out.trans (q.alloc (.cells #[.int .i64 O.k, .int .u64 O.n.lo, .int .u64 O.n.hi, .int .u64 O.b.lo, .int .u64 O.b.hi, .int .u64 O.e.lo, .int .u64 O.e.hi, .int .u64 O.p.lo, .int .u64 O.p.hi, .int .u8 O.mu, .int .u8 O.ma, .int .i64 O.s] 28)))
        have B2 := T.Hid.mk (At.new w5 #[.int .i64 O.k, .int .u64 O.n.lo, .int .u64 O.n.hi, .int .u64 O.b.lo, .int .u64 O.b.hi, .int .u64 O.e.lo, .int .u64 O.e.hi, .int .u64 O.p.lo, .int .u64 O.p.hi, .int .u8 O.mu, .int .u8 O.ma, .int .i64 O.s] 28)
        have hk : w.heap.size ≤ w5.heap.size := (Gr.trans G0.out q).below.size
        generalize w5.alloc (.cells #[.int .i64 O.k, .int .u64 O.n.lo, .int .u64 O.n.hi, .int .u64 O.b.lo, .int .u64 O.b.hi, .int .u64 O.e.lo, .int .u64 O.e.hi, .int .u64 O.p.lo, .int .u64 O.p.hi, .int .u8 O.mu, .int .u8 O.ma, .int .i64 O.s] 28) = W5 at G B0 B1 B2 ⊢
        generalize w5.heap.size = k2 at B2 hk hlt ⊢
        clear G0
        clear q h1
        have ⟨z0, p0, f0⟩ := B0.out
        have ⟨z1, p1, f1⟩ := B1.out
        have ⟨z2, p2, f2⟩ := B2.out
        clear f0 f1 f2
        have ⟨_, _, g2⟩ := B2.out
        have n1 : ¬ k2 = w.heap.size := by omega
        have n2 : ¬ w.heap.size = k2 := by omega
        go_wp2_with fail
        go_ret
        refine ⟨ret_bool (by simp), ?_⟩
        exact (G.out.setCell _ _ _ hk).setCell _ _ _ hk
end R
end Go.Proofs.Ytedbfnmmdlcbgaa
