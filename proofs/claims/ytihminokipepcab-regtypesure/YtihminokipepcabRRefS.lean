/-
  Stage 9, regtype: Sure: the document's.
-/
import Derived.Test.YtihminokipepcabRProS
import Derived.Test.YtihminokipepcabRRefE
import Derived.Deep.RegionHeld3
namespace Go.Proofs.Ytihminokipepcab
namespace R
open Go.RowKit

def spB (a b c d : Int) : Bool := decide (a = c ∧ b = d)
set_option maxHeartbeats 1000000 in
theorem eqSp (a b c d : Int) (W : World) : (binOp .eql 25 (.agg #[.int .u64 a, .int .u64 b]) (.agg #[.int .u64 c, .int .u64 d])).run Try.prog W = .ok (.bool (spB a b c d)) W := by
  unfold spB
  simp [go_sem]
  (repeat' split) <;> simp [*]
def sureD (r : RT) (t : Tt) : Bool :=
  decide (r.k = 2) && (spB r.b.lo r.b.hi t.b t.b && spB r.e.lo r.e.hi t.e t.e && decide (t.lo ≤ r.p.lo) && decide (r.p.hi ≤ t.hi)) && decide ((r.mu : Int) = t.pm) && decide ((r.ma : Int) = t.pm) && decide (r.s = t.s) && decide (0 ≤ t.s)
theorem sureD_eq (a : RV) (t : Tt) (ht : t.cap = true) : sureD a.rt t = a.sure t := by
  cases a with
  | any => rfl
  | int n => simp [sureD, RV.rt, RV.sure, ht]
  | cap b e p mu ma s =>
    rw [show sureD (RV.cap b e p mu ma s).rt t = (decide ((2 : Int) = 2) && (spB b.lo b.hi t.b t.b && spB e.lo e.hi t.e t.e && decide (t.lo ≤ p.lo) && decide (p.hi ≤ t.hi)) && decide ((mu : Int) = t.pm) && decide ((ma : Int) = t.pm) && decide (s = t.s) && decide (0 ≤ t.s)) from rfl]
    rw [Bool.eq_iff_iff]
    simp only [RV.sure, spB, ht, Bool.and_eq_true, decide_eq_true_eq, beq_iff_eq, true_and]
    omega
theorem sureD_no (a : RV) (t : Tt) (ht : t.cap = false) : decide (a.rt.k = 1) = a.sure t := by
  cases a <;> simp [RV.rt, RV.sure, ht]
set_option maxHeartbeats 16000000 in
theorem dSure_any (r : RT) (t : Tt) (w : World) (hr : r.Rng) : Calls Try.prog 8 #[r.agg, t.agg] w fun x w' => x = .returned (.bool (r.nm.sure t)) ∧ Gr w w' := by
  have hK := T.Hid.mk (fun W => Norm_any r W hr)
  clear hr
  cases hc : t.cap
  · rw [← sureD_no _ _ hc]
    generalize r.nm.rt = A at *
    obtain ⟨tg, tb, te, tl, th, tp, ts⟩ := t
    subst hc
    simp only [RT.agg, Tt.agg] at hK ⊢
    go_enter Try.func8, Try.ntmps8
    go_upto_region 1 with fail
    have B0 : T.Hid (At (((w).alloc (.cells #[.int .i64 r.k, .int .u64 r.n.lo, .int .u64 r.n.hi, .int .u64 r.b.lo, .int .u64 r.b.hi, .int .u64 r.e.lo, .int .u64 r.e.hi, .int .u64 r.p.lo, .int .u64 r.p.hi, .int .u8 r.mu, .int .u8 r.ma, .int .i64 r.s] 28)).alloc (.cells #[.bool false, .int .u64 tb, .int .u64 te, .int .u64 tl, .int .u64 th, .int .u8 (tp : Nat), .int .i64 ts] 30)) (w.heap.size) #[.int .i64 r.k, .int .u64 r.n.lo, .int .u64 r.n.hi, .int .u64 r.b.lo, .int .u64 r.b.hi, .int .u64 r.e.lo, .int .u64 r.e.hi, .int .u64 r.p.lo, .int .u64 r.p.hi, .int .u8 r.mu, .int .u8 r.ma, .int .i64 r.s]) := T.Hid.mk ((At.at_ (w) _ _ (by simp)).alloc _)
    have B1 : T.Hid (At (((w).alloc (.cells #[.int .i64 r.k, .int .u64 r.n.lo, .int .u64 r.n.hi, .int .u64 r.b.lo, .int .u64 r.b.hi, .int .u64 r.e.lo, .int .u64 r.e.hi, .int .u64 r.p.lo, .int .u64 r.p.hi, .int .u8 r.mu, .int .u8 r.ma, .int .i64 r.s] 28)).alloc (.cells #[.bool false, .int .u64 tb, .int .u64 te, .int .u64 tl, .int .u64 th, .int .u8 (tp : Nat), .int .i64 ts] 30)) (w.heap.size + 1) #[.bool false, .int .u64 tb, .int .u64 te, .int .u64 tl, .int .u64 th, .int .u8 (tp : Nat), .int .i64 ts]) := T.Hid.mk (At.at_ ((w).alloc (.cells #[.int .i64 r.k, .int .u64 r.n.lo, .int .u64 r.n.hi, .int .u64 r.b.lo, .int .u64 r.b.hi, .int .u64 r.e.lo, .int .u64 r.e.hi, .int .u64 r.p.lo, .int .u64 r.p.hi, .int .u8 r.mu, .int .u8 r.ma, .int .i64 r.s] 28)) _ _ (by simp))
    have G := T.Hid.mk (show Gr w (((w).alloc (.cells #[.int .i64 r.k, .int .u64 r.n.lo, .int .u64 r.n.hi, .int .u64 r.b.lo, .int .u64 r.b.hi, .int .u64 r.e.lo, .int .u64 r.e.hi, .int .u64 r.p.lo, .int .u64 r.p.hi, .int .u8 r.mu, .int .u8 r.ma, .int .i64 r.s] 28)).alloc (.cells #[.bool false, .int .u64 tb, .int .u64 te, .int .u64 tl, .int .u64 th, .int .u8 (tp : Nat), .int .i64 ts] 30)) from (((Gr.refl w).alloc _).alloc _))
    generalize ((w).alloc (.cells #[.int .i64 r.k, .int .u64 r.n.lo, .int .u64 r.n.hi, .int .u64 r.b.lo, .int .u64 r.b.hi, .int .u64 r.e.lo, .int .u64 r.e.hi, .int .u64 r.p.lo, .int .u64 r.p.hi, .int .u8 r.mu, .int .u8 r.ma, .int .i64 r.s] 28)).alloc (.cells #[.bool false, .int .u64 tb, .int .u64 te, .int .u64 tl, .int .u64 th, .int .u8 (tp : Nat), .int .i64 ts] 30) = W0 at G B0 B1 ⊢
    have ⟨z0, p0, f0⟩ := B0.out
    have ⟨z1, p1, f1⟩ := B1.out
    clear f0 f1
    go_upto_region 2 with (go_at_call 24; refine (hK.out _).mono ?_; rintro x w1 ⟨rfl, q⟩; have ⟨z9, p9, f9⟩ := B0.out.gr q)
    clear z9 p9 f9
    clear z0 p0 z1 p1
    replace B0 : T.Hid (At (((((((((((((w1).setCell ⟨w.heap.size, 0, none⟩ (.int .i64 A.k)).setCell ⟨w.heap.size, 1, none⟩ (.int .u64 A.n.lo)).setCell ⟨w.heap.size, 2, none⟩ (.int .u64 A.n.hi)).setCell ⟨w.heap.size, 3, none⟩ (.int .u64 A.b.lo)).setCell ⟨w.heap.size, 4, none⟩ (.int .u64 A.b.hi)).setCell ⟨w.heap.size, 5, none⟩ (.int .u64 A.e.lo)).setCell ⟨w.heap.size, 6, none⟩ (.int .u64 A.e.hi)).setCell ⟨w.heap.size, 7, none⟩ (.int .u64 A.p.lo)).setCell ⟨w.heap.size, 8, none⟩ (.int .u64 A.p.hi)).setCell ⟨w.heap.size, 9, none⟩ (.int .u8 A.mu)).setCell ⟨w.heap.size, 10, none⟩ (.int .u8 A.ma)).setCell ⟨w.heap.size, 11, none⟩ (.int .i64 A.s)) w.heap.size #[.int .i64 A.k, .int .u64 A.n.lo, .int .u64 A.n.hi, .int .u64 A.b.lo, .int .u64 A.b.hi, .int .u64 A.e.lo, .int .u64 A.e.hi, .int .u64 A.p.lo, .int .u64 A.p.hi, .int .u8 A.mu, .int .u8 A.ma, .int .i64 A.s]) := T.Hid.mk (st12_new (B0.out.gr q) _ _ _ _ _ _ _ _ _ _ _ _)
    replace B1 : T.Hid (At (((((((((((((w1).setCell ⟨w.heap.size, 0, none⟩ (.int .i64 A.k)).setCell ⟨w.heap.size, 1, none⟩ (.int .u64 A.n.lo)).setCell ⟨w.heap.size, 2, none⟩ (.int .u64 A.n.hi)).setCell ⟨w.heap.size, 3, none⟩ (.int .u64 A.b.lo)).setCell ⟨w.heap.size, 4, none⟩ (.int .u64 A.b.hi)).setCell ⟨w.heap.size, 5, none⟩ (.int .u64 A.e.lo)).setCell ⟨w.heap.size, 6, none⟩ (.int .u64 A.e.hi)).setCell ⟨w.heap.size, 7, none⟩ (.int .u64 A.p.lo)).setCell ⟨w.heap.size, 8, none⟩ (.int .u64 A.p.hi)).setCell ⟨w.heap.size, 9, none⟩ (.int .u8 A.mu)).setCell ⟨w.heap.size, 10, none⟩ (.int .u8 A.ma)).setCell ⟨w.heap.size, 11, none⟩ (.int .i64 A.s)) (w.heap.size + 1) #[.bool false, .int .u64 tb, .int .u64 te, .int .u64 tl, .int .u64 th, .int .u8 (tp : Nat), .int .i64 ts]) := T.Hid.mk (st12_old (B1.out.gr q) (by omega) _ _ _ _ _ _ _ _ _ _ _ _)
    replace G : T.Hid (Gr w (((((((((((((w1).setCell ⟨w.heap.size, 0, none⟩ (.int .i64 A.k)).setCell ⟨w.heap.size, 1, none⟩ (.int .u64 A.n.lo)).setCell ⟨w.heap.size, 2, none⟩ (.int .u64 A.n.hi)).setCell ⟨w.heap.size, 3, none⟩ (.int .u64 A.b.lo)).setCell ⟨w.heap.size, 4, none⟩ (.int .u64 A.b.hi)).setCell ⟨w.heap.size, 5, none⟩ (.int .u64 A.e.lo)).setCell ⟨w.heap.size, 6, none⟩ (.int .u64 A.e.hi)).setCell ⟨w.heap.size, 7, none⟩ (.int .u64 A.p.lo)).setCell ⟨w.heap.size, 8, none⟩ (.int .u64 A.p.hi)).setCell ⟨w.heap.size, 9, none⟩ (.int .u8 A.mu)).setCell ⟨w.heap.size, 10, none⟩ (.int .u8 A.ma)).setCell ⟨w.heap.size, 11, none⟩ (.int .i64 A.s))) := T.Hid.mk (st12_gr (G.out.trans q) (Nat.le_refl _) _ _ _ _ _ _ _ _ _ _ _ _)
    generalize ((((((((((((w1).setCell ⟨w.heap.size, 0, none⟩ (.int .i64 A.k)).setCell ⟨w.heap.size, 1, none⟩ (.int .u64 A.n.lo)).setCell ⟨w.heap.size, 2, none⟩ (.int .u64 A.n.hi)).setCell ⟨w.heap.size, 3, none⟩ (.int .u64 A.b.lo)).setCell ⟨w.heap.size, 4, none⟩ (.int .u64 A.b.hi)).setCell ⟨w.heap.size, 5, none⟩ (.int .u64 A.e.lo)).setCell ⟨w.heap.size, 6, none⟩ (.int .u64 A.e.hi)).setCell ⟨w.heap.size, 7, none⟩ (.int .u64 A.p.lo)).setCell ⟨w.heap.size, 8, none⟩ (.int .u64 A.p.hi)).setCell ⟨w.heap.size, 9, none⟩ (.int .u8 A.mu)).setCell ⟨w.heap.size, 10, none⟩ (.int .u8 A.ma)).setCell ⟨w.heap.size, 11, none⟩ (.int .i64 A.s) = W1 at B0 B1 G ⊢
    clear q hK
    have ⟨z0, p0, f0⟩ := B0.out
    have ⟨z1, p1, f1⟩ := B1.out
    clear f0 f1
    go_wp2_with fail
    all_goals
      go_ret
      refine ⟨ret_bool (by first | rfl | simp_all), G.out⟩
  · rw [← sureD_eq _ _ hc]
    generalize r.nm.rt = A at *
    obtain ⟨tg, tb, te, tl, th, tp, ts⟩ := t
    subst hc
    have q1 := fun W => eqSp A.b.lo A.b.hi tb tb W
    have q2 := fun W => eqSp A.e.lo A.e.hi te te W
    unfold sureD
    simp only [RT.agg, Tt.agg] at hK ⊢
    generalize spB A.b.lo A.b.hi tb tb = c1 at *
    generalize spB A.e.lo A.e.hi te te = c2 at *
    go_enter Try.func8, Try.ntmps8
    go_upto_region 1 with fail
    have B0 : T.Hid (At (((w).alloc (.cells #[.int .i64 r.k, .int .u64 r.n.lo, .int .u64 r.n.hi, .int .u64 r.b.lo, .int .u64 r.b.hi, .int .u64 r.e.lo, .int .u64 r.e.hi, .int .u64 r.p.lo, .int .u64 r.p.hi, .int .u8 r.mu, .int .u8 r.ma, .int .i64 r.s] 28)).alloc (.cells #[.bool true, .int .u64 tb, .int .u64 te, .int .u64 tl, .int .u64 th, .int .u8 (tp : Nat), .int .i64 ts] 30)) (w.heap.size) #[.int .i64 r.k, .int .u64 r.n.lo, .int .u64 r.n.hi, .int .u64 r.b.lo, .int .u64 r.b.hi, .int .u64 r.e.lo, .int .u64 r.e.hi, .int .u64 r.p.lo, .int .u64 r.p.hi, .int .u8 r.mu, .int .u8 r.ma, .int .i64 r.s]) := T.Hid.mk ((At.at_ (w) _ _ (by simp)).alloc _)
    have B1 : T.Hid (At (((w).alloc (.cells #[.int .i64 r.k, .int .u64 r.n.lo, .int .u64 r.n.hi, .int .u64 r.b.lo, .int .u64 r.b.hi, .int .u64 r.e.lo, .int .u64 r.e.hi, .int .u64 r.p.lo, .int .u64 r.p.hi, .int .u8 r.mu, .int .u8 r.ma, .int .i64 r.s] 28)).alloc (.cells #[.bool true, .int .u64 tb, .int .u64 te, .int .u64 tl, .int .u64 th, .int .u8 (tp : Nat), .int .i64 ts] 30)) (w.heap.size + 1) #[.bool true, .int .u64 tb, .int .u64 te, .int .u64 tl, .int .u64 th, .int .u8 (tp : Nat), .int .i64 ts]) := T.Hid.mk (At.at_ ((w).alloc (.cells #[.int .i64 r.k, .int .u64 r.n.lo, .int .u64 r.n.hi, .int .u64 r.b.lo, .int .u64 r.b.hi, .int .u64 r.e.lo, .int .u64 r.e.hi, .int .u64 r.p.lo, .int .u64 r.p.hi, .int .u8 r.mu, .int .u8 r.ma, .int .i64 r.s] 28)) _ _ (by simp))
    have G := T.Hid.mk (show Gr w (((w).alloc (.cells #[.int .i64 r.k, .int .u64 r.n.lo, .int .u64 r.n.hi, .int .u64 r.b.lo, .int .u64 r.b.hi, .int .u64 r.e.lo, .int .u64 r.e.hi, .int .u64 r.p.lo, .int .u64 r.p.hi, .int .u8 r.mu, .int .u8 r.ma, .int .i64 r.s] 28)).alloc (.cells #[.bool true, .int .u64 tb, .int .u64 te, .int .u64 tl, .int .u64 th, .int .u8 (tp : Nat), .int .i64 ts] 30)) from (((Gr.refl w).alloc _).alloc _))
    generalize ((w).alloc (.cells #[.int .i64 r.k, .int .u64 r.n.lo, .int .u64 r.n.hi, .int .u64 r.b.lo, .int .u64 r.b.hi, .int .u64 r.e.lo, .int .u64 r.e.hi, .int .u64 r.p.lo, .int .u64 r.p.hi, .int .u8 r.mu, .int .u8 r.ma, .int .i64 r.s] 28)).alloc (.cells #[.bool true, .int .u64 tb, .int .u64 te, .int .u64 tl, .int .u64 th, .int .u8 (tp : Nat), .int .i64 ts] 30) = W0 at G B0 B1 ⊢
    have ⟨z0, p0, f0⟩ := B0.out
    have ⟨z1, p1, f1⟩ := B1.out
    clear f0 f1
    go_upto_region 2 with (go_at_call 24; refine (hK.out _).mono ?_; rintro x w1 ⟨rfl, q⟩; have ⟨z9, p9, f9⟩ := B0.out.gr q)
    clear z9 p9 f9
    clear z0 p0 z1 p1
    replace B0 : T.Hid (At (((((((((((((w1).setCell ⟨w.heap.size, 0, none⟩ (.int .i64 A.k)).setCell ⟨w.heap.size, 1, none⟩ (.int .u64 A.n.lo)).setCell ⟨w.heap.size, 2, none⟩ (.int .u64 A.n.hi)).setCell ⟨w.heap.size, 3, none⟩ (.int .u64 A.b.lo)).setCell ⟨w.heap.size, 4, none⟩ (.int .u64 A.b.hi)).setCell ⟨w.heap.size, 5, none⟩ (.int .u64 A.e.lo)).setCell ⟨w.heap.size, 6, none⟩ (.int .u64 A.e.hi)).setCell ⟨w.heap.size, 7, none⟩ (.int .u64 A.p.lo)).setCell ⟨w.heap.size, 8, none⟩ (.int .u64 A.p.hi)).setCell ⟨w.heap.size, 9, none⟩ (.int .u8 A.mu)).setCell ⟨w.heap.size, 10, none⟩ (.int .u8 A.ma)).setCell ⟨w.heap.size, 11, none⟩ (.int .i64 A.s)) w.heap.size #[.int .i64 A.k, .int .u64 A.n.lo, .int .u64 A.n.hi, .int .u64 A.b.lo, .int .u64 A.b.hi, .int .u64 A.e.lo, .int .u64 A.e.hi, .int .u64 A.p.lo, .int .u64 A.p.hi, .int .u8 A.mu, .int .u8 A.ma, .int .i64 A.s]) := T.Hid.mk (st12_new (B0.out.gr q) _ _ _ _ _ _ _ _ _ _ _ _)
    replace B1 : T.Hid (At (((((((((((((w1).setCell ⟨w.heap.size, 0, none⟩ (.int .i64 A.k)).setCell ⟨w.heap.size, 1, none⟩ (.int .u64 A.n.lo)).setCell ⟨w.heap.size, 2, none⟩ (.int .u64 A.n.hi)).setCell ⟨w.heap.size, 3, none⟩ (.int .u64 A.b.lo)).setCell ⟨w.heap.size, 4, none⟩ (.int .u64 A.b.hi)).setCell ⟨w.heap.size, 5, none⟩ (.int .u64 A.e.lo)).setCell ⟨w.heap.size, 6, none⟩ (.int .u64 A.e.hi)).setCell ⟨w.heap.size, 7, none⟩ (.int .u64 A.p.lo)).setCell ⟨w.heap.size, 8, none⟩ (.int .u64 A.p.hi)).setCell ⟨w.heap.size, 9, none⟩ (.int .u8 A.mu)).setCell ⟨w.heap.size, 10, none⟩ (.int .u8 A.ma)).setCell ⟨w.heap.size, 11, none⟩ (.int .i64 A.s)) (w.heap.size + 1) #[.bool true, .int .u64 tb, .int .u64 te, .int .u64 tl, .int .u64 th, .int .u8 (tp : Nat), .int .i64 ts]) := T.Hid.mk (st12_old (B1.out.gr q) (by omega) _ _ _ _ _ _ _ _ _ _ _ _)
    replace G : T.Hid (Gr w (((((((((((((w1).setCell ⟨w.heap.size, 0, none⟩ (.int .i64 A.k)).setCell ⟨w.heap.size, 1, none⟩ (.int .u64 A.n.lo)).setCell ⟨w.heap.size, 2, none⟩ (.int .u64 A.n.hi)).setCell ⟨w.heap.size, 3, none⟩ (.int .u64 A.b.lo)).setCell ⟨w.heap.size, 4, none⟩ (.int .u64 A.b.hi)).setCell ⟨w.heap.size, 5, none⟩ (.int .u64 A.e.lo)).setCell ⟨w.heap.size, 6, none⟩ (.int .u64 A.e.hi)).setCell ⟨w.heap.size, 7, none⟩ (.int .u64 A.p.lo)).setCell ⟨w.heap.size, 8, none⟩ (.int .u64 A.p.hi)).setCell ⟨w.heap.size, 9, none⟩ (.int .u8 A.mu)).setCell ⟨w.heap.size, 10, none⟩ (.int .u8 A.ma)).setCell ⟨w.heap.size, 11, none⟩ (.int .i64 A.s))) := T.Hid.mk (st12_gr (G.out.trans q) (Nat.le_refl _) _ _ _ _ _ _ _ _ _ _ _ _)
    generalize ((((((((((((w1).setCell ⟨w.heap.size, 0, none⟩ (.int .i64 A.k)).setCell ⟨w.heap.size, 1, none⟩ (.int .u64 A.n.lo)).setCell ⟨w.heap.size, 2, none⟩ (.int .u64 A.n.hi)).setCell ⟨w.heap.size, 3, none⟩ (.int .u64 A.b.lo)).setCell ⟨w.heap.size, 4, none⟩ (.int .u64 A.b.hi)).setCell ⟨w.heap.size, 5, none⟩ (.int .u64 A.e.lo)).setCell ⟨w.heap.size, 6, none⟩ (.int .u64 A.e.hi)).setCell ⟨w.heap.size, 7, none⟩ (.int .u64 A.p.lo)).setCell ⟨w.heap.size, 8, none⟩ (.int .u64 A.p.hi)).setCell ⟨w.heap.size, 9, none⟩ (.int .u8 A.mu)).setCell ⟨w.heap.size, 10, none⟩ (.int .u8 A.ma)).setCell ⟨w.heap.size, 11, none⟩ (.int .i64 A.s) = W1 at B0 B1 G ⊢
    clear q hK
    have ⟨z0, p0, f0⟩ := B0.out
    have ⟨z1, p1, f1⟩ := B1.out
    clear f0 f1
    go_upto_region 4 with fail
    cases c1
    · clear z0 p0 z1 p1
      have KS : T.Hid (∀ W, Gr W1 W → W.cell? ⟨w.heap.size, 0, none⟩ = some (.int .i64 A.k) ∧ W.cell? ⟨w.heap.size, 1, none⟩ = some (.int .u64 A.n.lo) ∧ W.cell? ⟨w.heap.size, 2, none⟩ = some (.int .u64 A.n.hi) ∧ W.cell? ⟨w.heap.size, 3, none⟩ = some (.int .u64 A.b.lo) ∧ W.cell? ⟨w.heap.size, 4, none⟩ = some (.int .u64 A.b.hi) ∧ W.cell? ⟨w.heap.size, 5, none⟩ = some (.int .u64 A.e.lo) ∧ W.cell? ⟨w.heap.size, 6, none⟩ = some (.int .u64 A.e.hi) ∧ W.cell? ⟨w.heap.size, 7, none⟩ = some (.int .u64 A.p.lo) ∧ W.cell? ⟨w.heap.size, 8, none⟩ = some (.int .u64 A.p.hi) ∧ W.cell? ⟨w.heap.size, 9, none⟩ = some (.int .u8 A.mu) ∧ W.cell? ⟨w.heap.size, 10, none⟩ = some (.int .u8 A.ma) ∧ W.cell? ⟨w.heap.size, 11, none⟩ = some (.int .i64 A.s) ∧ W.cell? ⟨w.heap.size + 1, 0, none⟩ = some (.bool true) ∧ W.cell? ⟨w.heap.size + 1, 1, none⟩ = some (.int .u64 tb) ∧ W.cell? ⟨w.heap.size + 1, 2, none⟩ = some (.int .u64 te) ∧ W.cell? ⟨w.heap.size + 1, 3, none⟩ = some (.int .u64 tl) ∧ W.cell? ⟨w.heap.size + 1, 4, none⟩ = some (.int .u64 th) ∧ W.cell? ⟨w.heap.size + 1, 5, none⟩ = some (.int .u8 (tp : Nat)) ∧ W.cell? ⟨w.heap.size + 1, 6, none⟩ = some (.int .i64 ts)) := T.Hid.mk (fun W g => by
        have a0 := (B0.out.gr g).2.1
        have a1 := (B1.out.gr g).2.1
        exact ⟨a0 0, a0 1, a0 2, a0 3, a0 4, a0 5, a0 6, a0 7, a0 8, a0 9, a0 10, a0 11, a1 0, a1 1, a1 2, a1 3, a1 4, a1 5, a1 6⟩)
      have d1 : Gr W1 W1.drew := (Gr.refl _).drew
      refine wp_region_held_drew (S := (fun W => W.cell? ⟨w.heap.size, 0, none⟩ = some (.int .i64 A.k) ∧ W.cell? ⟨w.heap.size, 1, none⟩ = some (.int .u64 A.n.lo) ∧ W.cell? ⟨w.heap.size, 2, none⟩ = some (.int .u64 A.n.hi) ∧ W.cell? ⟨w.heap.size, 3, none⟩ = some (.int .u64 A.b.lo) ∧ W.cell? ⟨w.heap.size, 4, none⟩ = some (.int .u64 A.b.hi) ∧ W.cell? ⟨w.heap.size, 5, none⟩ = some (.int .u64 A.e.lo) ∧ W.cell? ⟨w.heap.size, 6, none⟩ = some (.int .u64 A.e.hi) ∧ W.cell? ⟨w.heap.size, 7, none⟩ = some (.int .u64 A.p.lo) ∧ W.cell? ⟨w.heap.size, 8, none⟩ = some (.int .u64 A.p.hi) ∧ W.cell? ⟨w.heap.size, 9, none⟩ = some (.int .u8 A.mu) ∧ W.cell? ⟨w.heap.size, 10, none⟩ = some (.int .u8 A.ma) ∧ W.cell? ⟨w.heap.size, 11, none⟩ = some (.int .i64 A.s) ∧ W.cell? ⟨w.heap.size + 1, 0, none⟩ = some (.bool true) ∧ W.cell? ⟨w.heap.size + 1, 1, none⟩ = some (.int .u64 tb) ∧ W.cell? ⟨w.heap.size + 1, 2, none⟩ = some (.int .u64 te) ∧ W.cell? ⟨w.heap.size + 1, 3, none⟩ = some (.int .u64 tl) ∧ W.cell? ⟨w.heap.size + 1, 4, none⟩ = some (.int .u64 th) ∧ W.cell? ⟨w.heap.size + 1, 5, none⟩ = some (.int .u8 (tp : Nat)) ∧ W.cell? ⟨w.heap.size + 1, 6, none⟩ = some (.int .i64 ts))) (by kernel_rfl) (KS.out _ d1) (fun hHeld => ?_)
      refine wpAnyH_take (i := 0) (oi := { dst := some 14, op := Op.fieldAddr 28 (Operand.tmp 2) 2, type := 0, pos := "ref.go:186", after := #[], guard := none }) (v := ?_) rfl (by kernel_rfl) (by kernel_rfl) (by kernel_rfl) (fun _ _ _ h => h) (Or.inl ⟨by rfl, ?_⟩) (by assumption) ?_
      rotate_left
      · intro w hSw; (try dsimp only at hSw); go_simp; first | done | with_reducible rfl
      try simp only [Act.put, List.setIfInBounds_toArray, List.set_cons_zero, List.set_cons_succ]
      refine wpAnyH_take (i := 1) (oi := { dst := some 15, op := Op.load 25 (Operand.tmp 14), type := 25, pos := "ref.go:186", after := #[{ on := 0, ground := Ground.data }], guard := none }) (v := ?_) rfl (by kernel_rfl) (by kernel_rfl) (by kernel_rfl) (fun _ _ _ h => h) (Or.inl ⟨by rfl, ?_⟩) (by assumption) ?_
      rotate_left
      · intro w hSw; (try dsimp only at hSw); go_simp; first | done | with_reducible rfl
      try simp only [Act.put, List.setIfInBounds_toArray, List.set_cons_zero, List.set_cons_succ]
      refine wpAnyH_take (i := 2) (oi := { dst := some 16, op := Op.fieldAddr 30 (Operand.tmp 3) 1, type := 0, pos := "ref.go:186", after := #[], guard := none }) (v := ?_) rfl (by kernel_rfl) (by kernel_rfl) (by kernel_rfl) (fun _ _ _ h => h) (Or.inl ⟨by rfl, ?_⟩) (by assumption) ?_
      rotate_left
      · intro w hSw; (try dsimp only at hSw); go_simp; first | done | with_reducible rfl
      try simp only [Act.put, List.setIfInBounds_toArray, List.set_cons_zero, List.set_cons_succ]
      refine wpAnyH_take (i := 3) (oi := { dst := some 17, op := Op.load 23 (Operand.tmp 16), type := 23, pos := "ref.go:186", after := #[{ on := 2, ground := Ground.data }], guard := none }) (v := ?_) rfl (by kernel_rfl) (by kernel_rfl) (by kernel_rfl) (fun _ _ _ h => h) (Or.inl ⟨by rfl, ?_⟩) (by assumption) ?_
      rotate_left
      · intro w hSw; (try dsimp only at hSw); go_simp; first | done | with_reducible rfl
      try simp only [Act.put, List.setIfInBounds_toArray, List.set_cons_zero, List.set_cons_succ]
      refine wpAnyH_ready (rs := [4]) (by kernel_rfl) (by simp) ?_
      refine AllReadyH.cons (o := { dst := some 18, op := Op.call { callee := Callee.value (Operand.func 25), args := #[Operand.tmp 17], argTypes := #[23] }, type := 25, pos := "ref.go:186", after := #[{ on := 3, ground := Ground.data }], guard := none }) rfl (fun K hK => ?_) AllReadyH.nil
      go_simp
      go_wp2_with ((go_at_call 25; refine (one_any _ _).mono ?_; rintro x wq ⟨rfl, q9⟩; have d1 : Gr W1 wq := Gr.trans (by (repeat (first | with_reducible assumption | with_reducible exact Gr.refl _ | with_reducible refine Gr.drew ?_ | with_reducible refine Gr.alloc ?_ _))) q9; clear q9))
      refine hK.out _ _ (KS.out _ d1) (fun hHeld => ?_)
      clear hK K
      try simp only [Act.put, List.setIfInBounds_toArray, List.set_cons_zero, List.set_cons_succ]
      refine wpAnyH_take (i := 5) (oi := { dst := some 19, op := Op.binOp BinOp.eql 25 (Operand.tmp 15) (Operand.tmp 18) 25, type := 4, pos := "ref.go:186", after := #[{ on := 1, ground := Ground.data }, { on := 4, ground := Ground.data }], guard := none }) (v := ?_) rfl (by kernel_rfl) (by kernel_rfl) (by kernel_rfl) (fun _ _ _ h => h) (Or.inl ⟨by rfl, ?_⟩) (by assumption) ?_
      rotate_left
      · intro w hSw; (try dsimp only at hSw); go_simp; first | done | with_reducible rfl
      try simp only [Act.put, List.setIfInBounds_toArray, List.set_cons_zero, List.set_cons_succ]
      refine wpAnyH_take (i := 6) (oi := { dst := some 20, op := Op.move (Operand.tmp 19), type := 4, pos := "ref.go:186", after := #[{ on := 5, ground := Ground.data }, { on := 4, ground := Ground.chain }], guard := none }) (v := ?_) rfl (by kernel_rfl) (by kernel_rfl) (by kernel_rfl) (fun _ _ _ h => h) (Or.inl ⟨by rfl, ?_⟩) (by assumption) ?_
      rotate_left
      · intro w hSw; (try dsimp only at hSw); go_simp; first | done | with_reducible rfl
      try simp only [Act.put, List.setIfInBounds_toArray, List.set_cons_zero, List.set_cons_succ]
      refine wpAnyH_take (i := 7) (oi := { dst := some 21, op := Op.fieldAddr 28 (Operand.tmp 2) 3, type := 0, pos := "ref.go:186", after := #[{ on := 6, ground := Ground.guard }], guard := some (6, true) }) (v := undef) rfl (by kernel_rfl) (by kernel_rfl) (by kernel_rfl) (fun _ _ _ h => h) (Or.inr ⟨by rfl, rfl⟩) (by assumption) ?_
      try simp only [Act.put, List.setIfInBounds_toArray, List.set_cons_zero, List.set_cons_succ]
      refine wpAnyH_take (i := 8) (oi := { dst := some 22, op := Op.load 25 (Operand.tmp 21), type := 25, pos := "ref.go:186", after := #[{ on := 7, ground := Ground.data }, { on := 6, ground := Ground.guard }], guard := some (6, true) }) (v := undef) rfl (by kernel_rfl) (by kernel_rfl) (by kernel_rfl) (fun _ _ _ h => h) (Or.inr ⟨by rfl, rfl⟩) (by assumption) ?_
      try simp only [Act.put, List.setIfInBounds_toArray, List.set_cons_zero, List.set_cons_succ]
      refine wpAnyH_take (i := 9) (oi := { dst := some 23, op := Op.fieldAddr 30 (Operand.tmp 3) 2, type := 0, pos := "ref.go:186", after := #[{ on := 6, ground := Ground.guard }], guard := some (6, true) }) (v := undef) rfl (by kernel_rfl) (by kernel_rfl) (by kernel_rfl) (fun _ _ _ h => h) (Or.inr ⟨by rfl, rfl⟩) (by assumption) ?_
      try simp only [Act.put, List.setIfInBounds_toArray, List.set_cons_zero, List.set_cons_succ]
      refine wpAnyH_take (i := 10) (oi := { dst := some 24, op := Op.load 23 (Operand.tmp 23), type := 23, pos := "ref.go:186", after := #[{ on := 9, ground := Ground.data }, { on := 6, ground := Ground.guard }], guard := some (6, true) }) (v := undef) rfl (by kernel_rfl) (by kernel_rfl) (by kernel_rfl) (fun _ _ _ h => h) (Or.inr ⟨by rfl, rfl⟩) (by assumption) ?_
      try simp only [Act.put, List.setIfInBounds_toArray, List.set_cons_zero, List.set_cons_succ]
      refine wpAnyH_take (i := 11) (oi := { dst := some 25, op := Op.call { callee := Callee.value (Operand.func 25), args := #[Operand.tmp 24], argTypes := #[23] }, type := 25, pos := "ref.go:186", after := #[{ on := 10, ground := Ground.data }, { on := 6, ground := Ground.chain }, { on := 6, ground := Ground.guard }], guard := some (6, true) }) (v := undef) rfl (by kernel_rfl) (by kernel_rfl) (by kernel_rfl) (fun _ _ _ h => h) (Or.inr ⟨by rfl, rfl⟩) (by assumption) ?_
      try simp only [Act.put, List.setIfInBounds_toArray, List.set_cons_zero, List.set_cons_succ]
      refine wpAnyH_take (i := 12) (oi := { dst := some 26, op := Op.binOp BinOp.eql 25 (Operand.tmp 22) (Operand.tmp 25) 25, type := 4, pos := "ref.go:186", after := #[{ on := 8, ground := Ground.data }, { on := 11, ground := Ground.data }, { on := 6, ground := Ground.guard }], guard := some (6, true) }) (v := undef) rfl (by kernel_rfl) (by kernel_rfl) (by kernel_rfl) (fun _ _ _ h => h) (Or.inr ⟨by rfl, rfl⟩) (by assumption) ?_
      try simp only [Act.put, List.setIfInBounds_toArray, List.set_cons_zero, List.set_cons_succ]
      refine wpAnyH_take (i := 13) (oi := { dst := some 27, op := Op.pick (Operand.tmp 20) (Operand.tmp 26) (Operand.const (Value.bool false)), type := 4, pos := "ref.go:186", after := #[{ on := 6, ground := Ground.data }, { on := 12, ground := Ground.data }], guard := none }) (v := ?_) rfl (by kernel_rfl) (by kernel_rfl) (by kernel_rfl) (fun _ _ _ h => h) (Or.inl ⟨by rfl, ?_⟩) (by assumption) ?_
      rotate_left
      · intro w hSw; (try dsimp only at hSw); go_simp; first | done | with_reducible rfl
      try simp only [Act.put, List.setIfInBounds_toArray, List.set_cons_zero, List.set_cons_succ]
      refine wpAnyH_take (i := 14) (oi := { dst := some 28, op := Op.move (Operand.tmp 27), type := 4, pos := "ref.go:186", after := #[{ on := 13, ground := Ground.data }, { on := 11, ground := Ground.chain }], guard := none }) (v := ?_) rfl (by kernel_rfl) (by kernel_rfl) (by kernel_rfl) (fun _ _ _ h => h) (Or.inl ⟨by rfl, ?_⟩) (by assumption) ?_
      rotate_left
      · intro w hSw; (try dsimp only at hSw); go_simp; first | done | with_reducible rfl
      try simp only [Act.put, List.setIfInBounds_toArray, List.set_cons_zero, List.set_cons_succ]
      refine wpAnyH_take (i := 15) (oi := { dst := some 29, op := Op.fieldAddr 28 (Operand.tmp 2) 4, type := 0, pos := "ref.go:186", after := #[{ on := 14, ground := Ground.guard }], guard := some (14, true) }) (v := undef) rfl (by kernel_rfl) (by kernel_rfl) (by kernel_rfl) (fun _ _ _ h => h) (Or.inr ⟨by rfl, rfl⟩) (by assumption) ?_
      try simp only [Act.put, List.setIfInBounds_toArray, List.set_cons_zero, List.set_cons_succ]
      refine wpAnyH_take (i := 16) (oi := { dst := some 30, op := Op.fieldAddr 25 (Operand.tmp 29) 0, type := 0, pos := "ref.go:186", after := #[{ on := 15, ground := Ground.data }, { on := 14, ground := Ground.guard }], guard := some (14, true) }) (v := undef) rfl (by kernel_rfl) (by kernel_rfl) (by kernel_rfl) (fun _ _ _ h => h) (Or.inr ⟨by rfl, rfl⟩) (by assumption) ?_
      try simp only [Act.put, List.setIfInBounds_toArray, List.set_cons_zero, List.set_cons_succ]
      refine wpAnyH_take (i := 17) (oi := { dst := some 31, op := Op.load 23 (Operand.tmp 30), type := 23, pos := "ref.go:186", after := #[{ on := 16, ground := Ground.data }, { on := 14, ground := Ground.guard }], guard := some (14, true) }) (v := undef) rfl (by kernel_rfl) (by kernel_rfl) (by kernel_rfl) (fun _ _ _ h => h) (Or.inr ⟨by rfl, rfl⟩) (by assumption) ?_
      try simp only [Act.put, List.setIfInBounds_toArray, List.set_cons_zero, List.set_cons_succ]
      refine wpAnyH_take (i := 18) (oi := { dst := some 32, op := Op.fieldAddr 30 (Operand.tmp 3) 3, type := 0, pos := "ref.go:186", after := #[{ on := 14, ground := Ground.guard }], guard := some (14, true) }) (v := undef) rfl (by kernel_rfl) (by kernel_rfl) (by kernel_rfl) (fun _ _ _ h => h) (Or.inr ⟨by rfl, rfl⟩) (by assumption) ?_
      try simp only [Act.put, List.setIfInBounds_toArray, List.set_cons_zero, List.set_cons_succ]
      refine wpAnyH_take (i := 19) (oi := { dst := some 33, op := Op.load 23 (Operand.tmp 32), type := 23, pos := "ref.go:186", after := #[{ on := 18, ground := Ground.data }, { on := 14, ground := Ground.guard }], guard := some (14, true) }) (v := undef) rfl (by kernel_rfl) (by kernel_rfl) (by kernel_rfl) (fun _ _ _ h => h) (Or.inr ⟨by rfl, rfl⟩) (by assumption) ?_
      try simp only [Act.put, List.setIfInBounds_toArray, List.set_cons_zero, List.set_cons_succ]
      refine wpAnyH_take (i := 20) (oi := { dst := some 34, op := Op.binOp BinOp.geq 23 (Operand.tmp 31) (Operand.tmp 33) 23, type := 4, pos := "ref.go:186", after := #[{ on := 17, ground := Ground.data }, { on := 19, ground := Ground.data }, { on := 14, ground := Ground.guard }], guard := some (14, true) }) (v := undef) rfl (by kernel_rfl) (by kernel_rfl) (by kernel_rfl) (fun _ _ _ h => h) (Or.inr ⟨by rfl, rfl⟩) (by assumption) ?_
      try simp only [Act.put, List.setIfInBounds_toArray, List.set_cons_zero, List.set_cons_succ]
      refine wpAnyH_take (i := 21) (oi := { dst := some 35, op := Op.pick (Operand.tmp 28) (Operand.tmp 34) (Operand.const (Value.bool false)), type := 4, pos := "ref.go:186", after := #[{ on := 14, ground := Ground.data }, { on := 20, ground := Ground.data }], guard := none }) (v := ?_) rfl (by kernel_rfl) (by kernel_rfl) (by kernel_rfl) (fun _ _ _ h => h) (Or.inl ⟨by rfl, ?_⟩) (by assumption) ?_
      rotate_left
      · intro w hSw; (try dsimp only at hSw); go_simp; first | done | with_reducible rfl
      try simp only [Act.put, List.setIfInBounds_toArray, List.set_cons_zero, List.set_cons_succ]
      refine wpAnyH_take (i := 22) (oi := { dst := some 36, op := Op.move (Operand.tmp 35), type := 4, pos := "ref.go:186", after := #[{ on := 21, ground := Ground.data }, { on := 14, ground := Ground.chain }], guard := none }) (v := ?_) rfl (by kernel_rfl) (by kernel_rfl) (by kernel_rfl) (fun _ _ _ h => h) (Or.inl ⟨by rfl, ?_⟩) (by assumption) ?_
      rotate_left
      · intro w hSw; (try dsimp only at hSw); go_simp; first | done | with_reducible rfl
      try simp only [Act.put, List.setIfInBounds_toArray, List.set_cons_zero, List.set_cons_succ]
      refine wpAnyH_take (i := 23) (oi := { dst := some 37, op := Op.fieldAddr 28 (Operand.tmp 2) 4, type := 0, pos := "ref.go:186", after := #[{ on := 22, ground := Ground.guard }], guard := some (22, true) }) (v := undef) rfl (by kernel_rfl) (by kernel_rfl) (by kernel_rfl) (fun _ _ _ h => h) (Or.inr ⟨by rfl, rfl⟩) (by assumption) ?_
      try simp only [Act.put, List.setIfInBounds_toArray, List.set_cons_zero, List.set_cons_succ]
      refine wpAnyH_take (i := 24) (oi := { dst := some 38, op := Op.fieldAddr 25 (Operand.tmp 37) 1, type := 0, pos := "ref.go:186", after := #[{ on := 23, ground := Ground.data }, { on := 22, ground := Ground.guard }], guard := some (22, true) }) (v := undef) rfl (by kernel_rfl) (by kernel_rfl) (by kernel_rfl) (fun _ _ _ h => h) (Or.inr ⟨by rfl, rfl⟩) (by assumption) ?_
      try simp only [Act.put, List.setIfInBounds_toArray, List.set_cons_zero, List.set_cons_succ]
      refine wpAnyH_take (i := 25) (oi := { dst := some 39, op := Op.load 23 (Operand.tmp 38), type := 23, pos := "ref.go:186", after := #[{ on := 24, ground := Ground.data }, { on := 22, ground := Ground.guard }], guard := some (22, true) }) (v := undef) rfl (by kernel_rfl) (by kernel_rfl) (by kernel_rfl) (fun _ _ _ h => h) (Or.inr ⟨by rfl, rfl⟩) (by assumption) ?_
      try simp only [Act.put, List.setIfInBounds_toArray, List.set_cons_zero, List.set_cons_succ]
      refine wpAnyH_take (i := 26) (oi := { dst := some 40, op := Op.fieldAddr 30 (Operand.tmp 3) 4, type := 0, pos := "ref.go:186", after := #[{ on := 22, ground := Ground.guard }], guard := some (22, true) }) (v := undef) rfl (by kernel_rfl) (by kernel_rfl) (by kernel_rfl) (fun _ _ _ h => h) (Or.inr ⟨by rfl, rfl⟩) (by assumption) ?_
      try simp only [Act.put, List.setIfInBounds_toArray, List.set_cons_zero, List.set_cons_succ]
      refine wpAnyH_take (i := 27) (oi := { dst := some 41, op := Op.load 23 (Operand.tmp 40), type := 23, pos := "ref.go:186", after := #[{ on := 26, ground := Ground.data }, { on := 22, ground := Ground.guard }], guard := some (22, true) }) (v := undef) rfl (by kernel_rfl) (by kernel_rfl) (by kernel_rfl) (fun _ _ _ h => h) (Or.inr ⟨by rfl, rfl⟩) (by assumption) ?_
      try simp only [Act.put, List.setIfInBounds_toArray, List.set_cons_zero, List.set_cons_succ]
      refine wpAnyH_take (i := 28) (oi := { dst := some 42, op := Op.binOp BinOp.leq 23 (Operand.tmp 39) (Operand.tmp 41) 23, type := 4, pos := "ref.go:186", after := #[{ on := 25, ground := Ground.data }, { on := 27, ground := Ground.data }, { on := 22, ground := Ground.guard }], guard := some (22, true) }) (v := undef) rfl (by kernel_rfl) (by kernel_rfl) (by kernel_rfl) (fun _ _ _ h => h) (Or.inr ⟨by rfl, rfl⟩) (by assumption) ?_
      try simp only [Act.put, List.setIfInBounds_toArray, List.set_cons_zero, List.set_cons_succ]
      refine wpAnyH_take (i := 29) (oi := { dst := some 43, op := Op.pick (Operand.tmp 36) (Operand.tmp 42) (Operand.const (Value.bool false)), type := 4, pos := "ref.go:186", after := #[{ on := 22, ground := Ground.data }, { on := 28, ground := Ground.data }], guard := none }) (v := ?_) rfl (by kernel_rfl) (by kernel_rfl) (by kernel_rfl) (fun _ _ _ h => h) (Or.inl ⟨by rfl, ?_⟩) (by assumption) ?_
      rotate_left
      · intro w hSw; (try dsimp only at hSw); go_simp; first | done | with_reducible rfl
      try simp only [Act.put, List.setIfInBounds_toArray, List.set_cons_zero, List.set_cons_succ]
      refine wpAnyH_take (i := 30) (oi := { dst := some 5, op := Op.assign (Operand.tmp 43), type := 4, pos := "ref.go:186", after := #[{ on := 29, ground := Ground.data }, { on := 22, ground := Ground.chain }, { on := 0, ground := Ground.phase }, { on := 1, ground := Ground.phase }, { on := 2, ground := Ground.phase }, { on := 3, ground := Ground.phase }, { on := 4, ground := Ground.phase }, { on := 5, ground := Ground.phase }, { on := 6, ground := Ground.phase }, { on := 7, ground := Ground.phase }, { on := 8, ground := Ground.phase }, { on := 9, ground := Ground.phase }, { on := 10, ground := Ground.phase }, { on := 11, ground := Ground.phase }, { on := 12, ground := Ground.phase }, { on := 13, ground := Ground.phase }, { on := 14, ground := Ground.phase }, { on := 15, ground := Ground.phase }, { on := 16, ground := Ground.phase }, { on := 17, ground := Ground.phase }, { on := 18, ground := Ground.phase }, { on := 19, ground := Ground.phase }, { on := 20, ground := Ground.phase }, { on := 21, ground := Ground.phase }, { on := 22, ground := Ground.phase }, { on := 23, ground := Ground.phase }, { on := 24, ground := Ground.phase }, { on := 25, ground := Ground.phase }, { on := 26, ground := Ground.phase }, { on := 27, ground := Ground.phase }, { on := 28, ground := Ground.phase }, { on := 29, ground := Ground.phase }], guard := none }) (v := ?_) rfl (by kernel_rfl) (by kernel_rfl) (by kernel_rfl) (fun _ _ _ h => h) (Or.inl ⟨by rfl, ?_⟩) (by assumption) ?_
      rotate_left
      · intro w hSw; (try dsimp only at hSw); go_simp; first | done | with_reducible rfl
      try simp only [Act.put, List.setIfInBounds_toArray, List.set_cons_zero, List.set_cons_succ]
      refine wpAnyH_done (by kernel_rfl) ?_ _
      clear hHeld KS
      replace B0 := T.Hid.mk (B0.out.gr d1)
      replace B1 := T.Hid.mk (B1.out.gr d1)
      replace G := T.Hid.mk (G.out.trans d1)
      clear d1 
      have ⟨z0, p0, f0⟩ := B0.out
      have ⟨z1, p1, f1⟩ := B1.out
      clear f0 f1
      go_wp2_with fail
      all_goals
        go_ret
        refine ⟨ret_bool (by simp_all <;> omega), G.out⟩
    · cases c2
      · clear z0 p0 z1 p1
        have KS : T.Hid (∀ W, Gr W1 W → W.cell? ⟨w.heap.size, 0, none⟩ = some (.int .i64 A.k) ∧ W.cell? ⟨w.heap.size, 1, none⟩ = some (.int .u64 A.n.lo) ∧ W.cell? ⟨w.heap.size, 2, none⟩ = some (.int .u64 A.n.hi) ∧ W.cell? ⟨w.heap.size, 3, none⟩ = some (.int .u64 A.b.lo) ∧ W.cell? ⟨w.heap.size, 4, none⟩ = some (.int .u64 A.b.hi) ∧ W.cell? ⟨w.heap.size, 5, none⟩ = some (.int .u64 A.e.lo) ∧ W.cell? ⟨w.heap.size, 6, none⟩ = some (.int .u64 A.e.hi) ∧ W.cell? ⟨w.heap.size, 7, none⟩ = some (.int .u64 A.p.lo) ∧ W.cell? ⟨w.heap.size, 8, none⟩ = some (.int .u64 A.p.hi) ∧ W.cell? ⟨w.heap.size, 9, none⟩ = some (.int .u8 A.mu) ∧ W.cell? ⟨w.heap.size, 10, none⟩ = some (.int .u8 A.ma) ∧ W.cell? ⟨w.heap.size, 11, none⟩ = some (.int .i64 A.s) ∧ W.cell? ⟨w.heap.size + 1, 0, none⟩ = some (.bool true) ∧ W.cell? ⟨w.heap.size + 1, 1, none⟩ = some (.int .u64 tb) ∧ W.cell? ⟨w.heap.size + 1, 2, none⟩ = some (.int .u64 te) ∧ W.cell? ⟨w.heap.size + 1, 3, none⟩ = some (.int .u64 tl) ∧ W.cell? ⟨w.heap.size + 1, 4, none⟩ = some (.int .u64 th) ∧ W.cell? ⟨w.heap.size + 1, 5, none⟩ = some (.int .u8 (tp : Nat)) ∧ W.cell? ⟨w.heap.size + 1, 6, none⟩ = some (.int .i64 ts)) := T.Hid.mk (fun W g => by
          have a0 := (B0.out.gr g).2.1
          have a1 := (B1.out.gr g).2.1
          exact ⟨a0 0, a0 1, a0 2, a0 3, a0 4, a0 5, a0 6, a0 7, a0 8, a0 9, a0 10, a0 11, a1 0, a1 1, a1 2, a1 3, a1 4, a1 5, a1 6⟩)
        have d1 : Gr W1 W1.drew := (Gr.refl _).drew
        refine wp_region_held_drew (S := (fun W => W.cell? ⟨w.heap.size, 0, none⟩ = some (.int .i64 A.k) ∧ W.cell? ⟨w.heap.size, 1, none⟩ = some (.int .u64 A.n.lo) ∧ W.cell? ⟨w.heap.size, 2, none⟩ = some (.int .u64 A.n.hi) ∧ W.cell? ⟨w.heap.size, 3, none⟩ = some (.int .u64 A.b.lo) ∧ W.cell? ⟨w.heap.size, 4, none⟩ = some (.int .u64 A.b.hi) ∧ W.cell? ⟨w.heap.size, 5, none⟩ = some (.int .u64 A.e.lo) ∧ W.cell? ⟨w.heap.size, 6, none⟩ = some (.int .u64 A.e.hi) ∧ W.cell? ⟨w.heap.size, 7, none⟩ = some (.int .u64 A.p.lo) ∧ W.cell? ⟨w.heap.size, 8, none⟩ = some (.int .u64 A.p.hi) ∧ W.cell? ⟨w.heap.size, 9, none⟩ = some (.int .u8 A.mu) ∧ W.cell? ⟨w.heap.size, 10, none⟩ = some (.int .u8 A.ma) ∧ W.cell? ⟨w.heap.size, 11, none⟩ = some (.int .i64 A.s) ∧ W.cell? ⟨w.heap.size + 1, 0, none⟩ = some (.bool true) ∧ W.cell? ⟨w.heap.size + 1, 1, none⟩ = some (.int .u64 tb) ∧ W.cell? ⟨w.heap.size + 1, 2, none⟩ = some (.int .u64 te) ∧ W.cell? ⟨w.heap.size + 1, 3, none⟩ = some (.int .u64 tl) ∧ W.cell? ⟨w.heap.size + 1, 4, none⟩ = some (.int .u64 th) ∧ W.cell? ⟨w.heap.size + 1, 5, none⟩ = some (.int .u8 (tp : Nat)) ∧ W.cell? ⟨w.heap.size + 1, 6, none⟩ = some (.int .i64 ts))) (by kernel_rfl) (KS.out _ d1) (fun hHeld => ?_)
        refine wpAnyH_take (i := 0) (oi := { dst := some 14, op := Op.fieldAddr 28 (Operand.tmp 2) 2, type := 0, pos := "ref.go:186", after := #[], guard := none }) (v := ?_) rfl (by kernel_rfl) (by kernel_rfl) (by kernel_rfl) (fun _ _ _ h => h) (Or.inl ⟨by rfl, ?_⟩) (by assumption) ?_
        rotate_left
        · intro w hSw; (try dsimp only at hSw); go_simp; first | done | with_reducible rfl
        try simp only [Act.put, List.setIfInBounds_toArray, List.set_cons_zero, List.set_cons_succ]
        refine wpAnyH_take (i := 1) (oi := { dst := some 15, op := Op.load 25 (Operand.tmp 14), type := 25, pos := "ref.go:186", after := #[{ on := 0, ground := Ground.data }], guard := none }) (v := ?_) rfl (by kernel_rfl) (by kernel_rfl) (by kernel_rfl) (fun _ _ _ h => h) (Or.inl ⟨by rfl, ?_⟩) (by assumption) ?_
        rotate_left
        · intro w hSw; (try dsimp only at hSw); go_simp; first | done | with_reducible rfl
        try simp only [Act.put, List.setIfInBounds_toArray, List.set_cons_zero, List.set_cons_succ]
        refine wpAnyH_take (i := 2) (oi := { dst := some 16, op := Op.fieldAddr 30 (Operand.tmp 3) 1, type := 0, pos := "ref.go:186", after := #[], guard := none }) (v := ?_) rfl (by kernel_rfl) (by kernel_rfl) (by kernel_rfl) (fun _ _ _ h => h) (Or.inl ⟨by rfl, ?_⟩) (by assumption) ?_
        rotate_left
        · intro w hSw; (try dsimp only at hSw); go_simp; first | done | with_reducible rfl
        try simp only [Act.put, List.setIfInBounds_toArray, List.set_cons_zero, List.set_cons_succ]
        refine wpAnyH_take (i := 3) (oi := { dst := some 17, op := Op.load 23 (Operand.tmp 16), type := 23, pos := "ref.go:186", after := #[{ on := 2, ground := Ground.data }], guard := none }) (v := ?_) rfl (by kernel_rfl) (by kernel_rfl) (by kernel_rfl) (fun _ _ _ h => h) (Or.inl ⟨by rfl, ?_⟩) (by assumption) ?_
        rotate_left
        · intro w hSw; (try dsimp only at hSw); go_simp; first | done | with_reducible rfl
        try simp only [Act.put, List.setIfInBounds_toArray, List.set_cons_zero, List.set_cons_succ]
        refine wpAnyH_ready (rs := [4]) (by kernel_rfl) (by simp) ?_
        refine AllReadyH.cons (o := { dst := some 18, op := Op.call { callee := Callee.value (Operand.func 25), args := #[Operand.tmp 17], argTypes := #[23] }, type := 25, pos := "ref.go:186", after := #[{ on := 3, ground := Ground.data }], guard := none }) rfl (fun K hK => ?_) AllReadyH.nil
        go_simp
        go_wp2_with ((go_at_call 25; refine (one_any _ _).mono ?_; rintro x wq ⟨rfl, q9⟩; have d1 : Gr W1 wq := Gr.trans (by (repeat (first | with_reducible assumption | with_reducible exact Gr.refl _ | with_reducible refine Gr.drew ?_ | with_reducible refine Gr.alloc ?_ _))) q9; clear q9))
        refine hK.out _ _ (KS.out _ d1) (fun hHeld => ?_)
        clear hK K
        try simp only [Act.put, List.setIfInBounds_toArray, List.set_cons_zero, List.set_cons_succ]
        refine wpAnyH_take (i := 5) (oi := { dst := some 19, op := Op.binOp BinOp.eql 25 (Operand.tmp 15) (Operand.tmp 18) 25, type := 4, pos := "ref.go:186", after := #[{ on := 1, ground := Ground.data }, { on := 4, ground := Ground.data }], guard := none }) (v := ?_) rfl (by kernel_rfl) (by kernel_rfl) (by kernel_rfl) (fun _ _ _ h => h) (Or.inl ⟨by rfl, ?_⟩) (by assumption) ?_
        rotate_left
        · intro w hSw; (try dsimp only at hSw); go_simp; first | done | with_reducible rfl
        try simp only [Act.put, List.setIfInBounds_toArray, List.set_cons_zero, List.set_cons_succ]
        refine wpAnyH_take (i := 6) (oi := { dst := some 20, op := Op.move (Operand.tmp 19), type := 4, pos := "ref.go:186", after := #[{ on := 5, ground := Ground.data }, { on := 4, ground := Ground.chain }], guard := none }) (v := ?_) rfl (by kernel_rfl) (by kernel_rfl) (by kernel_rfl) (fun _ _ _ h => h) (Or.inl ⟨by rfl, ?_⟩) (by assumption) ?_
        rotate_left
        · intro w hSw; (try dsimp only at hSw); go_simp; first | done | with_reducible rfl
        try simp only [Act.put, List.setIfInBounds_toArray, List.set_cons_zero, List.set_cons_succ]
        refine wpAnyH_take (i := 7) (oi := { dst := some 21, op := Op.fieldAddr 28 (Operand.tmp 2) 3, type := 0, pos := "ref.go:186", after := #[{ on := 6, ground := Ground.guard }], guard := some (6, true) }) (v := ?_) rfl (by kernel_rfl) (by kernel_rfl) (by kernel_rfl) (fun _ _ _ h => h) (Or.inl ⟨by rfl, ?_⟩) (by assumption) ?_
        rotate_left
        · intro w hSw; (try dsimp only at hSw); go_simp; first | done | with_reducible rfl
        try simp only [Act.put, List.setIfInBounds_toArray, List.set_cons_zero, List.set_cons_succ]
        refine wpAnyH_take (i := 8) (oi := { dst := some 22, op := Op.load 25 (Operand.tmp 21), type := 25, pos := "ref.go:186", after := #[{ on := 7, ground := Ground.data }, { on := 6, ground := Ground.guard }], guard := some (6, true) }) (v := ?_) rfl (by kernel_rfl) (by kernel_rfl) (by kernel_rfl) (fun _ _ _ h => h) (Or.inl ⟨by rfl, ?_⟩) (by assumption) ?_
        rotate_left
        · intro w hSw; (try dsimp only at hSw); go_simp; first | done | with_reducible rfl
        try simp only [Act.put, List.setIfInBounds_toArray, List.set_cons_zero, List.set_cons_succ]
        refine wpAnyH_take (i := 9) (oi := { dst := some 23, op := Op.fieldAddr 30 (Operand.tmp 3) 2, type := 0, pos := "ref.go:186", after := #[{ on := 6, ground := Ground.guard }], guard := some (6, true) }) (v := ?_) rfl (by kernel_rfl) (by kernel_rfl) (by kernel_rfl) (fun _ _ _ h => h) (Or.inl ⟨by rfl, ?_⟩) (by assumption) ?_
        rotate_left
        · intro w hSw; (try dsimp only at hSw); go_simp; first | done | with_reducible rfl
        try simp only [Act.put, List.setIfInBounds_toArray, List.set_cons_zero, List.set_cons_succ]
        refine wpAnyH_take (i := 10) (oi := { dst := some 24, op := Op.load 23 (Operand.tmp 23), type := 23, pos := "ref.go:186", after := #[{ on := 9, ground := Ground.data }, { on := 6, ground := Ground.guard }], guard := some (6, true) }) (v := ?_) rfl (by kernel_rfl) (by kernel_rfl) (by kernel_rfl) (fun _ _ _ h => h) (Or.inl ⟨by rfl, ?_⟩) (by assumption) ?_
        rotate_left
        · intro w hSw; (try dsimp only at hSw); go_simp; first | done | with_reducible rfl
        try simp only [Act.put, List.setIfInBounds_toArray, List.set_cons_zero, List.set_cons_succ]
        refine wpAnyH_ready (rs := [11]) (by kernel_rfl) (by simp) ?_
        refine AllReadyH.cons (o := { dst := some 25, op := Op.call { callee := Callee.value (Operand.func 25), args := #[Operand.tmp 24], argTypes := #[23] }, type := 25, pos := "ref.go:186", after := #[{ on := 10, ground := Ground.data }, { on := 6, ground := Ground.chain }, { on := 6, ground := Ground.guard }], guard := some (6, true) }) rfl (fun K hK => ?_) AllReadyH.nil
        go_simp
        go_wp2_with ((go_at_call 25; refine (one_any _ _).mono ?_; rintro x wq ⟨rfl, q9⟩; have d1 : Gr W1 wq := Gr.trans (by (repeat (first | with_reducible assumption | with_reducible exact Gr.refl _ | with_reducible refine Gr.drew ?_ | with_reducible refine Gr.alloc ?_ _))) q9; clear q9))
        refine hK.out _ _ (KS.out _ d1) (fun hHeld => ?_)
        clear hK K
        try simp only [Act.put, List.setIfInBounds_toArray, List.set_cons_zero, List.set_cons_succ]
        refine wpAnyH_take (i := 12) (oi := { dst := some 26, op := Op.binOp BinOp.eql 25 (Operand.tmp 22) (Operand.tmp 25) 25, type := 4, pos := "ref.go:186", after := #[{ on := 8, ground := Ground.data }, { on := 11, ground := Ground.data }, { on := 6, ground := Ground.guard }], guard := some (6, true) }) (v := ?_) rfl (by kernel_rfl) (by kernel_rfl) (by kernel_rfl) (fun _ _ _ h => h) (Or.inl ⟨by rfl, ?_⟩) (by assumption) ?_
        rotate_left
        · intro w hSw; (try dsimp only at hSw); go_simp; first | done | with_reducible rfl
        try simp only [Act.put, List.setIfInBounds_toArray, List.set_cons_zero, List.set_cons_succ]
        refine wpAnyH_take (i := 13) (oi := { dst := some 27, op := Op.pick (Operand.tmp 20) (Operand.tmp 26) (Operand.const (Value.bool false)), type := 4, pos := "ref.go:186", after := #[{ on := 6, ground := Ground.data }, { on := 12, ground := Ground.data }], guard := none }) (v := ?_) rfl (by kernel_rfl) (by kernel_rfl) (by kernel_rfl) (fun _ _ _ h => h) (Or.inl ⟨by rfl, ?_⟩) (by assumption) ?_
        rotate_left
        · intro w hSw; (try dsimp only at hSw); go_simp; first | done | with_reducible rfl
        try simp only [Act.put, List.setIfInBounds_toArray, List.set_cons_zero, List.set_cons_succ]
        refine wpAnyH_take (i := 14) (oi := { dst := some 28, op := Op.move (Operand.tmp 27), type := 4, pos := "ref.go:186", after := #[{ on := 13, ground := Ground.data }, { on := 11, ground := Ground.chain }], guard := none }) (v := ?_) rfl (by kernel_rfl) (by kernel_rfl) (by kernel_rfl) (fun _ _ _ h => h) (Or.inl ⟨by rfl, ?_⟩) (by assumption) ?_
        rotate_left
        · intro w hSw; (try dsimp only at hSw); go_simp; first | done | with_reducible rfl
        try simp only [Act.put, List.setIfInBounds_toArray, List.set_cons_zero, List.set_cons_succ]
        refine wpAnyH_take (i := 15) (oi := { dst := some 29, op := Op.fieldAddr 28 (Operand.tmp 2) 4, type := 0, pos := "ref.go:186", after := #[{ on := 14, ground := Ground.guard }], guard := some (14, true) }) (v := undef) rfl (by kernel_rfl) (by kernel_rfl) (by kernel_rfl) (fun _ _ _ h => h) (Or.inr ⟨by rfl, rfl⟩) (by assumption) ?_
        try simp only [Act.put, List.setIfInBounds_toArray, List.set_cons_zero, List.set_cons_succ]
        refine wpAnyH_take (i := 16) (oi := { dst := some 30, op := Op.fieldAddr 25 (Operand.tmp 29) 0, type := 0, pos := "ref.go:186", after := #[{ on := 15, ground := Ground.data }, { on := 14, ground := Ground.guard }], guard := some (14, true) }) (v := undef) rfl (by kernel_rfl) (by kernel_rfl) (by kernel_rfl) (fun _ _ _ h => h) (Or.inr ⟨by rfl, rfl⟩) (by assumption) ?_
        try simp only [Act.put, List.setIfInBounds_toArray, List.set_cons_zero, List.set_cons_succ]
        refine wpAnyH_take (i := 17) (oi := { dst := some 31, op := Op.load 23 (Operand.tmp 30), type := 23, pos := "ref.go:186", after := #[{ on := 16, ground := Ground.data }, { on := 14, ground := Ground.guard }], guard := some (14, true) }) (v := undef) rfl (by kernel_rfl) (by kernel_rfl) (by kernel_rfl) (fun _ _ _ h => h) (Or.inr ⟨by rfl, rfl⟩) (by assumption) ?_
        try simp only [Act.put, List.setIfInBounds_toArray, List.set_cons_zero, List.set_cons_succ]
        refine wpAnyH_take (i := 18) (oi := { dst := some 32, op := Op.fieldAddr 30 (Operand.tmp 3) 3, type := 0, pos := "ref.go:186", after := #[{ on := 14, ground := Ground.guard }], guard := some (14, true) }) (v := undef) rfl (by kernel_rfl) (by kernel_rfl) (by kernel_rfl) (fun _ _ _ h => h) (Or.inr ⟨by rfl, rfl⟩) (by assumption) ?_
        try simp only [Act.put, List.setIfInBounds_toArray, List.set_cons_zero, List.set_cons_succ]
        refine wpAnyH_take (i := 19) (oi := { dst := some 33, op := Op.load 23 (Operand.tmp 32), type := 23, pos := "ref.go:186", after := #[{ on := 18, ground := Ground.data }, { on := 14, ground := Ground.guard }], guard := some (14, true) }) (v := undef) rfl (by kernel_rfl) (by kernel_rfl) (by kernel_rfl) (fun _ _ _ h => h) (Or.inr ⟨by rfl, rfl⟩) (by assumption) ?_
        try simp only [Act.put, List.setIfInBounds_toArray, List.set_cons_zero, List.set_cons_succ]
        refine wpAnyH_take (i := 20) (oi := { dst := some 34, op := Op.binOp BinOp.geq 23 (Operand.tmp 31) (Operand.tmp 33) 23, type := 4, pos := "ref.go:186", after := #[{ on := 17, ground := Ground.data }, { on := 19, ground := Ground.data }, { on := 14, ground := Ground.guard }], guard := some (14, true) }) (v := undef) rfl (by kernel_rfl) (by kernel_rfl) (by kernel_rfl) (fun _ _ _ h => h) (Or.inr ⟨by rfl, rfl⟩) (by assumption) ?_
        try simp only [Act.put, List.setIfInBounds_toArray, List.set_cons_zero, List.set_cons_succ]
        refine wpAnyH_take (i := 21) (oi := { dst := some 35, op := Op.pick (Operand.tmp 28) (Operand.tmp 34) (Operand.const (Value.bool false)), type := 4, pos := "ref.go:186", after := #[{ on := 14, ground := Ground.data }, { on := 20, ground := Ground.data }], guard := none }) (v := ?_) rfl (by kernel_rfl) (by kernel_rfl) (by kernel_rfl) (fun _ _ _ h => h) (Or.inl ⟨by rfl, ?_⟩) (by assumption) ?_
        rotate_left
        · intro w hSw; (try dsimp only at hSw); go_simp; first | done | with_reducible rfl
        try simp only [Act.put, List.setIfInBounds_toArray, List.set_cons_zero, List.set_cons_succ]
        refine wpAnyH_take (i := 22) (oi := { dst := some 36, op := Op.move (Operand.tmp 35), type := 4, pos := "ref.go:186", after := #[{ on := 21, ground := Ground.data }, { on := 14, ground := Ground.chain }], guard := none }) (v := ?_) rfl (by kernel_rfl) (by kernel_rfl) (by kernel_rfl) (fun _ _ _ h => h) (Or.inl ⟨by rfl, ?_⟩) (by assumption) ?_
        rotate_left
        · intro w hSw; (try dsimp only at hSw); go_simp; first | done | with_reducible rfl
        try simp only [Act.put, List.setIfInBounds_toArray, List.set_cons_zero, List.set_cons_succ]
        refine wpAnyH_take (i := 23) (oi := { dst := some 37, op := Op.fieldAddr 28 (Operand.tmp 2) 4, type := 0, pos := "ref.go:186", after := #[{ on := 22, ground := Ground.guard }], guard := some (22, true) }) (v := undef) rfl (by kernel_rfl) (by kernel_rfl) (by kernel_rfl) (fun _ _ _ h => h) (Or.inr ⟨by rfl, rfl⟩) (by assumption) ?_
        try simp only [Act.put, List.setIfInBounds_toArray, List.set_cons_zero, List.set_cons_succ]
        refine wpAnyH_take (i := 24) (oi := { dst := some 38, op := Op.fieldAddr 25 (Operand.tmp 37) 1, type := 0, pos := "ref.go:186", after := #[{ on := 23, ground := Ground.data }, { on := 22, ground := Ground.guard }], guard := some (22, true) }) (v := undef) rfl (by kernel_rfl) (by kernel_rfl) (by kernel_rfl) (fun _ _ _ h => h) (Or.inr ⟨by rfl, rfl⟩) (by assumption) ?_
        try simp only [Act.put, List.setIfInBounds_toArray, List.set_cons_zero, List.set_cons_succ]
        refine wpAnyH_take (i := 25) (oi := { dst := some 39, op := Op.load 23 (Operand.tmp 38), type := 23, pos := "ref.go:186", after := #[{ on := 24, ground := Ground.data }, { on := 22, ground := Ground.guard }], guard := some (22, true) }) (v := undef) rfl (by kernel_rfl) (by kernel_rfl) (by kernel_rfl) (fun _ _ _ h => h) (Or.inr ⟨by rfl, rfl⟩) (by assumption) ?_
        try simp only [Act.put, List.setIfInBounds_toArray, List.set_cons_zero, List.set_cons_succ]
        refine wpAnyH_take (i := 26) (oi := { dst := some 40, op := Op.fieldAddr 30 (Operand.tmp 3) 4, type := 0, pos := "ref.go:186", after := #[{ on := 22, ground := Ground.guard }], guard := some (22, true) }) (v := undef) rfl (by kernel_rfl) (by kernel_rfl) (by kernel_rfl) (fun _ _ _ h => h) (Or.inr ⟨by rfl, rfl⟩) (by assumption) ?_
        try simp only [Act.put, List.setIfInBounds_toArray, List.set_cons_zero, List.set_cons_succ]
        refine wpAnyH_take (i := 27) (oi := { dst := some 41, op := Op.load 23 (Operand.tmp 40), type := 23, pos := "ref.go:186", after := #[{ on := 26, ground := Ground.data }, { on := 22, ground := Ground.guard }], guard := some (22, true) }) (v := undef) rfl (by kernel_rfl) (by kernel_rfl) (by kernel_rfl) (fun _ _ _ h => h) (Or.inr ⟨by rfl, rfl⟩) (by assumption) ?_
        try simp only [Act.put, List.setIfInBounds_toArray, List.set_cons_zero, List.set_cons_succ]
        refine wpAnyH_take (i := 28) (oi := { dst := some 42, op := Op.binOp BinOp.leq 23 (Operand.tmp 39) (Operand.tmp 41) 23, type := 4, pos := "ref.go:186", after := #[{ on := 25, ground := Ground.data }, { on := 27, ground := Ground.data }, { on := 22, ground := Ground.guard }], guard := some (22, true) }) (v := undef) rfl (by kernel_rfl) (by kernel_rfl) (by kernel_rfl) (fun _ _ _ h => h) (Or.inr ⟨by rfl, rfl⟩) (by assumption) ?_
        try simp only [Act.put, List.setIfInBounds_toArray, List.set_cons_zero, List.set_cons_succ]
        refine wpAnyH_take (i := 29) (oi := { dst := some 43, op := Op.pick (Operand.tmp 36) (Operand.tmp 42) (Operand.const (Value.bool false)), type := 4, pos := "ref.go:186", after := #[{ on := 22, ground := Ground.data }, { on := 28, ground := Ground.data }], guard := none }) (v := ?_) rfl (by kernel_rfl) (by kernel_rfl) (by kernel_rfl) (fun _ _ _ h => h) (Or.inl ⟨by rfl, ?_⟩) (by assumption) ?_
        rotate_left
        · intro w hSw; (try dsimp only at hSw); go_simp; first | done | with_reducible rfl
        try simp only [Act.put, List.setIfInBounds_toArray, List.set_cons_zero, List.set_cons_succ]
        refine wpAnyH_take (i := 30) (oi := { dst := some 5, op := Op.assign (Operand.tmp 43), type := 4, pos := "ref.go:186", after := #[{ on := 29, ground := Ground.data }, { on := 22, ground := Ground.chain }, { on := 0, ground := Ground.phase }, { on := 1, ground := Ground.phase }, { on := 2, ground := Ground.phase }, { on := 3, ground := Ground.phase }, { on := 4, ground := Ground.phase }, { on := 5, ground := Ground.phase }, { on := 6, ground := Ground.phase }, { on := 7, ground := Ground.phase }, { on := 8, ground := Ground.phase }, { on := 9, ground := Ground.phase }, { on := 10, ground := Ground.phase }, { on := 11, ground := Ground.phase }, { on := 12, ground := Ground.phase }, { on := 13, ground := Ground.phase }, { on := 14, ground := Ground.phase }, { on := 15, ground := Ground.phase }, { on := 16, ground := Ground.phase }, { on := 17, ground := Ground.phase }, { on := 18, ground := Ground.phase }, { on := 19, ground := Ground.phase }, { on := 20, ground := Ground.phase }, { on := 21, ground := Ground.phase }, { on := 22, ground := Ground.phase }, { on := 23, ground := Ground.phase }, { on := 24, ground := Ground.phase }, { on := 25, ground := Ground.phase }, { on := 26, ground := Ground.phase }, { on := 27, ground := Ground.phase }, { on := 28, ground := Ground.phase }, { on := 29, ground := Ground.phase }], guard := none }) (v := ?_) rfl (by kernel_rfl) (by kernel_rfl) (by kernel_rfl) (fun _ _ _ h => h) (Or.inl ⟨by rfl, ?_⟩) (by assumption) ?_
        rotate_left
        · intro w hSw; (try dsimp only at hSw); go_simp; first | done | with_reducible rfl
        try simp only [Act.put, List.setIfInBounds_toArray, List.set_cons_zero, List.set_cons_succ]
        refine wpAnyH_done (by kernel_rfl) ?_ _
        clear hHeld KS
        replace B0 := T.Hid.mk (B0.out.gr d1)
        replace B1 := T.Hid.mk (B1.out.gr d1)
        replace G := T.Hid.mk (G.out.trans d1)
        clear d1 
        have ⟨z0, p0, f0⟩ := B0.out
        have ⟨z1, p1, f1⟩ := B1.out
        clear f0 f1
        go_wp2_with fail
        all_goals
          go_ret
          refine ⟨ret_bool (by simp_all <;> omega), G.out⟩
      · by_cases m3 : tl ≤ A.p.lo
        · have m4 : ¬ A.p.lo < tl := by omega
          clear z0 p0 z1 p1
          have KS : T.Hid (∀ W, Gr W1 W → W.cell? ⟨w.heap.size, 0, none⟩ = some (.int .i64 A.k) ∧ W.cell? ⟨w.heap.size, 1, none⟩ = some (.int .u64 A.n.lo) ∧ W.cell? ⟨w.heap.size, 2, none⟩ = some (.int .u64 A.n.hi) ∧ W.cell? ⟨w.heap.size, 3, none⟩ = some (.int .u64 A.b.lo) ∧ W.cell? ⟨w.heap.size, 4, none⟩ = some (.int .u64 A.b.hi) ∧ W.cell? ⟨w.heap.size, 5, none⟩ = some (.int .u64 A.e.lo) ∧ W.cell? ⟨w.heap.size, 6, none⟩ = some (.int .u64 A.e.hi) ∧ W.cell? ⟨w.heap.size, 7, none⟩ = some (.int .u64 A.p.lo) ∧ W.cell? ⟨w.heap.size, 8, none⟩ = some (.int .u64 A.p.hi) ∧ W.cell? ⟨w.heap.size, 9, none⟩ = some (.int .u8 A.mu) ∧ W.cell? ⟨w.heap.size, 10, none⟩ = some (.int .u8 A.ma) ∧ W.cell? ⟨w.heap.size, 11, none⟩ = some (.int .i64 A.s) ∧ W.cell? ⟨w.heap.size + 1, 0, none⟩ = some (.bool true) ∧ W.cell? ⟨w.heap.size + 1, 1, none⟩ = some (.int .u64 tb) ∧ W.cell? ⟨w.heap.size + 1, 2, none⟩ = some (.int .u64 te) ∧ W.cell? ⟨w.heap.size + 1, 3, none⟩ = some (.int .u64 tl) ∧ W.cell? ⟨w.heap.size + 1, 4, none⟩ = some (.int .u64 th) ∧ W.cell? ⟨w.heap.size + 1, 5, none⟩ = some (.int .u8 (tp : Nat)) ∧ W.cell? ⟨w.heap.size + 1, 6, none⟩ = some (.int .i64 ts)) := T.Hid.mk (fun W g => by
            have a0 := (B0.out.gr g).2.1
            have a1 := (B1.out.gr g).2.1
            exact ⟨a0 0, a0 1, a0 2, a0 3, a0 4, a0 5, a0 6, a0 7, a0 8, a0 9, a0 10, a0 11, a1 0, a1 1, a1 2, a1 3, a1 4, a1 5, a1 6⟩)
          have d1 : Gr W1 W1.drew := (Gr.refl _).drew
          refine wp_region_held_drew (S := (fun W => W.cell? ⟨w.heap.size, 0, none⟩ = some (.int .i64 A.k) ∧ W.cell? ⟨w.heap.size, 1, none⟩ = some (.int .u64 A.n.lo) ∧ W.cell? ⟨w.heap.size, 2, none⟩ = some (.int .u64 A.n.hi) ∧ W.cell? ⟨w.heap.size, 3, none⟩ = some (.int .u64 A.b.lo) ∧ W.cell? ⟨w.heap.size, 4, none⟩ = some (.int .u64 A.b.hi) ∧ W.cell? ⟨w.heap.size, 5, none⟩ = some (.int .u64 A.e.lo) ∧ W.cell? ⟨w.heap.size, 6, none⟩ = some (.int .u64 A.e.hi) ∧ W.cell? ⟨w.heap.size, 7, none⟩ = some (.int .u64 A.p.lo) ∧ W.cell? ⟨w.heap.size, 8, none⟩ = some (.int .u64 A.p.hi) ∧ W.cell? ⟨w.heap.size, 9, none⟩ = some (.int .u8 A.mu) ∧ W.cell? ⟨w.heap.size, 10, none⟩ = some (.int .u8 A.ma) ∧ W.cell? ⟨w.heap.size, 11, none⟩ = some (.int .i64 A.s) ∧ W.cell? ⟨w.heap.size + 1, 0, none⟩ = some (.bool true) ∧ W.cell? ⟨w.heap.size + 1, 1, none⟩ = some (.int .u64 tb) ∧ W.cell? ⟨w.heap.size + 1, 2, none⟩ = some (.int .u64 te) ∧ W.cell? ⟨w.heap.size + 1, 3, none⟩ = some (.int .u64 tl) ∧ W.cell? ⟨w.heap.size + 1, 4, none⟩ = some (.int .u64 th) ∧ W.cell? ⟨w.heap.size + 1, 5, none⟩ = some (.int .u8 (tp : Nat)) ∧ W.cell? ⟨w.heap.size + 1, 6, none⟩ = some (.int .i64 ts))) (by kernel_rfl) (KS.out _ d1) (fun hHeld => ?_)
          refine wpAnyH_take (i := 0) (oi := { dst := some 14, op := Op.fieldAddr 28 (Operand.tmp 2) 2, type := 0, pos := "ref.go:186", after := #[], guard := none }) (v := ?_) rfl (by kernel_rfl) (by kernel_rfl) (by kernel_rfl) (fun _ _ _ h => h) (Or.inl ⟨by rfl, ?_⟩) (by assumption) ?_
          rotate_left
          · intro w hSw; (try dsimp only at hSw); go_simp; first | done | with_reducible rfl
          try simp only [Act.put, List.setIfInBounds_toArray, List.set_cons_zero, List.set_cons_succ]
          refine wpAnyH_take (i := 1) (oi := { dst := some 15, op := Op.load 25 (Operand.tmp 14), type := 25, pos := "ref.go:186", after := #[{ on := 0, ground := Ground.data }], guard := none }) (v := ?_) rfl (by kernel_rfl) (by kernel_rfl) (by kernel_rfl) (fun _ _ _ h => h) (Or.inl ⟨by rfl, ?_⟩) (by assumption) ?_
          rotate_left
          · intro w hSw; (try dsimp only at hSw); go_simp; first | done | with_reducible rfl
          try simp only [Act.put, List.setIfInBounds_toArray, List.set_cons_zero, List.set_cons_succ]
          refine wpAnyH_take (i := 2) (oi := { dst := some 16, op := Op.fieldAddr 30 (Operand.tmp 3) 1, type := 0, pos := "ref.go:186", after := #[], guard := none }) (v := ?_) rfl (by kernel_rfl) (by kernel_rfl) (by kernel_rfl) (fun _ _ _ h => h) (Or.inl ⟨by rfl, ?_⟩) (by assumption) ?_
          rotate_left
          · intro w hSw; (try dsimp only at hSw); go_simp; first | done | with_reducible rfl
          try simp only [Act.put, List.setIfInBounds_toArray, List.set_cons_zero, List.set_cons_succ]
          refine wpAnyH_take (i := 3) (oi := { dst := some 17, op := Op.load 23 (Operand.tmp 16), type := 23, pos := "ref.go:186", after := #[{ on := 2, ground := Ground.data }], guard := none }) (v := ?_) rfl (by kernel_rfl) (by kernel_rfl) (by kernel_rfl) (fun _ _ _ h => h) (Or.inl ⟨by rfl, ?_⟩) (by assumption) ?_
          rotate_left
          · intro w hSw; (try dsimp only at hSw); go_simp; first | done | with_reducible rfl
          try simp only [Act.put, List.setIfInBounds_toArray, List.set_cons_zero, List.set_cons_succ]
          refine wpAnyH_ready (rs := [4]) (by kernel_rfl) (by simp) ?_
          refine AllReadyH.cons (o := { dst := some 18, op := Op.call { callee := Callee.value (Operand.func 25), args := #[Operand.tmp 17], argTypes := #[23] }, type := 25, pos := "ref.go:186", after := #[{ on := 3, ground := Ground.data }], guard := none }) rfl (fun K hK => ?_) AllReadyH.nil
          go_simp
          go_wp2_with ((go_at_call 25; refine (one_any _ _).mono ?_; rintro x wq ⟨rfl, q9⟩; have d1 : Gr W1 wq := Gr.trans (by (repeat (first | with_reducible assumption | with_reducible exact Gr.refl _ | with_reducible refine Gr.drew ?_ | with_reducible refine Gr.alloc ?_ _))) q9; clear q9))
          refine hK.out _ _ (KS.out _ d1) (fun hHeld => ?_)
          clear hK K
          try simp only [Act.put, List.setIfInBounds_toArray, List.set_cons_zero, List.set_cons_succ]
          refine wpAnyH_take (i := 5) (oi := { dst := some 19, op := Op.binOp BinOp.eql 25 (Operand.tmp 15) (Operand.tmp 18) 25, type := 4, pos := "ref.go:186", after := #[{ on := 1, ground := Ground.data }, { on := 4, ground := Ground.data }], guard := none }) (v := ?_) rfl (by kernel_rfl) (by kernel_rfl) (by kernel_rfl) (fun _ _ _ h => h) (Or.inl ⟨by rfl, ?_⟩) (by assumption) ?_
          rotate_left
          · intro w hSw; (try dsimp only at hSw); go_simp; first | done | with_reducible rfl
          try simp only [Act.put, List.setIfInBounds_toArray, List.set_cons_zero, List.set_cons_succ]
          refine wpAnyH_take (i := 6) (oi := { dst := some 20, op := Op.move (Operand.tmp 19), type := 4, pos := "ref.go:186", after := #[{ on := 5, ground := Ground.data }, { on := 4, ground := Ground.chain }], guard := none }) (v := ?_) rfl (by kernel_rfl) (by kernel_rfl) (by kernel_rfl) (fun _ _ _ h => h) (Or.inl ⟨by rfl, ?_⟩) (by assumption) ?_
          rotate_left
          · intro w hSw; (try dsimp only at hSw); go_simp; first | done | with_reducible rfl
          try simp only [Act.put, List.setIfInBounds_toArray, List.set_cons_zero, List.set_cons_succ]
          refine wpAnyH_take (i := 7) (oi := { dst := some 21, op := Op.fieldAddr 28 (Operand.tmp 2) 3, type := 0, pos := "ref.go:186", after := #[{ on := 6, ground := Ground.guard }], guard := some (6, true) }) (v := ?_) rfl (by kernel_rfl) (by kernel_rfl) (by kernel_rfl) (fun _ _ _ h => h) (Or.inl ⟨by rfl, ?_⟩) (by assumption) ?_
          rotate_left
          · intro w hSw; (try dsimp only at hSw); go_simp; first | done | with_reducible rfl
          try simp only [Act.put, List.setIfInBounds_toArray, List.set_cons_zero, List.set_cons_succ]
          refine wpAnyH_take (i := 8) (oi := { dst := some 22, op := Op.load 25 (Operand.tmp 21), type := 25, pos := "ref.go:186", after := #[{ on := 7, ground := Ground.data }, { on := 6, ground := Ground.guard }], guard := some (6, true) }) (v := ?_) rfl (by kernel_rfl) (by kernel_rfl) (by kernel_rfl) (fun _ _ _ h => h) (Or.inl ⟨by rfl, ?_⟩) (by assumption) ?_
          rotate_left
          · intro w hSw; (try dsimp only at hSw); go_simp; first | done | with_reducible rfl
          try simp only [Act.put, List.setIfInBounds_toArray, List.set_cons_zero, List.set_cons_succ]
          refine wpAnyH_take (i := 9) (oi := { dst := some 23, op := Op.fieldAddr 30 (Operand.tmp 3) 2, type := 0, pos := "ref.go:186", after := #[{ on := 6, ground := Ground.guard }], guard := some (6, true) }) (v := ?_) rfl (by kernel_rfl) (by kernel_rfl) (by kernel_rfl) (fun _ _ _ h => h) (Or.inl ⟨by rfl, ?_⟩) (by assumption) ?_
          rotate_left
          · intro w hSw; (try dsimp only at hSw); go_simp; first | done | with_reducible rfl
          try simp only [Act.put, List.setIfInBounds_toArray, List.set_cons_zero, List.set_cons_succ]
          refine wpAnyH_take (i := 10) (oi := { dst := some 24, op := Op.load 23 (Operand.tmp 23), type := 23, pos := "ref.go:186", after := #[{ on := 9, ground := Ground.data }, { on := 6, ground := Ground.guard }], guard := some (6, true) }) (v := ?_) rfl (by kernel_rfl) (by kernel_rfl) (by kernel_rfl) (fun _ _ _ h => h) (Or.inl ⟨by rfl, ?_⟩) (by assumption) ?_
          rotate_left
          · intro w hSw; (try dsimp only at hSw); go_simp; first | done | with_reducible rfl
          try simp only [Act.put, List.setIfInBounds_toArray, List.set_cons_zero, List.set_cons_succ]
          refine wpAnyH_ready (rs := [11]) (by kernel_rfl) (by simp) ?_
          refine AllReadyH.cons (o := { dst := some 25, op := Op.call { callee := Callee.value (Operand.func 25), args := #[Operand.tmp 24], argTypes := #[23] }, type := 25, pos := "ref.go:186", after := #[{ on := 10, ground := Ground.data }, { on := 6, ground := Ground.chain }, { on := 6, ground := Ground.guard }], guard := some (6, true) }) rfl (fun K hK => ?_) AllReadyH.nil
          go_simp
          go_wp2_with ((go_at_call 25; refine (one_any _ _).mono ?_; rintro x wq ⟨rfl, q9⟩; have d1 : Gr W1 wq := Gr.trans (by (repeat (first | with_reducible assumption | with_reducible exact Gr.refl _ | with_reducible refine Gr.drew ?_ | with_reducible refine Gr.alloc ?_ _))) q9; clear q9))
          refine hK.out _ _ (KS.out _ d1) (fun hHeld => ?_)
          clear hK K
          try simp only [Act.put, List.setIfInBounds_toArray, List.set_cons_zero, List.set_cons_succ]
          refine wpAnyH_take (i := 12) (oi := { dst := some 26, op := Op.binOp BinOp.eql 25 (Operand.tmp 22) (Operand.tmp 25) 25, type := 4, pos := "ref.go:186", after := #[{ on := 8, ground := Ground.data }, { on := 11, ground := Ground.data }, { on := 6, ground := Ground.guard }], guard := some (6, true) }) (v := ?_) rfl (by kernel_rfl) (by kernel_rfl) (by kernel_rfl) (fun _ _ _ h => h) (Or.inl ⟨by rfl, ?_⟩) (by assumption) ?_
          rotate_left
          · intro w hSw; (try dsimp only at hSw); go_simp; first | done | with_reducible rfl
          try simp only [Act.put, List.setIfInBounds_toArray, List.set_cons_zero, List.set_cons_succ]
          refine wpAnyH_take (i := 13) (oi := { dst := some 27, op := Op.pick (Operand.tmp 20) (Operand.tmp 26) (Operand.const (Value.bool false)), type := 4, pos := "ref.go:186", after := #[{ on := 6, ground := Ground.data }, { on := 12, ground := Ground.data }], guard := none }) (v := ?_) rfl (by kernel_rfl) (by kernel_rfl) (by kernel_rfl) (fun _ _ _ h => h) (Or.inl ⟨by rfl, ?_⟩) (by assumption) ?_
          rotate_left
          · intro w hSw; (try dsimp only at hSw); go_simp; first | done | with_reducible rfl
          try simp only [Act.put, List.setIfInBounds_toArray, List.set_cons_zero, List.set_cons_succ]
          refine wpAnyH_take (i := 14) (oi := { dst := some 28, op := Op.move (Operand.tmp 27), type := 4, pos := "ref.go:186", after := #[{ on := 13, ground := Ground.data }, { on := 11, ground := Ground.chain }], guard := none }) (v := ?_) rfl (by kernel_rfl) (by kernel_rfl) (by kernel_rfl) (fun _ _ _ h => h) (Or.inl ⟨by rfl, ?_⟩) (by assumption) ?_
          rotate_left
          · intro w hSw; (try dsimp only at hSw); go_simp; first | done | with_reducible rfl
          try simp only [Act.put, List.setIfInBounds_toArray, List.set_cons_zero, List.set_cons_succ]
          refine wpAnyH_take (i := 15) (oi := { dst := some 29, op := Op.fieldAddr 28 (Operand.tmp 2) 4, type := 0, pos := "ref.go:186", after := #[{ on := 14, ground := Ground.guard }], guard := some (14, true) }) (v := ?_) rfl (by kernel_rfl) (by kernel_rfl) (by kernel_rfl) (fun _ _ _ h => h) (Or.inl ⟨by rfl, ?_⟩) (by assumption) ?_
          rotate_left
          · intro w hSw; (try dsimp only at hSw); go_simp; first | done | with_reducible rfl
          try simp only [Act.put, List.setIfInBounds_toArray, List.set_cons_zero, List.set_cons_succ]
          refine wpAnyH_take (i := 16) (oi := { dst := some 30, op := Op.fieldAddr 25 (Operand.tmp 29) 0, type := 0, pos := "ref.go:186", after := #[{ on := 15, ground := Ground.data }, { on := 14, ground := Ground.guard }], guard := some (14, true) }) (v := ?_) rfl (by kernel_rfl) (by kernel_rfl) (by kernel_rfl) (fun _ _ _ h => h) (Or.inl ⟨by rfl, ?_⟩) (by assumption) ?_
          rotate_left
          · intro w hSw; (try dsimp only at hSw); go_simp; first | done | with_reducible rfl
          try simp only [Act.put, List.setIfInBounds_toArray, List.set_cons_zero, List.set_cons_succ]
          refine wpAnyH_take (i := 17) (oi := { dst := some 31, op := Op.load 23 (Operand.tmp 30), type := 23, pos := "ref.go:186", after := #[{ on := 16, ground := Ground.data }, { on := 14, ground := Ground.guard }], guard := some (14, true) }) (v := ?_) rfl (by kernel_rfl) (by kernel_rfl) (by kernel_rfl) (fun _ _ _ h => h) (Or.inl ⟨by rfl, ?_⟩) (by assumption) ?_
          rotate_left
          · intro w hSw; (try dsimp only at hSw); go_simp; first | done | with_reducible rfl
          try simp only [Act.put, List.setIfInBounds_toArray, List.set_cons_zero, List.set_cons_succ]
          refine wpAnyH_take (i := 18) (oi := { dst := some 32, op := Op.fieldAddr 30 (Operand.tmp 3) 3, type := 0, pos := "ref.go:186", after := #[{ on := 14, ground := Ground.guard }], guard := some (14, true) }) (v := ?_) rfl (by kernel_rfl) (by kernel_rfl) (by kernel_rfl) (fun _ _ _ h => h) (Or.inl ⟨by rfl, ?_⟩) (by assumption) ?_
          rotate_left
          · intro w hSw; (try dsimp only at hSw); go_simp; first | done | with_reducible rfl
          try simp only [Act.put, List.setIfInBounds_toArray, List.set_cons_zero, List.set_cons_succ]
          refine wpAnyH_take (i := 19) (oi := { dst := some 33, op := Op.load 23 (Operand.tmp 32), type := 23, pos := "ref.go:186", after := #[{ on := 18, ground := Ground.data }, { on := 14, ground := Ground.guard }], guard := some (14, true) }) (v := ?_) rfl (by kernel_rfl) (by kernel_rfl) (by kernel_rfl) (fun _ _ _ h => h) (Or.inl ⟨by rfl, ?_⟩) (by assumption) ?_
          rotate_left
          · intro w hSw; (try dsimp only at hSw); go_simp; first | done | with_reducible rfl
          try simp only [Act.put, List.setIfInBounds_toArray, List.set_cons_zero, List.set_cons_succ]
          refine wpAnyH_take (i := 20) (oi := { dst := some 34, op := Op.binOp BinOp.geq 23 (Operand.tmp 31) (Operand.tmp 33) 23, type := 4, pos := "ref.go:186", after := #[{ on := 17, ground := Ground.data }, { on := 19, ground := Ground.data }, { on := 14, ground := Ground.guard }], guard := some (14, true) }) (v := ?_) rfl (by kernel_rfl) (by kernel_rfl) (by kernel_rfl) (fun _ _ _ h => h) (Or.inl ⟨by rfl, ?_⟩) (by assumption) ?_
          rotate_left
          · intro w hSw; (try dsimp only at hSw); go_simp; first | done | with_reducible rfl
          try simp only [Act.put, List.setIfInBounds_toArray, List.set_cons_zero, List.set_cons_succ]
          refine wpAnyH_take (i := 21) (oi := { dst := some 35, op := Op.pick (Operand.tmp 28) (Operand.tmp 34) (Operand.const (Value.bool false)), type := 4, pos := "ref.go:186", after := #[{ on := 14, ground := Ground.data }, { on := 20, ground := Ground.data }], guard := none }) (v := ?_) rfl (by kernel_rfl) (by kernel_rfl) (by kernel_rfl) (fun _ _ _ h => h) (Or.inl ⟨by rfl, ?_⟩) (by assumption) ?_
          rotate_left
          · intro w hSw; (try dsimp only at hSw); go_simp; first | done | with_reducible rfl
          try simp only [Act.put, List.setIfInBounds_toArray, List.set_cons_zero, List.set_cons_succ]
          refine wpAnyH_take (i := 22) (oi := { dst := some 36, op := Op.move (Operand.tmp 35), type := 4, pos := "ref.go:186", after := #[{ on := 21, ground := Ground.data }, { on := 14, ground := Ground.chain }], guard := none }) (v := ?_) rfl (by kernel_rfl) (by kernel_rfl) (by kernel_rfl) (fun _ _ _ h => h) (Or.inl ⟨by rfl, ?_⟩) (by assumption) ?_
          rotate_left
          · intro w hSw; (try dsimp only at hSw); go_simp; first | done | with_reducible rfl
          try simp only [Act.put, List.setIfInBounds_toArray, List.set_cons_zero, List.set_cons_succ]
          refine wpAnyH_take (i := 23) (oi := { dst := some 37, op := Op.fieldAddr 28 (Operand.tmp 2) 4, type := 0, pos := "ref.go:186", after := #[{ on := 22, ground := Ground.guard }], guard := some (22, true) }) (v := ?_) rfl (by kernel_rfl) (by kernel_rfl) (by kernel_rfl) (fun _ _ _ h => h) (Or.inl ⟨by rfl, ?_⟩) (by assumption) ?_
          rotate_left
          · intro w hSw; (try dsimp only at hSw); go_simp; first | done | with_reducible rfl
          try simp only [Act.put, List.setIfInBounds_toArray, List.set_cons_zero, List.set_cons_succ]
          refine wpAnyH_take (i := 24) (oi := { dst := some 38, op := Op.fieldAddr 25 (Operand.tmp 37) 1, type := 0, pos := "ref.go:186", after := #[{ on := 23, ground := Ground.data }, { on := 22, ground := Ground.guard }], guard := some (22, true) }) (v := ?_) rfl (by kernel_rfl) (by kernel_rfl) (by kernel_rfl) (fun _ _ _ h => h) (Or.inl ⟨by rfl, ?_⟩) (by assumption) ?_
          rotate_left
          · intro w hSw; (try dsimp only at hSw); go_simp; first | done | with_reducible rfl
          try simp only [Act.put, List.setIfInBounds_toArray, List.set_cons_zero, List.set_cons_succ]
          refine wpAnyH_take (i := 25) (oi := { dst := some 39, op := Op.load 23 (Operand.tmp 38), type := 23, pos := "ref.go:186", after := #[{ on := 24, ground := Ground.data }, { on := 22, ground := Ground.guard }], guard := some (22, true) }) (v := ?_) rfl (by kernel_rfl) (by kernel_rfl) (by kernel_rfl) (fun _ _ _ h => h) (Or.inl ⟨by rfl, ?_⟩) (by assumption) ?_
          rotate_left
          · intro w hSw; (try dsimp only at hSw); go_simp; first | done | with_reducible rfl
          try simp only [Act.put, List.setIfInBounds_toArray, List.set_cons_zero, List.set_cons_succ]
          refine wpAnyH_take (i := 26) (oi := { dst := some 40, op := Op.fieldAddr 30 (Operand.tmp 3) 4, type := 0, pos := "ref.go:186", after := #[{ on := 22, ground := Ground.guard }], guard := some (22, true) }) (v := ?_) rfl (by kernel_rfl) (by kernel_rfl) (by kernel_rfl) (fun _ _ _ h => h) (Or.inl ⟨by rfl, ?_⟩) (by assumption) ?_
          rotate_left
          · intro w hSw; (try dsimp only at hSw); go_simp; first | done | with_reducible rfl
          try simp only [Act.put, List.setIfInBounds_toArray, List.set_cons_zero, List.set_cons_succ]
          refine wpAnyH_take (i := 27) (oi := { dst := some 41, op := Op.load 23 (Operand.tmp 40), type := 23, pos := "ref.go:186", after := #[{ on := 26, ground := Ground.data }, { on := 22, ground := Ground.guard }], guard := some (22, true) }) (v := ?_) rfl (by kernel_rfl) (by kernel_rfl) (by kernel_rfl) (fun _ _ _ h => h) (Or.inl ⟨by rfl, ?_⟩) (by assumption) ?_
          rotate_left
          · intro w hSw; (try dsimp only at hSw); go_simp; first | done | with_reducible rfl
          try simp only [Act.put, List.setIfInBounds_toArray, List.set_cons_zero, List.set_cons_succ]
          refine wpAnyH_take (i := 28) (oi := { dst := some 42, op := Op.binOp BinOp.leq 23 (Operand.tmp 39) (Operand.tmp 41) 23, type := 4, pos := "ref.go:186", after := #[{ on := 25, ground := Ground.data }, { on := 27, ground := Ground.data }, { on := 22, ground := Ground.guard }], guard := some (22, true) }) (v := ?_) rfl (by kernel_rfl) (by kernel_rfl) (by kernel_rfl) (fun _ _ _ h => h) (Or.inl ⟨by rfl, ?_⟩) (by assumption) ?_
          rotate_left
          · intro w hSw; (try dsimp only at hSw); go_simp; first | done | with_reducible rfl
          try simp only [Act.put, List.setIfInBounds_toArray, List.set_cons_zero, List.set_cons_succ]
          refine wpAnyH_take (i := 29) (oi := { dst := some 43, op := Op.pick (Operand.tmp 36) (Operand.tmp 42) (Operand.const (Value.bool false)), type := 4, pos := "ref.go:186", after := #[{ on := 22, ground := Ground.data }, { on := 28, ground := Ground.data }], guard := none }) (v := ?_) rfl (by kernel_rfl) (by kernel_rfl) (by kernel_rfl) (fun _ _ _ h => h) (Or.inl ⟨by rfl, ?_⟩) (by assumption) ?_
          rotate_left
          · intro w hSw; (try dsimp only at hSw); go_simp; first | done | with_reducible rfl
          try simp only [Act.put, List.setIfInBounds_toArray, List.set_cons_zero, List.set_cons_succ]
          refine wpAnyH_take (i := 30) (oi := { dst := some 5, op := Op.assign (Operand.tmp 43), type := 4, pos := "ref.go:186", after := #[{ on := 29, ground := Ground.data }, { on := 22, ground := Ground.chain }, { on := 0, ground := Ground.phase }, { on := 1, ground := Ground.phase }, { on := 2, ground := Ground.phase }, { on := 3, ground := Ground.phase }, { on := 4, ground := Ground.phase }, { on := 5, ground := Ground.phase }, { on := 6, ground := Ground.phase }, { on := 7, ground := Ground.phase }, { on := 8, ground := Ground.phase }, { on := 9, ground := Ground.phase }, { on := 10, ground := Ground.phase }, { on := 11, ground := Ground.phase }, { on := 12, ground := Ground.phase }, { on := 13, ground := Ground.phase }, { on := 14, ground := Ground.phase }, { on := 15, ground := Ground.phase }, { on := 16, ground := Ground.phase }, { on := 17, ground := Ground.phase }, { on := 18, ground := Ground.phase }, { on := 19, ground := Ground.phase }, { on := 20, ground := Ground.phase }, { on := 21, ground := Ground.phase }, { on := 22, ground := Ground.phase }, { on := 23, ground := Ground.phase }, { on := 24, ground := Ground.phase }, { on := 25, ground := Ground.phase }, { on := 26, ground := Ground.phase }, { on := 27, ground := Ground.phase }, { on := 28, ground := Ground.phase }, { on := 29, ground := Ground.phase }], guard := none }) (v := ?_) rfl (by kernel_rfl) (by kernel_rfl) (by kernel_rfl) (fun _ _ _ h => h) (Or.inl ⟨by rfl, ?_⟩) (by assumption) ?_
          rotate_left
          · intro w hSw; (try dsimp only at hSw); go_simp; first | done | with_reducible rfl
          try simp only [Act.put, List.setIfInBounds_toArray, List.set_cons_zero, List.set_cons_succ]
          refine wpAnyH_done (by kernel_rfl) ?_ _
          clear hHeld KS
          replace B0 := T.Hid.mk (B0.out.gr d1)
          replace B1 := T.Hid.mk (B1.out.gr d1)
          replace G := T.Hid.mk (G.out.trans d1)
          clear d1 
          have ⟨z0, p0, f0⟩ := B0.out
          have ⟨z1, p1, f1⟩ := B1.out
          clear f0 f1
          go_wp2_with fail
          all_goals
            go_ret
            refine ⟨ret_bool (by simp_all <;> omega), G.out⟩
        · have m5 : decide (tl ≤ A.p.lo) = false := by simp; omega
          clear z0 p0 z1 p1
          have KS : T.Hid (∀ W, Gr W1 W → W.cell? ⟨w.heap.size, 0, none⟩ = some (.int .i64 A.k) ∧ W.cell? ⟨w.heap.size, 1, none⟩ = some (.int .u64 A.n.lo) ∧ W.cell? ⟨w.heap.size, 2, none⟩ = some (.int .u64 A.n.hi) ∧ W.cell? ⟨w.heap.size, 3, none⟩ = some (.int .u64 A.b.lo) ∧ W.cell? ⟨w.heap.size, 4, none⟩ = some (.int .u64 A.b.hi) ∧ W.cell? ⟨w.heap.size, 5, none⟩ = some (.int .u64 A.e.lo) ∧ W.cell? ⟨w.heap.size, 6, none⟩ = some (.int .u64 A.e.hi) ∧ W.cell? ⟨w.heap.size, 7, none⟩ = some (.int .u64 A.p.lo) ∧ W.cell? ⟨w.heap.size, 8, none⟩ = some (.int .u64 A.p.hi) ∧ W.cell? ⟨w.heap.size, 9, none⟩ = some (.int .u8 A.mu) ∧ W.cell? ⟨w.heap.size, 10, none⟩ = some (.int .u8 A.ma) ∧ W.cell? ⟨w.heap.size, 11, none⟩ = some (.int .i64 A.s) ∧ W.cell? ⟨w.heap.size + 1, 0, none⟩ = some (.bool true) ∧ W.cell? ⟨w.heap.size + 1, 1, none⟩ = some (.int .u64 tb) ∧ W.cell? ⟨w.heap.size + 1, 2, none⟩ = some (.int .u64 te) ∧ W.cell? ⟨w.heap.size + 1, 3, none⟩ = some (.int .u64 tl) ∧ W.cell? ⟨w.heap.size + 1, 4, none⟩ = some (.int .u64 th) ∧ W.cell? ⟨w.heap.size + 1, 5, none⟩ = some (.int .u8 (tp : Nat)) ∧ W.cell? ⟨w.heap.size + 1, 6, none⟩ = some (.int .i64 ts)) := T.Hid.mk (fun W g => by
            have a0 := (B0.out.gr g).2.1
            have a1 := (B1.out.gr g).2.1
            exact ⟨a0 0, a0 1, a0 2, a0 3, a0 4, a0 5, a0 6, a0 7, a0 8, a0 9, a0 10, a0 11, a1 0, a1 1, a1 2, a1 3, a1 4, a1 5, a1 6⟩)
          have d1 : Gr W1 W1.drew := (Gr.refl _).drew
          refine wp_region_held_drew (S := (fun W => W.cell? ⟨w.heap.size, 0, none⟩ = some (.int .i64 A.k) ∧ W.cell? ⟨w.heap.size, 1, none⟩ = some (.int .u64 A.n.lo) ∧ W.cell? ⟨w.heap.size, 2, none⟩ = some (.int .u64 A.n.hi) ∧ W.cell? ⟨w.heap.size, 3, none⟩ = some (.int .u64 A.b.lo) ∧ W.cell? ⟨w.heap.size, 4, none⟩ = some (.int .u64 A.b.hi) ∧ W.cell? ⟨w.heap.size, 5, none⟩ = some (.int .u64 A.e.lo) ∧ W.cell? ⟨w.heap.size, 6, none⟩ = some (.int .u64 A.e.hi) ∧ W.cell? ⟨w.heap.size, 7, none⟩ = some (.int .u64 A.p.lo) ∧ W.cell? ⟨w.heap.size, 8, none⟩ = some (.int .u64 A.p.hi) ∧ W.cell? ⟨w.heap.size, 9, none⟩ = some (.int .u8 A.mu) ∧ W.cell? ⟨w.heap.size, 10, none⟩ = some (.int .u8 A.ma) ∧ W.cell? ⟨w.heap.size, 11, none⟩ = some (.int .i64 A.s) ∧ W.cell? ⟨w.heap.size + 1, 0, none⟩ = some (.bool true) ∧ W.cell? ⟨w.heap.size + 1, 1, none⟩ = some (.int .u64 tb) ∧ W.cell? ⟨w.heap.size + 1, 2, none⟩ = some (.int .u64 te) ∧ W.cell? ⟨w.heap.size + 1, 3, none⟩ = some (.int .u64 tl) ∧ W.cell? ⟨w.heap.size + 1, 4, none⟩ = some (.int .u64 th) ∧ W.cell? ⟨w.heap.size + 1, 5, none⟩ = some (.int .u8 (tp : Nat)) ∧ W.cell? ⟨w.heap.size + 1, 6, none⟩ = some (.int .i64 ts))) (by kernel_rfl) (KS.out _ d1) (fun hHeld => ?_)
          refine wpAnyH_take (i := 0) (oi := { dst := some 14, op := Op.fieldAddr 28 (Operand.tmp 2) 2, type := 0, pos := "ref.go:186", after := #[], guard := none }) (v := ?_) rfl (by kernel_rfl) (by kernel_rfl) (by kernel_rfl) (fun _ _ _ h => h) (Or.inl ⟨by rfl, ?_⟩) (by assumption) ?_
          rotate_left
          · intro w hSw; (try dsimp only at hSw); go_simp; first | done | with_reducible rfl
          try simp only [Act.put, List.setIfInBounds_toArray, List.set_cons_zero, List.set_cons_succ]
          refine wpAnyH_take (i := 1) (oi := { dst := some 15, op := Op.load 25 (Operand.tmp 14), type := 25, pos := "ref.go:186", after := #[{ on := 0, ground := Ground.data }], guard := none }) (v := ?_) rfl (by kernel_rfl) (by kernel_rfl) (by kernel_rfl) (fun _ _ _ h => h) (Or.inl ⟨by rfl, ?_⟩) (by assumption) ?_
          rotate_left
          · intro w hSw; (try dsimp only at hSw); go_simp; first | done | with_reducible rfl
          try simp only [Act.put, List.setIfInBounds_toArray, List.set_cons_zero, List.set_cons_succ]
          refine wpAnyH_take (i := 2) (oi := { dst := some 16, op := Op.fieldAddr 30 (Operand.tmp 3) 1, type := 0, pos := "ref.go:186", after := #[], guard := none }) (v := ?_) rfl (by kernel_rfl) (by kernel_rfl) (by kernel_rfl) (fun _ _ _ h => h) (Or.inl ⟨by rfl, ?_⟩) (by assumption) ?_
          rotate_left
          · intro w hSw; (try dsimp only at hSw); go_simp; first | done | with_reducible rfl
          try simp only [Act.put, List.setIfInBounds_toArray, List.set_cons_zero, List.set_cons_succ]
          refine wpAnyH_take (i := 3) (oi := { dst := some 17, op := Op.load 23 (Operand.tmp 16), type := 23, pos := "ref.go:186", after := #[{ on := 2, ground := Ground.data }], guard := none }) (v := ?_) rfl (by kernel_rfl) (by kernel_rfl) (by kernel_rfl) (fun _ _ _ h => h) (Or.inl ⟨by rfl, ?_⟩) (by assumption) ?_
          rotate_left
          · intro w hSw; (try dsimp only at hSw); go_simp; first | done | with_reducible rfl
          try simp only [Act.put, List.setIfInBounds_toArray, List.set_cons_zero, List.set_cons_succ]
          refine wpAnyH_ready (rs := [4]) (by kernel_rfl) (by simp) ?_
          refine AllReadyH.cons (o := { dst := some 18, op := Op.call { callee := Callee.value (Operand.func 25), args := #[Operand.tmp 17], argTypes := #[23] }, type := 25, pos := "ref.go:186", after := #[{ on := 3, ground := Ground.data }], guard := none }) rfl (fun K hK => ?_) AllReadyH.nil
          go_simp
          go_wp2_with ((go_at_call 25; refine (one_any _ _).mono ?_; rintro x wq ⟨rfl, q9⟩; have d1 : Gr W1 wq := Gr.trans (by (repeat (first | with_reducible assumption | with_reducible exact Gr.refl _ | with_reducible refine Gr.drew ?_ | with_reducible refine Gr.alloc ?_ _))) q9; clear q9))
          refine hK.out _ _ (KS.out _ d1) (fun hHeld => ?_)
          clear hK K
          try simp only [Act.put, List.setIfInBounds_toArray, List.set_cons_zero, List.set_cons_succ]
          refine wpAnyH_take (i := 5) (oi := { dst := some 19, op := Op.binOp BinOp.eql 25 (Operand.tmp 15) (Operand.tmp 18) 25, type := 4, pos := "ref.go:186", after := #[{ on := 1, ground := Ground.data }, { on := 4, ground := Ground.data }], guard := none }) (v := ?_) rfl (by kernel_rfl) (by kernel_rfl) (by kernel_rfl) (fun _ _ _ h => h) (Or.inl ⟨by rfl, ?_⟩) (by assumption) ?_
          rotate_left
          · intro w hSw; (try dsimp only at hSw); go_simp; first | done | with_reducible rfl
          try simp only [Act.put, List.setIfInBounds_toArray, List.set_cons_zero, List.set_cons_succ]
          refine wpAnyH_take (i := 6) (oi := { dst := some 20, op := Op.move (Operand.tmp 19), type := 4, pos := "ref.go:186", after := #[{ on := 5, ground := Ground.data }, { on := 4, ground := Ground.chain }], guard := none }) (v := ?_) rfl (by kernel_rfl) (by kernel_rfl) (by kernel_rfl) (fun _ _ _ h => h) (Or.inl ⟨by rfl, ?_⟩) (by assumption) ?_
          rotate_left
          · intro w hSw; (try dsimp only at hSw); go_simp; first | done | with_reducible rfl
          try simp only [Act.put, List.setIfInBounds_toArray, List.set_cons_zero, List.set_cons_succ]
          refine wpAnyH_take (i := 7) (oi := { dst := some 21, op := Op.fieldAddr 28 (Operand.tmp 2) 3, type := 0, pos := "ref.go:186", after := #[{ on := 6, ground := Ground.guard }], guard := some (6, true) }) (v := ?_) rfl (by kernel_rfl) (by kernel_rfl) (by kernel_rfl) (fun _ _ _ h => h) (Or.inl ⟨by rfl, ?_⟩) (by assumption) ?_
          rotate_left
          · intro w hSw; (try dsimp only at hSw); go_simp; first | done | with_reducible rfl
          try simp only [Act.put, List.setIfInBounds_toArray, List.set_cons_zero, List.set_cons_succ]
          refine wpAnyH_take (i := 8) (oi := { dst := some 22, op := Op.load 25 (Operand.tmp 21), type := 25, pos := "ref.go:186", after := #[{ on := 7, ground := Ground.data }, { on := 6, ground := Ground.guard }], guard := some (6, true) }) (v := ?_) rfl (by kernel_rfl) (by kernel_rfl) (by kernel_rfl) (fun _ _ _ h => h) (Or.inl ⟨by rfl, ?_⟩) (by assumption) ?_
          rotate_left
          · intro w hSw; (try dsimp only at hSw); go_simp; first | done | with_reducible rfl
          try simp only [Act.put, List.setIfInBounds_toArray, List.set_cons_zero, List.set_cons_succ]
          refine wpAnyH_take (i := 9) (oi := { dst := some 23, op := Op.fieldAddr 30 (Operand.tmp 3) 2, type := 0, pos := "ref.go:186", after := #[{ on := 6, ground := Ground.guard }], guard := some (6, true) }) (v := ?_) rfl (by kernel_rfl) (by kernel_rfl) (by kernel_rfl) (fun _ _ _ h => h) (Or.inl ⟨by rfl, ?_⟩) (by assumption) ?_
          rotate_left
          · intro w hSw; (try dsimp only at hSw); go_simp; first | done | with_reducible rfl
          try simp only [Act.put, List.setIfInBounds_toArray, List.set_cons_zero, List.set_cons_succ]
          refine wpAnyH_take (i := 10) (oi := { dst := some 24, op := Op.load 23 (Operand.tmp 23), type := 23, pos := "ref.go:186", after := #[{ on := 9, ground := Ground.data }, { on := 6, ground := Ground.guard }], guard := some (6, true) }) (v := ?_) rfl (by kernel_rfl) (by kernel_rfl) (by kernel_rfl) (fun _ _ _ h => h) (Or.inl ⟨by rfl, ?_⟩) (by assumption) ?_
          rotate_left
          · intro w hSw; (try dsimp only at hSw); go_simp; first | done | with_reducible rfl
          try simp only [Act.put, List.setIfInBounds_toArray, List.set_cons_zero, List.set_cons_succ]
          refine wpAnyH_ready (rs := [11]) (by kernel_rfl) (by simp) ?_
          refine AllReadyH.cons (o := { dst := some 25, op := Op.call { callee := Callee.value (Operand.func 25), args := #[Operand.tmp 24], argTypes := #[23] }, type := 25, pos := "ref.go:186", after := #[{ on := 10, ground := Ground.data }, { on := 6, ground := Ground.chain }, { on := 6, ground := Ground.guard }], guard := some (6, true) }) rfl (fun K hK => ?_) AllReadyH.nil
          go_simp
          go_wp2_with ((go_at_call 25; refine (one_any _ _).mono ?_; rintro x wq ⟨rfl, q9⟩; have d1 : Gr W1 wq := Gr.trans (by (repeat (first | with_reducible assumption | with_reducible exact Gr.refl _ | with_reducible refine Gr.drew ?_ | with_reducible refine Gr.alloc ?_ _))) q9; clear q9))
          refine hK.out _ _ (KS.out _ d1) (fun hHeld => ?_)
          clear hK K
          try simp only [Act.put, List.setIfInBounds_toArray, List.set_cons_zero, List.set_cons_succ]
          refine wpAnyH_take (i := 12) (oi := { dst := some 26, op := Op.binOp BinOp.eql 25 (Operand.tmp 22) (Operand.tmp 25) 25, type := 4, pos := "ref.go:186", after := #[{ on := 8, ground := Ground.data }, { on := 11, ground := Ground.data }, { on := 6, ground := Ground.guard }], guard := some (6, true) }) (v := ?_) rfl (by kernel_rfl) (by kernel_rfl) (by kernel_rfl) (fun _ _ _ h => h) (Or.inl ⟨by rfl, ?_⟩) (by assumption) ?_
          rotate_left
          · intro w hSw; (try dsimp only at hSw); go_simp; first | done | with_reducible rfl
          try simp only [Act.put, List.setIfInBounds_toArray, List.set_cons_zero, List.set_cons_succ]
          refine wpAnyH_take (i := 13) (oi := { dst := some 27, op := Op.pick (Operand.tmp 20) (Operand.tmp 26) (Operand.const (Value.bool false)), type := 4, pos := "ref.go:186", after := #[{ on := 6, ground := Ground.data }, { on := 12, ground := Ground.data }], guard := none }) (v := ?_) rfl (by kernel_rfl) (by kernel_rfl) (by kernel_rfl) (fun _ _ _ h => h) (Or.inl ⟨by rfl, ?_⟩) (by assumption) ?_
          rotate_left
          · intro w hSw; (try dsimp only at hSw); go_simp; first | done | with_reducible rfl
          try simp only [Act.put, List.setIfInBounds_toArray, List.set_cons_zero, List.set_cons_succ]
          refine wpAnyH_take (i := 14) (oi := { dst := some 28, op := Op.move (Operand.tmp 27), type := 4, pos := "ref.go:186", after := #[{ on := 13, ground := Ground.data }, { on := 11, ground := Ground.chain }], guard := none }) (v := ?_) rfl (by kernel_rfl) (by kernel_rfl) (by kernel_rfl) (fun _ _ _ h => h) (Or.inl ⟨by rfl, ?_⟩) (by assumption) ?_
          rotate_left
          · intro w hSw; (try dsimp only at hSw); go_simp; first | done | with_reducible rfl
          try simp only [Act.put, List.setIfInBounds_toArray, List.set_cons_zero, List.set_cons_succ]
          refine wpAnyH_take (i := 15) (oi := { dst := some 29, op := Op.fieldAddr 28 (Operand.tmp 2) 4, type := 0, pos := "ref.go:186", after := #[{ on := 14, ground := Ground.guard }], guard := some (14, true) }) (v := ?_) rfl (by kernel_rfl) (by kernel_rfl) (by kernel_rfl) (fun _ _ _ h => h) (Or.inl ⟨by rfl, ?_⟩) (by assumption) ?_
          rotate_left
          · intro w hSw; (try dsimp only at hSw); go_simp; first | done | with_reducible rfl
          try simp only [Act.put, List.setIfInBounds_toArray, List.set_cons_zero, List.set_cons_succ]
          refine wpAnyH_take (i := 16) (oi := { dst := some 30, op := Op.fieldAddr 25 (Operand.tmp 29) 0, type := 0, pos := "ref.go:186", after := #[{ on := 15, ground := Ground.data }, { on := 14, ground := Ground.guard }], guard := some (14, true) }) (v := ?_) rfl (by kernel_rfl) (by kernel_rfl) (by kernel_rfl) (fun _ _ _ h => h) (Or.inl ⟨by rfl, ?_⟩) (by assumption) ?_
          rotate_left
          · intro w hSw; (try dsimp only at hSw); go_simp; first | done | with_reducible rfl
          try simp only [Act.put, List.setIfInBounds_toArray, List.set_cons_zero, List.set_cons_succ]
          refine wpAnyH_take (i := 17) (oi := { dst := some 31, op := Op.load 23 (Operand.tmp 30), type := 23, pos := "ref.go:186", after := #[{ on := 16, ground := Ground.data }, { on := 14, ground := Ground.guard }], guard := some (14, true) }) (v := ?_) rfl (by kernel_rfl) (by kernel_rfl) (by kernel_rfl) (fun _ _ _ h => h) (Or.inl ⟨by rfl, ?_⟩) (by assumption) ?_
          rotate_left
          · intro w hSw; (try dsimp only at hSw); go_simp; first | done | with_reducible rfl
          try simp only [Act.put, List.setIfInBounds_toArray, List.set_cons_zero, List.set_cons_succ]
          refine wpAnyH_take (i := 18) (oi := { dst := some 32, op := Op.fieldAddr 30 (Operand.tmp 3) 3, type := 0, pos := "ref.go:186", after := #[{ on := 14, ground := Ground.guard }], guard := some (14, true) }) (v := ?_) rfl (by kernel_rfl) (by kernel_rfl) (by kernel_rfl) (fun _ _ _ h => h) (Or.inl ⟨by rfl, ?_⟩) (by assumption) ?_
          rotate_left
          · intro w hSw; (try dsimp only at hSw); go_simp; first | done | with_reducible rfl
          try simp only [Act.put, List.setIfInBounds_toArray, List.set_cons_zero, List.set_cons_succ]
          refine wpAnyH_take (i := 19) (oi := { dst := some 33, op := Op.load 23 (Operand.tmp 32), type := 23, pos := "ref.go:186", after := #[{ on := 18, ground := Ground.data }, { on := 14, ground := Ground.guard }], guard := some (14, true) }) (v := ?_) rfl (by kernel_rfl) (by kernel_rfl) (by kernel_rfl) (fun _ _ _ h => h) (Or.inl ⟨by rfl, ?_⟩) (by assumption) ?_
          rotate_left
          · intro w hSw; (try dsimp only at hSw); go_simp; first | done | with_reducible rfl
          try simp only [Act.put, List.setIfInBounds_toArray, List.set_cons_zero, List.set_cons_succ]
          refine wpAnyH_take (i := 20) (oi := { dst := some 34, op := Op.binOp BinOp.geq 23 (Operand.tmp 31) (Operand.tmp 33) 23, type := 4, pos := "ref.go:186", after := #[{ on := 17, ground := Ground.data }, { on := 19, ground := Ground.data }, { on := 14, ground := Ground.guard }], guard := some (14, true) }) (v := ?_) rfl (by kernel_rfl) (by kernel_rfl) (by kernel_rfl) (fun _ _ _ h => h) (Or.inl ⟨by rfl, ?_⟩) (by assumption) ?_
          rotate_left
          · intro w hSw; (try dsimp only at hSw); go_simp; first | done | with_reducible rfl
          try simp only [Act.put, List.setIfInBounds_toArray, List.set_cons_zero, List.set_cons_succ]
          refine wpAnyH_take (i := 21) (oi := { dst := some 35, op := Op.pick (Operand.tmp 28) (Operand.tmp 34) (Operand.const (Value.bool false)), type := 4, pos := "ref.go:186", after := #[{ on := 14, ground := Ground.data }, { on := 20, ground := Ground.data }], guard := none }) (v := ?_) rfl (by kernel_rfl) (by kernel_rfl) (by kernel_rfl) (fun _ _ _ h => h) (Or.inl ⟨by rfl, ?_⟩) (by assumption) ?_
          rotate_left
          · intro w hSw; (try dsimp only at hSw); go_simp; first | done | with_reducible rfl
          try simp only [Act.put, List.setIfInBounds_toArray, List.set_cons_zero, List.set_cons_succ]
          refine wpAnyH_take (i := 22) (oi := { dst := some 36, op := Op.move (Operand.tmp 35), type := 4, pos := "ref.go:186", after := #[{ on := 21, ground := Ground.data }, { on := 14, ground := Ground.chain }], guard := none }) (v := ?_) rfl (by kernel_rfl) (by kernel_rfl) (by kernel_rfl) (fun _ _ _ h => h) (Or.inl ⟨by rfl, ?_⟩) (by assumption) ?_
          rotate_left
          · intro w hSw; (try dsimp only at hSw); go_simp; first | done | with_reducible rfl
          try simp only [Act.put, List.setIfInBounds_toArray, List.set_cons_zero, List.set_cons_succ]
          refine wpAnyH_take (i := 23) (oi := { dst := some 37, op := Op.fieldAddr 28 (Operand.tmp 2) 4, type := 0, pos := "ref.go:186", after := #[{ on := 22, ground := Ground.guard }], guard := some (22, true) }) (v := undef) rfl (by kernel_rfl) (by kernel_rfl) (by kernel_rfl) (fun _ _ _ h => h) (Or.inr ⟨by rfl, rfl⟩) (by assumption) ?_
          try simp only [Act.put, List.setIfInBounds_toArray, List.set_cons_zero, List.set_cons_succ]
          refine wpAnyH_take (i := 24) (oi := { dst := some 38, op := Op.fieldAddr 25 (Operand.tmp 37) 1, type := 0, pos := "ref.go:186", after := #[{ on := 23, ground := Ground.data }, { on := 22, ground := Ground.guard }], guard := some (22, true) }) (v := undef) rfl (by kernel_rfl) (by kernel_rfl) (by kernel_rfl) (fun _ _ _ h => h) (Or.inr ⟨by rfl, rfl⟩) (by assumption) ?_
          try simp only [Act.put, List.setIfInBounds_toArray, List.set_cons_zero, List.set_cons_succ]
          refine wpAnyH_take (i := 25) (oi := { dst := some 39, op := Op.load 23 (Operand.tmp 38), type := 23, pos := "ref.go:186", after := #[{ on := 24, ground := Ground.data }, { on := 22, ground := Ground.guard }], guard := some (22, true) }) (v := undef) rfl (by kernel_rfl) (by kernel_rfl) (by kernel_rfl) (fun _ _ _ h => h) (Or.inr ⟨by rfl, rfl⟩) (by assumption) ?_
          try simp only [Act.put, List.setIfInBounds_toArray, List.set_cons_zero, List.set_cons_succ]
          refine wpAnyH_take (i := 26) (oi := { dst := some 40, op := Op.fieldAddr 30 (Operand.tmp 3) 4, type := 0, pos := "ref.go:186", after := #[{ on := 22, ground := Ground.guard }], guard := some (22, true) }) (v := undef) rfl (by kernel_rfl) (by kernel_rfl) (by kernel_rfl) (fun _ _ _ h => h) (Or.inr ⟨by rfl, rfl⟩) (by assumption) ?_
          try simp only [Act.put, List.setIfInBounds_toArray, List.set_cons_zero, List.set_cons_succ]
          refine wpAnyH_take (i := 27) (oi := { dst := some 41, op := Op.load 23 (Operand.tmp 40), type := 23, pos := "ref.go:186", after := #[{ on := 26, ground := Ground.data }, { on := 22, ground := Ground.guard }], guard := some (22, true) }) (v := undef) rfl (by kernel_rfl) (by kernel_rfl) (by kernel_rfl) (fun _ _ _ h => h) (Or.inr ⟨by rfl, rfl⟩) (by assumption) ?_
          try simp only [Act.put, List.setIfInBounds_toArray, List.set_cons_zero, List.set_cons_succ]
          refine wpAnyH_take (i := 28) (oi := { dst := some 42, op := Op.binOp BinOp.leq 23 (Operand.tmp 39) (Operand.tmp 41) 23, type := 4, pos := "ref.go:186", after := #[{ on := 25, ground := Ground.data }, { on := 27, ground := Ground.data }, { on := 22, ground := Ground.guard }], guard := some (22, true) }) (v := undef) rfl (by kernel_rfl) (by kernel_rfl) (by kernel_rfl) (fun _ _ _ h => h) (Or.inr ⟨by rfl, rfl⟩) (by assumption) ?_
          try simp only [Act.put, List.setIfInBounds_toArray, List.set_cons_zero, List.set_cons_succ]
          refine wpAnyH_take (i := 29) (oi := { dst := some 43, op := Op.pick (Operand.tmp 36) (Operand.tmp 42) (Operand.const (Value.bool false)), type := 4, pos := "ref.go:186", after := #[{ on := 22, ground := Ground.data }, { on := 28, ground := Ground.data }], guard := none }) (v := ?_) rfl (by kernel_rfl) (by kernel_rfl) (by kernel_rfl) (fun _ _ _ h => h) (Or.inl ⟨by rfl, ?_⟩) (by assumption) ?_
          rotate_left
          · intro w hSw; (try dsimp only at hSw); go_simp; first | done | with_reducible rfl
          try simp only [Act.put, List.setIfInBounds_toArray, List.set_cons_zero, List.set_cons_succ]
          refine wpAnyH_take (i := 30) (oi := { dst := some 5, op := Op.assign (Operand.tmp 43), type := 4, pos := "ref.go:186", after := #[{ on := 29, ground := Ground.data }, { on := 22, ground := Ground.chain }, { on := 0, ground := Ground.phase }, { on := 1, ground := Ground.phase }, { on := 2, ground := Ground.phase }, { on := 3, ground := Ground.phase }, { on := 4, ground := Ground.phase }, { on := 5, ground := Ground.phase }, { on := 6, ground := Ground.phase }, { on := 7, ground := Ground.phase }, { on := 8, ground := Ground.phase }, { on := 9, ground := Ground.phase }, { on := 10, ground := Ground.phase }, { on := 11, ground := Ground.phase }, { on := 12, ground := Ground.phase }, { on := 13, ground := Ground.phase }, { on := 14, ground := Ground.phase }, { on := 15, ground := Ground.phase }, { on := 16, ground := Ground.phase }, { on := 17, ground := Ground.phase }, { on := 18, ground := Ground.phase }, { on := 19, ground := Ground.phase }, { on := 20, ground := Ground.phase }, { on := 21, ground := Ground.phase }, { on := 22, ground := Ground.phase }, { on := 23, ground := Ground.phase }, { on := 24, ground := Ground.phase }, { on := 25, ground := Ground.phase }, { on := 26, ground := Ground.phase }, { on := 27, ground := Ground.phase }, { on := 28, ground := Ground.phase }, { on := 29, ground := Ground.phase }], guard := none }) (v := ?_) rfl (by kernel_rfl) (by kernel_rfl) (by kernel_rfl) (fun _ _ _ h => h) (Or.inl ⟨by rfl, ?_⟩) (by assumption) ?_
          rotate_left
          · intro w hSw; (try dsimp only at hSw); go_simp; first | done | with_reducible rfl
          try simp only [Act.put, List.setIfInBounds_toArray, List.set_cons_zero, List.set_cons_succ]
          refine wpAnyH_done (by kernel_rfl) ?_ _
          clear hHeld KS
          replace B0 := T.Hid.mk (B0.out.gr d1)
          replace B1 := T.Hid.mk (B1.out.gr d1)
          replace G := T.Hid.mk (G.out.trans d1)
          clear d1 
          have ⟨z0, p0, f0⟩ := B0.out
          have ⟨z1, p1, f1⟩ := B1.out
          clear f0 f1
          go_wp2_with fail
          all_goals
            go_ret
            refine ⟨ret_bool (by simp_all <;> omega), G.out⟩
end R
end Go.Proofs.Ytihminokipepcab
