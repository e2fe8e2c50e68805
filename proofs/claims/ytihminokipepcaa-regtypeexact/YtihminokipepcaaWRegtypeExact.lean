/-
  Stage 9, regtype: RegtypeExact, walked.
-/
import Derived.Test.YtihminokipepcaaRProX
import Derived.Test.YtihminokipepcaaSSet
namespace Go.Proofs.Ytihminokipepcaa
namespace R
open Go.RowKit

def Kc.eqB (a b : Kc) : Bool := decide (a.b = b.b ∧ a.e = b.e ∧ a.c = b.c ∧ a.pm = b.pm ∧ a.s = b.s)
theorem Kc.eqB_iff {a b : Kc} : a.eqB b = true ↔ a = b := by
  unfold Kc.eqB
  rw [decide_eq_true_eq]
  constructor
  · rintro ⟨h1, h2, h3, h4, h5⟩
    cases a; cases b; simp_all
  · rintro rfl; simp
set_option maxHeartbeats 2000000 in
theorem eqKc (a b : Kc) (W : World) : (binOp .eql 37 a.agg' b.agg').run Try.prog W = .ok (.bool (a.eqB b)) W := by
  obtain ⟨k1, k2, k3, k4, k5⟩ := a
  obtain ⟨l1, l2, l3, l4, l5⟩ := b
  simp only [Kc.agg', Kc.eqB]
  simp [go_sem, Int.natCast_inj]
  (repeat' split) <;> simp [*]
theorem any_zero {a : RV} : a.rt.eqB RT.zero = true ↔ a = .any := by
  rw [RT.eqB_iff]
  exact ⟨fun h => RV.rt_inj (b := .any) h, fun h => by rw [h]; rfl⟩
def zK : Kc := ⟨0, 0, 0, 0, 0⟩
theorem exK_ok {c : Kc} (h : c.Rng) : (exK c).ok := mkCap_ok (on_u64 h.1) (on_u64 h.2.1) (on_u64 h.2.2.1)
set_option maxHeartbeats 16000000 in
theorem walk_RegtypeExact (c : Kc) (v : Vv) (s : Sp) (n : Int) (w : World) (hc : c.Rng) (hv : v.Rng) (hs : s.u64) (_ : u64I n) : Calls Try.prog 7 #[.agg c.vals.toArray, .agg v.vals.toArray, .agg s.vals.toArray, .int .u64 n] w fun x w' => x = .returned (.bool true) ∧ Gr w w' := by
  have oE := exK_ok hc
  have oI := mkInt_ok hs
  have h0 := T.Hid.mk (fun W => alive_any pInt_any pJoin_any W)
  have h1 := T.Hid.mk (fun W => pExact_any c W hc)
  have h2 := T.Hid.mk (fun W => pInt_any s W hs)
  have h3 := T.Hid.mk (fun W => pHas_any (exK c).rt ⟨true, 0, c⟩ W (RV.rt_rng oE) hc.2.2.2)
  have h4 := T.Hid.mk (fun W => pHas_any (exK c).rt v W (RV.rt_rng oE) hv.2.2.2.2)
  have h5 := T.Hid.mk (fun W => pHas_any (mkInt s).rt ⟨false, n, zK⟩ W (RV.rt_rng oI) (show (0 : Nat) < 256 by decide))
  have h6 := T.Hid.mk (fun W => pHas_any (mkInt s).rt ⟨true, 0, c⟩ W (RV.rt_rng oI) hc.2.2.2)
  have qe := fun W => eqRT (exK c).rt RT.zero W
  have qi := fun W => eqRT (mkInt s).rt RT.zero W
  have qk := fun W => eqKc v.c c W
  rw [RV.nm_rt oE] at h3 h4
  rw [RV.nm_rt oI] at h5 h6
  have e1 : (exK c).rt.eqB RT.zero = false → (exK c).has ⟨true, 0, c⟩ = true ∧ (exK c).has v = (v.tag && v.c.eqB c) := by
    intro h
    have hn : exK c ≠ .any := fun e => by rw [any_zero.2 e] at h; cases h
    refine ⟨(has_exact hn _).2 ⟨rfl, rfl⟩, ?_⟩
    rw [Bool.eq_iff_iff, has_exact hn v, Bool.and_eq_true, Kc.eqB_iff]
  have e2 : (exK c).rt.eqB RT.zero = true → ¬ ((c.pm : Int) < 128 ∧ 0 ≤ c.s ∧ c.s ≤ 15) := by
    intro h hh
    have hn := any_zero.1 h
    rw [exK_eq, if_pos ⟨by omega, hh.2⟩] at hn
    cases hn
  have e3 : s.hi < s.lo → (mkInt s).rt.eqB RT.zero = true := by
    intro h
    rw [any_zero]
    exact if_neg (by omega)
  have e4 : ¬ s.hi < s.lo → (mkInt s).has ⟨false, n, zK⟩ = decide (s.lo ≤ n ∧ n ≤ s.hi) ∧ (mkInt s).has ⟨true, 0, c⟩ = false := by
    intro h
    rw [show mkInt s = .int s from if_pos (by omega)]
    refine ⟨?_, rfl⟩
    rw [Bool.eq_iff_iff]
    simp [RV.has, Sp.has_iff]
  have hp : 0 ≤ (c.pm : Int) ∧ (c.pm : Int) < 256 := by have := hc.2.2.2; omega
  have hn0 := T.Hid.mk hp
  clear hc hv hs oE oI hp
  generalize (exK c).rt.eqB RT.zero = uE at *
  generalize (mkInt s).rt.eqB RT.zero = uI at *
  generalize (exK c).has ⟨true, 0, c⟩ = v1 at *
  generalize (exK c).has v = v2 at *
  generalize (mkInt s).has ⟨false, n, zK⟩ = v3 at *
  generalize (mkInt s).has ⟨true, 0, c⟩ = v4 at *
  generalize v.c.eqB c = v5 at *
  generalize (exK c).rt = E at *
  generalize (mkInt s).rt = I at *
  simp only [RT.agg, Vv.agg, Kc.agg', RT.zero, Sp.no, Int.cast_ofNat_Int, Kc.vals, Vv.vals, Sp.vals, zK] at h1 h2 h3 h4 h5 h6 qe qi qk ⊢
  replace e1 := T.Hid.mk e1
  replace e2 := T.Hid.mk e2
  replace e3 := T.Hid.mk e3
  replace e4 := T.Hid.mk e4
  go_enter Try.func7, Try.ntmps7
  go_upto_region 1 with fail
  have B0 : T.Hid (At ((((w).alloc (.cells #[.int .u64 c.b, .int .u64 c.e, .int .u64 c.c, .int .u8 c.pm, .int .i64 c.s] 37)).alloc (.cells #[.bool v.tag, .int .u64 v.n, .int .u64 v.c.b, .int .u64 v.c.e, .int .u64 v.c.c, .int .u8 v.c.pm, .int .i64 v.c.s] 39)).alloc (.cells #[.int .u64 s.lo, .int .u64 s.hi] 25)) (w.heap.size) #[.int .u64 c.b, .int .u64 c.e, .int .u64 c.c, .int .u8 c.pm, .int .i64 c.s]) := T.Hid.mk (((At.at_ (w) _ _ (by simp)).alloc _).alloc _)
  have B1 : T.Hid (At ((((w).alloc (.cells #[.int .u64 c.b, .int .u64 c.e, .int .u64 c.c, .int .u8 c.pm, .int .i64 c.s] 37)).alloc (.cells #[.bool v.tag, .int .u64 v.n, .int .u64 v.c.b, .int .u64 v.c.e, .int .u64 v.c.c, .int .u8 v.c.pm, .int .i64 v.c.s] 39)).alloc (.cells #[.int .u64 s.lo, .int .u64 s.hi] 25)) (w.heap.size + 1) #[.bool v.tag, .int .u64 v.n, .int .u64 v.c.b, .int .u64 v.c.e, .int .u64 v.c.c, .int .u8 v.c.pm, .int .i64 v.c.s]) := T.Hid.mk ((At.at_ ((w).alloc (.cells #[.int .u64 c.b, .int .u64 c.e, .int .u64 c.c, .int .u8 c.pm, .int .i64 c.s] 37)) _ _ (by simp)).alloc _)
  have B2 : T.Hid (At ((((w).alloc (.cells #[.int .u64 c.b, .int .u64 c.e, .int .u64 c.c, .int .u8 c.pm, .int .i64 c.s] 37)).alloc (.cells #[.bool v.tag, .int .u64 v.n, .int .u64 v.c.b, .int .u64 v.c.e, .int .u64 v.c.c, .int .u8 v.c.pm, .int .i64 v.c.s] 39)).alloc (.cells #[.int .u64 s.lo, .int .u64 s.hi] 25)) (w.heap.size + 1 + 1) #[.int .u64 s.lo, .int .u64 s.hi]) := T.Hid.mk (At.at_ (((w).alloc (.cells #[.int .u64 c.b, .int .u64 c.e, .int .u64 c.c, .int .u8 c.pm, .int .i64 c.s] 37)).alloc (.cells #[.bool v.tag, .int .u64 v.n, .int .u64 v.c.b, .int .u64 v.c.e, .int .u64 v.c.c, .int .u8 v.c.pm, .int .i64 v.c.s] 39)) _ _ (by simp))
  have G := T.Hid.mk (show Gr w ((((w).alloc (.cells #[.int .u64 c.b, .int .u64 c.e, .int .u64 c.c, .int .u8 c.pm, .int .i64 c.s] 37)).alloc (.cells #[.bool v.tag, .int .u64 v.n, .int .u64 v.c.b, .int .u64 v.c.e, .int .u64 v.c.c, .int .u8 v.c.pm, .int .i64 v.c.s] 39)).alloc (.cells #[.int .u64 s.lo, .int .u64 s.hi] 25)) from ((((Gr.refl w).alloc _).alloc _).alloc _))
  generalize (((w).alloc (.cells #[.int .u64 c.b, .int .u64 c.e, .int .u64 c.c, .int .u8 c.pm, .int .i64 c.s] 37)).alloc (.cells #[.bool v.tag, .int .u64 v.n, .int .u64 v.c.b, .int .u64 v.c.e, .int .u64 v.c.c, .int .u8 v.c.pm, .int .i64 v.c.s] 39)).alloc (.cells #[.int .u64 s.lo, .int .u64 s.hi] 25) = W0 at G B0 B1 B2 ⊢
  have ⟨z0, p0, f0⟩ := B0.out
  have ⟨z1, p1, f1⟩ := B1.out
  have ⟨z2, p2, f2⟩ := B2.out
  clear f0 f1 f2
  go_upto_region 2 with (go_at_call 9; refine (h0.out _).mono ?_; rintro x w1 ⟨rfl, q⟩)
  clear z0 p0 z1 p1 z2 p2
  replace B0 := T.Hid.mk (B0.out.gr (q))
  replace B1 := T.Hid.mk (B1.out.gr (q))
  replace B2 := T.Hid.mk (B2.out.gr (q))
  replace G := T.Hid.mk (G.out.trans (q))
  clear q h0
  have ⟨z0, p0, f0⟩ := B0.out
  have ⟨z1, p1, f1⟩ := B1.out
  have ⟨z2, p2, f2⟩ := B2.out
  clear f0 f1 f2
  go_upto_region 3 with (go_at_call 16; refine (h1.out _).mono ?_; rintro x w2 ⟨rfl, q⟩)
  clear z0 p0 z1 p1 z2 p2
  replace B0 := T.Hid.mk (B0.out.gr (q.alloc (.cells #[.int .i64 E.k, .int .u64 E.n.lo, .int .u64 E.n.hi, .int .u64 E.b.lo, .int .u64 E.b.hi, .int .u64 E.e.lo, .int .u64 E.e.hi, .int .u64 E.p.lo, .int .u64 E.p.hi, .int .u8 E.mu, .int .u8 E.ma, .int .i64 E.s] 28)))
  replace B1 := T.Hid.mk (B1.out.gr (q.alloc (.cells #[.int .i64 E.k, .int .u64 E.n.lo, .int .u64 E.n.hi, .int .u64 E.b.lo, .int .u64 E.b.hi, .int .u64 E.e.lo, .int .u64 E.e.hi, .int .u64 E.p.lo, .int .u64 E.p.hi, .int .u8 E.mu, .int .u8 E.ma, .int .i64 E.s] 28)))
  replace B2 := T.Hid.mk (B2.out.gr (q.alloc (.cells #[.int .i64 E.k, .int .u64 E.n.lo, .int .u64 E.n.hi, .int .u64 E.b.lo, .int .u64 E.b.hi, .int .u64 E.e.lo, .int .u64 E.e.hi, .int .u64 E.p.lo, .int .u64 E.p.hi, .int .u8 E.mu, .int .u8 E.ma, .int .i64 E.s] 28)))
  replace G := T.Hid.mk (G.out.trans (q.alloc (.cells #[.int .i64 E.k, .int .u64 E.n.lo, .int .u64 E.n.hi, .int .u64 E.b.lo, .int .u64 E.b.hi, .int .u64 E.e.lo, .int .u64 E.e.hi, .int .u64 E.p.lo, .int .u64 E.p.hi, .int .u8 E.mu, .int .u8 E.ma, .int .i64 E.s] 28)))
  have B3 := T.Hid.mk (At.new w2 #[.int .i64 E.k, .int .u64 E.n.lo, .int .u64 E.n.hi, .int .u64 E.b.lo, .int .u64 E.b.hi, .int .u64 E.e.lo, .int .u64 E.e.hi, .int .u64 E.p.lo, .int .u64 E.p.hi, .int .u8 E.mu, .int .u8 E.ma, .int .i64 E.s] 28)
  generalize w2.alloc (.cells #[.int .i64 E.k, .int .u64 E.n.lo, .int .u64 E.n.hi, .int .u64 E.b.lo, .int .u64 E.b.hi, .int .u64 E.e.lo, .int .u64 E.e.hi, .int .u64 E.p.lo, .int .u64 E.p.hi, .int .u8 E.mu, .int .u8 E.ma, .int .i64 E.s] 28) = W2 at G B0 B1 B2 B3 ⊢
  generalize w2.heap.size = k3 at B3 ⊢
  clear q h1
  have ⟨z0, p0, f0⟩ := B0.out
  have ⟨z1, p1, f1⟩ := B1.out
  have ⟨z2, p2, f2⟩ := B2.out
  have ⟨z3, p3, f3⟩ := B3.out
  clear f0 f1 f2 f3
  go_upto_region 4 with (go_at_call 17; refine (h2.out _).mono ?_; rintro x w3 ⟨rfl, q⟩)
  clear z0 p0 z1 p1 z2 p2 z3 p3
  replace B0 := T.Hid.mk (B0.out.gr (q.alloc (.cells #[.int .i64 I.k, .int .u64 I.n.lo, .int .u64 I.n.hi, .int .u64 I.b.lo, .int .u64 I.b.hi, .int .u64 I.e.lo, .int .u64 I.e.hi, .int .u64 I.p.lo, .int .u64 I.p.hi, .int .u8 I.mu, .int .u8 I.ma, .int .i64 I.s] 28)))
  replace B1 := T.Hid.mk (B1.out.gr (q.alloc (.cells #[.int .i64 I.k, .int .u64 I.n.lo, .int .u64 I.n.hi, .int .u64 I.b.lo, .int .u64 I.b.hi, .int .u64 I.e.lo, .int .u64 I.e.hi, .int .u64 I.p.lo, .int .u64 I.p.hi, .int .u8 I.mu, .int .u8 I.ma, .int .i64 I.s] 28)))
  replace B2 := T.Hid.mk (B2.out.gr (q.alloc (.cells #[.int .i64 I.k, .int .u64 I.n.lo, .int .u64 I.n.hi, .int .u64 I.b.lo, .int .u64 I.b.hi, .int .u64 I.e.lo, .int .u64 I.e.hi, .int .u64 I.p.lo, .int .u64 I.p.hi, .int .u8 I.mu, .int .u8 I.ma, .int .i64 I.s] 28)))
  replace B3 := T.Hid.mk (B3.out.gr (q.alloc (.cells #[.int .i64 I.k, .int .u64 I.n.lo, .int .u64 I.n.hi, .int .u64 I.b.lo, .int .u64 I.b.hi, .int .u64 I.e.lo, .int .u64 I.e.hi, .int .u64 I.p.lo, .int .u64 I.p.hi, .int .u8 I.mu, .int .u8 I.ma, .int .i64 I.s] 28)))
  replace G := T.Hid.mk (G.out.trans (q.alloc (.cells #[.int .i64 I.k, .int .u64 I.n.lo, .int .u64 I.n.hi, .int .u64 I.b.lo, .int .u64 I.b.hi, .int .u64 I.e.lo, .int .u64 I.e.hi, .int .u64 I.p.lo, .int .u64 I.p.hi, .int .u8 I.mu, .int .u8 I.ma, .int .i64 I.s] 28)))
  have B4 := T.Hid.mk (At.new w3 #[.int .i64 I.k, .int .u64 I.n.lo, .int .u64 I.n.hi, .int .u64 I.b.lo, .int .u64 I.b.hi, .int .u64 I.e.lo, .int .u64 I.e.hi, .int .u64 I.p.lo, .int .u64 I.p.hi, .int .u8 I.mu, .int .u8 I.ma, .int .i64 I.s] 28)
  generalize w3.alloc (.cells #[.int .i64 I.k, .int .u64 I.n.lo, .int .u64 I.n.hi, .int .u64 I.b.lo, .int .u64 I.b.hi, .int .u64 I.e.lo, .int .u64 I.e.hi, .int .u64 I.p.lo, .int .u64 I.p.hi, .int .u8 I.mu, .int .u8 I.ma, .int .i64 I.s] 28) = W3 at G B0 B1 B2 B3 B4 ⊢
  generalize w3.heap.size = k4 at B4 ⊢
  clear q h2
  have ⟨z0, p0, f0⟩ := B0.out
  have ⟨z1, p1, f1⟩ := B1.out
  have ⟨z2, p2, f2⟩ := B2.out
  have ⟨z3, p3, f3⟩ := B3.out
  have ⟨z4, p4, f4⟩ := B4.out
  clear f0 f1 f2 f3 f4
  generalize v.tag = vt at *
  cases uE
  · obtain ⟨rfl, rfl⟩ := e1.out rfl
    clear e1 e2
    go_upto_region 8 with (go_at_call 14; refine (h3.out _).mono ?_; rintro x w4 ⟨rfl, q⟩)
    clear z0 p0 z1 p1 z2 p2 z3 p3 z4 p4
    replace B0 := T.Hid.mk (B0.out.gr (q))
    replace B1 := T.Hid.mk (B1.out.gr (q))
    replace B2 := T.Hid.mk (B2.out.gr (q))
    replace B3 := T.Hid.mk (B3.out.gr (q))
    replace B4 := T.Hid.mk (B4.out.gr (q))
    replace G := T.Hid.mk (G.out.trans (q))
    clear q h3
    have ⟨z0, p0, f0⟩ := B0.out
    have ⟨z1, p1, f1⟩ := B1.out
    have ⟨z2, p2, f2⟩ := B2.out
    have ⟨z3, p3, f3⟩ := B3.out
    have ⟨z4, p4, f4⟩ := B4.out
    clear f0 f1 f2 f3 f4
    go_upto_region 9 with (go_at_call 14; refine (h4.out _).mono ?_; rintro x w5 ⟨rfl, q⟩)
    clear z0 p0 z1 p1 z2 p2 z3 p3 z4 p4
    replace B0 := T.Hid.mk (B0.out.gr (q))
    replace B1 := T.Hid.mk (B1.out.gr (q))
    replace B2 := T.Hid.mk (B2.out.gr (q))
    replace B3 := T.Hid.mk (B3.out.gr (q))
    replace B4 := T.Hid.mk (B4.out.gr (q))
    replace G := T.Hid.mk (G.out.trans (q))
    clear q h4
    have ⟨z0, p0, f0⟩ := B0.out
    have ⟨z1, p1, f1⟩ := B1.out
    have ⟨z2, p2, f2⟩ := B2.out
    have ⟨z3, p3, f3⟩ := B3.out
    have ⟨z4, p4, f4⟩ := B4.out
    clear f0 f1 f2 f3 f4
    cases vt
    · go_upto_region 11 with fail
      by_cases m1 : s.hi < s.lo
      · have e3 := e3.out m1
        subst e3
        clear h5 h6 e4
        have m2 : ¬ s.lo ≤ s.hi := by omega
        by_cases m3 : s.lo ≤ n
        all_goals
          go_wp2_with fail
          go_ret
          exact ⟨rfl, G.out⟩
      · replace e4 := e4.out (by omega)
        obtain ⟨e9, rfl⟩ := e4
        clear e3
        have m2 : s.lo ≤ s.hi := by omega
        by_cases m3 : s.lo ≤ n
        · by_cases m4 : n ≤ s.hi
          · have e5 : v3 = true := by rw [e9]; simp; omega
            subst e5
            clear e9
            have m5 : ¬ n < s.lo := by omega
            have m6 : ¬ s.hi < s.lo := by omega
            go_upto_region 15 with (go_at_call 14; refine (h5.out _).mono ?_; rintro x w6 ⟨rfl, q⟩)
            clear z0 p0 z1 p1 z2 p2 z3 p3 z4 p4
            replace B0 := T.Hid.mk (B0.out.gr (q))
            replace B1 := T.Hid.mk (B1.out.gr (q))
            replace B2 := T.Hid.mk (B2.out.gr (q))
            replace B3 := T.Hid.mk (B3.out.gr (q))
            replace B4 := T.Hid.mk (B4.out.gr (q))
            replace G := T.Hid.mk (G.out.trans (q))
            clear q h5
            have ⟨z0, p0, f0⟩ := B0.out
            have ⟨z1, p1, f1⟩ := B1.out
            have ⟨z2, p2, f2⟩ := B2.out
            have ⟨z3, p3, f3⟩ := B3.out
            have ⟨z4, p4, f4⟩ := B4.out
            clear f0 f1 f2 f3 f4
            go_upto_region 16 with (go_at_call 14; refine (h6.out _).mono ?_; rintro x w7 ⟨rfl, q⟩)
            clear z0 p0 z1 p1 z2 p2 z3 p3 z4 p4
            replace B0 := T.Hid.mk (B0.out.gr (q))
            replace B1 := T.Hid.mk (B1.out.gr (q))
            replace B2 := T.Hid.mk (B2.out.gr (q))
            replace B3 := T.Hid.mk (B3.out.gr (q))
            replace B4 := T.Hid.mk (B4.out.gr (q))
            replace G := T.Hid.mk (G.out.trans (q))
            clear q h6
            have ⟨z0, p0, f0⟩ := B0.out
            have ⟨z1, p1, f1⟩ := B1.out
            have ⟨z2, p2, f2⟩ := B2.out
            have ⟨z3, p3, f3⟩ := B3.out
            have ⟨z4, p4, f4⟩ := B4.out
            clear f0 f1 f2 f3 f4
            go_wp2_with fail
            go_ret
            exact ⟨rfl, G.out⟩
          · have e5 : v3 = false := by rw [e9]; simp; omega
            subst e5
            clear e9
            have m5 : ¬ n < s.lo := by omega
            have m6 : ¬ s.hi < s.lo := by omega
            go_upto_region 15 with (go_at_call 14; refine (h5.out _).mono ?_; rintro x w6 ⟨rfl, q⟩)
            clear z0 p0 z1 p1 z2 p2 z3 p3 z4 p4
            replace B0 := T.Hid.mk (B0.out.gr (q))
            replace B1 := T.Hid.mk (B1.out.gr (q))
            replace B2 := T.Hid.mk (B2.out.gr (q))
            replace B3 := T.Hid.mk (B3.out.gr (q))
            replace B4 := T.Hid.mk (B4.out.gr (q))
            replace G := T.Hid.mk (G.out.trans (q))
            clear q h5
            have ⟨z0, p0, f0⟩ := B0.out
            have ⟨z1, p1, f1⟩ := B1.out
            have ⟨z2, p2, f2⟩ := B2.out
            have ⟨z3, p3, f3⟩ := B3.out
            have ⟨z4, p4, f4⟩ := B4.out
            clear f0 f1 f2 f3 f4
            go_upto_region 16 with (go_at_call 14; refine (h6.out _).mono ?_; rintro x w7 ⟨rfl, q⟩)
            clear z0 p0 z1 p1 z2 p2 z3 p3 z4 p4
            replace B0 := T.Hid.mk (B0.out.gr (q))
            replace B1 := T.Hid.mk (B1.out.gr (q))
            replace B2 := T.Hid.mk (B2.out.gr (q))
            replace B3 := T.Hid.mk (B3.out.gr (q))
            replace B4 := T.Hid.mk (B4.out.gr (q))
            replace G := T.Hid.mk (G.out.trans (q))
            clear q h6
            have ⟨z0, p0, f0⟩ := B0.out
            have ⟨z1, p1, f1⟩ := B1.out
            have ⟨z2, p2, f2⟩ := B2.out
            have ⟨z3, p3, f3⟩ := B3.out
            have ⟨z4, p4, f4⟩ := B4.out
            clear f0 f1 f2 f3 f4
            go_wp2_with fail
            go_ret
            exact ⟨rfl, G.out⟩
        · have e5 : v3 = false := by rw [e9]; simp; omega
          subst e5
          clear e9
          have m5 : n < s.lo := by omega
          have m6 : ¬ s.hi < s.lo := by omega
          go_upto_region 15 with (go_at_call 14; refine (h5.out _).mono ?_; rintro x w6 ⟨rfl, q⟩)
          clear z0 p0 z1 p1 z2 p2 z3 p3 z4 p4
          replace B0 := T.Hid.mk (B0.out.gr (q))
          replace B1 := T.Hid.mk (B1.out.gr (q))
          replace B2 := T.Hid.mk (B2.out.gr (q))
          replace B3 := T.Hid.mk (B3.out.gr (q))
          replace B4 := T.Hid.mk (B4.out.gr (q))
          replace G := T.Hid.mk (G.out.trans (q))
          clear q h5
          have ⟨z0, p0, f0⟩ := B0.out
          have ⟨z1, p1, f1⟩ := B1.out
          have ⟨z2, p2, f2⟩ := B2.out
          have ⟨z3, p3, f3⟩ := B3.out
          have ⟨z4, p4, f4⟩ := B4.out
          clear f0 f1 f2 f3 f4
          go_upto_region 16 with (go_at_call 14; refine (h6.out _).mono ?_; rintro x w7 ⟨rfl, q⟩)
          clear z0 p0 z1 p1 z2 p2 z3 p3 z4 p4
          replace B0 := T.Hid.mk (B0.out.gr (q))
          replace B1 := T.Hid.mk (B1.out.gr (q))
          replace B2 := T.Hid.mk (B2.out.gr (q))
          replace B3 := T.Hid.mk (B3.out.gr (q))
          replace B4 := T.Hid.mk (B4.out.gr (q))
          replace G := T.Hid.mk (G.out.trans (q))
          clear q h6
          have ⟨z0, p0, f0⟩ := B0.out
          have ⟨z1, p1, f1⟩ := B1.out
          have ⟨z2, p2, f2⟩ := B2.out
          have ⟨z3, p3, f3⟩ := B3.out
          have ⟨z4, p4, f4⟩ := B4.out
          clear f0 f1 f2 f3 f4
          go_wp2_with fail
          go_ret
          exact ⟨rfl, G.out⟩
    · go_upto_region 11 with fail
      by_cases m1 : s.hi < s.lo
      · have e3 := e3.out m1
        subst e3
        clear h5 h6 e4
        have m2 : ¬ s.lo ≤ s.hi := by omega
        by_cases m3 : s.lo ≤ n
        all_goals
          go_wp2_with fail
          go_ret
          exact ⟨rfl, G.out⟩
      · replace e4 := e4.out (by omega)
        obtain ⟨e9, rfl⟩ := e4
        clear e3
        have m2 : s.lo ≤ s.hi := by omega
        by_cases m3 : s.lo ≤ n
        · by_cases m4 : n ≤ s.hi
          · have e5 : v3 = true := by rw [e9]; simp; omega
            subst e5
            clear e9
            have m5 : ¬ n < s.lo := by omega
            have m6 : ¬ s.hi < s.lo := by omega
            go_upto_region 15 with (go_at_call 14; refine (h5.out _).mono ?_; rintro x w6 ⟨rfl, q⟩)
            clear z0 p0 z1 p1 z2 p2 z3 p3 z4 p4
            replace B0 := T.Hid.mk (B0.out.gr (q))
            replace B1 := T.Hid.mk (B1.out.gr (q))
            replace B2 := T.Hid.mk (B2.out.gr (q))
            replace B3 := T.Hid.mk (B3.out.gr (q))
            replace B4 := T.Hid.mk (B4.out.gr (q))
            replace G := T.Hid.mk (G.out.trans (q))
            clear q h5
            have ⟨z0, p0, f0⟩ := B0.out
            have ⟨z1, p1, f1⟩ := B1.out
            have ⟨z2, p2, f2⟩ := B2.out
            have ⟨z3, p3, f3⟩ := B3.out
            have ⟨z4, p4, f4⟩ := B4.out
            clear f0 f1 f2 f3 f4
            go_upto_region 16 with (go_at_call 14; refine (h6.out _).mono ?_; rintro x w7 ⟨rfl, q⟩)
            clear z0 p0 z1 p1 z2 p2 z3 p3 z4 p4
            replace B0 := T.Hid.mk (B0.out.gr (q))
            replace B1 := T.Hid.mk (B1.out.gr (q))
            replace B2 := T.Hid.mk (B2.out.gr (q))
            replace B3 := T.Hid.mk (B3.out.gr (q))
            replace B4 := T.Hid.mk (B4.out.gr (q))
            replace G := T.Hid.mk (G.out.trans (q))
            clear q h6
            have ⟨z0, p0, f0⟩ := B0.out
            have ⟨z1, p1, f1⟩ := B1.out
            have ⟨z2, p2, f2⟩ := B2.out
            have ⟨z3, p3, f3⟩ := B3.out
            have ⟨z4, p4, f4⟩ := B4.out
            clear f0 f1 f2 f3 f4
            go_wp2_with fail
            go_ret
            exact ⟨rfl, G.out⟩
          · have e5 : v3 = false := by rw [e9]; simp; omega
            subst e5
            clear e9
            have m5 : ¬ n < s.lo := by omega
            have m6 : ¬ s.hi < s.lo := by omega
            go_upto_region 15 with (go_at_call 14; refine (h5.out _).mono ?_; rintro x w6 ⟨rfl, q⟩)
            clear z0 p0 z1 p1 z2 p2 z3 p3 z4 p4
            replace B0 := T.Hid.mk (B0.out.gr (q))
            replace B1 := T.Hid.mk (B1.out.gr (q))
            replace B2 := T.Hid.mk (B2.out.gr (q))
            replace B3 := T.Hid.mk (B3.out.gr (q))
            replace B4 := T.Hid.mk (B4.out.gr (q))
            replace G := T.Hid.mk (G.out.trans (q))
            clear q h5
            have ⟨z0, p0, f0⟩ := B0.out
            have ⟨z1, p1, f1⟩ := B1.out
            have ⟨z2, p2, f2⟩ := B2.out
            have ⟨z3, p3, f3⟩ := B3.out
            have ⟨z4, p4, f4⟩ := B4.out
            clear f0 f1 f2 f3 f4
            go_upto_region 16 with (go_at_call 14; refine (h6.out _).mono ?_; rintro x w7 ⟨rfl, q⟩)
            clear z0 p0 z1 p1 z2 p2 z3 p3 z4 p4
            replace B0 := T.Hid.mk (B0.out.gr (q))
            replace B1 := T.Hid.mk (B1.out.gr (q))
            replace B2 := T.Hid.mk (B2.out.gr (q))
            replace B3 := T.Hid.mk (B3.out.gr (q))
            replace B4 := T.Hid.mk (B4.out.gr (q))
            replace G := T.Hid.mk (G.out.trans (q))
            clear q h6
            have ⟨z0, p0, f0⟩ := B0.out
            have ⟨z1, p1, f1⟩ := B1.out
            have ⟨z2, p2, f2⟩ := B2.out
            have ⟨z3, p3, f3⟩ := B3.out
            have ⟨z4, p4, f4⟩ := B4.out
            clear f0 f1 f2 f3 f4
            go_wp2_with fail
            go_ret
            exact ⟨rfl, G.out⟩
        · have e5 : v3 = false := by rw [e9]; simp; omega
          subst e5
          clear e9
          have m5 : n < s.lo := by omega
          have m6 : ¬ s.hi < s.lo := by omega
          go_upto_region 15 with (go_at_call 14; refine (h5.out _).mono ?_; rintro x w6 ⟨rfl, q⟩)
          clear z0 p0 z1 p1 z2 p2 z3 p3 z4 p4
          replace B0 := T.Hid.mk (B0.out.gr (q))
          replace B1 := T.Hid.mk (B1.out.gr (q))
          replace B2 := T.Hid.mk (B2.out.gr (q))
          replace B3 := T.Hid.mk (B3.out.gr (q))
          replace B4 := T.Hid.mk (B4.out.gr (q))
          replace G := T.Hid.mk (G.out.trans (q))
          clear q h5
          have ⟨z0, p0, f0⟩ := B0.out
          have ⟨z1, p1, f1⟩ := B1.out
          have ⟨z2, p2, f2⟩ := B2.out
          have ⟨z3, p3, f3⟩ := B3.out
          have ⟨z4, p4, f4⟩ := B4.out
          clear f0 f1 f2 f3 f4
          go_upto_region 16 with (go_at_call 14; refine (h6.out _).mono ?_; rintro x w7 ⟨rfl, q⟩)
          clear z0 p0 z1 p1 z2 p2 z3 p3 z4 p4
          replace B0 := T.Hid.mk (B0.out.gr (q))
          replace B1 := T.Hid.mk (B1.out.gr (q))
          replace B2 := T.Hid.mk (B2.out.gr (q))
          replace B3 := T.Hid.mk (B3.out.gr (q))
          replace B4 := T.Hid.mk (B4.out.gr (q))
          replace G := T.Hid.mk (G.out.trans (q))
          clear q h6
          have ⟨z0, p0, f0⟩ := B0.out
          have ⟨z1, p1, f1⟩ := B1.out
          have ⟨z2, p2, f2⟩ := B2.out
          have ⟨z3, p3, f3⟩ := B3.out
          have ⟨z4, p4, f4⟩ := B4.out
          clear f0 f1 f2 f3 f4
          go_wp2_with fail
          go_ret
          exact ⟨rfl, G.out⟩
  · have hh := e2.out rfl
    clear e1 e2 h3 h4
    have hp := hn0.out
    by_cases p9 : (c.pm : Int) < 128
    · by_cases p8 : 0 ≤ c.s
      · have p7 : ¬ c.s ≤ 15 := fun h => hh ⟨p9, p8, h⟩
        clear hh
        go_upto_region 11 with fail
        by_cases m1 : s.hi < s.lo
        · have e3 := e3.out m1
          subst e3
          clear h5 h6 e4
          have m2 : ¬ s.lo ≤ s.hi := by omega
          by_cases m3 : s.lo ≤ n
          all_goals
            go_wp2_with fail
            go_ret
            exact ⟨rfl, G.out⟩
        · replace e4 := e4.out (by omega)
          obtain ⟨e9, rfl⟩ := e4
          clear e3
          have m2 : s.lo ≤ s.hi := by omega
          by_cases m3 : s.lo ≤ n
          · by_cases m4 : n ≤ s.hi
            · have e5 : v3 = true := by rw [e9]; simp; omega
              subst e5
              clear e9
              have m5 : ¬ n < s.lo := by omega
              have m6 : ¬ s.hi < s.lo := by omega
              go_upto_region 15 with (go_at_call 14; refine (h5.out _).mono ?_; rintro x w4 ⟨rfl, q⟩)
              clear z0 p0 z1 p1 z2 p2 z3 p3 z4 p4
              replace B0 := T.Hid.mk (B0.out.gr (q))
              replace B1 := T.Hid.mk (B1.out.gr (q))
              replace B2 := T.Hid.mk (B2.out.gr (q))
              replace B3 := T.Hid.mk (B3.out.gr (q))
              replace B4 := T.Hid.mk (B4.out.gr (q))
              replace G := T.Hid.mk (G.out.trans (q))
              clear q h5
              have ⟨z0, p0, f0⟩ := B0.out
              have ⟨z1, p1, f1⟩ := B1.out
              have ⟨z2, p2, f2⟩ := B2.out
              have ⟨z3, p3, f3⟩ := B3.out
              have ⟨z4, p4, f4⟩ := B4.out
              clear f0 f1 f2 f3 f4
              go_upto_region 16 with (go_at_call 14; refine (h6.out _).mono ?_; rintro x w5 ⟨rfl, q⟩)
              clear z0 p0 z1 p1 z2 p2 z3 p3 z4 p4
              replace B0 := T.Hid.mk (B0.out.gr (q))
              replace B1 := T.Hid.mk (B1.out.gr (q))
              replace B2 := T.Hid.mk (B2.out.gr (q))
              replace B3 := T.Hid.mk (B3.out.gr (q))
              replace B4 := T.Hid.mk (B4.out.gr (q))
              replace G := T.Hid.mk (G.out.trans (q))
              clear q h6
              have ⟨z0, p0, f0⟩ := B0.out
              have ⟨z1, p1, f1⟩ := B1.out
              have ⟨z2, p2, f2⟩ := B2.out
              have ⟨z3, p3, f3⟩ := B3.out
              have ⟨z4, p4, f4⟩ := B4.out
              clear f0 f1 f2 f3 f4
              go_wp2_with fail
              go_ret
              exact ⟨rfl, G.out⟩
            · have e5 : v3 = false := by rw [e9]; simp; omega
              subst e5
              clear e9
              have m5 : ¬ n < s.lo := by omega
              have m6 : ¬ s.hi < s.lo := by omega
              go_upto_region 15 with (go_at_call 14; refine (h5.out _).mono ?_; rintro x w4 ⟨rfl, q⟩)
              clear z0 p0 z1 p1 z2 p2 z3 p3 z4 p4
              replace B0 := T.Hid.mk (B0.out.gr (q))
              replace B1 := T.Hid.mk (B1.out.gr (q))
              replace B2 := T.Hid.mk (B2.out.gr (q))
              replace B3 := T.Hid.mk (B3.out.gr (q))
              replace B4 := T.Hid.mk (B4.out.gr (q))
              replace G := T.Hid.mk (G.out.trans (q))
              clear q h5
              have ⟨z0, p0, f0⟩ := B0.out
              have ⟨z1, p1, f1⟩ := B1.out
              have ⟨z2, p2, f2⟩ := B2.out
              have ⟨z3, p3, f3⟩ := B3.out
              have ⟨z4, p4, f4⟩ := B4.out
              clear f0 f1 f2 f3 f4
              go_upto_region 16 with (go_at_call 14; refine (h6.out _).mono ?_; rintro x w5 ⟨rfl, q⟩)
              clear z0 p0 z1 p1 z2 p2 z3 p3 z4 p4
              replace B0 := T.Hid.mk (B0.out.gr (q))
              replace B1 := T.Hid.mk (B1.out.gr (q))
              replace B2 := T.Hid.mk (B2.out.gr (q))
              replace B3 := T.Hid.mk (B3.out.gr (q))
              replace B4 := T.Hid.mk (B4.out.gr (q))
              replace G := T.Hid.mk (G.out.trans (q))
              clear q h6
              have ⟨z0, p0, f0⟩ := B0.out
              have ⟨z1, p1, f1⟩ := B1.out
              have ⟨z2, p2, f2⟩ := B2.out
              have ⟨z3, p3, f3⟩ := B3.out
              have ⟨z4, p4, f4⟩ := B4.out
              clear f0 f1 f2 f3 f4
              go_wp2_with fail
              go_ret
              exact ⟨rfl, G.out⟩
          · have e5 : v3 = false := by rw [e9]; simp; omega
            subst e5
            clear e9
            have m5 : n < s.lo := by omega
            have m6 : ¬ s.hi < s.lo := by omega
            go_upto_region 15 with (go_at_call 14; refine (h5.out _).mono ?_; rintro x w4 ⟨rfl, q⟩)
            clear z0 p0 z1 p1 z2 p2 z3 p3 z4 p4
            replace B0 := T.Hid.mk (B0.out.gr (q))
            replace B1 := T.Hid.mk (B1.out.gr (q))
            replace B2 := T.Hid.mk (B2.out.gr (q))
            replace B3 := T.Hid.mk (B3.out.gr (q))
            replace B4 := T.Hid.mk (B4.out.gr (q))
            replace G := T.Hid.mk (G.out.trans (q))
            clear q h5
            have ⟨z0, p0, f0⟩ := B0.out
            have ⟨z1, p1, f1⟩ := B1.out
            have ⟨z2, p2, f2⟩ := B2.out
            have ⟨z3, p3, f3⟩ := B3.out
            have ⟨z4, p4, f4⟩ := B4.out
            clear f0 f1 f2 f3 f4
            go_upto_region 16 with (go_at_call 14; refine (h6.out _).mono ?_; rintro x w5 ⟨rfl, q⟩)
            clear z0 p0 z1 p1 z2 p2 z3 p3 z4 p4
            replace B0 := T.Hid.mk (B0.out.gr (q))
            replace B1 := T.Hid.mk (B1.out.gr (q))
            replace B2 := T.Hid.mk (B2.out.gr (q))
            replace B3 := T.Hid.mk (B3.out.gr (q))
            replace B4 := T.Hid.mk (B4.out.gr (q))
            replace G := T.Hid.mk (G.out.trans (q))
            clear q h6
            have ⟨z0, p0, f0⟩ := B0.out
            have ⟨z1, p1, f1⟩ := B1.out
            have ⟨z2, p2, f2⟩ := B2.out
            have ⟨z3, p3, f3⟩ := B3.out
            have ⟨z4, p4, f4⟩ := B4.out
            clear f0 f1 f2 f3 f4
            go_wp2_with fail
            go_ret
            exact ⟨rfl, G.out⟩
      · clear hh
        go_upto_region 11 with fail
        by_cases m1 : s.hi < s.lo
        · have e3 := e3.out m1
          subst e3
          clear h5 h6 e4
          have m2 : ¬ s.lo ≤ s.hi := by omega
          by_cases m3 : s.lo ≤ n
          all_goals
            go_wp2_with fail
            go_ret
            exact ⟨rfl, G.out⟩
        · replace e4 := e4.out (by omega)
          obtain ⟨e9, rfl⟩ := e4
          clear e3
          have m2 : s.lo ≤ s.hi := by omega
          by_cases m3 : s.lo ≤ n
          · by_cases m4 : n ≤ s.hi
            · have e5 : v3 = true := by rw [e9]; simp; omega
              subst e5
              clear e9
              have m5 : ¬ n < s.lo := by omega
              have m6 : ¬ s.hi < s.lo := by omega
              go_upto_region 15 with (go_at_call 14; refine (h5.out _).mono ?_; rintro x w4 ⟨rfl, q⟩)
              clear z0 p0 z1 p1 z2 p2 z3 p3 z4 p4
              replace B0 := T.Hid.mk (B0.out.gr (q))
              replace B1 := T.Hid.mk (B1.out.gr (q))
              replace B2 := T.Hid.mk (B2.out.gr (q))
              replace B3 := T.Hid.mk (B3.out.gr (q))
              replace B4 := T.Hid.mk (B4.out.gr (q))
              replace G := T.Hid.mk (G.out.trans (q))
              clear q h5
              have ⟨z0, p0, f0⟩ := B0.out
              have ⟨z1, p1, f1⟩ := B1.out
              have ⟨z2, p2, f2⟩ := B2.out
              have ⟨z3, p3, f3⟩ := B3.out
              have ⟨z4, p4, f4⟩ := B4.out
              clear f0 f1 f2 f3 f4
              go_upto_region 16 with (go_at_call 14; refine (h6.out _).mono ?_; rintro x w5 ⟨rfl, q⟩)
              clear z0 p0 z1 p1 z2 p2 z3 p3 z4 p4
              replace B0 := T.Hid.mk (B0.out.gr (q))
              replace B1 := T.Hid.mk (B1.out.gr (q))
              replace B2 := T.Hid.mk (B2.out.gr (q))
              replace B3 := T.Hid.mk (B3.out.gr (q))
              replace B4 := T.Hid.mk (B4.out.gr (q))
              replace G := T.Hid.mk (G.out.trans (q))
              clear q h6
              have ⟨z0, p0, f0⟩ := B0.out
              have ⟨z1, p1, f1⟩ := B1.out
              have ⟨z2, p2, f2⟩ := B2.out
              have ⟨z3, p3, f3⟩ := B3.out
              have ⟨z4, p4, f4⟩ := B4.out
              clear f0 f1 f2 f3 f4
              go_wp2_with fail
              go_ret
              exact ⟨rfl, G.out⟩
            · have e5 : v3 = false := by rw [e9]; simp; omega
              subst e5
              clear e9
              have m5 : ¬ n < s.lo := by omega
              have m6 : ¬ s.hi < s.lo := by omega
              go_upto_region 15 with (go_at_call 14; refine (h5.out _).mono ?_; rintro x w4 ⟨rfl, q⟩)
              clear z0 p0 z1 p1 z2 p2 z3 p3 z4 p4
              replace B0 := T.Hid.mk (B0.out.gr (q))
              replace B1 := T.Hid.mk (B1.out.gr (q))
              replace B2 := T.Hid.mk (B2.out.gr (q))
              replace B3 := T.Hid.mk (B3.out.gr (q))
              replace B4 := T.Hid.mk (B4.out.gr (q))
              replace G := T.Hid.mk (G.out.trans (q))
              clear q h5
              have ⟨z0, p0, f0⟩ := B0.out
              have ⟨z1, p1, f1⟩ := B1.out
              have ⟨z2, p2, f2⟩ := B2.out
              have ⟨z3, p3, f3⟩ := B3.out
              have ⟨z4, p4, f4⟩ := B4.out
              clear f0 f1 f2 f3 f4
              go_upto_region 16 with (go_at_call 14; refine (h6.out _).mono ?_; rintro x w5 ⟨rfl, q⟩)
              clear z0 p0 z1 p1 z2 p2 z3 p3 z4 p4
              replace B0 := T.Hid.mk (B0.out.gr (q))
              replace B1 := T.Hid.mk (B1.out.gr (q))
              replace B2 := T.Hid.mk (B2.out.gr (q))
              replace B3 := T.Hid.mk (B3.out.gr (q))
              replace B4 := T.Hid.mk (B4.out.gr (q))
              replace G := T.Hid.mk (G.out.trans (q))
              clear q h6
              have ⟨z0, p0, f0⟩ := B0.out
              have ⟨z1, p1, f1⟩ := B1.out
              have ⟨z2, p2, f2⟩ := B2.out
              have ⟨z3, p3, f3⟩ := B3.out
              have ⟨z4, p4, f4⟩ := B4.out
              clear f0 f1 f2 f3 f4
              go_wp2_with fail
              go_ret
              exact ⟨rfl, G.out⟩
          · have e5 : v3 = false := by rw [e9]; simp; omega
            subst e5
            clear e9
            have m5 : n < s.lo := by omega
            have m6 : ¬ s.hi < s.lo := by omega
            go_upto_region 15 with (go_at_call 14; refine (h5.out _).mono ?_; rintro x w4 ⟨rfl, q⟩)
            clear z0 p0 z1 p1 z2 p2 z3 p3 z4 p4
            replace B0 := T.Hid.mk (B0.out.gr (q))
            replace B1 := T.Hid.mk (B1.out.gr (q))
            replace B2 := T.Hid.mk (B2.out.gr (q))
            replace B3 := T.Hid.mk (B3.out.gr (q))
            replace B4 := T.Hid.mk (B4.out.gr (q))
            replace G := T.Hid.mk (G.out.trans (q))
            clear q h5
            have ⟨z0, p0, f0⟩ := B0.out
            have ⟨z1, p1, f1⟩ := B1.out
            have ⟨z2, p2, f2⟩ := B2.out
            have ⟨z3, p3, f3⟩ := B3.out
            have ⟨z4, p4, f4⟩ := B4.out
            clear f0 f1 f2 f3 f4
            go_upto_region 16 with (go_at_call 14; refine (h6.out _).mono ?_; rintro x w5 ⟨rfl, q⟩)
            clear z0 p0 z1 p1 z2 p2 z3 p3 z4 p4
            replace B0 := T.Hid.mk (B0.out.gr (q))
            replace B1 := T.Hid.mk (B1.out.gr (q))
            replace B2 := T.Hid.mk (B2.out.gr (q))
            replace B3 := T.Hid.mk (B3.out.gr (q))
            replace B4 := T.Hid.mk (B4.out.gr (q))
            replace G := T.Hid.mk (G.out.trans (q))
            clear q h6
            have ⟨z0, p0, f0⟩ := B0.out
            have ⟨z1, p1, f1⟩ := B1.out
            have ⟨z2, p2, f2⟩ := B2.out
            have ⟨z3, p3, f3⟩ := B3.out
            have ⟨z4, p4, f4⟩ := B4.out
            clear f0 f1 f2 f3 f4
            go_wp2_with fail
            go_ret
            exact ⟨rfl, G.out⟩
    · clear hh
      go_upto_region 11 with fail
      by_cases m1 : s.hi < s.lo
      · have e3 := e3.out m1
        subst e3
        clear h5 h6 e4
        have m2 : ¬ s.lo ≤ s.hi := by omega
        by_cases m3 : s.lo ≤ n
        all_goals
          go_wp2_with fail
          go_ret
          exact ⟨rfl, G.out⟩
      · replace e4 := e4.out (by omega)
        obtain ⟨e9, rfl⟩ := e4
        clear e3
        have m2 : s.lo ≤ s.hi := by omega
        by_cases m3 : s.lo ≤ n
        · by_cases m4 : n ≤ s.hi
          · have e5 : v3 = true := by rw [e9]; simp; omega
            subst e5
            clear e9
            have m5 : ¬ n < s.lo := by omega
            have m6 : ¬ s.hi < s.lo := by omega
            go_upto_region 15 with (go_at_call 14; refine (h5.out _).mono ?_; rintro x w4 ⟨rfl, q⟩)
            clear z0 p0 z1 p1 z2 p2 z3 p3 z4 p4
            replace B0 := T.Hid.mk (B0.out.gr (q))
            replace B1 := T.Hid.mk (B1.out.gr (q))
            replace B2 := T.Hid.mk (B2.out.gr (q))
            replace B3 := T.Hid.mk (B3.out.gr (q))
            replace B4 := T.Hid.mk (B4.out.gr (q))
            replace G := T.Hid.mk (G.out.trans (q))
            clear q h5
            have ⟨z0, p0, f0⟩ := B0.out
            have ⟨z1, p1, f1⟩ := B1.out
            have ⟨z2, p2, f2⟩ := B2.out
            have ⟨z3, p3, f3⟩ := B3.out
            have ⟨z4, p4, f4⟩ := B4.out
            clear f0 f1 f2 f3 f4
            go_upto_region 16 with (go_at_call 14; refine (h6.out _).mono ?_; rintro x w5 ⟨rfl, q⟩)
            clear z0 p0 z1 p1 z2 p2 z3 p3 z4 p4
            replace B0 := T.Hid.mk (B0.out.gr (q))
            replace B1 := T.Hid.mk (B1.out.gr (q))
            replace B2 := T.Hid.mk (B2.out.gr (q))
            replace B3 := T.Hid.mk (B3.out.gr (q))
            replace B4 := T.Hid.mk (B4.out.gr (q))
            replace G := T.Hid.mk (G.out.trans (q))
            clear q h6
            have ⟨z0, p0, f0⟩ := B0.out
            have ⟨z1, p1, f1⟩ := B1.out
            have ⟨z2, p2, f2⟩ := B2.out
            have ⟨z3, p3, f3⟩ := B3.out
            have ⟨z4, p4, f4⟩ := B4.out
            clear f0 f1 f2 f3 f4
            go_wp2_with fail
            go_ret
            exact ⟨rfl, G.out⟩
          · have e5 : v3 = false := by rw [e9]; simp; omega
            subst e5
            clear e9
            have m5 : ¬ n < s.lo := by omega
            have m6 : ¬ s.hi < s.lo := by omega
            go_upto_region 15 with (go_at_call 14; refine (h5.out _).mono ?_; rintro x w4 ⟨rfl, q⟩)
            clear z0 p0 z1 p1 z2 p2 z3 p3 z4 p4
            replace B0 := T.Hid.mk (B0.out.gr (q))
            replace B1 := T.Hid.mk (B1.out.gr (q))
            replace B2 := T.Hid.mk (B2.out.gr (q))
            replace B3 := T.Hid.mk (B3.out.gr (q))
            replace B4 := T.Hid.mk (B4.out.gr (q))
            replace G := T.Hid.mk (G.out.trans (q))
            clear q h5
            have ⟨z0, p0, f0⟩ := B0.out
            have ⟨z1, p1, f1⟩ := B1.out
            have ⟨z2, p2, f2⟩ := B2.out
            have ⟨z3, p3, f3⟩ := B3.out
            have ⟨z4, p4, f4⟩ := B4.out
            clear f0 f1 f2 f3 f4
            go_upto_region 16 with (go_at_call 14; refine (h6.out _).mono ?_; rintro x w5 ⟨rfl, q⟩)
            clear z0 p0 z1 p1 z2 p2 z3 p3 z4 p4
            replace B0 := T.Hid.mk (B0.out.gr (q))
            replace B1 := T.Hid.mk (B1.out.gr (q))
            replace B2 := T.Hid.mk (B2.out.gr (q))
            replace B3 := T.Hid.mk (B3.out.gr (q))
            replace B4 := T.Hid.mk (B4.out.gr (q))
            replace G := T.Hid.mk (G.out.trans (q))
            clear q h6
            have ⟨z0, p0, f0⟩ := B0.out
            have ⟨z1, p1, f1⟩ := B1.out
            have ⟨z2, p2, f2⟩ := B2.out
            have ⟨z3, p3, f3⟩ := B3.out
            have ⟨z4, p4, f4⟩ := B4.out
            clear f0 f1 f2 f3 f4
            go_wp2_with fail
            go_ret
            exact ⟨rfl, G.out⟩
        · have e5 : v3 = false := by rw [e9]; simp; omega
          subst e5
          clear e9
          have m5 : n < s.lo := by omega
          have m6 : ¬ s.hi < s.lo := by omega
          go_upto_region 15 with (go_at_call 14; refine (h5.out _).mono ?_; rintro x w4 ⟨rfl, q⟩)
          clear z0 p0 z1 p1 z2 p2 z3 p3 z4 p4
          replace B0 := T.Hid.mk (B0.out.gr (q))
          replace B1 := T.Hid.mk (B1.out.gr (q))
          replace B2 := T.Hid.mk (B2.out.gr (q))
          replace B3 := T.Hid.mk (B3.out.gr (q))
          replace B4 := T.Hid.mk (B4.out.gr (q))
          replace G := T.Hid.mk (G.out.trans (q))
          clear q h5
          have ⟨z0, p0, f0⟩ := B0.out
          have ⟨z1, p1, f1⟩ := B1.out
          have ⟨z2, p2, f2⟩ := B2.out
          have ⟨z3, p3, f3⟩ := B3.out
          have ⟨z4, p4, f4⟩ := B4.out
          clear f0 f1 f2 f3 f4
          go_upto_region 16 with (go_at_call 14; refine (h6.out _).mono ?_; rintro x w5 ⟨rfl, q⟩)
          clear z0 p0 z1 p1 z2 p2 z3 p3 z4 p4
          replace B0 := T.Hid.mk (B0.out.gr (q))
          replace B1 := T.Hid.mk (B1.out.gr (q))
          replace B2 := T.Hid.mk (B2.out.gr (q))
          replace B3 := T.Hid.mk (B3.out.gr (q))
          replace B4 := T.Hid.mk (B4.out.gr (q))
          replace G := T.Hid.mk (G.out.trans (q))
          clear q h6
          have ⟨z0, p0, f0⟩ := B0.out
          have ⟨z1, p1, f1⟩ := B1.out
          have ⟨z2, p2, f2⟩ := B2.out
          have ⟨z3, p3, f3⟩ := B3.out
          have ⟨z4, p4, f4⟩ := B4.out
          clear f0 f1 f2 f3 f4
          go_wp2_with fail
          go_ret
          exact ⟨rfl, G.out⟩
end R
end Go.Proofs.Ytihminokipepcaa
