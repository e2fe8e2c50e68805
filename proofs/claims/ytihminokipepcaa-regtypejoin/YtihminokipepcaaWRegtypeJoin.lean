/-
  Stage 9, regtype: RegtypeJoin, walked.
-/
import Derived.Test.YtihminokipepcaaRLaw
import Derived.Test.YtihminokipepcaaRProM
import Derived.Test.YtihminokipepcaaRProU
import Derived.Test.YtihminokipepcaaRProH
import Derived.Test.YtihminokipepcaaRNum
import Derived.Test.YtihminokipepcaaSSet
import Derived.Deep.RegionHeld3
namespace Go.Proofs.Ytihminokipepcaa
namespace R
open Go.RowKit

set_option maxHeartbeats 16000000 in
theorem walk_RegtypeJoin (a b c : RT) (w : World) (ha : a.Rng) (hb : b.Rng) (hc : c.Rng) : Calls Try.prog 4 #[.agg a.vals.toArray, .agg b.vals.toArray, .agg c.vals.toArray] w fun x w' => x = .returned (.bool true) ∧ Gr w w' := by
  have oA := RT.nm_ok ha
  have oB := RT.nm_ok hb
  have oJ := RV.jn_ok oA oB
  have rJ := RV.rt_rng oJ
  have h0 := T.Hid.mk (fun W => alive_any pInt_any pJoin_any W)
  have h1 := T.Hid.mk (fun W => pJoin_any a b W ha hb)
  have h2 := T.Hid.mk (fun W => pJoin_any b a W hb ha)
  have h3 := T.Hid.mk (fun W => pUnder_any a c W ha hc)
  have h4 := T.Hid.mk (fun W => pUnder_any b c W hb hc)
  have h5 := T.Hid.mk (fun W => pUnder_any (a.nm.jn b.nm).rt c W rJ hc)
  have h6 := T.Hid.mk (fun W => pUnder_any a (a.nm.jn b.nm).rt W ha rJ)
  have h7 := T.Hid.mk (fun W => pUnder_any b (a.nm.jn b.nm).rt W hb rJ)
  have h8 := T.Hid.mk (fun W => pUnder_any b a W hb ha)
  have h9 := T.Hid.mk (fun W => norm_any pJoin_any a W ha)
  rw [RV.jn_comm b.nm a.nm] at h2
  rw [RV.nm_rt oJ, RV.jn_least oA oB] at h5
  rw [RV.nm_rt oJ, (RV.und_jn oA oB).1] at h6
  rw [RV.nm_rt oJ, (RV.und_jn oA oB).2] at h7
  have q1 := fun W => eqRT (a.nm.jn b.nm).rt (a.nm.jn b.nm).rt W
  have q2 := fun W => eqRT (a.nm.jn b.nm).rt a.nm.rt W
  rw [show (a.nm.jn b.nm).rt.eqB (a.nm.jn b.nm).rt = true from RT.eqB_iff.2 rfl] at q1
  rw [show (a.nm.jn b.nm).rt.eqB a.nm.rt = b.nm.und a.nm from by
    rw [Bool.eq_iff_iff, RT.eqB_iff, RV.jn_iff oA oB]
    exact ⟨fun h => RV.rt_inj h, fun h => by rw [h]⟩] at q2
  clear ha hb hc oA oB oJ rJ
  generalize a.nm.und c.nm = u1 at *
  generalize b.nm.und c.nm = u2 at *
  generalize b.nm.und a.nm = u3 at *
  generalize (a.nm.jn b.nm).rt = J at *
  generalize a.nm.rt = A at *
  simp only [RT.agg, RT.vals] at h1 h2 h3 h4 h5 h6 h7 h8 h9 q1 q2 ⊢
  go_enter Try.func4, Try.ntmps4
  go_upto_region 1 with fail
  have B0 : T.Hid (At ((((w).alloc (.cells #[.int .i64 a.k, .int .u64 a.n.lo, .int .u64 a.n.hi, .int .u64 a.b.lo, .int .u64 a.b.hi, .int .u64 a.e.lo, .int .u64 a.e.hi, .int .u64 a.p.lo, .int .u64 a.p.hi, .int .u8 a.mu, .int .u8 a.ma, .int .i64 a.s] 28)).alloc (.cells #[.int .i64 b.k, .int .u64 b.n.lo, .int .u64 b.n.hi, .int .u64 b.b.lo, .int .u64 b.b.hi, .int .u64 b.e.lo, .int .u64 b.e.hi, .int .u64 b.p.lo, .int .u64 b.p.hi, .int .u8 b.mu, .int .u8 b.ma, .int .i64 b.s] 28)).alloc (.cells #[.int .i64 c.k, .int .u64 c.n.lo, .int .u64 c.n.hi, .int .u64 c.b.lo, .int .u64 c.b.hi, .int .u64 c.e.lo, .int .u64 c.e.hi, .int .u64 c.p.lo, .int .u64 c.p.hi, .int .u8 c.mu, .int .u8 c.ma, .int .i64 c.s] 28)) (w.heap.size) #[.int .i64 a.k, .int .u64 a.n.lo, .int .u64 a.n.hi, .int .u64 a.b.lo, .int .u64 a.b.hi, .int .u64 a.e.lo, .int .u64 a.e.hi, .int .u64 a.p.lo, .int .u64 a.p.hi, .int .u8 a.mu, .int .u8 a.ma, .int .i64 a.s]) := T.Hid.mk (((At.at_ (w) _ _ (by simp)).alloc _).alloc _)
  have B1 : T.Hid (At ((((w).alloc (.cells #[.int .i64 a.k, .int .u64 a.n.lo, .int .u64 a.n.hi, .int .u64 a.b.lo, .int .u64 a.b.hi, .int .u64 a.e.lo, .int .u64 a.e.hi, .int .u64 a.p.lo, .int .u64 a.p.hi, .int .u8 a.mu, .int .u8 a.ma, .int .i64 a.s] 28)).alloc (.cells #[.int .i64 b.k, .int .u64 b.n.lo, .int .u64 b.n.hi, .int .u64 b.b.lo, .int .u64 b.b.hi, .int .u64 b.e.lo, .int .u64 b.e.hi, .int .u64 b.p.lo, .int .u64 b.p.hi, .int .u8 b.mu, .int .u8 b.ma, .int .i64 b.s] 28)).alloc (.cells #[.int .i64 c.k, .int .u64 c.n.lo, .int .u64 c.n.hi, .int .u64 c.b.lo, .int .u64 c.b.hi, .int .u64 c.e.lo, .int .u64 c.e.hi, .int .u64 c.p.lo, .int .u64 c.p.hi, .int .u8 c.mu, .int .u8 c.ma, .int .i64 c.s] 28)) (w.heap.size + 1) #[.int .i64 b.k, .int .u64 b.n.lo, .int .u64 b.n.hi, .int .u64 b.b.lo, .int .u64 b.b.hi, .int .u64 b.e.lo, .int .u64 b.e.hi, .int .u64 b.p.lo, .int .u64 b.p.hi, .int .u8 b.mu, .int .u8 b.ma, .int .i64 b.s]) := T.Hid.mk ((At.at_ ((w).alloc (.cells #[.int .i64 a.k, .int .u64 a.n.lo, .int .u64 a.n.hi, .int .u64 a.b.lo, .int .u64 a.b.hi, .int .u64 a.e.lo, .int .u64 a.e.hi, .int .u64 a.p.lo, .int .u64 a.p.hi, .int .u8 a.mu, .int .u8 a.ma, .int .i64 a.s] 28)) _ _ (by simp)).alloc _)
  have B2 : T.Hid (At ((((w).alloc (.cells #[.int .i64 a.k, .int .u64 a.n.lo, .int .u64 a.n.hi, .int .u64 a.b.lo, .int .u64 a.b.hi, .int .u64 a.e.lo, .int .u64 a.e.hi, .int .u64 a.p.lo, .int .u64 a.p.hi, .int .u8 a.mu, .int .u8 a.ma, .int .i64 a.s] 28)).alloc (.cells #[.int .i64 b.k, .int .u64 b.n.lo, .int .u64 b.n.hi, .int .u64 b.b.lo, .int .u64 b.b.hi, .int .u64 b.e.lo, .int .u64 b.e.hi, .int .u64 b.p.lo, .int .u64 b.p.hi, .int .u8 b.mu, .int .u8 b.ma, .int .i64 b.s] 28)).alloc (.cells #[.int .i64 c.k, .int .u64 c.n.lo, .int .u64 c.n.hi, .int .u64 c.b.lo, .int .u64 c.b.hi, .int .u64 c.e.lo, .int .u64 c.e.hi, .int .u64 c.p.lo, .int .u64 c.p.hi, .int .u8 c.mu, .int .u8 c.ma, .int .i64 c.s] 28)) (w.heap.size + 1 + 1) #[.int .i64 c.k, .int .u64 c.n.lo, .int .u64 c.n.hi, .int .u64 c.b.lo, .int .u64 c.b.hi, .int .u64 c.e.lo, .int .u64 c.e.hi, .int .u64 c.p.lo, .int .u64 c.p.hi, .int .u8 c.mu, .int .u8 c.ma, .int .i64 c.s]) := T.Hid.mk (At.at_ (((w).alloc (.cells #[.int .i64 a.k, .int .u64 a.n.lo, .int .u64 a.n.hi, .int .u64 a.b.lo, .int .u64 a.b.hi, .int .u64 a.e.lo, .int .u64 a.e.hi, .int .u64 a.p.lo, .int .u64 a.p.hi, .int .u8 a.mu, .int .u8 a.ma, .int .i64 a.s] 28)).alloc (.cells #[.int .i64 b.k, .int .u64 b.n.lo, .int .u64 b.n.hi, .int .u64 b.b.lo, .int .u64 b.b.hi, .int .u64 b.e.lo, .int .u64 b.e.hi, .int .u64 b.p.lo, .int .u64 b.p.hi, .int .u8 b.mu, .int .u8 b.ma, .int .i64 b.s] 28)) _ _ (by simp))
  have G := T.Hid.mk (show Gr w ((((w).alloc (.cells #[.int .i64 a.k, .int .u64 a.n.lo, .int .u64 a.n.hi, .int .u64 a.b.lo, .int .u64 a.b.hi, .int .u64 a.e.lo, .int .u64 a.e.hi, .int .u64 a.p.lo, .int .u64 a.p.hi, .int .u8 a.mu, .int .u8 a.ma, .int .i64 a.s] 28)).alloc (.cells #[.int .i64 b.k, .int .u64 b.n.lo, .int .u64 b.n.hi, .int .u64 b.b.lo, .int .u64 b.b.hi, .int .u64 b.e.lo, .int .u64 b.e.hi, .int .u64 b.p.lo, .int .u64 b.p.hi, .int .u8 b.mu, .int .u8 b.ma, .int .i64 b.s] 28)).alloc (.cells #[.int .i64 c.k, .int .u64 c.n.lo, .int .u64 c.n.hi, .int .u64 c.b.lo, .int .u64 c.b.hi, .int .u64 c.e.lo, .int .u64 c.e.hi, .int .u64 c.p.lo, .int .u64 c.p.hi, .int .u8 c.mu, .int .u8 c.ma, .int .i64 c.s] 28)) from ((((Gr.refl w).alloc _).alloc _).alloc _))
  generalize (((w).alloc (.cells #[.int .i64 a.k, .int .u64 a.n.lo, .int .u64 a.n.hi, .int .u64 a.b.lo, .int .u64 a.b.hi, .int .u64 a.e.lo, .int .u64 a.e.hi, .int .u64 a.p.lo, .int .u64 a.p.hi, .int .u8 a.mu, .int .u8 a.ma, .int .i64 a.s] 28)).alloc (.cells #[.int .i64 b.k, .int .u64 b.n.lo, .int .u64 b.n.hi, .int .u64 b.b.lo, .int .u64 b.b.hi, .int .u64 b.e.lo, .int .u64 b.e.hi, .int .u64 b.p.lo, .int .u64 b.p.hi, .int .u8 b.mu, .int .u8 b.ma, .int .i64 b.s] 28)).alloc (.cells #[.int .i64 c.k, .int .u64 c.n.lo, .int .u64 c.n.hi, .int .u64 c.b.lo, .int .u64 c.b.hi, .int .u64 c.e.lo, .int .u64 c.e.hi, .int .u64 c.p.lo, .int .u64 c.p.hi, .int .u8 c.mu, .int .u8 c.ma, .int .i64 c.s] 28) = W0 at G B0 B1 B2 ⊢
  have ⟨z0, p0, f0⟩ := B0.out
  have ⟨z1, p1, f1⟩ := B1.out
  have ⟨z2, p2, f2⟩ := B2.out
  clear f0 f1 f2
  go_upto_region 2 with (go_at_call 9; refine (h0.out _).mono ?_; rintro x w1 ⟨rfl, q⟩)
  clear z0 p0 z1 p1 z2 p2
  replace B0 := T.Hid.mk (B0.out.gr (q))
  replace B1 := T.Hid.mk (B1.out.gr (q))
  replace B2 := T.Hid.mk (B2.out.gr (q))
  replace G := T.Hid.mk (G.out.trans (q))
  clear q h0
  have ⟨z0, p0, f0⟩ := B0.out
  have ⟨z1, p1, f1⟩ := B1.out
  have ⟨z2, p2, f2⟩ := B2.out
  clear f0 f1 f2
  go_upto_region 3 with (go_at_call 12; refine (h1.out _).mono ?_; rintro x w2 ⟨rfl, q⟩)
  clear z0 p0 z1 p1 z2 p2
  replace B0 := T.Hid.mk (B0.out.gr (q.alloc (.cells #[.int .i64 J.k, .int .u64 J.n.lo, .int .u64 J.n.hi, .int .u64 J.b.lo, .int .u64 J.b.hi, .int .u64 J.e.lo, .int .u64 J.e.hi, .int .u64 J.p.lo, .int .u64 J.p.hi, .int .u8 J.mu, .int .u8 J.ma, .int .i64 J.s] 28)))
  replace B1 := T.Hid.mk (B1.out.gr (q.alloc (.cells #[.int .i64 J.k, .int .u64 J.n.lo, .int .u64 J.n.hi, .int .u64 J.b.lo, .int .u64 J.b.hi, .int .u64 J.e.lo, .int .u64 J.e.hi, .int .u64 J.p.lo, .int .u64 J.p.hi, .int .u8 J.mu, .int .u8 J.ma, .int .i64 J.s] 28)))
  replace B2 := T.Hid.mk (B2.out.gr (q.alloc (.cells #[.int .i64 J.k, .int .u64 J.n.lo, .int .u64 J.n.hi, .int .u64 J.b.lo, .int .u64 J.b.hi, .int .u64 J.e.lo, .int .u64 J.e.hi, .int .u64 J.p.lo, .int .u64 J.p.hi, .int .u8 J.mu, .int .u8 J.ma, .int .i64 J.s] 28)))
  replace G := T.Hid.mk (G.out.trans (q.alloc (.cells #[.int .i64 J.k, .int .u64 J.n.lo, .int .u64 J.n.hi, .int .u64 J.b.lo, .int .u64 J.b.hi, .int .u64 J.e.lo, .int .u64 J.e.hi, .int .u64 J.p.lo, .int .u64 J.p.hi, .int .u8 J.mu, .int .u8 J.ma, .int .i64 J.s] 28)))
  have B3 := T.Hid.mk (At.new w2 #[.int .i64 J.k, .int .u64 J.n.lo, .int .u64 J.n.hi, .int .u64 J.b.lo, .int .u64 J.b.hi, .int .u64 J.e.lo, .int .u64 J.e.hi, .int .u64 J.p.lo, .int .u64 J.p.hi, .int .u8 J.mu, .int .u8 J.ma, .int .i64 J.s] 28)
  generalize w2.alloc (.cells #[.int .i64 J.k, .int .u64 J.n.lo, .int .u64 J.n.hi, .int .u64 J.b.lo, .int .u64 J.b.hi, .int .u64 J.e.lo, .int .u64 J.e.hi, .int .u64 J.p.lo, .int .u64 J.p.hi, .int .u8 J.mu, .int .u8 J.ma, .int .i64 J.s] 28) = W2 at G B0 B1 B2 B3 ⊢
  generalize w2.heap.size = k3 at B3 ⊢
  clear q h1
  have ⟨z0, p0, f0⟩ := B0.out
  have ⟨z1, p1, f1⟩ := B1.out
  have ⟨z2, p2, f2⟩ := B2.out
  have ⟨z3, p3, f3⟩ := B3.out
  clear f0 f1 f2 f3
  go_upto_region 4 with (go_at_call 12; refine (h2.out _).mono ?_; rintro x w3 ⟨rfl, q⟩)
  clear z0 p0 z1 p1 z2 p2 z3 p3
  replace B0 := T.Hid.mk (B0.out.gr (q.alloc (.cells #[.int .i64 J.k, .int .u64 J.n.lo, .int .u64 J.n.hi, .int .u64 J.b.lo, .int .u64 J.b.hi, .int .u64 J.e.lo, .int .u64 J.e.hi, .int .u64 J.p.lo, .int .u64 J.p.hi, .int .u8 J.mu, .int .u8 J.ma, .int .i64 J.s] 28)))
  replace B1 := T.Hid.mk (B1.out.gr (q.alloc (.cells #[.int .i64 J.k, .int .u64 J.n.lo, .int .u64 J.n.hi, .int .u64 J.b.lo, .int .u64 J.b.hi, .int .u64 J.e.lo, .int .u64 J.e.hi, .int .u64 J.p.lo, .int .u64 J.p.hi, .int .u8 J.mu, .int .u8 J.ma, .int .i64 J.s] 28)))
  replace B2 := T.Hid.mk (B2.out.gr (q.alloc (.cells #[.int .i64 J.k, .int .u64 J.n.lo, .int .u64 J.n.hi, .int .u64 J.b.lo, .int .u64 J.b.hi, .int .u64 J.e.lo, .int .u64 J.e.hi, .int .u64 J.p.lo, .int .u64 J.p.hi, .int .u8 J.mu, .int .u8 J.ma, .int .i64 J.s] 28)))
  replace B3 := T.Hid.mk (B3.out.gr (q.alloc (.cells #[.int .i64 J.k, .int .u64 J.n.lo, .int .u64 J.n.hi, .int .u64 J.b.lo, .int .u64 J.b.hi, .int .u64 J.e.lo, .int .u64 J.e.hi, .int .u64 J.p.lo, .int .u64 J.p.hi, .int .u8 J.mu, .int .u8 J.ma, .int .i64 J.s] 28)))
  replace G := T.Hid.mk (G.out.trans (q.alloc (.cells #[.int .i64 J.k, .int .u64 J.n.lo, .int .u64 J.n.hi, .int .u64 J.b.lo, .int .u64 J.b.hi, .int .u64 J.e.lo, .int .u64 J.e.hi, .int .u64 J.p.lo, .int .u64 J.p.hi, .int .u8 J.mu, .int .u8 J.ma, .int .i64 J.s] 28)))
  have B4 := T.Hid.mk (At.new w3 #[.int .i64 J.k, .int .u64 J.n.lo, .int .u64 J.n.hi, .int .u64 J.b.lo, .int .u64 J.b.hi, .int .u64 J.e.lo, .int .u64 J.e.hi, .int .u64 J.p.lo, .int .u64 J.p.hi, .int .u8 J.mu, .int .u8 J.ma, .int .i64 J.s] 28)
  generalize w3.alloc (.cells #[.int .i64 J.k, .int .u64 J.n.lo, .int .u64 J.n.hi, .int .u64 J.b.lo, .int .u64 J.b.hi, .int .u64 J.e.lo, .int .u64 J.e.hi, .int .u64 J.p.lo, .int .u64 J.p.hi, .int .u8 J.mu, .int .u8 J.ma, .int .i64 J.s] 28) = W3 at G B0 B1 B2 B3 B4 ⊢
  generalize w3.heap.size = k4 at B4 ⊢
  clear q h2
  have ⟨z0, p0, f0⟩ := B0.out
  have ⟨z1, p1, f1⟩ := B1.out
  have ⟨z2, p2, f2⟩ := B2.out
  have ⟨z3, p3, f3⟩ := B3.out
  have ⟨z4, p4, f4⟩ := B4.out
  clear f0 f1 f2 f3 f4
  go_upto_region 5 with (go_at_call 10; refine (h3.out _).mono ?_; rintro x w4 ⟨rfl, q⟩)
  clear z0 p0 z1 p1 z2 p2 z3 p3 z4 p4
  replace B0 := T.Hid.mk (B0.out.gr (q))
  replace B1 := T.Hid.mk (B1.out.gr (q))
  replace B2 := T.Hid.mk (B2.out.gr (q))
  replace B3 := T.Hid.mk (B3.out.gr (q))
  replace B4 := T.Hid.mk (B4.out.gr (q))
  replace G := T.Hid.mk (G.out.trans (q))
  clear q h3
  have ⟨z0, p0, f0⟩ := B0.out
  have ⟨z1, p1, f1⟩ := B1.out
  have ⟨z2, p2, f2⟩ := B2.out
  have ⟨z3, p3, f3⟩ := B3.out
  have ⟨z4, p4, f4⟩ := B4.out
  clear f0 f1 f2 f3 f4
  go_upto_region 6 with (go_at_call 10; refine (h4.out _).mono ?_; rintro x w5 ⟨rfl, q⟩)
  clear z0 p0 z1 p1 z2 p2 z3 p3 z4 p4
  replace B0 := T.Hid.mk (B0.out.gr (q))
  replace B1 := T.Hid.mk (B1.out.gr (q))
  replace B2 := T.Hid.mk (B2.out.gr (q))
  replace B3 := T.Hid.mk (B3.out.gr (q))
  replace B4 := T.Hid.mk (B4.out.gr (q))
  replace G := T.Hid.mk (G.out.trans (q))
  clear q h4
  have ⟨z0, p0, f0⟩ := B0.out
  have ⟨z1, p1, f1⟩ := B1.out
  have ⟨z2, p2, f2⟩ := B2.out
  have ⟨z3, p3, f3⟩ := B3.out
  have ⟨z4, p4, f4⟩ := B4.out
  clear f0 f1 f2 f3 f4
  go_upto_region 7 with (go_at_call 10; refine (h5.out _).mono ?_; rintro x w6 ⟨rfl, q⟩)
  clear z0 p0 z1 p1 z2 p2 z3 p3 z4 p4
  replace B0 := T.Hid.mk (B0.out.gr (q))
  replace B1 := T.Hid.mk (B1.out.gr (q))
  replace B2 := T.Hid.mk (B2.out.gr (q))
  replace B3 := T.Hid.mk (B3.out.gr (q))
  replace B4 := T.Hid.mk (B4.out.gr (q))
  replace G := T.Hid.mk (G.out.trans (q))
  clear q h5
  have ⟨z0, p0, f0⟩ := B0.out
  have ⟨z1, p1, f1⟩ := B1.out
  have ⟨z2, p2, f2⟩ := B2.out
  have ⟨z3, p3, f3⟩ := B3.out
  have ⟨z4, p4, f4⟩ := B4.out
  clear f0 f1 f2 f3 f4
  go_upto_region 8 with (go_at_call 10; refine (h6.out _).mono ?_; rintro x w7 ⟨rfl, q⟩)
  clear z0 p0 z1 p1 z2 p2 z3 p3 z4 p4
  replace B0 := T.Hid.mk (B0.out.gr (q))
  replace B1 := T.Hid.mk (B1.out.gr (q))
  replace B2 := T.Hid.mk (B2.out.gr (q))
  replace B3 := T.Hid.mk (B3.out.gr (q))
  replace B4 := T.Hid.mk (B4.out.gr (q))
  replace G := T.Hid.mk (G.out.trans (q))
  clear q h6
  have ⟨z0, p0, f0⟩ := B0.out
  have ⟨z1, p1, f1⟩ := B1.out
  have ⟨z2, p2, f2⟩ := B2.out
  have ⟨z3, p3, f3⟩ := B3.out
  have ⟨z4, p4, f4⟩ := B4.out
  clear f0 f1 f2 f3 f4
  go_upto_region 9 with (go_at_call 10; refine (h7.out _).mono ?_; rintro x w8 ⟨rfl, q⟩)
  clear z0 p0 z1 p1 z2 p2 z3 p3 z4 p4
  replace B0 := T.Hid.mk (B0.out.gr (q))
  replace B1 := T.Hid.mk (B1.out.gr (q))
  replace B2 := T.Hid.mk (B2.out.gr (q))
  replace B3 := T.Hid.mk (B3.out.gr (q))
  replace B4 := T.Hid.mk (B4.out.gr (q))
  replace G := T.Hid.mk (G.out.trans (q))
  clear q h7
  have ⟨z0, p0, f0⟩ := B0.out
  have ⟨z1, p1, f1⟩ := B1.out
  have ⟨z2, p2, f2⟩ := B2.out
  have ⟨z3, p3, f3⟩ := B3.out
  have ⟨z4, p4, f4⟩ := B4.out
  clear f0 f1 f2 f3 f4
  go_upto_region 10 with (go_at_call 10; refine (h8.out _).mono ?_; rintro x w9 ⟨rfl, q⟩)
  clear z0 p0 z1 p1 z2 p2 z3 p3 z4 p4
  replace B0 := T.Hid.mk (B0.out.gr (q))
  replace B1 := T.Hid.mk (B1.out.gr (q))
  replace B2 := T.Hid.mk (B2.out.gr (q))
  replace B3 := T.Hid.mk (B3.out.gr (q))
  replace B4 := T.Hid.mk (B4.out.gr (q))
  replace G := T.Hid.mk (G.out.trans (q))
  clear q h8
  have ⟨z0, p0, f0⟩ := B0.out
  have ⟨z1, p1, f1⟩ := B1.out
  have ⟨z2, p2, f2⟩ := B2.out
  have ⟨z3, p3, f3⟩ := B3.out
  have ⟨z4, p4, f4⟩ := B4.out
  clear f0 f1 f2 f3 f4
  cases u1
  · clear z0 p0 z1 p1 z2 p2 z3 p3 z4 p4
    have KS : T.Hid (∀ W, Gr w9 W → W.cell? ⟨k3, 0, none⟩ = some (.int .i64 J.k) ∧ W.cell? ⟨k3, 1, none⟩ = some (.int .u64 J.n.lo) ∧ W.cell? ⟨k3, 2, none⟩ = some (.int .u64 J.n.hi) ∧ W.cell? ⟨k3, 3, none⟩ = some (.int .u64 J.b.lo) ∧ W.cell? ⟨k3, 4, none⟩ = some (.int .u64 J.b.hi) ∧ W.cell? ⟨k3, 5, none⟩ = some (.int .u64 J.e.lo) ∧ W.cell? ⟨k3, 6, none⟩ = some (.int .u64 J.e.hi) ∧ W.cell? ⟨k3, 7, none⟩ = some (.int .u64 J.p.lo) ∧ W.cell? ⟨k3, 8, none⟩ = some (.int .u64 J.p.hi) ∧ W.cell? ⟨k3, 9, none⟩ = some (.int .u8 J.mu) ∧ W.cell? ⟨k3, 10, none⟩ = some (.int .u8 J.ma) ∧ W.cell? ⟨k3, 11, none⟩ = some (.int .i64 J.s) ∧ W.cell? ⟨k4, 0, none⟩ = some (.int .i64 J.k) ∧ W.cell? ⟨k4, 1, none⟩ = some (.int .u64 J.n.lo) ∧ W.cell? ⟨k4, 2, none⟩ = some (.int .u64 J.n.hi) ∧ W.cell? ⟨k4, 3, none⟩ = some (.int .u64 J.b.lo) ∧ W.cell? ⟨k4, 4, none⟩ = some (.int .u64 J.b.hi) ∧ W.cell? ⟨k4, 5, none⟩ = some (.int .u64 J.e.lo) ∧ W.cell? ⟨k4, 6, none⟩ = some (.int .u64 J.e.hi) ∧ W.cell? ⟨k4, 7, none⟩ = some (.int .u64 J.p.lo) ∧ W.cell? ⟨k4, 8, none⟩ = some (.int .u64 J.p.hi) ∧ W.cell? ⟨k4, 9, none⟩ = some (.int .u8 J.mu) ∧ W.cell? ⟨k4, 10, none⟩ = some (.int .u8 J.ma) ∧ W.cell? ⟨k4, 11, none⟩ = some (.int .i64 J.s) ∧ W.cell? ⟨w.heap.size, 0, none⟩ = some (.int .i64 a.k) ∧ W.cell? ⟨w.heap.size, 1, none⟩ = some (.int .u64 a.n.lo) ∧ W.cell? ⟨w.heap.size, 2, none⟩ = some (.int .u64 a.n.hi) ∧ W.cell? ⟨w.heap.size, 3, none⟩ = some (.int .u64 a.b.lo) ∧ W.cell? ⟨w.heap.size, 4, none⟩ = some (.int .u64 a.b.hi) ∧ W.cell? ⟨w.heap.size, 5, none⟩ = some (.int .u64 a.e.lo) ∧ W.cell? ⟨w.heap.size, 6, none⟩ = some (.int .u64 a.e.hi) ∧ W.cell? ⟨w.heap.size, 7, none⟩ = some (.int .u64 a.p.lo) ∧ W.cell? ⟨w.heap.size, 8, none⟩ = some (.int .u64 a.p.hi) ∧ W.cell? ⟨w.heap.size, 9, none⟩ = some (.int .u8 a.mu) ∧ W.cell? ⟨w.heap.size, 10, none⟩ = some (.int .u8 a.ma) ∧ W.cell? ⟨w.heap.size, 11, none⟩ = some (.int .i64 a.s)) := T.Hid.mk (fun W g => by
      have a3 := (B3.out.gr g).2.1
      have a4 := (B4.out.gr g).2.1
      have a0 := (B0.out.gr g).2.1
      exact ⟨a3 0, a3 1, a3 2, a3 3, a3 4, a3 5, a3 6, a3 7, a3 8, a3 9, a3 10, a3 11, a4 0, a4 1, a4 2, a4 3, a4 4, a4 5, a4 6, a4 7, a4 8, a4 9, a4 10, a4 11, a0 0, a0 1, a0 2, a0 3, a0 4, a0 5, a0 6, a0 7, a0 8, a0 9, a0 10, a0 11⟩)
    apply cut_rule
    · intro key
      first | (go_region_held (fun W => W.cell? ⟨k3, 0, none⟩ = some (.int .i64 J.k) ∧ W.cell? ⟨k3, 1, none⟩ = some (.int .u64 J.n.lo) ∧ W.cell? ⟨k3, 2, none⟩ = some (.int .u64 J.n.hi) ∧ W.cell? ⟨k3, 3, none⟩ = some (.int .u64 J.b.lo) ∧ W.cell? ⟨k3, 4, none⟩ = some (.int .u64 J.b.hi) ∧ W.cell? ⟨k3, 5, none⟩ = some (.int .u64 J.e.lo) ∧ W.cell? ⟨k3, 6, none⟩ = some (.int .u64 J.e.hi) ∧ W.cell? ⟨k3, 7, none⟩ = some (.int .u64 J.p.lo) ∧ W.cell? ⟨k3, 8, none⟩ = some (.int .u64 J.p.hi) ∧ W.cell? ⟨k3, 9, none⟩ = some (.int .u8 J.mu) ∧ W.cell? ⟨k3, 10, none⟩ = some (.int .u8 J.ma) ∧ W.cell? ⟨k3, 11, none⟩ = some (.int .i64 J.s) ∧ W.cell? ⟨k4, 0, none⟩ = some (.int .i64 J.k) ∧ W.cell? ⟨k4, 1, none⟩ = some (.int .u64 J.n.lo) ∧ W.cell? ⟨k4, 2, none⟩ = some (.int .u64 J.n.hi) ∧ W.cell? ⟨k4, 3, none⟩ = some (.int .u64 J.b.lo) ∧ W.cell? ⟨k4, 4, none⟩ = some (.int .u64 J.b.hi) ∧ W.cell? ⟨k4, 5, none⟩ = some (.int .u64 J.e.lo) ∧ W.cell? ⟨k4, 6, none⟩ = some (.int .u64 J.e.hi) ∧ W.cell? ⟨k4, 7, none⟩ = some (.int .u64 J.p.lo) ∧ W.cell? ⟨k4, 8, none⟩ = some (.int .u64 J.p.hi) ∧ W.cell? ⟨k4, 9, none⟩ = some (.int .u8 J.mu) ∧ W.cell? ⟨k4, 10, none⟩ = some (.int .u8 J.ma) ∧ W.cell? ⟨k4, 11, none⟩ = some (.int .i64 J.s) ∧ W.cell? ⟨w.heap.size, 0, none⟩ = some (.int .i64 a.k) ∧ W.cell? ⟨w.heap.size, 1, none⟩ = some (.int .u64 a.n.lo) ∧ W.cell? ⟨w.heap.size, 2, none⟩ = some (.int .u64 a.n.hi) ∧ W.cell? ⟨w.heap.size, 3, none⟩ = some (.int .u64 a.b.lo) ∧ W.cell? ⟨w.heap.size, 4, none⟩ = some (.int .u64 a.b.hi) ∧ W.cell? ⟨w.heap.size, 5, none⟩ = some (.int .u64 a.e.lo) ∧ W.cell? ⟨w.heap.size, 6, none⟩ = some (.int .u64 a.e.hi) ∧ W.cell? ⟨w.heap.size, 7, none⟩ = some (.int .u64 a.p.lo) ∧ W.cell? ⟨w.heap.size, 8, none⟩ = some (.int .u64 a.p.hi) ∧ W.cell? ⟨w.heap.size, 9, none⟩ = some (.int .u8 a.mu) ∧ W.cell? ⟨w.heap.size, 10, none⟩ = some (.int .u8 a.ma) ∧ W.cell? ⟨w.heap.size, 11, none⟩ = some (.int .i64 a.s)) ((refine KS.out _ ?_; (repeat (first | with_reducible assumption | with_reducible exact Gr.refl _ | with_reducible refine Gr.drew ?_ | with_reducible refine Gr.alloc ?_ _)))) ((go_at_call 11; refine (h9.out _).mono ?_; rintro x w1 ⟨rfl, q1⟩; have d1 : Gr w9 w1 := Gr.trans (by (repeat (first | with_reducible assumption | with_reducible exact Gr.refl _ | with_reducible refine Gr.drew ?_ | with_reducible refine Gr.alloc ?_ _))) q1; clear q1))) | fail
      · revert d1
        revert w1
        exact key.out
    intro wz hz q
    clear hz KS
    replace B0 := T.Hid.mk (B0.out.gr q)
    replace B1 := T.Hid.mk (B1.out.gr q)
    replace B2 := T.Hid.mk (B2.out.gr q)
    replace B3 := T.Hid.mk (B3.out.gr q)
    replace B4 := T.Hid.mk (B4.out.gr q)
    replace G := T.Hid.mk (G.out.trans q)
    clear q h9
    have ⟨z0, p0, f0⟩ := B0.out
    have ⟨z1, p1, f1⟩ := B1.out
    have ⟨z2, p2, f2⟩ := B2.out
    have ⟨z3, p3, f3⟩ := B3.out
    have ⟨z4, p4, f4⟩ := B4.out
    clear f0 f1 f2 f3 f4
    go_wp2_with fail
    go_ret
    refine ⟨ret_bool (by simp), G.out⟩
  · clear z0 p0 z1 p1 z2 p2 z3 p3 z4 p4
    have KS : T.Hid (∀ W, Gr w9 W → W.cell? ⟨k3, 0, none⟩ = some (.int .i64 J.k) ∧ W.cell? ⟨k3, 1, none⟩ = some (.int .u64 J.n.lo) ∧ W.cell? ⟨k3, 2, none⟩ = some (.int .u64 J.n.hi) ∧ W.cell? ⟨k3, 3, none⟩ = some (.int .u64 J.b.lo) ∧ W.cell? ⟨k3, 4, none⟩ = some (.int .u64 J.b.hi) ∧ W.cell? ⟨k3, 5, none⟩ = some (.int .u64 J.e.lo) ∧ W.cell? ⟨k3, 6, none⟩ = some (.int .u64 J.e.hi) ∧ W.cell? ⟨k3, 7, none⟩ = some (.int .u64 J.p.lo) ∧ W.cell? ⟨k3, 8, none⟩ = some (.int .u64 J.p.hi) ∧ W.cell? ⟨k3, 9, none⟩ = some (.int .u8 J.mu) ∧ W.cell? ⟨k3, 10, none⟩ = some (.int .u8 J.ma) ∧ W.cell? ⟨k3, 11, none⟩ = some (.int .i64 J.s) ∧ W.cell? ⟨k4, 0, none⟩ = some (.int .i64 J.k) ∧ W.cell? ⟨k4, 1, none⟩ = some (.int .u64 J.n.lo) ∧ W.cell? ⟨k4, 2, none⟩ = some (.int .u64 J.n.hi) ∧ W.cell? ⟨k4, 3, none⟩ = some (.int .u64 J.b.lo) ∧ W.cell? ⟨k4, 4, none⟩ = some (.int .u64 J.b.hi) ∧ W.cell? ⟨k4, 5, none⟩ = some (.int .u64 J.e.lo) ∧ W.cell? ⟨k4, 6, none⟩ = some (.int .u64 J.e.hi) ∧ W.cell? ⟨k4, 7, none⟩ = some (.int .u64 J.p.lo) ∧ W.cell? ⟨k4, 8, none⟩ = some (.int .u64 J.p.hi) ∧ W.cell? ⟨k4, 9, none⟩ = some (.int .u8 J.mu) ∧ W.cell? ⟨k4, 10, none⟩ = some (.int .u8 J.ma) ∧ W.cell? ⟨k4, 11, none⟩ = some (.int .i64 J.s) ∧ W.cell? ⟨w.heap.size, 0, none⟩ = some (.int .i64 a.k) ∧ W.cell? ⟨w.heap.size, 1, none⟩ = some (.int .u64 a.n.lo) ∧ W.cell? ⟨w.heap.size, 2, none⟩ = some (.int .u64 a.n.hi) ∧ W.cell? ⟨w.heap.size, 3, none⟩ = some (.int .u64 a.b.lo) ∧ W.cell? ⟨w.heap.size, 4, none⟩ = some (.int .u64 a.b.hi) ∧ W.cell? ⟨w.heap.size, 5, none⟩ = some (.int .u64 a.e.lo) ∧ W.cell? ⟨w.heap.size, 6, none⟩ = some (.int .u64 a.e.hi) ∧ W.cell? ⟨w.heap.size, 7, none⟩ = some (.int .u64 a.p.lo) ∧ W.cell? ⟨w.heap.size, 8, none⟩ = some (.int .u64 a.p.hi) ∧ W.cell? ⟨w.heap.size, 9, none⟩ = some (.int .u8 a.mu) ∧ W.cell? ⟨w.heap.size, 10, none⟩ = some (.int .u8 a.ma) ∧ W.cell? ⟨w.heap.size, 11, none⟩ = some (.int .i64 a.s)) := T.Hid.mk (fun W g => by
      have a3 := (B3.out.gr g).2.1
      have a4 := (B4.out.gr g).2.1
      have a0 := (B0.out.gr g).2.1
      exact ⟨a3 0, a3 1, a3 2, a3 3, a3 4, a3 5, a3 6, a3 7, a3 8, a3 9, a3 10, a3 11, a4 0, a4 1, a4 2, a4 3, a4 4, a4 5, a4 6, a4 7, a4 8, a4 9, a4 10, a4 11, a0 0, a0 1, a0 2, a0 3, a0 4, a0 5, a0 6, a0 7, a0 8, a0 9, a0 10, a0 11⟩)
    apply cut_rule
    · intro key
      first | (go_region_held3 (fun W => W.cell? ⟨k3, 0, none⟩ = some (.int .i64 J.k) ∧ W.cell? ⟨k3, 1, none⟩ = some (.int .u64 J.n.lo) ∧ W.cell? ⟨k3, 2, none⟩ = some (.int .u64 J.n.hi) ∧ W.cell? ⟨k3, 3, none⟩ = some (.int .u64 J.b.lo) ∧ W.cell? ⟨k3, 4, none⟩ = some (.int .u64 J.b.hi) ∧ W.cell? ⟨k3, 5, none⟩ = some (.int .u64 J.e.lo) ∧ W.cell? ⟨k3, 6, none⟩ = some (.int .u64 J.e.hi) ∧ W.cell? ⟨k3, 7, none⟩ = some (.int .u64 J.p.lo) ∧ W.cell? ⟨k3, 8, none⟩ = some (.int .u64 J.p.hi) ∧ W.cell? ⟨k3, 9, none⟩ = some (.int .u8 J.mu) ∧ W.cell? ⟨k3, 10, none⟩ = some (.int .u8 J.ma) ∧ W.cell? ⟨k3, 11, none⟩ = some (.int .i64 J.s) ∧ W.cell? ⟨k4, 0, none⟩ = some (.int .i64 J.k) ∧ W.cell? ⟨k4, 1, none⟩ = some (.int .u64 J.n.lo) ∧ W.cell? ⟨k4, 2, none⟩ = some (.int .u64 J.n.hi) ∧ W.cell? ⟨k4, 3, none⟩ = some (.int .u64 J.b.lo) ∧ W.cell? ⟨k4, 4, none⟩ = some (.int .u64 J.b.hi) ∧ W.cell? ⟨k4, 5, none⟩ = some (.int .u64 J.e.lo) ∧ W.cell? ⟨k4, 6, none⟩ = some (.int .u64 J.e.hi) ∧ W.cell? ⟨k4, 7, none⟩ = some (.int .u64 J.p.lo) ∧ W.cell? ⟨k4, 8, none⟩ = some (.int .u64 J.p.hi) ∧ W.cell? ⟨k4, 9, none⟩ = some (.int .u8 J.mu) ∧ W.cell? ⟨k4, 10, none⟩ = some (.int .u8 J.ma) ∧ W.cell? ⟨k4, 11, none⟩ = some (.int .i64 J.s) ∧ W.cell? ⟨w.heap.size, 0, none⟩ = some (.int .i64 a.k) ∧ W.cell? ⟨w.heap.size, 1, none⟩ = some (.int .u64 a.n.lo) ∧ W.cell? ⟨w.heap.size, 2, none⟩ = some (.int .u64 a.n.hi) ∧ W.cell? ⟨w.heap.size, 3, none⟩ = some (.int .u64 a.b.lo) ∧ W.cell? ⟨w.heap.size, 4, none⟩ = some (.int .u64 a.b.hi) ∧ W.cell? ⟨w.heap.size, 5, none⟩ = some (.int .u64 a.e.lo) ∧ W.cell? ⟨w.heap.size, 6, none⟩ = some (.int .u64 a.e.hi) ∧ W.cell? ⟨w.heap.size, 7, none⟩ = some (.int .u64 a.p.lo) ∧ W.cell? ⟨w.heap.size, 8, none⟩ = some (.int .u64 a.p.hi) ∧ W.cell? ⟨w.heap.size, 9, none⟩ = some (.int .u8 a.mu) ∧ W.cell? ⟨w.heap.size, 10, none⟩ = some (.int .u8 a.ma) ∧ W.cell? ⟨w.heap.size, 11, none⟩ = some (.int .i64 a.s)) ((refine KS.out _ ?_; (repeat (first | with_reducible assumption | with_reducible exact Gr.refl _ | with_reducible refine Gr.drew ?_ | with_reducible refine Gr.alloc ?_ _)))) ((go_at_call 11; refine (h9.out _).mono ?_; rintro x w1 ⟨rfl, q1⟩; have d1 : Gr w9 w1 := Gr.trans (by (repeat (first | with_reducible assumption | with_reducible exact Gr.refl _ | with_reducible refine Gr.drew ?_ | with_reducible refine Gr.alloc ?_ _))) q1; clear q1))) | fail
      · revert d1
        revert w1
        exact key.out
    intro wz hz q
    clear hz KS
    replace B0 := T.Hid.mk (B0.out.gr q)
    replace B1 := T.Hid.mk (B1.out.gr q)
    replace B2 := T.Hid.mk (B2.out.gr q)
    replace B3 := T.Hid.mk (B3.out.gr q)
    replace B4 := T.Hid.mk (B4.out.gr q)
    replace G := T.Hid.mk (G.out.trans q)
    clear q h9
    have ⟨z0, p0, f0⟩ := B0.out
    have ⟨z1, p1, f1⟩ := B1.out
    have ⟨z2, p2, f2⟩ := B2.out
    have ⟨z3, p3, f3⟩ := B3.out
    have ⟨z4, p4, f4⟩ := B4.out
    clear f0 f1 f2 f3 f4
    go_wp2_with fail
    go_ret
    refine ⟨ret_bool (by simp), G.out⟩
end R
end Go.Proofs.Ytihminokipepcaa
