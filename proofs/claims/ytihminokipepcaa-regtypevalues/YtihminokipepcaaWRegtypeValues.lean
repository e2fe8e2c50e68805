/-
  Stage 9, regtype: RegtypeValues, walked.
-/
import Derived.Test.YtihminokipepcaaRLaw
import Derived.Test.YtihminokipepcaaRProM
import Derived.Test.YtihminokipepcaaRProN
import Derived.Test.YtihminokipepcaaRProH
import Derived.Test.YtihminokipepcaaRNum
import Derived.Test.YtihminokipepcaaSSet
import Derived.Deep.RegionHeld3
namespace Go.Proofs.Ytihminokipepcaa
namespace R
open Go.RowKit

set_option maxHeartbeats 16000000 in
theorem walk_RegtypeValues (a b : RT) (v : Vv) (w : World) (ha : a.Rng) (hb : b.Rng) (hv : v.Rng) : Calls Try.prog 8 #[.agg a.vals.toArray, .agg b.vals.toArray, .agg v.vals.toArray] w fun x w' => x = .returned (.bool true) ∧ Gr w w' := by
  have oA := RT.nm_ok ha
  have oB := RT.nm_ok hb
  have oJ := RV.jn_ok oA oB
  have oW := RV.wd_ok oA oB
  have hp := hv.2.2.2.2
  have h0 := T.Hid.mk (fun W => alive_any pInt_any pJoin_any W)
  have h1 := T.Hid.mk (fun W => pHas_any a v W ha hp)
  have h2 := T.Hid.mk (fun W => pHas_any b v W hb hp)
  have h3 := T.Hid.mk (fun W => pUnder_any a b W ha hb)
  have h4 := T.Hid.mk (fun W => pJoin_any a b W ha hb)
  have h5 := T.Hid.mk (fun W => pHas_any (a.nm.jn b.nm).rt v W (RV.rt_rng oJ) hp)
  have h6 := T.Hid.mk (fun W => pWiden_any a b W ha hb)
  have h7 := T.Hid.mk (fun W => pHas_any (a.nm.wd b.nm).rt v W (RV.rt_rng oW) hp)
  have h8 := T.Hid.mk (fun W => norm_any pJoin_any a W ha)
  have h9 := T.Hid.mk (fun W => pHas_any a.nm.rt v W (RV.rt_rng oA) hp)
  have h10 := T.Hid.mk (fun W => pHas_any RT.zero v W zero_rng hp)
  rw [RV.nm_rt oJ] at h5
  rw [RV.nm_rt oW] at h7
  rw [RV.nm_rt oA] at h9
  rw [zero_nm, show RV.any.has v = true from rfl] at h10
  have e1 : a.nm.und b.nm = true → a.nm.has v = true → b.nm.has v = true := RV.has_und
  have e2 : a.nm.has v = true ∨ b.nm.has v = true → (a.nm.jn b.nm).has v = true ∧ (a.nm.wd b.nm).has v = true := fun h => ⟨RV.has_jn oA oB h, RV.has_wd oA oB h⟩
  clear ha hb hv oA oB oJ oW hp
  generalize a.nm.und b.nm = u1 at *
  generalize a.nm.has v = u2 at *
  generalize b.nm.has v = u3 at *
  generalize (a.nm.jn b.nm).has v = u4 at *
  generalize (a.nm.wd b.nm).has v = u5 at *
  generalize (a.nm.jn b.nm).rt = J at *
  generalize (a.nm.wd b.nm).rt = V at *
  generalize a.nm.rt = A at *
  simp only [RT.agg, Vv.agg, RT.zero, Sp.no, Int.cast_ofNat_Int, RT.vals, Kc.vals, Vv.vals] at h1 h2 h3 h4 h5 h6 h7 h8 h9 h10 ⊢
  replace e1 := T.Hid.mk e1
  replace e2 := T.Hid.mk e2
  go_enter Try.func8, Try.ntmps8
  go_upto_region 1 with fail
  have B0 : T.Hid (At ((((w).alloc (.cells #[.int .i64 a.k, .int .u64 a.n.lo, .int .u64 a.n.hi, .int .u64 a.b.lo, .int .u64 a.b.hi, .int .u64 a.e.lo, .int .u64 a.e.hi, .int .u64 a.p.lo, .int .u64 a.p.hi, .int .u8 a.mu, .int .u8 a.ma, .int .i64 a.s] 28)).alloc (.cells #[.int .i64 b.k, .int .u64 b.n.lo, .int .u64 b.n.hi, .int .u64 b.b.lo, .int .u64 b.b.hi, .int .u64 b.e.lo, .int .u64 b.e.hi, .int .u64 b.p.lo, .int .u64 b.p.hi, .int .u8 b.mu, .int .u8 b.ma, .int .i64 b.s] 28)).alloc (.cells #[.bool v.tag, .int .u64 v.n, .int .u64 v.c.b, .int .u64 v.c.e, .int .u64 v.c.c, .int .u8 v.c.pm, .int .i64 v.c.s] 39)) (w.heap.size) #[.int .i64 a.k, .int .u64 a.n.lo, .int .u64 a.n.hi, .int .u64 a.b.lo, .int .u64 a.b.hi, .int .u64 a.e.lo, .int .u64 a.e.hi, .int .u64 a.p.lo, .int .u64 a.p.hi, .int .u8 a.mu, .int .u8 a.ma, .int .i64 a.s]) := T.Hid.mk (((At.at_ (w) _ _ (by simp)).alloc _).alloc _)
  have B1 : T.Hid (At ((((w).alloc (.cells #[.int .i64 a.k, .int .u64 a.n.lo, .int .u64 a.n.hi, .int .u64 a.b.lo, .int .u64 a.b.hi, .int .u64 a.e.lo, .int .u64 a.e.hi, .int .u64 a.p.lo, .int .u64 a.p.hi, .int .u8 a.mu, .int .u8 a.ma, .int .i64 a.s] 28)).alloc (.cells #[.int .i64 b.k, .int .u64 b.n.lo, .int .u64 b.n.hi, .int .u64 b.b.lo, .int .u64 b.b.hi, .int .u64 b.e.lo, .int .u64 b.e.hi, .int .u64 b.p.lo, .int .u64 b.p.hi, .int .u8 b.mu, .int .u8 b.ma, .int .i64 b.s] 28)).alloc (.cells #[.bool v.tag, .int .u64 v.n, .int .u64 v.c.b, .int .u64 v.c.e, .int .u64 v.c.c, .int .u8 v.c.pm, .int .i64 v.c.s] 39)) (w.heap.size + 1) #[.int .i64 b.k, .int .u64 b.n.lo, .int .u64 b.n.hi, .int .u64 b.b.lo, .int .u64 b.b.hi, .int .u64 b.e.lo, .int .u64 b.e.hi, .int .u64 b.p.lo, .int .u64 b.p.hi, .int .u8 b.mu, .int .u8 b.ma, .int .i64 b.s]) := T.Hid.mk ((At.at_ ((w).alloc (.cells #[.int .i64 a.k, .int .u64 a.n.lo, .int .u64 a.n.hi, .int .u64 a.b.lo, .int .u64 a.b.hi, .int .u64 a.e.lo, .int .u64 a.e.hi, .int .u64 a.p.lo, .int .u64 a.p.hi, .int .u8 a.mu, .int .u8 a.ma, .int .i64 a.s] 28)) _ _ (by simp)).alloc _)
  have B2 : T.Hid (At ((((w).alloc (.cells #[.int .i64 a.k, .int .u64 a.n.lo, .int .u64 a.n.hi, .int .u64 a.b.lo, .int .u64 a.b.hi, .int .u64 a.e.lo, .int .u64 a.e.hi, .int .u64 a.p.lo, .int .u64 a.p.hi, .int .u8 a.mu, .int .u8 a.ma, .int .i64 a.s] 28)).alloc (.cells #[.int .i64 b.k, .int .u64 b.n.lo, .int .u64 b.n.hi, .int .u64 b.b.lo, .int .u64 b.b.hi, .int .u64 b.e.lo, .int .u64 b.e.hi, .int .u64 b.p.lo, .int .u64 b.p.hi, .int .u8 b.mu, .int .u8 b.ma, .int .i64 b.s] 28)).alloc (.cells #[.bool v.tag, .int .u64 v.n, .int .u64 v.c.b, .int .u64 v.c.e, .int .u64 v.c.c, .int .u8 v.c.pm, .int .i64 v.c.s] 39)) (w.heap.size + 1 + 1) #[.bool v.tag, .int .u64 v.n, .int .u64 v.c.b, .int .u64 v.c.e, .int .u64 v.c.c, .int .u8 v.c.pm, .int .i64 v.c.s]) := T.Hid.mk (At.at_ (((w).alloc (.cells #[.int .i64 a.k, .int .u64 a.n.lo, .int .u64 a.n.hi, .int .u64 a.b.lo, .int .u64 a.b.hi, .int .u64 a.e.lo, .int .u64 a.e.hi, .int .u64 a.p.lo, .int .u64 a.p.hi, .int .u8 a.mu, .int .u8 a.ma, .int .i64 a.s] 28)).alloc (.cells #[.int .i64 b.k, .int .u64 b.n.lo, .int .u64 b.n.hi, .int .u64 b.b.lo, .int .u64 b.b.hi, .int .u64 b.e.lo, .int .u64 b.e.hi, .int .u64 b.p.lo, .int .u64 b.p.hi, .int .u8 b.mu, .int .u8 b.ma, .int .i64 b.s] 28)) _ _ (by simp))
  have G := T.Hid.mk (show Gr w ((((w).alloc (.cells #[.int .i64 a.k, .int .u64 a.n.lo, .int .u64 a.n.hi, .int .u64 a.b.lo, .int .u64 a.b.hi, .int .u64 a.e.lo, .int .u64 a.e.hi, .int .u64 a.p.lo, .int .u64 a.p.hi, .int .u8 a.mu, .int .u8 a.ma, .int .i64 a.s] 28)).alloc (.cells #[.int .i64 b.k, .int .u64 b.n.lo, .int .u64 b.n.hi, .int .u64 b.b.lo, .int .u64 b.b.hi, .int .u64 b.e.lo, .int .u64 b.e.hi, .int .u64 b.p.lo, .int .u64 b.p.hi, .int .u8 b.mu, .int .u8 b.ma, .int .i64 b.s] 28)).alloc (.cells #[.bool v.tag, .int .u64 v.n, .int .u64 v.c.b, .int .u64 v.c.e, .int .u64 v.c.c, .int .u8 v.c.pm, .int .i64 v.c.s] 39)) from ((((Gr.refl w).alloc _).alloc _).alloc _))
  generalize (((w).alloc (.cells #[.int .i64 a.k, .int .u64 a.n.lo, .int .u64 a.n.hi, .int .u64 a.b.lo, .int .u64 a.b.hi, .int .u64 a.e.lo, .int .u64 a.e.hi, .int .u64 a.p.lo, .int .u64 a.p.hi, .int .u8 a.mu, .int .u8 a.ma, .int .i64 a.s] 28)).alloc (.cells #[.int .i64 b.k, .int .u64 b.n.lo, .int .u64 b.n.hi, .int .u64 b.b.lo, .int .u64 b.b.hi, .int .u64 b.e.lo, .int .u64 b.e.hi, .int .u64 b.p.lo, .int .u64 b.p.hi, .int .u8 b.mu, .int .u8 b.ma, .int .i64 b.s] 28)).alloc (.cells #[.bool v.tag, .int .u64 v.n, .int .u64 v.c.b, .int .u64 v.c.e, .int .u64 v.c.c, .int .u8 v.c.pm, .int .i64 v.c.s] 39) = W0 at G B0 B1 B2 ⊢
  have ⟨z0, p0, f0⟩ := B0.out
  have ⟨z1, p1, f1⟩ := B1.out
  have ⟨z2, p2, f2⟩ := B2.out
  clear f0 f1 f2
  go_upto_region 2 with (go_at_call 9; refine (h0.out _).mono ?_; rintro x w1 ⟨rfl, q⟩)
  clear z0 p0 z1 p1 z2 p2
  replace B0 := T.Hid.mk (B0.out.gr (q))
  replace B1 := T.Hid.mk (B1.out.gr (q))
  replace B2 := T.Hid.mk (B2.out.gr (q))
  replace G := T.Hid.mk (G.out.trans (q))
  clear q h0
  have ⟨z0, p0, f0⟩ := B0.out
  have ⟨z1, p1, f1⟩ := B1.out
  have ⟨z2, p2, f2⟩ := B2.out
  clear f0 f1 f2
  go_upto_region 3 with (go_at_call 14; refine (h1.out _).mono ?_; rintro x w2 ⟨rfl, q⟩)
  clear z0 p0 z1 p1 z2 p2
  replace B0 := T.Hid.mk (B0.out.gr (q))
  replace B1 := T.Hid.mk (B1.out.gr (q))
  replace B2 := T.Hid.mk (B2.out.gr (q))
  replace G := T.Hid.mk (G.out.trans (q))
  clear q h1
  have ⟨z0, p0, f0⟩ := B0.out
  have ⟨z1, p1, f1⟩ := B1.out
  have ⟨z2, p2, f2⟩ := B2.out
  clear f0 f1 f2
  go_upto_region 4 with (go_at_call 14; refine (h2.out _).mono ?_; rintro x w3 ⟨rfl, q⟩)
  clear z0 p0 z1 p1 z2 p2
  replace B0 := T.Hid.mk (B0.out.gr (q))
  replace B1 := T.Hid.mk (B1.out.gr (q))
  replace B2 := T.Hid.mk (B2.out.gr (q))
  replace G := T.Hid.mk (G.out.trans (q))
  clear q h2
  have ⟨z0, p0, f0⟩ := B0.out
  have ⟨z1, p1, f1⟩ := B1.out
  have ⟨z2, p2, f2⟩ := B2.out
  clear f0 f1 f2
  go_upto_region 5 with (go_at_call 10; refine (h3.out _).mono ?_; rintro x w4 ⟨rfl, q⟩)
  clear z0 p0 z1 p1 z2 p2
  replace B0 := T.Hid.mk (B0.out.gr (q))
  replace B1 := T.Hid.mk (B1.out.gr (q))
  replace B2 := T.Hid.mk (B2.out.gr (q))
  replace G := T.Hid.mk (G.out.trans (q))
  clear q h3
  have ⟨z0, p0, f0⟩ := B0.out
  have ⟨z1, p1, f1⟩ := B1.out
  have ⟨z2, p2, f2⟩ := B2.out
  clear f0 f1 f2
  clear z0 p0 z1 p1 z2 p2
  have KS : T.Hid (∀ W, Gr w4 W → W.cell? ⟨w.heap.size, 0, none⟩ = some (.int .i64 a.k) ∧ W.cell? ⟨w.heap.size, 1, none⟩ = some (.int .u64 a.n.lo) ∧ W.cell? ⟨w.heap.size, 2, none⟩ = some (.int .u64 a.n.hi) ∧ W.cell? ⟨w.heap.size, 3, none⟩ = some (.int .u64 a.b.lo) ∧ W.cell? ⟨w.heap.size, 4, none⟩ = some (.int .u64 a.b.hi) ∧ W.cell? ⟨w.heap.size, 5, none⟩ = some (.int .u64 a.e.lo) ∧ W.cell? ⟨w.heap.size, 6, none⟩ = some (.int .u64 a.e.hi) ∧ W.cell? ⟨w.heap.size, 7, none⟩ = some (.int .u64 a.p.lo) ∧ W.cell? ⟨w.heap.size, 8, none⟩ = some (.int .u64 a.p.hi) ∧ W.cell? ⟨w.heap.size, 9, none⟩ = some (.int .u8 a.mu) ∧ W.cell? ⟨w.heap.size, 10, none⟩ = some (.int .u8 a.ma) ∧ W.cell? ⟨w.heap.size, 11, none⟩ = some (.int .i64 a.s) ∧ W.cell? ⟨w.heap.size + 1, 0, none⟩ = some (.int .i64 b.k) ∧ W.cell? ⟨w.heap.size + 1, 1, none⟩ = some (.int .u64 b.n.lo) ∧ W.cell? ⟨w.heap.size + 1, 2, none⟩ = some (.int .u64 b.n.hi) ∧ W.cell? ⟨w.heap.size + 1, 3, none⟩ = some (.int .u64 b.b.lo) ∧ W.cell? ⟨w.heap.size + 1, 4, none⟩ = some (.int .u64 b.b.hi) ∧ W.cell? ⟨w.heap.size + 1, 5, none⟩ = some (.int .u64 b.e.lo) ∧ W.cell? ⟨w.heap.size + 1, 6, none⟩ = some (.int .u64 b.e.hi) ∧ W.cell? ⟨w.heap.size + 1, 7, none⟩ = some (.int .u64 b.p.lo) ∧ W.cell? ⟨w.heap.size + 1, 8, none⟩ = some (.int .u64 b.p.hi) ∧ W.cell? ⟨w.heap.size + 1, 9, none⟩ = some (.int .u8 b.mu) ∧ W.cell? ⟨w.heap.size + 1, 10, none⟩ = some (.int .u8 b.ma) ∧ W.cell? ⟨w.heap.size + 1, 11, none⟩ = some (.int .i64 b.s) ∧ W.cell? ⟨w.heap.size + 1 + 1, 0, none⟩ = some (.bool v.tag) ∧ W.cell? ⟨w.heap.size + 1 + 1, 1, none⟩ = some (.int .u64 v.n) ∧ W.cell? ⟨w.heap.size + 1 + 1, 2, none⟩ = some (.int .u64 v.c.b) ∧ W.cell? ⟨w.heap.size + 1 + 1, 3, none⟩ = some (.int .u64 v.c.e) ∧ W.cell? ⟨w.heap.size + 1 + 1, 4, none⟩ = some (.int .u64 v.c.c) ∧ W.cell? ⟨w.heap.size + 1 + 1, 5, none⟩ = some (.int .u8 v.c.pm) ∧ W.cell? ⟨w.heap.size + 1 + 1, 6, none⟩ = some (.int .i64 v.c.s)) := T.Hid.mk (fun W g => by
    have a0 := (B0.out.gr g).2.1
    have a1 := (B1.out.gr g).2.1
    have a2 := (B2.out.gr g).2.1
    exact ⟨a0 0, a0 1, a0 2, a0 3, a0 4, a0 5, a0 6, a0 7, a0 8, a0 9, a0 10, a0 11, a1 0, a1 1, a1 2, a1 3, a1 4, a1 5, a1 6, a1 7, a1 8, a1 9, a1 10, a1 11, a2 0, a2 1, a2 2, a2 3, a2 4, a2 5, a2 6⟩)
  apply cut_rule
  · intro key
    go_region_held3 (fun W => W.cell? ⟨w.heap.size, 0, none⟩ = some (.int .i64 a.k) ∧ W.cell? ⟨w.heap.size, 1, none⟩ = some (.int .u64 a.n.lo) ∧ W.cell? ⟨w.heap.size, 2, none⟩ = some (.int .u64 a.n.hi) ∧ W.cell? ⟨w.heap.size, 3, none⟩ = some (.int .u64 a.b.lo) ∧ W.cell? ⟨w.heap.size, 4, none⟩ = some (.int .u64 a.b.hi) ∧ W.cell? ⟨w.heap.size, 5, none⟩ = some (.int .u64 a.e.lo) ∧ W.cell? ⟨w.heap.size, 6, none⟩ = some (.int .u64 a.e.hi) ∧ W.cell? ⟨w.heap.size, 7, none⟩ = some (.int .u64 a.p.lo) ∧ W.cell? ⟨w.heap.size, 8, none⟩ = some (.int .u64 a.p.hi) ∧ W.cell? ⟨w.heap.size, 9, none⟩ = some (.int .u8 a.mu) ∧ W.cell? ⟨w.heap.size, 10, none⟩ = some (.int .u8 a.ma) ∧ W.cell? ⟨w.heap.size, 11, none⟩ = some (.int .i64 a.s) ∧ W.cell? ⟨w.heap.size + 1, 0, none⟩ = some (.int .i64 b.k) ∧ W.cell? ⟨w.heap.size + 1, 1, none⟩ = some (.int .u64 b.n.lo) ∧ W.cell? ⟨w.heap.size + 1, 2, none⟩ = some (.int .u64 b.n.hi) ∧ W.cell? ⟨w.heap.size + 1, 3, none⟩ = some (.int .u64 b.b.lo) ∧ W.cell? ⟨w.heap.size + 1, 4, none⟩ = some (.int .u64 b.b.hi) ∧ W.cell? ⟨w.heap.size + 1, 5, none⟩ = some (.int .u64 b.e.lo) ∧ W.cell? ⟨w.heap.size + 1, 6, none⟩ = some (.int .u64 b.e.hi) ∧ W.cell? ⟨w.heap.size + 1, 7, none⟩ = some (.int .u64 b.p.lo) ∧ W.cell? ⟨w.heap.size + 1, 8, none⟩ = some (.int .u64 b.p.hi) ∧ W.cell? ⟨w.heap.size + 1, 9, none⟩ = some (.int .u8 b.mu) ∧ W.cell? ⟨w.heap.size + 1, 10, none⟩ = some (.int .u8 b.ma) ∧ W.cell? ⟨w.heap.size + 1, 11, none⟩ = some (.int .i64 b.s) ∧ W.cell? ⟨w.heap.size + 1 + 1, 0, none⟩ = some (.bool v.tag) ∧ W.cell? ⟨w.heap.size + 1 + 1, 1, none⟩ = some (.int .u64 v.n) ∧ W.cell? ⟨w.heap.size + 1 + 1, 2, none⟩ = some (.int .u64 v.c.b) ∧ W.cell? ⟨w.heap.size + 1 + 1, 3, none⟩ = some (.int .u64 v.c.e) ∧ W.cell? ⟨w.heap.size + 1 + 1, 4, none⟩ = some (.int .u64 v.c.c) ∧ W.cell? ⟨w.heap.size + 1 + 1, 5, none⟩ = some (.int .u8 v.c.pm) ∧ W.cell? ⟨w.heap.size + 1 + 1, 6, none⟩ = some (.int .i64 v.c.s)) ((refine KS.out _ ?_; (repeat (first | with_reducible assumption | with_reducible exact Gr.refl _ | with_reducible refine Gr.drew ?_ | with_reducible refine Gr.alloc ?_ _)))) (first | (go_at_call 12; refine (h4.out _).mono ?_; rintro x w1 ⟨rfl, q1⟩; have d1 : Gr w4 w1 := Gr.trans (by (repeat (first | with_reducible assumption | with_reducible exact Gr.refl _ | with_reducible refine Gr.drew ?_ | with_reducible refine Gr.alloc ?_ _))) q1; clear q1) | (go_at_call 14; refine (h5.out _).mono ?_; rintro x w1 ⟨rfl, q1⟩; have d1 : Gr w4 w1 := Gr.trans (by (repeat (first | with_reducible assumption | with_reducible exact Gr.refl _ | with_reducible refine Gr.drew ?_ | with_reducible refine Gr.alloc ?_ _))) q1; clear q1))
    · revert d1
      revert w1
      exact key.out
  intro wz hz q
  clear hz KS
  replace B0 := T.Hid.mk (B0.out.gr q)
  replace B1 := T.Hid.mk (B1.out.gr q)
  replace B2 := T.Hid.mk (B2.out.gr q)
  replace G := T.Hid.mk (G.out.trans q)
  clear q h4 h5
  have ⟨z0, p0, f0⟩ := B0.out
  have ⟨z1, p1, f1⟩ := B1.out
  have ⟨z2, p2, f2⟩ := B2.out
  clear f0 f1 f2
  go_upto_region 6 with fail
  clear z0 p0 z1 p1 z2 p2
  have KS : T.Hid (∀ W, Gr wz W → W.cell? ⟨w.heap.size, 0, none⟩ = some (.int .i64 a.k) ∧ W.cell? ⟨w.heap.size, 1, none⟩ = some (.int .u64 a.n.lo) ∧ W.cell? ⟨w.heap.size, 2, none⟩ = some (.int .u64 a.n.hi) ∧ W.cell? ⟨w.heap.size, 3, none⟩ = some (.int .u64 a.b.lo) ∧ W.cell? ⟨w.heap.size, 4, none⟩ = some (.int .u64 a.b.hi) ∧ W.cell? ⟨w.heap.size, 5, none⟩ = some (.int .u64 a.e.lo) ∧ W.cell? ⟨w.heap.size, 6, none⟩ = some (.int .u64 a.e.hi) ∧ W.cell? ⟨w.heap.size, 7, none⟩ = some (.int .u64 a.p.lo) ∧ W.cell? ⟨w.heap.size, 8, none⟩ = some (.int .u64 a.p.hi) ∧ W.cell? ⟨w.heap.size, 9, none⟩ = some (.int .u8 a.mu) ∧ W.cell? ⟨w.heap.size, 10, none⟩ = some (.int .u8 a.ma) ∧ W.cell? ⟨w.heap.size, 11, none⟩ = some (.int .i64 a.s) ∧ W.cell? ⟨w.heap.size + 1, 0, none⟩ = some (.int .i64 b.k) ∧ W.cell? ⟨w.heap.size + 1, 1, none⟩ = some (.int .u64 b.n.lo) ∧ W.cell? ⟨w.heap.size + 1, 2, none⟩ = some (.int .u64 b.n.hi) ∧ W.cell? ⟨w.heap.size + 1, 3, none⟩ = some (.int .u64 b.b.lo) ∧ W.cell? ⟨w.heap.size + 1, 4, none⟩ = some (.int .u64 b.b.hi) ∧ W.cell? ⟨w.heap.size + 1, 5, none⟩ = some (.int .u64 b.e.lo) ∧ W.cell? ⟨w.heap.size + 1, 6, none⟩ = some (.int .u64 b.e.hi) ∧ W.cell? ⟨w.heap.size + 1, 7, none⟩ = some (.int .u64 b.p.lo) ∧ W.cell? ⟨w.heap.size + 1, 8, none⟩ = some (.int .u64 b.p.hi) ∧ W.cell? ⟨w.heap.size + 1, 9, none⟩ = some (.int .u8 b.mu) ∧ W.cell? ⟨w.heap.size + 1, 10, none⟩ = some (.int .u8 b.ma) ∧ W.cell? ⟨w.heap.size + 1, 11, none⟩ = some (.int .i64 b.s) ∧ W.cell? ⟨w.heap.size + 1 + 1, 0, none⟩ = some (.bool v.tag) ∧ W.cell? ⟨w.heap.size + 1 + 1, 1, none⟩ = some (.int .u64 v.n) ∧ W.cell? ⟨w.heap.size + 1 + 1, 2, none⟩ = some (.int .u64 v.c.b) ∧ W.cell? ⟨w.heap.size + 1 + 1, 3, none⟩ = some (.int .u64 v.c.e) ∧ W.cell? ⟨w.heap.size + 1 + 1, 4, none⟩ = some (.int .u64 v.c.c) ∧ W.cell? ⟨w.heap.size + 1 + 1, 5, none⟩ = some (.int .u8 v.c.pm) ∧ W.cell? ⟨w.heap.size + 1 + 1, 6, none⟩ = some (.int .i64 v.c.s)) := T.Hid.mk (fun W g => by
    have a0 := (B0.out.gr g).2.1
    have a1 := (B1.out.gr g).2.1
    have a2 := (B2.out.gr g).2.1
    exact ⟨a0 0, a0 1, a0 2, a0 3, a0 4, a0 5, a0 6, a0 7, a0 8, a0 9, a0 10, a0 11, a1 0, a1 1, a1 2, a1 3, a1 4, a1 5, a1 6, a1 7, a1 8, a1 9, a1 10, a1 11, a2 0, a2 1, a2 2, a2 3, a2 4, a2 5, a2 6⟩)
  apply cut_rule
  · intro key
    go_region_held3 (fun W => W.cell? ⟨w.heap.size, 0, none⟩ = some (.int .i64 a.k) ∧ W.cell? ⟨w.heap.size, 1, none⟩ = some (.int .u64 a.n.lo) ∧ W.cell? ⟨w.heap.size, 2, none⟩ = some (.int .u64 a.n.hi) ∧ W.cell? ⟨w.heap.size, 3, none⟩ = some (.int .u64 a.b.lo) ∧ W.cell? ⟨w.heap.size, 4, none⟩ = some (.int .u64 a.b.hi) ∧ W.cell? ⟨w.heap.size, 5, none⟩ = some (.int .u64 a.e.lo) ∧ W.cell? ⟨w.heap.size, 6, none⟩ = some (.int .u64 a.e.hi) ∧ W.cell? ⟨w.heap.size, 7, none⟩ = some (.int .u64 a.p.lo) ∧ W.cell? ⟨w.heap.size, 8, none⟩ = some (.int .u64 a.p.hi) ∧ W.cell? ⟨w.heap.size, 9, none⟩ = some (.int .u8 a.mu) ∧ W.cell? ⟨w.heap.size, 10, none⟩ = some (.int .u8 a.ma) ∧ W.cell? ⟨w.heap.size, 11, none⟩ = some (.int .i64 a.s) ∧ W.cell? ⟨w.heap.size + 1, 0, none⟩ = some (.int .i64 b.k) ∧ W.cell? ⟨w.heap.size + 1, 1, none⟩ = some (.int .u64 b.n.lo) ∧ W.cell? ⟨w.heap.size + 1, 2, none⟩ = some (.int .u64 b.n.hi) ∧ W.cell? ⟨w.heap.size + 1, 3, none⟩ = some (.int .u64 b.b.lo) ∧ W.cell? ⟨w.heap.size + 1, 4, none⟩ = some (.int .u64 b.b.hi) ∧ W.cell? ⟨w.heap.size + 1, 5, none⟩ = some (.int .u64 b.e.lo) ∧ W.cell? ⟨w.heap.size + 1, 6, none⟩ = some (.int .u64 b.e.hi) ∧ W.cell? ⟨w.heap.size + 1, 7, none⟩ = some (.int .u64 b.p.lo) ∧ W.cell? ⟨w.heap.size + 1, 8, none⟩ = some (.int .u64 b.p.hi) ∧ W.cell? ⟨w.heap.size + 1, 9, none⟩ = some (.int .u8 b.mu) ∧ W.cell? ⟨w.heap.size + 1, 10, none⟩ = some (.int .u8 b.ma) ∧ W.cell? ⟨w.heap.size + 1, 11, none⟩ = some (.int .i64 b.s) ∧ W.cell? ⟨w.heap.size + 1 + 1, 0, none⟩ = some (.bool v.tag) ∧ W.cell? ⟨w.heap.size + 1 + 1, 1, none⟩ = some (.int .u64 v.n) ∧ W.cell? ⟨w.heap.size + 1 + 1, 2, none⟩ = some (.int .u64 v.c.b) ∧ W.cell? ⟨w.heap.size + 1 + 1, 3, none⟩ = some (.int .u64 v.c.e) ∧ W.cell? ⟨w.heap.size + 1 + 1, 4, none⟩ = some (.int .u64 v.c.c) ∧ W.cell? ⟨w.heap.size + 1 + 1, 5, none⟩ = some (.int .u8 v.c.pm) ∧ W.cell? ⟨w.heap.size + 1 + 1, 6, none⟩ = some (.int .i64 v.c.s)) ((refine KS.out _ ?_; (repeat (first | with_reducible assumption | with_reducible exact Gr.refl _ | with_reducible refine Gr.drew ?_ | with_reducible refine Gr.alloc ?_ _)))) (first | (go_at_call 13; refine (h6.out _).mono ?_; rintro x w1 ⟨rfl, q1⟩; have d1 : Gr wz w1 := Gr.trans (by (repeat (first | with_reducible assumption | with_reducible exact Gr.refl _ | with_reducible refine Gr.drew ?_ | with_reducible refine Gr.alloc ?_ _))) q1; clear q1) | (go_at_call 14; refine (h7.out _).mono ?_; rintro x w1 ⟨rfl, q1⟩; have d1 : Gr wz w1 := Gr.trans (by (repeat (first | with_reducible assumption | with_reducible exact Gr.refl _ | with_reducible refine Gr.drew ?_ | with_reducible refine Gr.alloc ?_ _))) q1; clear q1))
    · revert d1
      revert w1
      exact key.out
  intro wz hz q
  clear hz KS
  replace B0 := T.Hid.mk (B0.out.gr q)
  replace B1 := T.Hid.mk (B1.out.gr q)
  replace B2 := T.Hid.mk (B2.out.gr q)
  replace G := T.Hid.mk (G.out.trans q)
  clear q h6 h7
  have ⟨z0, p0, f0⟩ := B0.out
  have ⟨z1, p1, f1⟩ := B1.out
  have ⟨z2, p2, f2⟩ := B2.out
  clear f0 f1 f2
  go_upto_region 7 with fail
  clear z0 p0 z1 p1 z2 p2
  have KS : T.Hid (∀ W, Gr wz W → W.cell? ⟨w.heap.size, 0, none⟩ = some (.int .i64 a.k) ∧ W.cell? ⟨w.heap.size, 1, none⟩ = some (.int .u64 a.n.lo) ∧ W.cell? ⟨w.heap.size, 2, none⟩ = some (.int .u64 a.n.hi) ∧ W.cell? ⟨w.heap.size, 3, none⟩ = some (.int .u64 a.b.lo) ∧ W.cell? ⟨w.heap.size, 4, none⟩ = some (.int .u64 a.b.hi) ∧ W.cell? ⟨w.heap.size, 5, none⟩ = some (.int .u64 a.e.lo) ∧ W.cell? ⟨w.heap.size, 6, none⟩ = some (.int .u64 a.e.hi) ∧ W.cell? ⟨w.heap.size, 7, none⟩ = some (.int .u64 a.p.lo) ∧ W.cell? ⟨w.heap.size, 8, none⟩ = some (.int .u64 a.p.hi) ∧ W.cell? ⟨w.heap.size, 9, none⟩ = some (.int .u8 a.mu) ∧ W.cell? ⟨w.heap.size, 10, none⟩ = some (.int .u8 a.ma) ∧ W.cell? ⟨w.heap.size, 11, none⟩ = some (.int .i64 a.s) ∧ W.cell? ⟨w.heap.size + 1 + 1, 0, none⟩ = some (.bool v.tag) ∧ W.cell? ⟨w.heap.size + 1 + 1, 1, none⟩ = some (.int .u64 v.n) ∧ W.cell? ⟨w.heap.size + 1 + 1, 2, none⟩ = some (.int .u64 v.c.b) ∧ W.cell? ⟨w.heap.size + 1 + 1, 3, none⟩ = some (.int .u64 v.c.e) ∧ W.cell? ⟨w.heap.size + 1 + 1, 4, none⟩ = some (.int .u64 v.c.c) ∧ W.cell? ⟨w.heap.size + 1 + 1, 5, none⟩ = some (.int .u8 v.c.pm) ∧ W.cell? ⟨w.heap.size + 1 + 1, 6, none⟩ = some (.int .i64 v.c.s)) := T.Hid.mk (fun W g => by
    have a0 := (B0.out.gr g).2.1
    have a2 := (B2.out.gr g).2.1
    exact ⟨a0 0, a0 1, a0 2, a0 3, a0 4, a0 5, a0 6, a0 7, a0 8, a0 9, a0 10, a0 11, a2 0, a2 1, a2 2, a2 3, a2 4, a2 5, a2 6⟩)
  apply cut_rule
  · intro key
    go_region_held3 (fun W => W.cell? ⟨w.heap.size, 0, none⟩ = some (.int .i64 a.k) ∧ W.cell? ⟨w.heap.size, 1, none⟩ = some (.int .u64 a.n.lo) ∧ W.cell? ⟨w.heap.size, 2, none⟩ = some (.int .u64 a.n.hi) ∧ W.cell? ⟨w.heap.size, 3, none⟩ = some (.int .u64 a.b.lo) ∧ W.cell? ⟨w.heap.size, 4, none⟩ = some (.int .u64 a.b.hi) ∧ W.cell? ⟨w.heap.size, 5, none⟩ = some (.int .u64 a.e.lo) ∧ W.cell? ⟨w.heap.size, 6, none⟩ = some (.int .u64 a.e.hi) ∧ W.cell? ⟨w.heap.size, 7, none⟩ = some (.int .u64 a.p.lo) ∧ W.cell? ⟨w.heap.size, 8, none⟩ = some (.int .u64 a.p.hi) ∧ W.cell? ⟨w.heap.size, 9, none⟩ = some (.int .u8 a.mu) ∧ W.cell? ⟨w.heap.size, 10, none⟩ = some (.int .u8 a.ma) ∧ W.cell? ⟨w.heap.size, 11, none⟩ = some (.int .i64 a.s) ∧ W.cell? ⟨w.heap.size + 1 + 1, 0, none⟩ = some (.bool v.tag) ∧ W.cell? ⟨w.heap.size + 1 + 1, 1, none⟩ = some (.int .u64 v.n) ∧ W.cell? ⟨w.heap.size + 1 + 1, 2, none⟩ = some (.int .u64 v.c.b) ∧ W.cell? ⟨w.heap.size + 1 + 1, 3, none⟩ = some (.int .u64 v.c.e) ∧ W.cell? ⟨w.heap.size + 1 + 1, 4, none⟩ = some (.int .u64 v.c.c) ∧ W.cell? ⟨w.heap.size + 1 + 1, 5, none⟩ = some (.int .u8 v.c.pm) ∧ W.cell? ⟨w.heap.size + 1 + 1, 6, none⟩ = some (.int .i64 v.c.s)) ((refine KS.out _ ?_; (repeat (first | with_reducible assumption | with_reducible exact Gr.refl _ | with_reducible refine Gr.drew ?_ | with_reducible refine Gr.alloc ?_ _)))) (first | (go_at_call 11; refine (h8.out _).mono ?_; rintro x w1 ⟨rfl, q1⟩; have d1 : Gr wz w1 := Gr.trans (by (repeat (first | with_reducible assumption | with_reducible exact Gr.refl _ | with_reducible refine Gr.drew ?_ | with_reducible refine Gr.alloc ?_ _))) q1; clear q1) | (go_at_call 14; refine (h9.out _).mono ?_; rintro x w1 ⟨rfl, q1⟩; have d1 : Gr wz w1 := Gr.trans (by (repeat (first | with_reducible assumption | with_reducible exact Gr.refl _ | with_reducible refine Gr.drew ?_ | with_reducible refine Gr.alloc ?_ _))) q1; clear q1))
    · revert d1
      revert w1
      exact key.out
  intro wz hz q
  clear hz KS
  replace B0 := T.Hid.mk (B0.out.gr q)
  replace B1 := T.Hid.mk (B1.out.gr q)
  replace B2 := T.Hid.mk (B2.out.gr q)
  replace G := T.Hid.mk (G.out.trans q)
  clear q h8 h9
  have ⟨z0, p0, f0⟩ := B0.out
  have ⟨z1, p1, f1⟩ := B1.out
  have ⟨z2, p2, f2⟩ := B2.out
  clear f0 f1 f2
  replace e1 := e1.out
  replace e2 := e2.out
  cases u1
  · cases u2
    · cases u3
      · clear e1
        clear e2
        go_upto_region 11 with (go_at_call 14; refine (h10.out _).mono ?_; rintro x w5 ⟨rfl, q⟩)
        clear z0 p0 z1 p1 z2 p2
        replace B0 := T.Hid.mk (B0.out.gr (q))
        replace B1 := T.Hid.mk (B1.out.gr (q))
        replace B2 := T.Hid.mk (B2.out.gr (q))
        replace G := T.Hid.mk (G.out.trans (q))
        clear q h10
        have ⟨z0, p0, f0⟩ := B0.out
        have ⟨z1, p1, f1⟩ := B1.out
        have ⟨z2, p2, f2⟩ := B2.out
        clear f0 f1 f2
        go_wp2_with fail
        go_ret
        exact ⟨rfl, G.out⟩
      · clear e1
        obtain ⟨rfl, rfl⟩ := e2 (by simp)
        go_upto_region 11 with (go_at_call 14; refine (h10.out _).mono ?_; rintro x w5 ⟨rfl, q⟩)
        clear z0 p0 z1 p1 z2 p2
        replace B0 := T.Hid.mk (B0.out.gr (q))
        replace B1 := T.Hid.mk (B1.out.gr (q))
        replace B2 := T.Hid.mk (B2.out.gr (q))
        replace G := T.Hid.mk (G.out.trans (q))
        clear q h10
        have ⟨z0, p0, f0⟩ := B0.out
        have ⟨z1, p1, f1⟩ := B1.out
        have ⟨z2, p2, f2⟩ := B2.out
        clear f0 f1 f2
        go_wp2_with fail
        go_ret
        exact ⟨rfl, G.out⟩
    · cases u3
      · clear e1
        obtain ⟨rfl, rfl⟩ := e2 (by simp)
        go_upto_region 11 with (go_at_call 14; refine (h10.out _).mono ?_; rintro x w5 ⟨rfl, q⟩)
        clear z0 p0 z1 p1 z2 p2
        replace B0 := T.Hid.mk (B0.out.gr (q))
        replace B1 := T.Hid.mk (B1.out.gr (q))
        replace B2 := T.Hid.mk (B2.out.gr (q))
        replace G := T.Hid.mk (G.out.trans (q))
        clear q h10
        have ⟨z0, p0, f0⟩ := B0.out
        have ⟨z1, p1, f1⟩ := B1.out
        have ⟨z2, p2, f2⟩ := B2.out
        clear f0 f1 f2
        go_wp2_with fail
        go_ret
        exact ⟨rfl, G.out⟩
      · clear e1
        obtain ⟨rfl, rfl⟩ := e2 (by simp)
        go_upto_region 11 with (go_at_call 14; refine (h10.out _).mono ?_; rintro x w5 ⟨rfl, q⟩)
        clear z0 p0 z1 p1 z2 p2
        replace B0 := T.Hid.mk (B0.out.gr (q))
        replace B1 := T.Hid.mk (B1.out.gr (q))
        replace B2 := T.Hid.mk (B2.out.gr (q))
        replace G := T.Hid.mk (G.out.trans (q))
        clear q h10
        have ⟨z0, p0, f0⟩ := B0.out
        have ⟨z1, p1, f1⟩ := B1.out
        have ⟨z2, p2, f2⟩ := B2.out
        clear f0 f1 f2
        go_wp2_with fail
        go_ret
        exact ⟨rfl, G.out⟩
  · cases u2
    · cases u3
      · clear e1
        clear e2
        go_upto_region 11 with (go_at_call 14; refine (h10.out _).mono ?_; rintro x w5 ⟨rfl, q⟩)
        clear z0 p0 z1 p1 z2 p2
        replace B0 := T.Hid.mk (B0.out.gr (q))
        replace B1 := T.Hid.mk (B1.out.gr (q))
        replace B2 := T.Hid.mk (B2.out.gr (q))
        replace G := T.Hid.mk (G.out.trans (q))
        clear q h10
        have ⟨z0, p0, f0⟩ := B0.out
        have ⟨z1, p1, f1⟩ := B1.out
        have ⟨z2, p2, f2⟩ := B2.out
        clear f0 f1 f2
        go_wp2_with fail
        go_ret
        exact ⟨rfl, G.out⟩
      · clear e1
        obtain ⟨rfl, rfl⟩ := e2 (by simp)
        go_upto_region 11 with (go_at_call 14; refine (h10.out _).mono ?_; rintro x w5 ⟨rfl, q⟩)
        clear z0 p0 z1 p1 z2 p2
        replace B0 := T.Hid.mk (B0.out.gr (q))
        replace B1 := T.Hid.mk (B1.out.gr (q))
        replace B2 := T.Hid.mk (B2.out.gr (q))
        replace G := T.Hid.mk (G.out.trans (q))
        clear q h10
        have ⟨z0, p0, f0⟩ := B0.out
        have ⟨z1, p1, f1⟩ := B1.out
        have ⟨z2, p2, f2⟩ := B2.out
        clear f0 f1 f2
        go_wp2_with fail
        go_ret
        exact ⟨rfl, G.out⟩
    · cases u3
      · cases e1 rfl rfl
      · clear e1
        obtain ⟨rfl, rfl⟩ := e2 (by simp)
        go_upto_region 11 with (go_at_call 14; refine (h10.out _).mono ?_; rintro x w5 ⟨rfl, q⟩)
        clear z0 p0 z1 p1 z2 p2
        replace B0 := T.Hid.mk (B0.out.gr (q))
        replace B1 := T.Hid.mk (B1.out.gr (q))
        replace B2 := T.Hid.mk (B2.out.gr (q))
        replace G := T.Hid.mk (G.out.trans (q))
        clear q h10
        have ⟨z0, p0, f0⟩ := B0.out
        have ⟨z1, p1, f1⟩ := B1.out
        have ⟨z2, p2, f2⟩ := B2.out
        clear f0 f1 f2
        go_wp2_with fail
        go_ret
        exact ⟨rfl, G.out⟩
end R
end Go.Proofs.Ytihminokipepcaa
