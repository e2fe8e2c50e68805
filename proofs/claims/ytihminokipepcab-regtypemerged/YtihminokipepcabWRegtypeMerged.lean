/-
  Stage 9, regtype: RegtypeMerged, walked.
-/
import Derived.Test.YtihminokipepcabRLaw
import Derived.Test.YtihminokipepcabRProM
import Derived.Test.YtihminokipepcabRProN
import Derived.Test.YtihminokipepcabRProU
import Derived.Test.YtihminokipepcabRProH
import Derived.Test.YtihminokipepcabRRefH
import Derived.Test.YtihminokipepcabRNum
import Derived.Test.YtihminokipepcabSSet
import Derived.Deep.RegionHeld3
namespace Go.Proofs.Ytihminokipepcab
namespace R
open Go.RowKit

theorem eqRT_self (a : RT) (W : World) : (binOp .eql 28 a.agg a.agg).run Try.prog W = .ok (.bool true) W := by
  rw [eqRT, RT.eqB_iff.2 rfl]
set_option maxHeartbeats 16000000 in
theorem walk_RegtypeMerged (a b : RT) (w : World) (ha : a.Rng) (hb : b.Rng) : Calls Try.prog 5 #[.agg a.vals.toArray, .agg b.vals.toArray] w fun x w' => x = .returned (.bool true) ∧ Gr w w' := by
  have h0 := T.Hid.mk (fun W => alive_any pInt_any pJoin_any W)
  have h1 := T.Hid.mk (fun W => pUnder_any a b W ha hb)
  have h2 := T.Hid.mk (fun W => dUnder_any a b W ha hb)
  have h3 := T.Hid.mk (fun W => pJoin_any a b W ha hb)
  have h4 := T.Hid.mk (fun W => dJoin_any a b W ha hb)
  have h5 := T.Hid.mk (fun W => pWiden_any a b W ha hb)
  have h6 := T.Hid.mk (fun W => dWiden_any a b W ha hb)
  have q1 := fun W => eqRT_self (a.nm.jn b.nm).rt W
  have q2 := fun W => eqRT_self (a.nm.wd b.nm).rt W
  clear ha hb
  generalize a.nm.und b.nm = u at *
  generalize (a.nm.jn b.nm).rt = J at *
  generalize (a.nm.wd b.nm).rt = V at *
  simp only [RT.agg, RT.vals] at h1 h2 h3 h4 h5 h6 q1 q2 ⊢
  go_enter Try.func5, Try.ntmps5
  go_upto_region 1 with fail
  have B0 : T.Hid (At (((w).alloc (.cells #[.int .i64 a.k, .int .u64 a.n.lo, .int .u64 a.n.hi, .int .u64 a.b.lo, .int .u64 a.b.hi, .int .u64 a.e.lo, .int .u64 a.e.hi, .int .u64 a.p.lo, .int .u64 a.p.hi, .int .u8 a.mu, .int .u8 a.ma, .int .i64 a.s] 28)).alloc (.cells #[.int .i64 b.k, .int .u64 b.n.lo, .int .u64 b.n.hi, .int .u64 b.b.lo, .int .u64 b.b.hi, .int .u64 b.e.lo, .int .u64 b.e.hi, .int .u64 b.p.lo, .int .u64 b.p.hi, .int .u8 b.mu, .int .u8 b.ma, .int .i64 b.s] 28)) (w.heap.size) #[.int .i64 a.k, .int .u64 a.n.lo, .int .u64 a.n.hi, .int .u64 a.b.lo, .int .u64 a.b.hi, .int .u64 a.e.lo, .int .u64 a.e.hi, .int .u64 a.p.lo, .int .u64 a.p.hi, .int .u8 a.mu, .int .u8 a.ma, .int .i64 a.s]) := T.Hid.mk ((At.at_ (w) _ _ (by simp)).alloc _)
  have B1 : T.Hid (At (((w).alloc (.cells #[.int .i64 a.k, .int .u64 a.n.lo, .int .u64 a.n.hi, .int .u64 a.b.lo, .int .u64 a.b.hi, .int .u64 a.e.lo, .int .u64 a.e.hi, .int .u64 a.p.lo, .int .u64 a.p.hi, .int .u8 a.mu, .int .u8 a.ma, .int .i64 a.s] 28)).alloc (.cells #[.int .i64 b.k, .int .u64 b.n.lo, .int .u64 b.n.hi, .int .u64 b.b.lo, .int .u64 b.b.hi, .int .u64 b.e.lo, .int .u64 b.e.hi, .int .u64 b.p.lo, .int .u64 b.p.hi, .int .u8 b.mu, .int .u8 b.ma, .int .i64 b.s] 28)) (w.heap.size + 1) #[.int .i64 b.k, .int .u64 b.n.lo, .int .u64 b.n.hi, .int .u64 b.b.lo, .int .u64 b.b.hi, .int .u64 b.e.lo, .int .u64 b.e.hi, .int .u64 b.p.lo, .int .u64 b.p.hi, .int .u8 b.mu, .int .u8 b.ma, .int .i64 b.s]) := T.Hid.mk (At.at_ ((w).alloc (.cells #[.int .i64 a.k, .int .u64 a.n.lo, .int .u64 a.n.hi, .int .u64 a.b.lo, .int .u64 a.b.hi, .int .u64 a.e.lo, .int .u64 a.e.hi, .int .u64 a.p.lo, .int .u64 a.p.hi, .int .u8 a.mu, .int .u8 a.ma, .int .i64 a.s] 28)) _ _ (by simp))
  have G := T.Hid.mk (show Gr w (((w).alloc (.cells #[.int .i64 a.k, .int .u64 a.n.lo, .int .u64 a.n.hi, .int .u64 a.b.lo, .int .u64 a.b.hi, .int .u64 a.e.lo, .int .u64 a.e.hi, .int .u64 a.p.lo, .int .u64 a.p.hi, .int .u8 a.mu, .int .u8 a.ma, .int .i64 a.s] 28)).alloc (.cells #[.int .i64 b.k, .int .u64 b.n.lo, .int .u64 b.n.hi, .int .u64 b.b.lo, .int .u64 b.b.hi, .int .u64 b.e.lo, .int .u64 b.e.hi, .int .u64 b.p.lo, .int .u64 b.p.hi, .int .u8 b.mu, .int .u8 b.ma, .int .i64 b.s] 28)) from (((Gr.refl w).alloc _).alloc _))
  generalize ((w).alloc (.cells #[.int .i64 a.k, .int .u64 a.n.lo, .int .u64 a.n.hi, .int .u64 a.b.lo, .int .u64 a.b.hi, .int .u64 a.e.lo, .int .u64 a.e.hi, .int .u64 a.p.lo, .int .u64 a.p.hi, .int .u8 a.mu, .int .u8 a.ma, .int .i64 a.s] 28)).alloc (.cells #[.int .i64 b.k, .int .u64 b.n.lo, .int .u64 b.n.hi, .int .u64 b.b.lo, .int .u64 b.b.hi, .int .u64 b.e.lo, .int .u64 b.e.hi, .int .u64 b.p.lo, .int .u64 b.p.hi, .int .u8 b.mu, .int .u8 b.ma, .int .i64 b.s] 28) = W0 at G B0 B1 ⊢
  have ⟨z0, p0, f0⟩ := B0.out
  have ⟨z1, p1, f1⟩ := B1.out
  clear f0 f1
  go_upto_region 2 with (go_at_call 6; refine (h0.out _).mono ?_; rintro x w1 ⟨rfl, q⟩)
  clear z0 p0 z1 p1
  replace B0 := T.Hid.mk (B0.out.gr (q))
  replace B1 := T.Hid.mk (B1.out.gr (q))
  replace G := T.Hid.mk (G.out.trans (q))
  clear q h0
  have ⟨z0, p0, f0⟩ := B0.out
  have ⟨z1, p1, f1⟩ := B1.out
  clear f0 f1
  clear z0 p0 z1 p1
  have KS : T.Hid (∀ W, Gr w1 W → W.cell? ⟨w.heap.size, 0, none⟩ = some (.int .i64 a.k) ∧ W.cell? ⟨w.heap.size, 1, none⟩ = some (.int .u64 a.n.lo) ∧ W.cell? ⟨w.heap.size, 2, none⟩ = some (.int .u64 a.n.hi) ∧ W.cell? ⟨w.heap.size, 3, none⟩ = some (.int .u64 a.b.lo) ∧ W.cell? ⟨w.heap.size, 4, none⟩ = some (.int .u64 a.b.hi) ∧ W.cell? ⟨w.heap.size, 5, none⟩ = some (.int .u64 a.e.lo) ∧ W.cell? ⟨w.heap.size, 6, none⟩ = some (.int .u64 a.e.hi) ∧ W.cell? ⟨w.heap.size, 7, none⟩ = some (.int .u64 a.p.lo) ∧ W.cell? ⟨w.heap.size, 8, none⟩ = some (.int .u64 a.p.hi) ∧ W.cell? ⟨w.heap.size, 9, none⟩ = some (.int .u8 a.mu) ∧ W.cell? ⟨w.heap.size, 10, none⟩ = some (.int .u8 a.ma) ∧ W.cell? ⟨w.heap.size, 11, none⟩ = some (.int .i64 a.s) ∧ W.cell? ⟨w.heap.size + 1, 0, none⟩ = some (.int .i64 b.k) ∧ W.cell? ⟨w.heap.size + 1, 1, none⟩ = some (.int .u64 b.n.lo) ∧ W.cell? ⟨w.heap.size + 1, 2, none⟩ = some (.int .u64 b.n.hi) ∧ W.cell? ⟨w.heap.size + 1, 3, none⟩ = some (.int .u64 b.b.lo) ∧ W.cell? ⟨w.heap.size + 1, 4, none⟩ = some (.int .u64 b.b.hi) ∧ W.cell? ⟨w.heap.size + 1, 5, none⟩ = some (.int .u64 b.e.lo) ∧ W.cell? ⟨w.heap.size + 1, 6, none⟩ = some (.int .u64 b.e.hi) ∧ W.cell? ⟨w.heap.size + 1, 7, none⟩ = some (.int .u64 b.p.lo) ∧ W.cell? ⟨w.heap.size + 1, 8, none⟩ = some (.int .u64 b.p.hi) ∧ W.cell? ⟨w.heap.size + 1, 9, none⟩ = some (.int .u8 b.mu) ∧ W.cell? ⟨w.heap.size + 1, 10, none⟩ = some (.int .u8 b.ma) ∧ W.cell? ⟨w.heap.size + 1, 11, none⟩ = some (.int .i64 b.s)) := T.Hid.mk (fun W g => by
    have a0 := (B0.out.gr g).2.1
    have a1 := (B1.out.gr g).2.1
    exact ⟨a0 0, a0 1, a0 2, a0 3, a0 4, a0 5, a0 6, a0 7, a0 8, a0 9, a0 10, a0 11, a1 0, a1 1, a1 2, a1 3, a1 4, a1 5, a1 6, a1 7, a1 8, a1 9, a1 10, a1 11⟩)
  apply cut_rule
  · intro key
    first | (go_region_held3 (fun W => W.cell? ⟨w.heap.size, 0, none⟩ = some (.int .i64 a.k) ∧ W.cell? ⟨w.heap.size, 1, none⟩ = some (.int .u64 a.n.lo) ∧ W.cell? ⟨w.heap.size, 2, none⟩ = some (.int .u64 a.n.hi) ∧ W.cell? ⟨w.heap.size, 3, none⟩ = some (.int .u64 a.b.lo) ∧ W.cell? ⟨w.heap.size, 4, none⟩ = some (.int .u64 a.b.hi) ∧ W.cell? ⟨w.heap.size, 5, none⟩ = some (.int .u64 a.e.lo) ∧ W.cell? ⟨w.heap.size, 6, none⟩ = some (.int .u64 a.e.hi) ∧ W.cell? ⟨w.heap.size, 7, none⟩ = some (.int .u64 a.p.lo) ∧ W.cell? ⟨w.heap.size, 8, none⟩ = some (.int .u64 a.p.hi) ∧ W.cell? ⟨w.heap.size, 9, none⟩ = some (.int .u8 a.mu) ∧ W.cell? ⟨w.heap.size, 10, none⟩ = some (.int .u8 a.ma) ∧ W.cell? ⟨w.heap.size, 11, none⟩ = some (.int .i64 a.s) ∧ W.cell? ⟨w.heap.size + 1, 0, none⟩ = some (.int .i64 b.k) ∧ W.cell? ⟨w.heap.size + 1, 1, none⟩ = some (.int .u64 b.n.lo) ∧ W.cell? ⟨w.heap.size + 1, 2, none⟩ = some (.int .u64 b.n.hi) ∧ W.cell? ⟨w.heap.size + 1, 3, none⟩ = some (.int .u64 b.b.lo) ∧ W.cell? ⟨w.heap.size + 1, 4, none⟩ = some (.int .u64 b.b.hi) ∧ W.cell? ⟨w.heap.size + 1, 5, none⟩ = some (.int .u64 b.e.lo) ∧ W.cell? ⟨w.heap.size + 1, 6, none⟩ = some (.int .u64 b.e.hi) ∧ W.cell? ⟨w.heap.size + 1, 7, none⟩ = some (.int .u64 b.p.lo) ∧ W.cell? ⟨w.heap.size + 1, 8, none⟩ = some (.int .u64 b.p.hi) ∧ W.cell? ⟨w.heap.size + 1, 9, none⟩ = some (.int .u8 b.mu) ∧ W.cell? ⟨w.heap.size + 1, 10, none⟩ = some (.int .u8 b.ma) ∧ W.cell? ⟨w.heap.size + 1, 11, none⟩ = some (.int .i64 b.s)) ((refine KS.out _ ?_; (repeat (first | with_reducible assumption | with_reducible exact Gr.refl _ | with_reducible refine Gr.drew ?_ | with_reducible refine Gr.alloc ?_ _)))) (first | (go_at_call 15; refine (h1.out _).mono ?_; rintro x wq ⟨rfl, q9⟩; have d1 : Gr w1 wq := Gr.trans (by (repeat (first | with_reducible assumption | with_reducible exact Gr.refl _ | with_reducible refine Gr.drew ?_ | with_reducible refine Gr.alloc ?_ _))) q9; clear q9) | (go_at_call 16; refine (h2.out _).mono ?_; rintro x wq ⟨rfl, q9⟩; have d1 : Gr w1 wq := Gr.trans (by (repeat (first | with_reducible assumption | with_reducible exact Gr.refl _ | with_reducible refine Gr.drew ?_ | with_reducible refine Gr.alloc ?_ _))) q9; clear q9))) | fail
    · revert d1
      revert wq
      exact key.out
  intro wz hz q
  clear hz KS
  replace B0 := T.Hid.mk (B0.out.gr q)
  replace B1 := T.Hid.mk (B1.out.gr q)
  replace G := T.Hid.mk (G.out.trans q)
  clear q h1 h2
  have ⟨z0, p0, f0⟩ := B0.out
  have ⟨z1, p1, f1⟩ := B1.out
  clear f0 f1
  go_upto_region 3 with fail
  clear z0 p0 z1 p1
  have KS : T.Hid (∀ W, Gr wz W → W.cell? ⟨w.heap.size, 0, none⟩ = some (.int .i64 a.k) ∧ W.cell? ⟨w.heap.size, 1, none⟩ = some (.int .u64 a.n.lo) ∧ W.cell? ⟨w.heap.size, 2, none⟩ = some (.int .u64 a.n.hi) ∧ W.cell? ⟨w.heap.size, 3, none⟩ = some (.int .u64 a.b.lo) ∧ W.cell? ⟨w.heap.size, 4, none⟩ = some (.int .u64 a.b.hi) ∧ W.cell? ⟨w.heap.size, 5, none⟩ = some (.int .u64 a.e.lo) ∧ W.cell? ⟨w.heap.size, 6, none⟩ = some (.int .u64 a.e.hi) ∧ W.cell? ⟨w.heap.size, 7, none⟩ = some (.int .u64 a.p.lo) ∧ W.cell? ⟨w.heap.size, 8, none⟩ = some (.int .u64 a.p.hi) ∧ W.cell? ⟨w.heap.size, 9, none⟩ = some (.int .u8 a.mu) ∧ W.cell? ⟨w.heap.size, 10, none⟩ = some (.int .u8 a.ma) ∧ W.cell? ⟨w.heap.size, 11, none⟩ = some (.int .i64 a.s) ∧ W.cell? ⟨w.heap.size + 1, 0, none⟩ = some (.int .i64 b.k) ∧ W.cell? ⟨w.heap.size + 1, 1, none⟩ = some (.int .u64 b.n.lo) ∧ W.cell? ⟨w.heap.size + 1, 2, none⟩ = some (.int .u64 b.n.hi) ∧ W.cell? ⟨w.heap.size + 1, 3, none⟩ = some (.int .u64 b.b.lo) ∧ W.cell? ⟨w.heap.size + 1, 4, none⟩ = some (.int .u64 b.b.hi) ∧ W.cell? ⟨w.heap.size + 1, 5, none⟩ = some (.int .u64 b.e.lo) ∧ W.cell? ⟨w.heap.size + 1, 6, none⟩ = some (.int .u64 b.e.hi) ∧ W.cell? ⟨w.heap.size + 1, 7, none⟩ = some (.int .u64 b.p.lo) ∧ W.cell? ⟨w.heap.size + 1, 8, none⟩ = some (.int .u64 b.p.hi) ∧ W.cell? ⟨w.heap.size + 1, 9, none⟩ = some (.int .u8 b.mu) ∧ W.cell? ⟨w.heap.size + 1, 10, none⟩ = some (.int .u8 b.ma) ∧ W.cell? ⟨w.heap.size + 1, 11, none⟩ = some (.int .i64 b.s)) := T.Hid.mk (fun W g => by
    have a0 := (B0.out.gr g).2.1
    have a1 := (B1.out.gr g).2.1
    exact ⟨a0 0, a0 1, a0 2, a0 3, a0 4, a0 5, a0 6, a0 7, a0 8, a0 9, a0 10, a0 11, a1 0, a1 1, a1 2, a1 3, a1 4, a1 5, a1 6, a1 7, a1 8, a1 9, a1 10, a1 11⟩)
  apply cut_rule
  · intro key
    first | (go_region_held3 (fun W => W.cell? ⟨w.heap.size, 0, none⟩ = some (.int .i64 a.k) ∧ W.cell? ⟨w.heap.size, 1, none⟩ = some (.int .u64 a.n.lo) ∧ W.cell? ⟨w.heap.size, 2, none⟩ = some (.int .u64 a.n.hi) ∧ W.cell? ⟨w.heap.size, 3, none⟩ = some (.int .u64 a.b.lo) ∧ W.cell? ⟨w.heap.size, 4, none⟩ = some (.int .u64 a.b.hi) ∧ W.cell? ⟨w.heap.size, 5, none⟩ = some (.int .u64 a.e.lo) ∧ W.cell? ⟨w.heap.size, 6, none⟩ = some (.int .u64 a.e.hi) ∧ W.cell? ⟨w.heap.size, 7, none⟩ = some (.int .u64 a.p.lo) ∧ W.cell? ⟨w.heap.size, 8, none⟩ = some (.int .u64 a.p.hi) ∧ W.cell? ⟨w.heap.size, 9, none⟩ = some (.int .u8 a.mu) ∧ W.cell? ⟨w.heap.size, 10, none⟩ = some (.int .u8 a.ma) ∧ W.cell? ⟨w.heap.size, 11, none⟩ = some (.int .i64 a.s) ∧ W.cell? ⟨w.heap.size + 1, 0, none⟩ = some (.int .i64 b.k) ∧ W.cell? ⟨w.heap.size + 1, 1, none⟩ = some (.int .u64 b.n.lo) ∧ W.cell? ⟨w.heap.size + 1, 2, none⟩ = some (.int .u64 b.n.hi) ∧ W.cell? ⟨w.heap.size + 1, 3, none⟩ = some (.int .u64 b.b.lo) ∧ W.cell? ⟨w.heap.size + 1, 4, none⟩ = some (.int .u64 b.b.hi) ∧ W.cell? ⟨w.heap.size + 1, 5, none⟩ = some (.int .u64 b.e.lo) ∧ W.cell? ⟨w.heap.size + 1, 6, none⟩ = some (.int .u64 b.e.hi) ∧ W.cell? ⟨w.heap.size + 1, 7, none⟩ = some (.int .u64 b.p.lo) ∧ W.cell? ⟨w.heap.size + 1, 8, none⟩ = some (.int .u64 b.p.hi) ∧ W.cell? ⟨w.heap.size + 1, 9, none⟩ = some (.int .u8 b.mu) ∧ W.cell? ⟨w.heap.size + 1, 10, none⟩ = some (.int .u8 b.ma) ∧ W.cell? ⟨w.heap.size + 1, 11, none⟩ = some (.int .i64 b.s)) ((refine KS.out _ ?_; (repeat (first | with_reducible assumption | with_reducible exact Gr.refl _ | with_reducible refine Gr.drew ?_ | with_reducible refine Gr.alloc ?_ _)))) (first | (go_at_call 17; refine (h3.out _).mono ?_; rintro x wq ⟨rfl, q9⟩; have d1 : Gr wz wq := Gr.trans (by (repeat (first | with_reducible assumption | with_reducible exact Gr.refl _ | with_reducible refine Gr.drew ?_ | with_reducible refine Gr.alloc ?_ _))) q9; clear q9) | (go_at_call 18; refine (h4.out _).mono ?_; rintro x wq ⟨rfl, q9⟩; have d1 : Gr wz wq := Gr.trans (by (repeat (first | with_reducible assumption | with_reducible exact Gr.refl _ | with_reducible refine Gr.drew ?_ | with_reducible refine Gr.alloc ?_ _))) q9; clear q9))) | fail
    · revert d1
      revert wq
      exact key.out
  intro wz hz q
  clear hz KS
  replace B0 := T.Hid.mk (B0.out.gr q)
  replace B1 := T.Hid.mk (B1.out.gr q)
  replace G := T.Hid.mk (G.out.trans q)
  clear q h3 h4
  have ⟨z0, p0, f0⟩ := B0.out
  have ⟨z1, p1, f1⟩ := B1.out
  clear f0 f1
  go_upto_region 4 with fail
  clear z0 p0 z1 p1
  have KS : T.Hid (∀ W, Gr wz W → W.cell? ⟨w.heap.size, 0, none⟩ = some (.int .i64 a.k) ∧ W.cell? ⟨w.heap.size, 1, none⟩ = some (.int .u64 a.n.lo) ∧ W.cell? ⟨w.heap.size, 2, none⟩ = some (.int .u64 a.n.hi) ∧ W.cell? ⟨w.heap.size, 3, none⟩ = some (.int .u64 a.b.lo) ∧ W.cell? ⟨w.heap.size, 4, none⟩ = some (.int .u64 a.b.hi) ∧ W.cell? ⟨w.heap.size, 5, none⟩ = some (.int .u64 a.e.lo) ∧ W.cell? ⟨w.heap.size, 6, none⟩ = some (.int .u64 a.e.hi) ∧ W.cell? ⟨w.heap.size, 7, none⟩ = some (.int .u64 a.p.lo) ∧ W.cell? ⟨w.heap.size, 8, none⟩ = some (.int .u64 a.p.hi) ∧ W.cell? ⟨w.heap.size, 9, none⟩ = some (.int .u8 a.mu) ∧ W.cell? ⟨w.heap.size, 10, none⟩ = some (.int .u8 a.ma) ∧ W.cell? ⟨w.heap.size, 11, none⟩ = some (.int .i64 a.s) ∧ W.cell? ⟨w.heap.size + 1, 0, none⟩ = some (.int .i64 b.k) ∧ W.cell? ⟨w.heap.size + 1, 1, none⟩ = some (.int .u64 b.n.lo) ∧ W.cell? ⟨w.heap.size + 1, 2, none⟩ = some (.int .u64 b.n.hi) ∧ W.cell? ⟨w.heap.size + 1, 3, none⟩ = some (.int .u64 b.b.lo) ∧ W.cell? ⟨w.heap.size + 1, 4, none⟩ = some (.int .u64 b.b.hi) ∧ W.cell? ⟨w.heap.size + 1, 5, none⟩ = some (.int .u64 b.e.lo) ∧ W.cell? ⟨w.heap.size + 1, 6, none⟩ = some (.int .u64 b.e.hi) ∧ W.cell? ⟨w.heap.size + 1, 7, none⟩ = some (.int .u64 b.p.lo) ∧ W.cell? ⟨w.heap.size + 1, 8, none⟩ = some (.int .u64 b.p.hi) ∧ W.cell? ⟨w.heap.size + 1, 9, none⟩ = some (.int .u8 b.mu) ∧ W.cell? ⟨w.heap.size + 1, 10, none⟩ = some (.int .u8 b.ma) ∧ W.cell? ⟨w.heap.size + 1, 11, none⟩ = some (.int .i64 b.s)) := T.Hid.mk (fun W g => by
    have a0 := (B0.out.gr g).2.1
    have a1 := (B1.out.gr g).2.1
    exact ⟨a0 0, a0 1, a0 2, a0 3, a0 4, a0 5, a0 6, a0 7, a0 8, a0 9, a0 10, a0 11, a1 0, a1 1, a1 2, a1 3, a1 4, a1 5, a1 6, a1 7, a1 8, a1 9, a1 10, a1 11⟩)
  apply cut_rule
  · intro key
    first | (go_region_held3 (fun W => W.cell? ⟨w.heap.size, 0, none⟩ = some (.int .i64 a.k) ∧ W.cell? ⟨w.heap.size, 1, none⟩ = some (.int .u64 a.n.lo) ∧ W.cell? ⟨w.heap.size, 2, none⟩ = some (.int .u64 a.n.hi) ∧ W.cell? ⟨w.heap.size, 3, none⟩ = some (.int .u64 a.b.lo) ∧ W.cell? ⟨w.heap.size, 4, none⟩ = some (.int .u64 a.b.hi) ∧ W.cell? ⟨w.heap.size, 5, none⟩ = some (.int .u64 a.e.lo) ∧ W.cell? ⟨w.heap.size, 6, none⟩ = some (.int .u64 a.e.hi) ∧ W.cell? ⟨w.heap.size, 7, none⟩ = some (.int .u64 a.p.lo) ∧ W.cell? ⟨w.heap.size, 8, none⟩ = some (.int .u64 a.p.hi) ∧ W.cell? ⟨w.heap.size, 9, none⟩ = some (.int .u8 a.mu) ∧ W.cell? ⟨w.heap.size, 10, none⟩ = some (.int .u8 a.ma) ∧ W.cell? ⟨w.heap.size, 11, none⟩ = some (.int .i64 a.s) ∧ W.cell? ⟨w.heap.size + 1, 0, none⟩ = some (.int .i64 b.k) ∧ W.cell? ⟨w.heap.size + 1, 1, none⟩ = some (.int .u64 b.n.lo) ∧ W.cell? ⟨w.heap.size + 1, 2, none⟩ = some (.int .u64 b.n.hi) ∧ W.cell? ⟨w.heap.size + 1, 3, none⟩ = some (.int .u64 b.b.lo) ∧ W.cell? ⟨w.heap.size + 1, 4, none⟩ = some (.int .u64 b.b.hi) ∧ W.cell? ⟨w.heap.size + 1, 5, none⟩ = some (.int .u64 b.e.lo) ∧ W.cell? ⟨w.heap.size + 1, 6, none⟩ = some (.int .u64 b.e.hi) ∧ W.cell? ⟨w.heap.size + 1, 7, none⟩ = some (.int .u64 b.p.lo) ∧ W.cell? ⟨w.heap.size + 1, 8, none⟩ = some (.int .u64 b.p.hi) ∧ W.cell? ⟨w.heap.size + 1, 9, none⟩ = some (.int .u8 b.mu) ∧ W.cell? ⟨w.heap.size + 1, 10, none⟩ = some (.int .u8 b.ma) ∧ W.cell? ⟨w.heap.size + 1, 11, none⟩ = some (.int .i64 b.s)) ((refine KS.out _ ?_; (repeat (first | with_reducible assumption | with_reducible exact Gr.refl _ | with_reducible refine Gr.drew ?_ | with_reducible refine Gr.alloc ?_ _)))) (first | (go_at_call 19; refine (h5.out _).mono ?_; rintro x wq ⟨rfl, q9⟩; have d1 : Gr wz wq := Gr.trans (by (repeat (first | with_reducible assumption | with_reducible exact Gr.refl _ | with_reducible refine Gr.drew ?_ | with_reducible refine Gr.alloc ?_ _))) q9; clear q9) | (go_at_call 20; refine (h6.out _).mono ?_; rintro x wq ⟨rfl, q9⟩; have d1 : Gr wz wq := Gr.trans (by (repeat (first | with_reducible assumption | with_reducible exact Gr.refl _ | with_reducible refine Gr.drew ?_ | with_reducible refine Gr.alloc ?_ _))) q9; clear q9))) | fail
    · revert d1
      revert wq
      exact key.out
  intro wz hz q
  clear hz KS
  replace B0 := T.Hid.mk (B0.out.gr q)
  replace B1 := T.Hid.mk (B1.out.gr q)
  replace G := T.Hid.mk (G.out.trans q)
  clear q h5 h6
  have ⟨z0, p0, f0⟩ := B0.out
  have ⟨z1, p1, f1⟩ := B1.out
  clear f0 f1
  go_wp2_with fail
  go_ret
  refine ⟨ret_bool (by simp), G.out⟩
end R
end Go.Proofs.Ytihminokipepcab
