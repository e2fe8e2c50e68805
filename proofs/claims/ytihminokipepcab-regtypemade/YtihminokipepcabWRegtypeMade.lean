/-
  Stage 9, regtype: RegtypeMade, walked.
-/
import Derived.Test.YtihminokipepcabRLaw
import Derived.Test.YtihminokipepcabRProM
import Derived.Test.YtihminokipepcabRProX
import Derived.Test.YtihminokipepcabRRefK
import Derived.Test.YtihminokipepcabRNum
import Derived.Test.YtihminokipepcabSSet
import Derived.Deep.RegionHeld3
namespace Go.Proofs.Ytihminokipepcab
namespace R
open Go.RowKit

theorem eqRT_self' (a : RT) (W : World) : (binOp .eql 28 a.agg a.agg).run Try.prog W = .ok (.bool true) W := by
  rw [eqRT, RT.eqB_iff.2 rfl]
set_option maxHeartbeats 16000000 in
theorem walk_RegtypeMade (s : Sp) (c : Kc) (t : Tt) (w : World) (hs : s.u64) (hc : c.Rng) (ht : t.Rng) : Calls Try.prog 4 #[.agg s.vals.toArray, .agg c.vals.toArray, .agg t.vals.toArray] w fun x w' => x = .returned (.bool true) ∧ Gr w w' := by
  have h0 := T.Hid.mk (fun W => alive_any pInt_any pJoin_any W)
  have h1 := T.Hid.mk (fun W => pInt_any s W hs)
  have h2 := T.Hid.mk (fun W => dInt_any s W hs)
  have h3 := T.Hid.mk (fun W => pExact_any c W hc)
  have h4 := T.Hid.mk (fun W => dExact_any c W hc)
  have h5 := T.Hid.mk (fun W => pOf_any t W ht)
  have h6 := T.Hid.mk (fun W => dOf_any t W ht)
  have q1 := fun W => eqRT_self' (mkInt s).rt W
  have q2 := fun W => eqRT_self' (exK c).rt W
  have q3 := fun W => eqRT_self' (ofT t).rt W
  clear hs hc ht
  generalize (mkInt s).rt = I at *
  generalize (exK c).rt = E at *
  generalize (ofT t).rt = O at *
  simp only [RT.agg, Kc.agg', Tt.agg, Kc.vals, Tt.vals, Sp.vals] at h1 h2 h3 h4 h5 h6 q1 q2 q3 ⊢
  go_enter Try.func4, Try.ntmps4
  go_upto_region 1 with fail
  have B0 : T.Hid (At ((((w).alloc (.cells #[.int .u64 s.lo, .int .u64 s.hi] 25)).alloc (.cells #[.int .u64 c.b, .int .u64 c.e, .int .u64 c.c, .int .u8 c.pm, .int .i64 c.s] 34)).alloc (.cells #[.bool t.cap, .int .u64 t.b, .int .u64 t.e, .int .u64 t.lo, .int .u64 t.hi, .int .u8 t.pm, .int .i64 t.s] 30)) (w.heap.size) #[.int .u64 s.lo, .int .u64 s.hi]) := T.Hid.mk (((At.at_ (w) _ _ (by simp)).alloc _).alloc _)
  have B1 : T.Hid (At ((((w).alloc (.cells #[.int .u64 s.lo, .int .u64 s.hi] 25)).alloc (.cells #[.int .u64 c.b, .int .u64 c.e, .int .u64 c.c, .int .u8 c.pm, .int .i64 c.s] 34)).alloc (.cells #[.bool t.cap, .int .u64 t.b, .int .u64 t.e, .int .u64 t.lo, .int .u64 t.hi, .int .u8 t.pm, .int .i64 t.s] 30)) (w.heap.size + 1) #[.int .u64 c.b, .int .u64 c.e, .int .u64 c.c, .int .u8 c.pm, .int .i64 c.s]) := T.Hid.mk ((At.at_ ((w).alloc (.cells #[.int .u64 s.lo, .int .u64 s.hi] 25)) _ _ (by simp)).alloc _)
  have B2 : T.Hid (At ((((w).alloc (.cells #[.int .u64 s.lo, .int .u64 s.hi] 25)).alloc (.cells #[.int .u64 c.b, .int .u64 c.e, .int .u64 c.c, .int .u8 c.pm, .int .i64 c.s] 34)).alloc (.cells #[.bool t.cap, .int .u64 t.b, .int .u64 t.e, .int .u64 t.lo, .int .u64 t.hi, .int .u8 t.pm, .int .i64 t.s] 30)) (w.heap.size + 1 + 1) #[.bool t.cap, .int .u64 t.b, .int .u64 t.e, .int .u64 t.lo, .int .u64 t.hi, .int .u8 t.pm, .int .i64 t.s]) := T.Hid.mk (At.at_ (((w).alloc (.cells #[.int .u64 s.lo, .int .u64 s.hi] 25)).alloc (.cells #[.int .u64 c.b, .int .u64 c.e, .int .u64 c.c, .int .u8 c.pm, .int .i64 c.s] 34)) _ _ (by simp))
  have G := T.Hid.mk (show Gr w ((((w).alloc (.cells #[.int .u64 s.lo, .int .u64 s.hi] 25)).alloc (.cells #[.int .u64 c.b, .int .u64 c.e, .int .u64 c.c, .int .u8 c.pm, .int .i64 c.s] 34)).alloc (.cells #[.bool t.cap, .int .u64 t.b, .int .u64 t.e, .int .u64 t.lo, .int .u64 t.hi, .int .u8 t.pm, .int .i64 t.s] 30)) from ((((Gr.refl w).alloc _).alloc _).alloc _))
  generalize (((w).alloc (.cells #[.int .u64 s.lo, .int .u64 s.hi] 25)).alloc (.cells #[.int .u64 c.b, .int .u64 c.e, .int .u64 c.c, .int .u8 c.pm, .int .i64 c.s] 34)).alloc (.cells #[.bool t.cap, .int .u64 t.b, .int .u64 t.e, .int .u64 t.lo, .int .u64 t.hi, .int .u8 t.pm, .int .i64 t.s] 30) = W0 at G B0 B1 B2 ⊢
  have ⟨z0, p0, f0⟩ := B0.out
  have ⟨z1, p1, f1⟩ := B1.out
  have ⟨z2, p2, f2⟩ := B2.out
  clear f0 f1 f2
  go_upto_region 2 with (go_at_call 6; refine (h0.out _).mono ?_; rintro x w1 ⟨rfl, q⟩)
  clear z0 p0 z1 p1 z2 p2
  replace B0 := T.Hid.mk (B0.out.gr (q))
  replace B1 := T.Hid.mk (B1.out.gr (q))
  replace B2 := T.Hid.mk (B2.out.gr (q))
  replace G := T.Hid.mk (G.out.trans (q))
  clear q h0
  have ⟨z0, p0, f0⟩ := B0.out
  have ⟨z1, p1, f1⟩ := B1.out
  have ⟨z2, p2, f2⟩ := B2.out
  clear f0 f1 f2
  clear z0 p0 z1 p1 z2 p2
  have KS : T.Hid (∀ W, Gr w1 W → W.cell? ⟨w.heap.size, 0, none⟩ = some (.int .u64 s.lo) ∧ W.cell? ⟨w.heap.size, 1, none⟩ = some (.int .u64 s.hi) ∧ W.cell? ⟨w.heap.size + 1, 0, none⟩ = some (.int .u64 c.b) ∧ W.cell? ⟨w.heap.size + 1, 1, none⟩ = some (.int .u64 c.e) ∧ W.cell? ⟨w.heap.size + 1, 2, none⟩ = some (.int .u64 c.c) ∧ W.cell? ⟨w.heap.size + 1, 3, none⟩ = some (.int .u8 c.pm) ∧ W.cell? ⟨w.heap.size + 1, 4, none⟩ = some (.int .i64 c.s) ∧ W.cell? ⟨w.heap.size + 1 + 1, 0, none⟩ = some (.bool t.cap) ∧ W.cell? ⟨w.heap.size + 1 + 1, 1, none⟩ = some (.int .u64 t.b) ∧ W.cell? ⟨w.heap.size + 1 + 1, 2, none⟩ = some (.int .u64 t.e) ∧ W.cell? ⟨w.heap.size + 1 + 1, 3, none⟩ = some (.int .u64 t.lo) ∧ W.cell? ⟨w.heap.size + 1 + 1, 4, none⟩ = some (.int .u64 t.hi) ∧ W.cell? ⟨w.heap.size + 1 + 1, 5, none⟩ = some (.int .u8 t.pm) ∧ W.cell? ⟨w.heap.size + 1 + 1, 6, none⟩ = some (.int .i64 t.s)) := T.Hid.mk (fun W g => by
    have a0 := (B0.out.gr g).2.1
    have a1 := (B1.out.gr g).2.1
    have a2 := (B2.out.gr g).2.1
    exact ⟨a0 0, a0 1, a1 0, a1 1, a1 2, a1 3, a1 4, a2 0, a2 1, a2 2, a2 3, a2 4, a2 5, a2 6⟩)
  apply cut_rule
  · intro key
    first | (go_region_held3 (fun W => W.cell? ⟨w.heap.size, 0, none⟩ = some (.int .u64 s.lo) ∧ W.cell? ⟨w.heap.size, 1, none⟩ = some (.int .u64 s.hi) ∧ W.cell? ⟨w.heap.size + 1, 0, none⟩ = some (.int .u64 c.b) ∧ W.cell? ⟨w.heap.size + 1, 1, none⟩ = some (.int .u64 c.e) ∧ W.cell? ⟨w.heap.size + 1, 2, none⟩ = some (.int .u64 c.c) ∧ W.cell? ⟨w.heap.size + 1, 3, none⟩ = some (.int .u8 c.pm) ∧ W.cell? ⟨w.heap.size + 1, 4, none⟩ = some (.int .i64 c.s) ∧ W.cell? ⟨w.heap.size + 1 + 1, 0, none⟩ = some (.bool t.cap) ∧ W.cell? ⟨w.heap.size + 1 + 1, 1, none⟩ = some (.int .u64 t.b) ∧ W.cell? ⟨w.heap.size + 1 + 1, 2, none⟩ = some (.int .u64 t.e) ∧ W.cell? ⟨w.heap.size + 1 + 1, 3, none⟩ = some (.int .u64 t.lo) ∧ W.cell? ⟨w.heap.size + 1 + 1, 4, none⟩ = some (.int .u64 t.hi) ∧ W.cell? ⟨w.heap.size + 1 + 1, 5, none⟩ = some (.int .u8 t.pm) ∧ W.cell? ⟨w.heap.size + 1 + 1, 6, none⟩ = some (.int .i64 t.s)) ((refine KS.out _ ?_; (repeat (first | with_reducible assumption | with_reducible exact Gr.refl _ | with_reducible refine Gr.drew ?_ | with_reducible refine Gr.alloc ?_ _)))) (first | (go_at_call 9; refine (h1.out _).mono ?_; rintro x wq ⟨rfl, q9⟩; have d1 : Gr w1 wq := Gr.trans (by (repeat (first | with_reducible assumption | with_reducible exact Gr.refl _ | with_reducible refine Gr.drew ?_ | with_reducible refine Gr.alloc ?_ _))) q9; clear q9) | (go_at_call 10; refine (h2.out _).mono ?_; rintro x wq ⟨rfl, q9⟩; have d1 : Gr w1 wq := Gr.trans (by (repeat (first | with_reducible assumption | with_reducible exact Gr.refl _ | with_reducible refine Gr.drew ?_ | with_reducible refine Gr.alloc ?_ _))) q9; clear q9) | (go_at_call 11; refine (h3.out _).mono ?_; rintro x wq ⟨rfl, q9⟩; have d1 : Gr w1 wq := Gr.trans (by (repeat (first | with_reducible assumption | with_reducible exact Gr.refl _ | with_reducible refine Gr.drew ?_ | with_reducible refine Gr.alloc ?_ _))) q9; clear q9) | (go_at_call 12; refine (h4.out _).mono ?_; rintro x wq ⟨rfl, q9⟩; have d1 : Gr w1 wq := Gr.trans (by (repeat (first | with_reducible assumption | with_reducible exact Gr.refl _ | with_reducible refine Gr.drew ?_ | with_reducible refine Gr.alloc ?_ _))) q9; clear q9) | (go_at_call 13; refine (h5.out _).mono ?_; rintro x wq ⟨rfl, q9⟩; have d1 : Gr w1 wq := Gr.trans (by (repeat (first | with_reducible assumption | with_reducible exact Gr.refl _ | with_reducible refine Gr.drew ?_ | with_reducible refine Gr.alloc ?_ _))) q9; clear q9) | (go_at_call 14; refine (h6.out _).mono ?_; rintro x wq ⟨rfl, q9⟩; have d1 : Gr w1 wq := Gr.trans (by (repeat (first | with_reducible assumption | with_reducible exact Gr.refl _ | with_reducible refine Gr.drew ?_ | with_reducible refine Gr.alloc ?_ _))) q9; clear q9))) | fail
    · revert d1
      revert wq
      exact key.out
  intro wz hz q
  clear hz KS
  replace B0 := T.Hid.mk (B0.out.gr q)
  replace B1 := T.Hid.mk (B1.out.gr q)
  replace B2 := T.Hid.mk (B2.out.gr q)
  replace G := T.Hid.mk (G.out.trans q)
  clear q h1 h2 h3 h4 h5 h6
  have ⟨z0, p0, f0⟩ := B0.out
  have ⟨z1, p1, f1⟩ := B1.out
  have ⟨z2, p2, f2⟩ := B2.out
  clear f0 f1 f2
  go_wp2_with fail
  go_ret
  refine ⟨ret_bool (by simp), G.out⟩
end R
end Go.Proofs.Ytihminokipepcab
