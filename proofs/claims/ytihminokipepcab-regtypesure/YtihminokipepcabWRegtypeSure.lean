/-
  Stage 9, regtype: RegtypeSure, walked.
-/
import Derived.Test.YtihminokipepcabRLaw
import Derived.Test.YtihminokipepcabRProM
import Derived.Test.YtihminokipepcabRProH
import Derived.Test.YtihminokipepcabRProS
import Derived.Test.YtihminokipepcabRRefS
import Derived.Test.YtihminokipepcabRNum
import Derived.Test.YtihminokipepcabSSet
import Derived.Deep.RegionHeld3
namespace Go.Proofs.Ytihminokipepcab
namespace R
open Go.RowKit

set_option maxHeartbeats 16000000 in
theorem walk_RegtypeSure (r : RT) (t : Tt) (w : World) (hr : r.Rng) (ht : t.Rng) : Calls Try.prog 3 #[.agg r.vals.toArray, .agg t.vals.toArray] w fun x w' => x = .returned (.bool true) ∧ Gr w w' := by
  have h0 := T.Hid.mk (fun W => alive_any pInt_any pJoin_any W)
  have h1 := T.Hid.mk (fun W => pSure_any r t W hr ht)
  have h2 := T.Hid.mk (fun W => dSure_any r t W hr)
  clear hr ht
  generalize r.nm.sure t = u at *
  simp only [RT.agg, Tt.agg, RT.vals, Tt.vals] at h1 h2 ⊢
  go_enter Try.func3, Try.ntmps3
  go_upto_region 1 with fail
  have B0 : T.Hid (At (((w).alloc (.cells #[.int .i64 r.k, .int .u64 r.n.lo, .int .u64 r.n.hi, .int .u64 r.b.lo, .int .u64 r.b.hi, .int .u64 r.e.lo, .int .u64 r.e.hi, .int .u64 r.p.lo, .int .u64 r.p.hi, .int .u8 r.mu, .int .u8 r.ma, .int .i64 r.s] 28)).alloc (.cells #[.bool t.cap, .int .u64 t.b, .int .u64 t.e, .int .u64 t.lo, .int .u64 t.hi, .int .u8 t.pm, .int .i64 t.s] 30)) (w.heap.size) #[.int .i64 r.k, .int .u64 r.n.lo, .int .u64 r.n.hi, .int .u64 r.b.lo, .int .u64 r.b.hi, .int .u64 r.e.lo, .int .u64 r.e.hi, .int .u64 r.p.lo, .int .u64 r.p.hi, .int .u8 r.mu, .int .u8 r.ma, .int .i64 r.s]) := T.Hid.mk ((At.at_ (w) _ _ (by simp)).alloc _)
  have B1 : T.Hid (At (((w).alloc (.cells #[.int .i64 r.k, .int .u64 r.n.lo, .int .u64 r.n.hi, .int .u64 r.b.lo, .int .u64 r.b.hi, .int .u64 r.e.lo, .int .u64 r.e.hi, .int .u64 r.p.lo, .int .u64 r.p.hi, .int .u8 r.mu, .int .u8 r.ma, .int .i64 r.s] 28)).alloc (.cells #[.bool t.cap, .int .u64 t.b, .int .u64 t.e, .int .u64 t.lo, .int .u64 t.hi, .int .u8 t.pm, .int .i64 t.s] 30)) (w.heap.size + 1) #[.bool t.cap, .int .u64 t.b, .int .u64 t.e, .int .u64 t.lo, .int .u64 t.hi, .int .u8 t.pm, .int .i64 t.s]) := T.Hid.mk (At.at_ ((w).alloc (.cells #[.int .i64 r.k, .int .u64 r.n.lo, .int .u64 r.n.hi, .int .u64 r.b.lo, .int .u64 r.b.hi, .int .u64 r.e.lo, .int .u64 r.e.hi, .int .u64 r.p.lo, .int .u64 r.p.hi, .int .u8 r.mu, .int .u8 r.ma, .int .i64 r.s] 28)) _ _ (by simp))
  have G := T.Hid.mk (show Gr w (((w).alloc (.cells #[.int .i64 r.k, .int .u64 r.n.lo, .int .u64 r.n.hi, .int .u64 r.b.lo, .int .u64 r.b.hi, .int .u64 r.e.lo, .int .u64 r.e.hi, .int .u64 r.p.lo, .int .u64 r.p.hi, .int .u8 r.mu, .int .u8 r.ma, .int .i64 r.s] 28)).alloc (.cells #[.bool t.cap, .int .u64 t.b, .int .u64 t.e, .int .u64 t.lo, .int .u64 t.hi, .int .u8 t.pm, .int .i64 t.s] 30)) from (((Gr.refl w).alloc _).alloc _))
  generalize ((w).alloc (.cells #[.int .i64 r.k, .int .u64 r.n.lo, .int .u64 r.n.hi, .int .u64 r.b.lo, .int .u64 r.b.hi, .int .u64 r.e.lo, .int .u64 r.e.hi, .int .u64 r.p.lo, .int .u64 r.p.hi, .int .u8 r.mu, .int .u8 r.ma, .int .i64 r.s] 28)).alloc (.cells #[.bool t.cap, .int .u64 t.b, .int .u64 t.e, .int .u64 t.lo, .int .u64 t.hi, .int .u8 t.pm, .int .i64 t.s] 30) = W0 at G B0 B1 ⊢
  have ⟨z0, p0, f0⟩ := B0.out
  have ⟨z1, p1, f1⟩ := B1.out
  clear f0 f1
  go_upto_region 2 with (go_at_call 6; refine (h0.out _).mono ?_; rintro x w1 ⟨rfl, q⟩)
  clear z0 p0 z1 p1
  replace B0 := T.Hid.mk (B0.out.gr (q))
  replace B1 := T.Hid.mk (B1.out.gr (q))
  replace G := T.Hid.mk (G.out.trans (q))
  clear q h0
  have ⟨z0, p0, f0⟩ := B0.out
  have ⟨z1, p1, f1⟩ := B1.out
  clear f0 f1
  clear z0 p0 z1 p1
  have KS : T.Hid (∀ W, Gr w1 W → W.cell? ⟨w.heap.size, 0, none⟩ = some (.int .i64 r.k) ∧ W.cell? ⟨w.heap.size, 1, none⟩ = some (.int .u64 r.n.lo) ∧ W.cell? ⟨w.heap.size, 2, none⟩ = some (.int .u64 r.n.hi) ∧ W.cell? ⟨w.heap.size, 3, none⟩ = some (.int .u64 r.b.lo) ∧ W.cell? ⟨w.heap.size, 4, none⟩ = some (.int .u64 r.b.hi) ∧ W.cell? ⟨w.heap.size, 5, none⟩ = some (.int .u64 r.e.lo) ∧ W.cell? ⟨w.heap.size, 6, none⟩ = some (.int .u64 r.e.hi) ∧ W.cell? ⟨w.heap.size, 7, none⟩ = some (.int .u64 r.p.lo) ∧ W.cell? ⟨w.heap.size, 8, none⟩ = some (.int .u64 r.p.hi) ∧ W.cell? ⟨w.heap.size, 9, none⟩ = some (.int .u8 r.mu) ∧ W.cell? ⟨w.heap.size, 10, none⟩ = some (.int .u8 r.ma) ∧ W.cell? ⟨w.heap.size, 11, none⟩ = some (.int .i64 r.s) ∧ W.cell? ⟨w.heap.size + 1, 0, none⟩ = some (.bool t.cap) ∧ W.cell? ⟨w.heap.size + 1, 1, none⟩ = some (.int .u64 t.b) ∧ W.cell? ⟨w.heap.size + 1, 2, none⟩ = some (.int .u64 t.e) ∧ W.cell? ⟨w.heap.size + 1, 3, none⟩ = some (.int .u64 t.lo) ∧ W.cell? ⟨w.heap.size + 1, 4, none⟩ = some (.int .u64 t.hi) ∧ W.cell? ⟨w.heap.size + 1, 5, none⟩ = some (.int .u8 t.pm) ∧ W.cell? ⟨w.heap.size + 1, 6, none⟩ = some (.int .i64 t.s)) := T.Hid.mk (fun W g => by
    have a0 := (B0.out.gr g).2.1
    have a1 := (B1.out.gr g).2.1
    exact ⟨a0 0, a0 1, a0 2, a0 3, a0 4, a0 5, a0 6, a0 7, a0 8, a0 9, a0 10, a0 11, a1 0, a1 1, a1 2, a1 3, a1 4, a1 5, a1 6⟩)
  apply cut_rule
  · intro key
    first | (go_region_held3 (fun W => W.cell? ⟨w.heap.size, 0, none⟩ = some (.int .i64 r.k) ∧ W.cell? ⟨w.heap.size, 1, none⟩ = some (.int .u64 r.n.lo) ∧ W.cell? ⟨w.heap.size, 2, none⟩ = some (.int .u64 r.n.hi) ∧ W.cell? ⟨w.heap.size, 3, none⟩ = some (.int .u64 r.b.lo) ∧ W.cell? ⟨w.heap.size, 4, none⟩ = some (.int .u64 r.b.hi) ∧ W.cell? ⟨w.heap.size, 5, none⟩ = some (.int .u64 r.e.lo) ∧ W.cell? ⟨w.heap.size, 6, none⟩ = some (.int .u64 r.e.hi) ∧ W.cell? ⟨w.heap.size, 7, none⟩ = some (.int .u64 r.p.lo) ∧ W.cell? ⟨w.heap.size, 8, none⟩ = some (.int .u64 r.p.hi) ∧ W.cell? ⟨w.heap.size, 9, none⟩ = some (.int .u8 r.mu) ∧ W.cell? ⟨w.heap.size, 10, none⟩ = some (.int .u8 r.ma) ∧ W.cell? ⟨w.heap.size, 11, none⟩ = some (.int .i64 r.s) ∧ W.cell? ⟨w.heap.size + 1, 0, none⟩ = some (.bool t.cap) ∧ W.cell? ⟨w.heap.size + 1, 1, none⟩ = some (.int .u64 t.b) ∧ W.cell? ⟨w.heap.size + 1, 2, none⟩ = some (.int .u64 t.e) ∧ W.cell? ⟨w.heap.size + 1, 3, none⟩ = some (.int .u64 t.lo) ∧ W.cell? ⟨w.heap.size + 1, 4, none⟩ = some (.int .u64 t.hi) ∧ W.cell? ⟨w.heap.size + 1, 5, none⟩ = some (.int .u8 t.pm) ∧ W.cell? ⟨w.heap.size + 1, 6, none⟩ = some (.int .i64 t.s)) ((refine KS.out _ ?_; (repeat (first | with_reducible assumption | with_reducible exact Gr.refl _ | with_reducible refine Gr.drew ?_ | with_reducible refine Gr.alloc ?_ _)))) (first | (go_at_call 7; refine (h1.out _).mono ?_; rintro x wq ⟨rfl, q9⟩; have d1 : Gr w1 wq := Gr.trans (by (repeat (first | with_reducible assumption | with_reducible exact Gr.refl _ | with_reducible refine Gr.drew ?_ | with_reducible refine Gr.alloc ?_ _))) q9; clear q9) | (go_at_call 8; refine (h2.out _).mono ?_; rintro x wq ⟨rfl, q9⟩; have d1 : Gr w1 wq := Gr.trans (by (repeat (first | with_reducible assumption | with_reducible exact Gr.refl _ | with_reducible refine Gr.drew ?_ | with_reducible refine Gr.alloc ?_ _))) q9; clear q9))) | fail
    · revert d1
      revert wq
      exact key.out
  intro wz hz q
  clear hz KS
  replace B0 := T.Hid.mk (B0.out.gr q)
  replace B1 := T.Hid.mk (B1.out.gr q)
  replace G := T.Hid.mk (G.out.trans q)
  clear q h1 h2
  have ⟨z0, p0, f0⟩ := B0.out
  have ⟨z1, p1, f1⟩ := B1.out
  clear f0 f1
  go_wp2_with fail
  go_ret
  refine ⟨ret_bool (by simp), G.out⟩
end R
end Go.Proofs.Ytihminokipepcab
