/-
  Stage 9, regtype: RegtypeHas, walked.
-/
import Derived.Test.YtihminokipepcaaRLaw
import Derived.Test.YtihminokipepcaaRRefH
import Derived.Test.YtihminokipepcaaRProU
import Derived.Test.YtihminokipepcaaRNum
import Derived.Test.YtihminokipepcaaSSet
import Derived.Deep.RegionHeld3
namespace Go.Proofs.Ytihminokipepcaa
namespace R
open Go.RowKit

def CHas : Prop := ∀ (a : RT) (v : Vv) w, a.Rng → v.c.pm < 256 → Calls Try.prog 14 #[a.agg, v.agg] w fun x w' => x = .returned (.bool (a.nm.has v)) ∧ Gr w w'
set_option maxHeartbeats 16000000 in
theorem has_law (hI : CInt) (hJ : CJoin) (hH : CHas) (a : RT) (v : Vv) (w : World) (ha : a.Rng) (hv : v.Rng) : Calls Try.prog 6 #[a.agg, v.agg] w fun x w' => x = .returned (.bool true) ∧ Gr w w' := by
  have h0 := T.Hid.mk (fun W => alive_any hI hJ W)
  have h1 := T.Hid.mk (fun W => hH a v W ha hv.2.2.2.2)
  have h2 := T.Hid.mk (fun W => dHas_any a v W ha hv.2.2.2.2)
  clear hI hJ hH ha hv
  generalize a.nm.has v = u at *
  simp only [RT.agg, Vv.agg] at h1 h2 ⊢
  have L1 := grow_cell
  have L2 := grow_frozen
  have L3 := grow_set
  have L4 := grow_lt
  have L5 := glt1
  have L6 := glt2
  have L7 := glt3
  have L8 := lt1
  have L9 := lt2
  have L10 := lt3
  have L11 := lt4
  go_enter Try.func6, Try.ntmps6
  go_upto_region 2 with (go_at_call 9; refine (h0.out _).mono ?_; rintro x w' ⟨rfl, l1, rfl⟩)
  clear h0 L1 L2 L3 L4 L5 L6 L7 L8 L9 L10 L11
  have A0 : At (grow ((w.alloc (.cells #[.int .i64 a.k, .int .u64 a.n.lo, .int .u64 a.n.hi, .int .u64 a.b.lo, .int .u64 a.b.hi, .int .u64 a.e.lo, .int .u64 a.e.hi, .int .u64 a.p.lo, .int .u64 a.p.hi, .int .u8 a.mu, .int .u8 a.ma, .int .i64 a.s] 28)).alloc (.cells #[.bool v.tag, .int .u64 v.n, .int .u64 v.c.b, .int .u64 v.c.e, .int .u64 v.c.c, .int .u8 v.c.pm, .int .i64 v.c.s] 39)) l1) (w.heap.size) #[.int .i64 a.k, .int .u64 a.n.lo, .int .u64 a.n.hi, .int .u64 a.b.lo, .int .u64 a.b.hi, .int .u64 a.e.lo, .int .u64 a.e.hi, .int .u64 a.p.lo, .int .u64 a.p.hi, .int .u8 a.mu, .int .u8 a.ma, .int .i64 a.s] := ((At.new w _ _).alloc _).gr ((Gr.refl _).grow _)
  have V0 : At (grow ((w.alloc (.cells #[.int .i64 a.k, .int .u64 a.n.lo, .int .u64 a.n.hi, .int .u64 a.b.lo, .int .u64 a.b.hi, .int .u64 a.e.lo, .int .u64 a.e.hi, .int .u64 a.p.lo, .int .u64 a.p.hi, .int .u8 a.mu, .int .u8 a.ma, .int .i64 a.s] 28)).alloc (.cells #[.bool v.tag, .int .u64 v.n, .int .u64 v.c.b, .int .u64 v.c.e, .int .u64 v.c.c, .int .u8 v.c.pm, .int .i64 v.c.s] 39)) l1) (w.heap.size + 1) #[.bool v.tag, .int .u64 v.n, .int .u64 v.c.b, .int .u64 v.c.e, .int .u64 v.c.c, .int .u8 v.c.pm, .int .i64 v.c.s] := (At.next w _ _ _).gr ((Gr.refl _).grow _)
  have KS : ∀ W, Gr (grow ((w.alloc (.cells #[.int .i64 a.k, .int .u64 a.n.lo, .int .u64 a.n.hi, .int .u64 a.b.lo, .int .u64 a.b.hi, .int .u64 a.e.lo, .int .u64 a.e.hi, .int .u64 a.p.lo, .int .u64 a.p.hi, .int .u8 a.mu, .int .u8 a.ma, .int .i64 a.s] 28)).alloc (.cells #[.bool v.tag, .int .u64 v.n, .int .u64 v.c.b, .int .u64 v.c.e, .int .u64 v.c.c, .int .u8 v.c.pm, .int .i64 v.c.s] 39)) l1) W → W.cell? ⟨w.heap.size, 0, none⟩ = some (.int .i64 a.k) ∧ W.cell? ⟨w.heap.size, 1, none⟩ = some (.int .u64 a.n.lo) ∧ W.cell? ⟨w.heap.size, 2, none⟩ = some (.int .u64 a.n.hi) ∧ W.cell? ⟨w.heap.size, 3, none⟩ = some (.int .u64 a.b.lo) ∧ W.cell? ⟨w.heap.size, 4, none⟩ = some (.int .u64 a.b.hi) ∧ W.cell? ⟨w.heap.size, 5, none⟩ = some (.int .u64 a.e.lo) ∧ W.cell? ⟨w.heap.size, 6, none⟩ = some (.int .u64 a.e.hi) ∧ W.cell? ⟨w.heap.size, 7, none⟩ = some (.int .u64 a.p.lo) ∧ W.cell? ⟨w.heap.size, 8, none⟩ = some (.int .u64 a.p.hi) ∧ W.cell? ⟨w.heap.size, 9, none⟩ = some (.int .u8 a.mu) ∧ W.cell? ⟨w.heap.size, 10, none⟩ = some (.int .u8 a.ma) ∧ W.cell? ⟨w.heap.size, 11, none⟩ = some (.int .i64 a.s) ∧ W.cell? ⟨w.heap.size + 1, 0, none⟩ = some (.bool v.tag) ∧ W.cell? ⟨w.heap.size + 1, 1, none⟩ = some (.int .u64 v.n) ∧ W.cell? ⟨w.heap.size + 1, 2, none⟩ = some (.int .u64 v.c.b) ∧ W.cell? ⟨w.heap.size + 1, 3, none⟩ = some (.int .u64 v.c.e) ∧ W.cell? ⟨w.heap.size + 1, 4, none⟩ = some (.int .u64 v.c.c) ∧ W.cell? ⟨w.heap.size + 1, 5, none⟩ = some (.int .u8 v.c.pm) ∧ W.cell? ⟨w.heap.size + 1, 6, none⟩ = some (.int .i64 v.c.s) := fun W g => by
    have A0' := (A0.gr g).2.1
    have V0' := (V0.gr g).2.1
    exact ⟨A0' 0, A0' 1, A0' 2, A0' 3, A0' 4, A0' 5, A0' 6, A0' 7, A0' 8, A0' 9, A0' 10, A0' 11, V0' 0, V0' 1, V0' 2, V0' 3, V0' 4, V0' 5, V0' 6⟩
  generalize hR0 : grow ((w.alloc (.cells #[.int .i64 a.k, .int .u64 a.n.lo, .int .u64 a.n.hi, .int .u64 a.b.lo, .int .u64 a.b.hi, .int .u64 a.e.lo, .int .u64 a.e.hi, .int .u64 a.p.lo, .int .u64 a.p.hi, .int .u8 a.mu, .int .u8 a.ma, .int .i64 a.s] 28)).alloc (.cells #[.bool v.tag, .int .u64 v.n, .int .u64 v.c.b, .int .u64 v.c.e, .int .u64 v.c.c, .int .u8 v.c.pm, .int .i64 v.c.s] 39)) l1 = R0 at KS ⊢
  clear A0 V0
  replace KS := T.Hid.mk KS
  replace hR0 := T.Hid.mk hR0
  apply cut_rule
  · intro key
    go_region_held3 (fun W => W.cell? ⟨w.heap.size, 0, none⟩ = some (.int .i64 a.k) ∧ W.cell? ⟨w.heap.size, 1, none⟩ = some (.int .u64 a.n.lo) ∧ W.cell? ⟨w.heap.size, 2, none⟩ = some (.int .u64 a.n.hi) ∧ W.cell? ⟨w.heap.size, 3, none⟩ = some (.int .u64 a.b.lo) ∧ W.cell? ⟨w.heap.size, 4, none⟩ = some (.int .u64 a.b.hi) ∧ W.cell? ⟨w.heap.size, 5, none⟩ = some (.int .u64 a.e.lo) ∧ W.cell? ⟨w.heap.size, 6, none⟩ = some (.int .u64 a.e.hi) ∧ W.cell? ⟨w.heap.size, 7, none⟩ = some (.int .u64 a.p.lo) ∧ W.cell? ⟨w.heap.size, 8, none⟩ = some (.int .u64 a.p.hi) ∧ W.cell? ⟨w.heap.size, 9, none⟩ = some (.int .u8 a.mu) ∧ W.cell? ⟨w.heap.size, 10, none⟩ = some (.int .u8 a.ma) ∧ W.cell? ⟨w.heap.size, 11, none⟩ = some (.int .i64 a.s) ∧ W.cell? ⟨w.heap.size + 1, 0, none⟩ = some (.bool v.tag) ∧ W.cell? ⟨w.heap.size + 1, 1, none⟩ = some (.int .u64 v.n) ∧ W.cell? ⟨w.heap.size + 1, 2, none⟩ = some (.int .u64 v.c.b) ∧ W.cell? ⟨w.heap.size + 1, 3, none⟩ = some (.int .u64 v.c.e) ∧ W.cell? ⟨w.heap.size + 1, 4, none⟩ = some (.int .u64 v.c.c) ∧ W.cell? ⟨w.heap.size + 1, 5, none⟩ = some (.int .u8 v.c.pm) ∧ W.cell? ⟨w.heap.size + 1, 6, none⟩ = some (.int .i64 v.c.s)) ((refine KS.out _ ?_; (repeat (first | with_reducible assumption | with_reducible exact Gr.refl _ | with_reducible refine Gr.drew ?_ | with_reducible refine Gr.alloc ?_ _)))) (first | (go_at_call 14; refine (h1.out _).mono ?_; rintro x w1 ⟨rfl, q1⟩; have d1 : Gr R0 w1 := Gr.trans (by (repeat (first | with_reducible assumption | with_reducible exact Gr.refl _ | with_reducible refine Gr.drew ?_ | with_reducible refine Gr.alloc ?_ _))) q1; clear q1) | (go_at_call 15; refine (h2.out _).mono ?_; rintro x w1 ⟨rfl, q1⟩; have d1 : Gr R0 w1 := Gr.trans (by (repeat (first | with_reducible assumption | with_reducible exact Gr.refl _ | with_reducible refine Gr.drew ?_ | with_reducible refine Gr.alloc ?_ _))) q1; clear q1))
    · obtain ⟨lz, rfl⟩ := d1
      revert lz
      exact key.out
  intro lz hz
  have ez := hR0.out
  subst ez
  clear hz hR0 KS
  go_wp2_with fail
  go_ret
  refine ⟨rfl, ?_⟩
  repeat (first | exact Gr.refl _ | refine Gr.alloc ?_ _ | refine Gr.grow ?_ _ | refine Gr.drew ?_)
end R
end Go.Proofs.Ytihminokipepcaa
