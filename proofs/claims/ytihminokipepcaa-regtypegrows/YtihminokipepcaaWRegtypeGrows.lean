/-
  Stage 9, regtype: RegtypeGrows, walked.
-/
import Derived.Test.YtihminokipepcaaRLaw
import Derived.Test.YtihminokipepcaaRProM
import Derived.Test.YtihminokipepcaaRProN
import Derived.Test.YtihminokipepcaaRProU
import Derived.Test.YtihminokipepcaaRProH
import Derived.Test.YtihminokipepcaaRNum
import Derived.Test.YtihminokipepcaaTEin
import Derived.Test.YtihminokipepcaaRSt12
import Derived.Deep.RegionHeld3
import Derived.StillTactics
import Derived.Deep.DeepCutAuto
namespace Go.Proofs.Ytihminokipepcaa
namespace R
open Go.RowKit

theorem neRT_self (a : RT) (W : World) : (binOp .neq 28 a.agg a.agg).run Try.prog W = .ok (.bool false) W := by
  rw [neRT, RT.eqB_iff.2 rfl]; rfl
set_option maxHeartbeats 16000000 in
theorem walk_RegtypeGrows (r : RT) (L : List RT) (a : Option Addr) (cap : Nat) (w : World) (hr : r.Rng) (hL : (∀ x ∈ L, x.Rng) ∧ T.EIn 12 RT.vals w a L) (hlen : L.length ≤ maxLen) : Calls Try.prog 5 #[.agg r.vals.toArray, .slice a L.length cap] w fun x w' => x = .returned (.bool true) ∧ Gr w w' := by
  have ml : (L.length : Int) ≤ 9223372036854775807 := by unfold maxLen at hlen; omega
  have h0 := T.Hid.mk (fun W => alive_any pInt_any pJoin_any W)
  have h1 := T.Hid.mk (fun W => norm_any pJoin_any r W hr)
  have oR := T.Hid.mk (RT.nm_ok hr)
  have kR := T.Hid.mk (RV.rk_le r.nm)
  clear hr hlen
  generalize r.nm = X0 at *
  simp only [RT.agg, RT.vals] at h1 ⊢
  replace hL := T.Hid.mk hL
  go_enter Try.func5, Try.ntmps5
  go_upto_region 1 with fail
  have B0 : T.Hid (At ((w).alloc (.cells #[.int .i64 r.k, .int .u64 r.n.lo, .int .u64 r.n.hi, .int .u64 r.b.lo, .int .u64 r.b.hi, .int .u64 r.e.lo, .int .u64 r.e.hi, .int .u64 r.p.lo, .int .u64 r.p.hi, .int .u8 r.mu, .int .u8 r.ma, .int .i64 r.s] 28)) (w.heap.size) #[.int .i64 r.k, .int .u64 r.n.lo, .int .u64 r.n.hi, .int .u64 r.b.lo, .int .u64 r.b.hi, .int .u64 r.e.lo, .int .u64 r.e.hi, .int .u64 r.p.lo, .int .u64 r.p.hi, .int .u8 r.mu, .int .u8 r.ma, .int .i64 r.s]) := T.Hid.mk (At.at_ (w) _ _ (by simp))
  have G := T.Hid.mk (show Gr w ((w).alloc (.cells #[.int .i64 r.k, .int .u64 r.n.lo, .int .u64 r.n.hi, .int .u64 r.b.lo, .int .u64 r.b.hi, .int .u64 r.e.lo, .int .u64 r.e.hi, .int .u64 r.p.lo, .int .u64 r.p.hi, .int .u8 r.mu, .int .u8 r.ma, .int .i64 r.s] 28)) from ((Gr.refl w).alloc _))
  generalize (w).alloc (.cells #[.int .i64 r.k, .int .u64 r.n.lo, .int .u64 r.n.hi, .int .u64 r.b.lo, .int .u64 r.b.hi, .int .u64 r.e.lo, .int .u64 r.e.hi, .int .u64 r.p.lo, .int .u64 r.p.hi, .int .u8 r.mu, .int .u8 r.ma, .int .i64 r.s] 28) = W0 at G B0 ⊢
  have ⟨z0, p0, f0⟩ := B0.out
  clear f0
  go_upto_region 2 with (go_at_call 9; refine (h0.out _).mono ?_; rintro x w1 ⟨rfl, q⟩)
  clear z0 p0
  replace B0 := T.Hid.mk (B0.out.gr (q))
  replace G := T.Hid.mk (G.out.trans (q))
  clear q h0
  have ⟨z0, p0, f0⟩ := B0.out
  clear f0
  go_upto_region 3 with (go_at_call 11; refine (h1.out _).mono ?_; rintro x w2 ⟨rfl, q⟩)
  clear z0 p0
  replace B0 := T.Hid.mk (B0.out.gr (q.alloc (.cells #[.int .i64 X0.rt.k, .int .u64 X0.rt.n.lo, .int .u64 X0.rt.n.hi, .int .u64 X0.rt.b.lo, .int .u64 X0.rt.b.hi, .int .u64 X0.rt.e.lo, .int .u64 X0.rt.e.hi, .int .u64 X0.rt.p.lo, .int .u64 X0.rt.p.hi, .int .u8 X0.rt.mu, .int .u8 X0.rt.ma, .int .i64 X0.rt.s] 28)))
  have G0 := G
  replace G := T.Hid.mk (G.out.trans (q.alloc (.cells #[.int .i64 X0.rt.k, .int .u64 X0.rt.n.lo, .int .u64 X0.rt.n.hi, .int .u64 X0.rt.b.lo, .int .u64 X0.rt.b.hi, .int .u64 X0.rt.e.lo, .int .u64 X0.rt.e.hi, .int .u64 X0.rt.p.lo, .int .u64 X0.rt.p.hi, .int .u8 X0.rt.mu, .int .u8 X0.rt.ma, .int .i64 X0.rt.s] 28)))
  have B1 := T.Hid.mk (At.new w2 #[.int .i64 X0.rt.k, .int .u64 X0.rt.n.lo, .int .u64 X0.rt.n.hi, .int .u64 X0.rt.b.lo, .int .u64 X0.rt.b.hi, .int .u64 X0.rt.e.lo, .int .u64 X0.rt.e.hi, .int .u64 X0.rt.p.lo, .int .u64 X0.rt.p.hi, .int .u8 X0.rt.mu, .int .u8 X0.rt.ma, .int .i64 X0.rt.s] 28)
  have hk : w.heap.size ≤ w2.heap.size := (Gr.trans G0.out q).below.size
  generalize w2.alloc (.cells #[.int .i64 X0.rt.k, .int .u64 X0.rt.n.lo, .int .u64 X0.rt.n.hi, .int .u64 X0.rt.b.lo, .int .u64 X0.rt.b.hi, .int .u64 X0.rt.e.lo, .int .u64 X0.rt.e.hi, .int .u64 X0.rt.p.lo, .int .u64 X0.rt.p.hi, .int .u8 X0.rt.mu, .int .u8 X0.rt.ma, .int .i64 X0.rt.s] 28) = W2 at G B0 B1 ⊢
  generalize w2.heap.size = k1 at B1 hk ⊢
  clear G0
  clear q h1
  have ⟨z0, p0, f0⟩ := B0.out
  have ⟨z1, p1, f1⟩ := B1.out
  clear f0 f1
  clear z0 p0 z1 p1 B0
  go_upto_region 5 with fail
  go_loopw [7, 8] (fun cn i wr => ∃ (n j : Nat) (X : RV), cn = .int .i64 n ∧ i = .int .i64 j ∧ j ≤ L.length ∧ T.Hid (n + X.rk ≤ 22) ∧ T.Hid X.ok ∧ T.Hid (At wr k1 #[.int .i64 X.rt.k, .int .u64 X.rt.n.lo, .int .u64 X.rt.n.hi, .int .u64 X.rt.b.lo, .int .u64 X.rt.b.hi, .int .u64 X.rt.e.lo, .int .u64 X.rt.e.hi, .int .u64 X.rt.p.lo, .int .u64 X.rt.p.hi, .int .u8 X.rt.mu, .int .u8 X.rt.ma, .int .i64 X.rt.s]) ∧ T.Hid (Gr w wr)) (fun _ i _ => L.length - (intOf i).toNat)
  case atStart => exact ⟨0, 0, X0, rfl, rfl, by omega, T.Hid.mk (by have := kR.out; omega), oR, B1, G⟩
  case round =>
    clear B1 G oR kR
    obtain ⟨n, j, X, rfl, rfl, hj, hr, hx, B1, G⟩ := hrel
    by_cases hlt : j < L.length
    · have hr22 : n ≤ 22 := by have := hr.out; omega
      obtain ⟨b, off, rfl, hb, hE⟩ := hL.out.2 j hlt
      have oE := hL.out.1 _ (List.getElem_mem hlt)
      generalize L[j] = E at *
      have hjl : (j : Int) < L.length := by omega
      replace hE := T.Hid.mk hE
      replace hb := T.Hid.mk hb
      clear hlt
      have oX := hx.out
      have oY := RV.wd_ok oX (RT.nm_ok oE)
      have rX := RV.rt_rng oX
      have rY := RV.rt_rng oY
      have h1 := T.Hid.mk (fun W => pWiden_any X.rt E W rX oE)
      have h2 := T.Hid.mk (fun W => pUnder_any X.rt (X.wd E.nm).rt W rX rY)
      have h3 := T.Hid.mk (fun W => pUnder_any E (X.wd E.nm).rt W oE rY)
      have h4 := T.Hid.mk (fun W => pWiden_any (X.wd E.nm).rt (X.wd E.nm).rt W rY rY)
      have h5 := T.Hid.mk (fun W => pUnder_any E X.rt W oE rX)
      rw [RV.nm_rt oX] at h1
      rw [RV.nm_rt oX, RV.nm_rt oY, (RV.und_wd oX (RT.nm_ok oE)).1] at h2
      rw [RV.nm_rt oY, (RV.und_wd oX (RT.nm_ok oE)).2] at h3
      rw [RV.nm_rt oY, RV.wd_self oY] at h4
      rw [RV.nm_rt oX] at h5
      have e1 : E.nm.und X = true → X.wd E.nm = X := fun h => RV.wd_same h oX (RT.nm_ok oE)
      have e2 : X.wd E.nm ≠ X → (X.wd E.nm).rk < X.rk := RV.wd_rk oX (RT.nm_ok oE)
      have q1 := fun W => neRT_self (X.wd E.nm).rt W
      have q2 := fun W => neRT (X.wd E.nm).rt X.rt W
      have e3 : (!(X.wd E.nm).rt.eqB X.rt) = false ↔ X.wd E.nm = X := by
        rw [Bool.not_eq_false', RT.eqB_iff]
        exact ⟨fun h => RV.rt_inj h, fun h => by rw [h]⟩
      generalize (!(X.wd E.nm).rt.eqB X.rt) = v at *
      generalize E.nm.und X = u at *
      generalize X.wd E.nm = Y at *
      replace hx := T.Hid.mk oY
      clear oE oX oY rX rY
      simp only [RT.agg, RT.vals] at h1 h2 h3 h4 h5 q1 q2 hE
      replace e1 := T.Hid.mk e1
      replace e2 := T.Hid.mk e2
      replace e3 := T.Hid.mk e3
      go_upto_region 7 with fail
      have X0 := B1
      have KS : T.Hid (∀ W, Gr wr W → W.cell? ⟨k1, 0, none⟩ = some (.int .i64 X.rt.k) ∧ W.cell? ⟨k1, 1, none⟩ = some (.int .u64 X.rt.n.lo) ∧ W.cell? ⟨k1, 2, none⟩ = some (.int .u64 X.rt.n.hi) ∧ W.cell? ⟨k1, 3, none⟩ = some (.int .u64 X.rt.b.lo) ∧ W.cell? ⟨k1, 4, none⟩ = some (.int .u64 X.rt.b.hi) ∧ W.cell? ⟨k1, 5, none⟩ = some (.int .u64 X.rt.e.lo) ∧ W.cell? ⟨k1, 6, none⟩ = some (.int .u64 X.rt.e.hi) ∧ W.cell? ⟨k1, 7, none⟩ = some (.int .u64 X.rt.p.lo) ∧ W.cell? ⟨k1, 8, none⟩ = some (.int .u64 X.rt.p.hi) ∧ W.cell? ⟨k1, 9, none⟩ = some (.int .u8 X.rt.mu) ∧ W.cell? ⟨k1, 10, none⟩ = some (.int .u8 X.rt.ma) ∧ W.cell? ⟨k1, 11, none⟩ = some (.int .i64 X.rt.s) ∧ W.cell? ⟨b, off + j * 12, none⟩ = some (.int .i64 E.k) ∧ W.cell? ⟨b, off + j * 12 + 1, none⟩ = some (.int .u64 E.n.lo) ∧ W.cell? ⟨b, off + j * 12 + 2, none⟩ = some (.int .u64 E.n.hi) ∧ W.cell? ⟨b, off + j * 12 + 3, none⟩ = some (.int .u64 E.b.lo) ∧ W.cell? ⟨b, off + j * 12 + 4, none⟩ = some (.int .u64 E.b.hi) ∧ W.cell? ⟨b, off + j * 12 + 5, none⟩ = some (.int .u64 E.e.lo) ∧ W.cell? ⟨b, off + j * 12 + 6, none⟩ = some (.int .u64 E.e.hi) ∧ W.cell? ⟨b, off + j * 12 + 7, none⟩ = some (.int .u64 E.p.lo) ∧ W.cell? ⟨b, off + j * 12 + 8, none⟩ = some (.int .u64 E.p.hi) ∧ W.cell? ⟨b, off + j * 12 + 9, none⟩ = some (.int .u8 E.mu) ∧ W.cell? ⟨b, off + j * 12 + 10, none⟩ = some (.int .u8 E.ma) ∧ W.cell? ⟨b, off + j * 12 + 11, none⟩ = some (.int .i64 E.s)) := T.Hid.mk (fun W g => by
        have a0 := (B1.out.gr g).2.1
        have aE := fun i v q => ((G.out.trans g).below.cell (p := ⟨b, _, none⟩) hb.out).trans (hE.out i v q)
        exact ⟨a0 0, a0 1, a0 2, a0 3, a0 4, a0 5, a0 6, a0 7, a0 8, a0 9, a0 10, a0 11, aE 0 _ rfl, aE 1 _ rfl, aE 2 _ rfl, aE 3 _ rfl, aE 4 _ rfl, aE 5 _ rfl, aE 6 _ rfl, aE 7 _ rfl, aE 8 _ rfl, aE 9 _ rfl, aE 10 _ rfl, aE 11 _ rfl⟩)
      apply cut_rule
      · intro key
        go_region_held3 (fun W => W.cell? ⟨k1, 0, none⟩ = some (.int .i64 X.rt.k) ∧ W.cell? ⟨k1, 1, none⟩ = some (.int .u64 X.rt.n.lo) ∧ W.cell? ⟨k1, 2, none⟩ = some (.int .u64 X.rt.n.hi) ∧ W.cell? ⟨k1, 3, none⟩ = some (.int .u64 X.rt.b.lo) ∧ W.cell? ⟨k1, 4, none⟩ = some (.int .u64 X.rt.b.hi) ∧ W.cell? ⟨k1, 5, none⟩ = some (.int .u64 X.rt.e.lo) ∧ W.cell? ⟨k1, 6, none⟩ = some (.int .u64 X.rt.e.hi) ∧ W.cell? ⟨k1, 7, none⟩ = some (.int .u64 X.rt.p.lo) ∧ W.cell? ⟨k1, 8, none⟩ = some (.int .u64 X.rt.p.hi) ∧ W.cell? ⟨k1, 9, none⟩ = some (.int .u8 X.rt.mu) ∧ W.cell? ⟨k1, 10, none⟩ = some (.int .u8 X.rt.ma) ∧ W.cell? ⟨k1, 11, none⟩ = some (.int .i64 X.rt.s) ∧ W.cell? ⟨b, off + j * 12, none⟩ = some (.int .i64 E.k) ∧ W.cell? ⟨b, off + j * 12 + 1, none⟩ = some (.int .u64 E.n.lo) ∧ W.cell? ⟨b, off + j * 12 + 2, none⟩ = some (.int .u64 E.n.hi) ∧ W.cell? ⟨b, off + j * 12 + 3, none⟩ = some (.int .u64 E.b.lo) ∧ W.cell? ⟨b, off + j * 12 + 4, none⟩ = some (.int .u64 E.b.hi) ∧ W.cell? ⟨b, off + j * 12 + 5, none⟩ = some (.int .u64 E.e.lo) ∧ W.cell? ⟨b, off + j * 12 + 6, none⟩ = some (.int .u64 E.e.hi) ∧ W.cell? ⟨b, off + j * 12 + 7, none⟩ = some (.int .u64 E.p.lo) ∧ W.cell? ⟨b, off + j * 12 + 8, none⟩ = some (.int .u64 E.p.hi) ∧ W.cell? ⟨b, off + j * 12 + 9, none⟩ = some (.int .u8 E.mu) ∧ W.cell? ⟨b, off + j * 12 + 10, none⟩ = some (.int .u8 E.ma) ∧ W.cell? ⟨b, off + j * 12 + 11, none⟩ = some (.int .i64 E.s)) ((refine KS.out _ ?_; (repeat (first | with_reducible assumption | with_reducible exact Gr.refl _ | with_reducible refine Gr.drew ?_ | with_reducible refine Gr.alloc ?_ _ | with_reducible refine Gr.setCell ?_ _ _ _ (by have := y1.out.2; omega))))) ((go_at_call 13; refine (h1.out _).mono ?_; rintro x w1 ⟨rfl, q1⟩; have d1 : Gr wr w1 := Gr.trans (by (repeat (first | with_reducible assumption | with_reducible exact Gr.refl _ | with_reducible refine Gr.drew ?_ | with_reducible refine Gr.alloc ?_ _ | with_reducible refine Gr.setCell ?_ _ _ _ (by have := y1.out.2; omega)))) q1; (first | (have y1 : T.Hid (At w1 wr.heap.size #[.int .i64 0, .int .u64 0, .int .u64 0, .int .u64 0, .int .u64 0, .int .u64 0, .int .u64 0, .int .u64 0, .int .u64 0, .int .u8 0, .int .u8 0, .int .i64 0] ∧ k1 < wr.heap.size ∧ wr.heap.size ≤ wr.heap.size) := T.Hid.mk (new_gr (W := wr.drew) (by (repeat (first | with_reducible assumption | with_reducible exact Gr.refl _ | with_reducible refine Gr.drew ?_ | with_reducible refine Gr.alloc ?_ _ | with_reducible refine Gr.setCell ?_ _ _ _ (by have := y1.out.2; omega)))) X0.out q1); have ⟨⟨z9, p9, f9⟩, y9⟩ := y1.out) | skip); clear q1))
        · have a1 : At (w1.alloc (.cells #[.int .i64 Y.rt.k, .int .u64 Y.rt.n.lo, .int .u64 Y.rt.n.hi, .int .u64 Y.rt.b.lo, .int .u64 Y.rt.b.hi, .int .u64 Y.rt.e.lo, .int .u64 Y.rt.e.hi, .int .u64 Y.rt.p.lo, .int .u64 Y.rt.p.hi, .int .u8 Y.rt.mu, .int .u8 Y.rt.ma, .int .i64 Y.rt.s] 28)) w1.heap.size #[.int .i64 Y.rt.k, .int .u64 Y.rt.n.lo, .int .u64 Y.rt.n.hi, .int .u64 Y.rt.b.lo, .int .u64 Y.rt.b.hi, .int .u64 Y.rt.e.lo, .int .u64 Y.rt.e.hi, .int .u64 Y.rt.p.lo, .int .u64 Y.rt.p.hi, .int .u8 Y.rt.mu, .int .u8 Y.rt.ma, .int .i64 Y.rt.s] := At.new _ _ _
          have a2 : At (w1.alloc (.cells #[.int .i64 Y.rt.k, .int .u64 Y.rt.n.lo, .int .u64 Y.rt.n.hi, .int .u64 Y.rt.b.lo, .int .u64 Y.rt.b.hi, .int .u64 Y.rt.e.lo, .int .u64 Y.rt.e.hi, .int .u64 Y.rt.p.lo, .int .u64 Y.rt.p.hi, .int .u8 Y.rt.mu, .int .u8 Y.rt.ma, .int .i64 Y.rt.s] 28)) k1 #[.int .i64 X.rt.k, .int .u64 X.rt.n.lo, .int .u64 X.rt.n.hi, .int .u64 X.rt.b.lo, .int .u64 X.rt.b.hi, .int .u64 X.rt.e.lo, .int .u64 X.rt.e.hi, .int .u64 X.rt.p.lo, .int .u64 X.rt.p.hi, .int .u8 X.rt.mu, .int .u8 X.rt.ma, .int .i64 X.rt.s] := (B1.out.gr d1).alloc _
          have a5 : Gr w (w1.alloc (.cells #[.int .i64 Y.rt.k, .int .u64 Y.rt.n.lo, .int .u64 Y.rt.n.hi, .int .u64 Y.rt.b.lo, .int .u64 Y.rt.b.hi, .int .u64 Y.rt.e.lo, .int .u64 Y.rt.e.hi, .int .u64 Y.rt.p.lo, .int .u64 Y.rt.p.hi, .int .u8 Y.rt.mu, .int .u8 Y.rt.ma, .int .i64 Y.rt.s] 28)) := (G.out.trans d1).alloc _
          generalize w1.alloc (.cells #[.int .i64 Y.rt.k, .int .u64 Y.rt.n.lo, .int .u64 Y.rt.n.hi, .int .u64 Y.rt.b.lo, .int .u64 Y.rt.b.hi, .int .u64 Y.rt.e.lo, .int .u64 Y.rt.e.hi, .int .u64 Y.rt.p.lo, .int .u64 Y.rt.p.hi, .int .u8 Y.rt.mu, .int .u8 Y.rt.ma, .int .i64 Y.rt.s] 28) = Wz at a1 a2 a5 ⊢
          generalize w1.heap.size = kz at a1 ⊢
          revert a5
          revert a2
          revert a1
          revert Wz kz
          exact key.out
        all_goals exact key.out _ _ (st12_new y1.out.1 _ _ _ _ _ _ _ _ _ _ _ _) (st12_old (B1.out.gr d1) (by have := y1.out.2; omega) _ _ _ _ _ _ _ _ _ _ _ _) (st12_gr (G.out.trans d1) (by have := y1.out.2; have := (G.out).below.size; omega) _ _ _ _ _ _ _ _ _ _ _ _)
      clear KS X0 B1 G
      intro wn kz B0 B1 G
      replace B1 := T.Hid.mk B1
      replace B0 := T.Hid.mk B0
      replace G := T.Hid.mk G
      have ⟨z0, p0, f0⟩ := B1.out
      have ⟨z1, p1, f1⟩ := B0.out
      clear f0 f1
      go_upto_region 9 with (go_at_call 10; refine (h2.out _).mono ?_; rintro x w11 ⟨rfl, q⟩)
      clear z0 p0 z1 p1
      replace B1 := T.Hid.mk (B1.out.gr (q))
      replace B0 := T.Hid.mk (B0.out.gr (q))
      replace G := T.Hid.mk (G.out.trans (q))
      clear q h2
      have ⟨z0, p0, f0⟩ := B1.out
      have ⟨z1, p1, f1⟩ := B0.out
      clear f0 f1
      clear z0 p0 z1 p1
      have KS : T.Hid (∀ W, Gr w11 W → W.cell? ⟨b, off + j * 12, none⟩ = some (.int .i64 E.k) ∧ W.cell? ⟨b, off + j * 12 + 1, none⟩ = some (.int .u64 E.n.lo) ∧ W.cell? ⟨b, off + j * 12 + 2, none⟩ = some (.int .u64 E.n.hi) ∧ W.cell? ⟨b, off + j * 12 + 3, none⟩ = some (.int .u64 E.b.lo) ∧ W.cell? ⟨b, off + j * 12 + 4, none⟩ = some (.int .u64 E.b.hi) ∧ W.cell? ⟨b, off + j * 12 + 5, none⟩ = some (.int .u64 E.e.lo) ∧ W.cell? ⟨b, off + j * 12 + 6, none⟩ = some (.int .u64 E.e.hi) ∧ W.cell? ⟨b, off + j * 12 + 7, none⟩ = some (.int .u64 E.p.lo) ∧ W.cell? ⟨b, off + j * 12 + 8, none⟩ = some (.int .u64 E.p.hi) ∧ W.cell? ⟨b, off + j * 12 + 9, none⟩ = some (.int .u8 E.mu) ∧ W.cell? ⟨b, off + j * 12 + 10, none⟩ = some (.int .u8 E.ma) ∧ W.cell? ⟨b, off + j * 12 + 11, none⟩ = some (.int .i64 E.s) ∧ W.cell? ⟨kz, 0, none⟩ = some (.int .i64 Y.rt.k) ∧ W.cell? ⟨kz, 1, none⟩ = some (.int .u64 Y.rt.n.lo) ∧ W.cell? ⟨kz, 2, none⟩ = some (.int .u64 Y.rt.n.hi) ∧ W.cell? ⟨kz, 3, none⟩ = some (.int .u64 Y.rt.b.lo) ∧ W.cell? ⟨kz, 4, none⟩ = some (.int .u64 Y.rt.b.hi) ∧ W.cell? ⟨kz, 5, none⟩ = some (.int .u64 Y.rt.e.lo) ∧ W.cell? ⟨kz, 6, none⟩ = some (.int .u64 Y.rt.e.hi) ∧ W.cell? ⟨kz, 7, none⟩ = some (.int .u64 Y.rt.p.lo) ∧ W.cell? ⟨kz, 8, none⟩ = some (.int .u64 Y.rt.p.hi) ∧ W.cell? ⟨kz, 9, none⟩ = some (.int .u8 Y.rt.mu) ∧ W.cell? ⟨kz, 10, none⟩ = some (.int .u8 Y.rt.ma) ∧ W.cell? ⟨kz, 11, none⟩ = some (.int .i64 Y.rt.s)) := T.Hid.mk (fun W g => by
        have aE := fun i v q => ((G.out.trans g).below.cell (p := ⟨b, _, none⟩) hb.out).trans (hE.out i v q)
        have a1 := (B0.out.gr g).2.1
        exact ⟨aE 0 _ rfl, aE 1 _ rfl, aE 2 _ rfl, aE 3 _ rfl, aE 4 _ rfl, aE 5 _ rfl, aE 6 _ rfl, aE 7 _ rfl, aE 8 _ rfl, aE 9 _ rfl, aE 10 _ rfl, aE 11 _ rfl, a1 0, a1 1, a1 2, a1 3, a1 4, a1 5, a1 6, a1 7, a1 8, a1 9, a1 10, a1 11⟩)
      apply cut_rule
      · intro key
        first | (go_region_held3 (fun W => W.cell? ⟨b, off + j * 12, none⟩ = some (.int .i64 E.k) ∧ W.cell? ⟨b, off + j * 12 + 1, none⟩ = some (.int .u64 E.n.lo) ∧ W.cell? ⟨b, off + j * 12 + 2, none⟩ = some (.int .u64 E.n.hi) ∧ W.cell? ⟨b, off + j * 12 + 3, none⟩ = some (.int .u64 E.b.lo) ∧ W.cell? ⟨b, off + j * 12 + 4, none⟩ = some (.int .u64 E.b.hi) ∧ W.cell? ⟨b, off + j * 12 + 5, none⟩ = some (.int .u64 E.e.lo) ∧ W.cell? ⟨b, off + j * 12 + 6, none⟩ = some (.int .u64 E.e.hi) ∧ W.cell? ⟨b, off + j * 12 + 7, none⟩ = some (.int .u64 E.p.lo) ∧ W.cell? ⟨b, off + j * 12 + 8, none⟩ = some (.int .u64 E.p.hi) ∧ W.cell? ⟨b, off + j * 12 + 9, none⟩ = some (.int .u8 E.mu) ∧ W.cell? ⟨b, off + j * 12 + 10, none⟩ = some (.int .u8 E.ma) ∧ W.cell? ⟨b, off + j * 12 + 11, none⟩ = some (.int .i64 E.s) ∧ W.cell? ⟨kz, 0, none⟩ = some (.int .i64 Y.rt.k) ∧ W.cell? ⟨kz, 1, none⟩ = some (.int .u64 Y.rt.n.lo) ∧ W.cell? ⟨kz, 2, none⟩ = some (.int .u64 Y.rt.n.hi) ∧ W.cell? ⟨kz, 3, none⟩ = some (.int .u64 Y.rt.b.lo) ∧ W.cell? ⟨kz, 4, none⟩ = some (.int .u64 Y.rt.b.hi) ∧ W.cell? ⟨kz, 5, none⟩ = some (.int .u64 Y.rt.e.lo) ∧ W.cell? ⟨kz, 6, none⟩ = some (.int .u64 Y.rt.e.hi) ∧ W.cell? ⟨kz, 7, none⟩ = some (.int .u64 Y.rt.p.lo) ∧ W.cell? ⟨kz, 8, none⟩ = some (.int .u64 Y.rt.p.hi) ∧ W.cell? ⟨kz, 9, none⟩ = some (.int .u8 Y.rt.mu) ∧ W.cell? ⟨kz, 10, none⟩ = some (.int .u8 Y.rt.ma) ∧ W.cell? ⟨kz, 11, none⟩ = some (.int .i64 Y.rt.s)) ((refine KS.out _ ?_; (repeat (first | with_reducible assumption | with_reducible exact Gr.refl _ | with_reducible refine Gr.drew ?_ | with_reducible refine Gr.alloc ?_ _)))) ((go_at_call 10; refine (h3.out _).mono ?_; rintro x w1 ⟨rfl, q1⟩; have d1 : Gr w11 w1 := Gr.trans (by (repeat (first | with_reducible assumption | with_reducible exact Gr.refl _ | with_reducible refine Gr.drew ?_ | with_reducible refine Gr.alloc ?_ _))) q1; clear q1))) | fail
        · revert d1
          revert w1
          exact key.out
      intro wz hz q
      clear hz KS
      replace B1 := T.Hid.mk (B1.out.gr q)
      replace B0 := T.Hid.mk (B0.out.gr q)
      replace G := T.Hid.mk (G.out.trans q)
      clear q h3
      have ⟨z0, p0, f0⟩ := B1.out
      have ⟨z1, p1, f1⟩ := B0.out
      clear f0 f1
      go_upto_region 11 with (go_at_call 13; refine (h4.out _).mono ?_; rintro x w21 ⟨rfl, q⟩)
      clear z0 p0 z1 p1
      replace B1 := T.Hid.mk (B1.out.gr (q.alloc (.cells #[.int .i64 Y.rt.k, .int .u64 Y.rt.n.lo, .int .u64 Y.rt.n.hi, .int .u64 Y.rt.b.lo, .int .u64 Y.rt.b.hi, .int .u64 Y.rt.e.lo, .int .u64 Y.rt.e.hi, .int .u64 Y.rt.p.lo, .int .u64 Y.rt.p.hi, .int .u8 Y.rt.mu, .int .u8 Y.rt.ma, .int .i64 Y.rt.s] 28)))
      replace B0 := T.Hid.mk (B0.out.gr (q.alloc (.cells #[.int .i64 Y.rt.k, .int .u64 Y.rt.n.lo, .int .u64 Y.rt.n.hi, .int .u64 Y.rt.b.lo, .int .u64 Y.rt.b.hi, .int .u64 Y.rt.e.lo, .int .u64 Y.rt.e.hi, .int .u64 Y.rt.p.lo, .int .u64 Y.rt.p.hi, .int .u8 Y.rt.mu, .int .u8 Y.rt.ma, .int .i64 Y.rt.s] 28)))
      replace G := T.Hid.mk (G.out.trans (q.alloc (.cells #[.int .i64 Y.rt.k, .int .u64 Y.rt.n.lo, .int .u64 Y.rt.n.hi, .int .u64 Y.rt.b.lo, .int .u64 Y.rt.b.hi, .int .u64 Y.rt.e.lo, .int .u64 Y.rt.e.hi, .int .u64 Y.rt.p.lo, .int .u64 Y.rt.p.hi, .int .u8 Y.rt.mu, .int .u8 Y.rt.ma, .int .i64 Y.rt.s] 28)))
      have B2 := T.Hid.mk (At.new w21 #[.int .i64 Y.rt.k, .int .u64 Y.rt.n.lo, .int .u64 Y.rt.n.hi, .int .u64 Y.rt.b.lo, .int .u64 Y.rt.b.hi, .int .u64 Y.rt.e.lo, .int .u64 Y.rt.e.hi, .int .u64 Y.rt.p.lo, .int .u64 Y.rt.p.hi, .int .u8 Y.rt.mu, .int .u8 Y.rt.ma, .int .i64 Y.rt.s] 28)
      generalize w21.alloc (.cells #[.int .i64 Y.rt.k, .int .u64 Y.rt.n.lo, .int .u64 Y.rt.n.hi, .int .u64 Y.rt.b.lo, .int .u64 Y.rt.b.hi, .int .u64 Y.rt.e.lo, .int .u64 Y.rt.e.hi, .int .u64 Y.rt.p.lo, .int .u64 Y.rt.p.hi, .int .u8 Y.rt.mu, .int .u8 Y.rt.ma, .int .i64 Y.rt.s] 28) = W21 at G B1 B0 B2 ⊢
      generalize w21.heap.size = k2 at B2 ⊢
      clear q h4
      have ⟨z0, p0, f0⟩ := B1.out
      have ⟨z1, p1, f1⟩ := B0.out
      have ⟨z2, p2, f2⟩ := B2.out
      clear f0 f1 f2
      clear z0 p0 z1 p1 z2 p2
      have KS : T.Hid (∀ W, Gr W21 W → W.cell? ⟨b, off + j * 12, none⟩ = some (.int .i64 E.k) ∧ W.cell? ⟨b, off + j * 12 + 1, none⟩ = some (.int .u64 E.n.lo) ∧ W.cell? ⟨b, off + j * 12 + 2, none⟩ = some (.int .u64 E.n.hi) ∧ W.cell? ⟨b, off + j * 12 + 3, none⟩ = some (.int .u64 E.b.lo) ∧ W.cell? ⟨b, off + j * 12 + 4, none⟩ = some (.int .u64 E.b.hi) ∧ W.cell? ⟨b, off + j * 12 + 5, none⟩ = some (.int .u64 E.e.lo) ∧ W.cell? ⟨b, off + j * 12 + 6, none⟩ = some (.int .u64 E.e.hi) ∧ W.cell? ⟨b, off + j * 12 + 7, none⟩ = some (.int .u64 E.p.lo) ∧ W.cell? ⟨b, off + j * 12 + 8, none⟩ = some (.int .u64 E.p.hi) ∧ W.cell? ⟨b, off + j * 12 + 9, none⟩ = some (.int .u8 E.mu) ∧ W.cell? ⟨b, off + j * 12 + 10, none⟩ = some (.int .u8 E.ma) ∧ W.cell? ⟨b, off + j * 12 + 11, none⟩ = some (.int .i64 E.s) ∧ W.cell? ⟨k1, 0, none⟩ = some (.int .i64 X.rt.k) ∧ W.cell? ⟨k1, 1, none⟩ = some (.int .u64 X.rt.n.lo) ∧ W.cell? ⟨k1, 2, none⟩ = some (.int .u64 X.rt.n.hi) ∧ W.cell? ⟨k1, 3, none⟩ = some (.int .u64 X.rt.b.lo) ∧ W.cell? ⟨k1, 4, none⟩ = some (.int .u64 X.rt.b.hi) ∧ W.cell? ⟨k1, 5, none⟩ = some (.int .u64 X.rt.e.lo) ∧ W.cell? ⟨k1, 6, none⟩ = some (.int .u64 X.rt.e.hi) ∧ W.cell? ⟨k1, 7, none⟩ = some (.int .u64 X.rt.p.lo) ∧ W.cell? ⟨k1, 8, none⟩ = some (.int .u64 X.rt.p.hi) ∧ W.cell? ⟨k1, 9, none⟩ = some (.int .u8 X.rt.mu) ∧ W.cell? ⟨k1, 10, none⟩ = some (.int .u8 X.rt.ma) ∧ W.cell? ⟨k1, 11, none⟩ = some (.int .i64 X.rt.s)) := T.Hid.mk (fun W g => by
        have aE := fun i v q => ((G.out.trans g).below.cell (p := ⟨b, _, none⟩) hb.out).trans (hE.out i v q)
        have a0 := (B1.out.gr g).2.1
        exact ⟨aE 0 _ rfl, aE 1 _ rfl, aE 2 _ rfl, aE 3 _ rfl, aE 4 _ rfl, aE 5 _ rfl, aE 6 _ rfl, aE 7 _ rfl, aE 8 _ rfl, aE 9 _ rfl, aE 10 _ rfl, aE 11 _ rfl, a0 0, a0 1, a0 2, a0 3, a0 4, a0 5, a0 6, a0 7, a0 8, a0 9, a0 10, a0 11⟩)
      apply cut_rule
      · intro key
        first | (go_region_held3 (fun W => W.cell? ⟨b, off + j * 12, none⟩ = some (.int .i64 E.k) ∧ W.cell? ⟨b, off + j * 12 + 1, none⟩ = some (.int .u64 E.n.lo) ∧ W.cell? ⟨b, off + j * 12 + 2, none⟩ = some (.int .u64 E.n.hi) ∧ W.cell? ⟨b, off + j * 12 + 3, none⟩ = some (.int .u64 E.b.lo) ∧ W.cell? ⟨b, off + j * 12 + 4, none⟩ = some (.int .u64 E.b.hi) ∧ W.cell? ⟨b, off + j * 12 + 5, none⟩ = some (.int .u64 E.e.lo) ∧ W.cell? ⟨b, off + j * 12 + 6, none⟩ = some (.int .u64 E.e.hi) ∧ W.cell? ⟨b, off + j * 12 + 7, none⟩ = some (.int .u64 E.p.lo) ∧ W.cell? ⟨b, off + j * 12 + 8, none⟩ = some (.int .u64 E.p.hi) ∧ W.cell? ⟨b, off + j * 12 + 9, none⟩ = some (.int .u8 E.mu) ∧ W.cell? ⟨b, off + j * 12 + 10, none⟩ = some (.int .u8 E.ma) ∧ W.cell? ⟨b, off + j * 12 + 11, none⟩ = some (.int .i64 E.s) ∧ W.cell? ⟨k1, 0, none⟩ = some (.int .i64 X.rt.k) ∧ W.cell? ⟨k1, 1, none⟩ = some (.int .u64 X.rt.n.lo) ∧ W.cell? ⟨k1, 2, none⟩ = some (.int .u64 X.rt.n.hi) ∧ W.cell? ⟨k1, 3, none⟩ = some (.int .u64 X.rt.b.lo) ∧ W.cell? ⟨k1, 4, none⟩ = some (.int .u64 X.rt.b.hi) ∧ W.cell? ⟨k1, 5, none⟩ = some (.int .u64 X.rt.e.lo) ∧ W.cell? ⟨k1, 6, none⟩ = some (.int .u64 X.rt.e.hi) ∧ W.cell? ⟨k1, 7, none⟩ = some (.int .u64 X.rt.p.lo) ∧ W.cell? ⟨k1, 8, none⟩ = some (.int .u64 X.rt.p.hi) ∧ W.cell? ⟨k1, 9, none⟩ = some (.int .u8 X.rt.mu) ∧ W.cell? ⟨k1, 10, none⟩ = some (.int .u8 X.rt.ma) ∧ W.cell? ⟨k1, 11, none⟩ = some (.int .i64 X.rt.s)) ((refine KS.out _ ?_; (repeat (first | with_reducible assumption | with_reducible exact Gr.refl _ | with_reducible refine Gr.drew ?_ | with_reducible refine Gr.alloc ?_ _)))) ((go_at_call 10; refine (h5.out _).mono ?_; rintro x w1 ⟨rfl, q1⟩; have d1 : Gr W21 w1 := Gr.trans (by (repeat (first | with_reducible assumption | with_reducible exact Gr.refl _ | with_reducible refine Gr.drew ?_ | with_reducible refine Gr.alloc ?_ _))) q1; clear q1))) | fail
        · revert d1
          revert w1
          exact key.out
      intro wz hz q
      clear hz KS
      replace B1 := T.Hid.mk (B1.out.gr q)
      replace B0 := T.Hid.mk (B0.out.gr q)
      replace B2 := T.Hid.mk (B2.out.gr q)
      replace G := T.Hid.mk (G.out.trans q)
      clear q h5
      have ⟨z0, p0, f0⟩ := B1.out
      have ⟨z1, p1, f1⟩ := B0.out
      have ⟨z2, p2, f2⟩ := B2.out
      clear f0 f1 f2
      have ⟨_, _, g1⟩ := B1.out
      have cnt : ((n : Int) + 1) ≤ 23 := by omega
      cases u
      · cases v
        · have e4 : Y = X := e3.out.1 rfl
          have hr' : n + Y.rk ≤ 22 := by rw [e4]; exact hr.out
          clear e1 e2 e3 e4 hr
          go_wp2_with fail
          exact ⟨⟨n, j + 1, Y, by go_num, by go_num, by omega, T.Hid.mk (hr'), hx, T.Hid.mk (st12_new B1.out _ _ _ _ _ _ _ _ _ _ _ _), T.Hid.mk (st12_gr G.out hk _ _ _ _ _ _ _ _ _ _ _ _)⟩, by simp [intOf]; omega⟩
        · have e4 := e2.out (fun h => by have := e3.out.2 h; cases this)
          have hr' : n + 1 + Y.rk ≤ 22 := by have := hr.out; omega
          clear e1 e2 e3 e4 hr
          go_wp2_with fail
          exact ⟨⟨n + 1, j + 1, Y, by go_num, by go_num, by omega, T.Hid.mk (hr'), hx, T.Hid.mk (st12_new B1.out _ _ _ _ _ _ _ _ _ _ _ _), T.Hid.mk (st12_gr G.out hk _ _ _ _ _ _ _ _ _ _ _ _)⟩, by simp [intOf]; omega⟩
      · have e4 : Y = X := e1.out rfl
        have e5 : v = false := e3.out.2 e4
        subst e5
        have hr' : n + Y.rk ≤ 22 := by rw [e4]; exact hr.out
        clear e1 e2 e3 e4 hr
        go_wp2_with fail
        exact ⟨⟨n, j + 1, Y, by go_num, by go_num, by omega, T.Hid.mk (hr'), hx, T.Hid.mk (st12_new B1.out _ _ _ _ _ _ _ _ _ _ _ _), T.Hid.mk (st12_gr G.out hk _ _ _ _ _ _ _ _ _ _ _ _)⟩, by simp [intOf]; omega⟩
    · have n2 : (n : Int) ≤ 22 := by have := hr.out; omega
      have jl : ¬ (j : Int) < L.length := by omega
      go_wp2_with fail
      go_ret
      exact ⟨ret_bool (by simp), G.out⟩
end R
end Go.Proofs.Ytihminokipepcaa
