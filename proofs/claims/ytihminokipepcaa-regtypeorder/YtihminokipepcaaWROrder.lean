/-
  Stage 9, regtype: RegtypeOrder, walked.
-/
import Derived.Test.YtihminokipepcaaRLaw
import Derived.Test.YtihminokipepcaaSSet
namespace Go.Proofs.Ytihminokipepcaa
namespace R
open Go.RowKit

set_option maxHeartbeats 16000000 in
theorem order_any (hI : CInt) (hU : CUnder) (hJ : CJoin) (a b c : RT) (w : World) (ha : a.Rng) (hb : b.Rng) (hc : c.Rng) : Calls Try.prog 3 #[a.agg, b.agg, c.agg] w fun x w' => x = .returned (.bool true) ∧ Gr w w' := by
  have h0 := T.Hid.mk (fun W => alive_any hI hJ W)
  have h1 := T.Hid.mk (fun W => hU a a W ha ha)
  have h2 := T.Hid.mk (fun W => hU a RT.zero W ha zero_rng)
  have h3 := T.Hid.mk (fun W => hU a b W ha hb)
  have h4 := T.Hid.mk (fun W => hU b c W hb hc)
  have h5 := T.Hid.mk (fun W => hU a c W ha hc)
  have h6 := T.Hid.mk (fun W => hU b a W hb ha)
  have h7 := T.Hid.mk (fun W => norm_any hJ a W ha)
  have h8 := T.Hid.mk (fun W => norm_any hJ b W hb)
  have qe := fun W => eqRT a.nm.rt b.nm.rt W
  have qn := fun W => neRT a.nm.rt b.nm.rt W
  rw [RV.und_refl] at h1
  rw [zero_nm, RV.und_any] at h2
  have t1 : a.nm.und b.nm = true → b.nm.und c.nm = true → a.nm.und c.nm = true := RV.und_trans
  have t2 : (a.nm.rt.eqB b.nm.rt) = (a.nm.und b.nm && b.nm.und a.nm) := by
    rw [Bool.eq_iff_iff, RT.eqB_iff, Bool.and_eq_true]
    constructor
    · intro e
      rw [RV.rt_inj e, RV.und_refl]
      exact ⟨rfl, rfl⟩
    · intro e
      rw [RV.und_anti (RT.nm_ok ha) (RT.nm_ok hb) e.1 e.2]
  rw [t2] at qe qn
  clear hI hU hJ ha hb hc t2
  generalize a.nm.und b.nm = u1 at *
  generalize b.nm.und c.nm = u2 at *
  generalize a.nm.und c.nm = u3 at *
  generalize b.nm.und a.nm = u4 at *
  generalize a.nm.rt = A at *
  generalize b.nm.rt = B at *
  simp only [RT.agg, RT.zero, Sp.no, Int.cast_ofNat_Int] at h1 h2 h3 h4 h5 h6 h7 h8 qe qn ⊢
  have L1 := grow_cell
  have L2 := grow_frozen
  have L3 := grow_set
  have L4 := grow_lt
  have L5 := glt1
  have L6 := glt2
  have L7 := glt3
  have L8 := glt4
  have L9 := glt5
  have L10 := glt6
  have L11 := lt1
  have L12 := lt2
  have L13 := lt3
  have L14 := lt4
  have L15 := lt5
  have L16 := lt6
  have L17 := lt7
  have L18 := lt8
  go_enter Try.func3, Try.ntmps3
  go_upto_region 2 with (go_at_call 9; refine (h0.out _).mono ?_; rintro x w' ⟨rfl, l1, rfl⟩; generalize l1 = m1 at *)
  go_upto_region 3 with (go_at_call 10; refine (h1.out _).mono ?_; rintro x w' ⟨rfl, l2, rfl⟩; rw [← grow_app]; generalize m1 ++ l2 = m2)
  go_upto_region 4 with (go_at_call 10; refine (h2.out _).mono ?_; rintro x w' ⟨rfl, l3, rfl⟩; rw [← grow_app]; generalize m2 ++ l3 = m3)
  go_upto_region 5 with (go_at_call 10; refine (h3.out _).mono ?_; rintro x w' ⟨rfl, l4, rfl⟩; rw [← grow_app]; generalize m3 ++ l4 = m4)
  go_upto_region 6 with (go_at_call 10; refine (h4.out _).mono ?_; rintro x w' ⟨rfl, l5, rfl⟩; rw [← grow_app]; generalize m4 ++ l5 = m5)
  go_upto_region 7 with (go_at_call 10; refine (h5.out _).mono ?_; rintro x w' ⟨rfl, l6, rfl⟩; rw [← grow_app]; generalize m5 ++ l6 = m6)
  go_upto_region 8 with (go_at_call 10; refine (h6.out _).mono ?_; rintro x w' ⟨rfl, l7, rfl⟩; rw [← grow_app]; generalize m6 ++ l7 = m7)
  have G0 : Gr w (grow (((w.alloc (.cells #[.int .i64 a.k, .int .u64 a.n.lo, .int .u64 a.n.hi, .int .u64 a.b.lo, .int .u64 a.b.hi, .int .u64 a.e.lo, .int .u64 a.e.hi, .int .u64 a.p.lo, .int .u64 a.p.hi, .int .u8 a.mu, .int .u8 a.ma, .int .i64 a.s] 28)).alloc (.cells #[.int .i64 b.k, .int .u64 b.n.lo, .int .u64 b.n.hi, .int .u64 b.b.lo, .int .u64 b.b.hi, .int .u64 b.e.lo, .int .u64 b.e.hi, .int .u64 b.p.lo, .int .u64 b.p.hi, .int .u8 b.mu, .int .u8 b.ma, .int .i64 b.s] 28)).alloc (.cells #[.int .i64 c.k, .int .u64 c.n.lo, .int .u64 c.n.hi, .int .u64 c.b.lo, .int .u64 c.b.hi, .int .u64 c.e.lo, .int .u64 c.e.hi, .int .u64 c.p.lo, .int .u64 c.p.hi, .int .u8 c.mu, .int .u8 c.ma, .int .i64 c.s] 28)) m7) := ((((Gr.refl w).alloc _).alloc _).alloc _).grow _
  have A0 : At (grow (((w.alloc (.cells #[.int .i64 a.k, .int .u64 a.n.lo, .int .u64 a.n.hi, .int .u64 a.b.lo, .int .u64 a.b.hi, .int .u64 a.e.lo, .int .u64 a.e.hi, .int .u64 a.p.lo, .int .u64 a.p.hi, .int .u8 a.mu, .int .u8 a.ma, .int .i64 a.s] 28)).alloc (.cells #[.int .i64 b.k, .int .u64 b.n.lo, .int .u64 b.n.hi, .int .u64 b.b.lo, .int .u64 b.b.hi, .int .u64 b.e.lo, .int .u64 b.e.hi, .int .u64 b.p.lo, .int .u64 b.p.hi, .int .u8 b.mu, .int .u8 b.ma, .int .i64 b.s] 28)).alloc (.cells #[.int .i64 c.k, .int .u64 c.n.lo, .int .u64 c.n.hi, .int .u64 c.b.lo, .int .u64 c.b.hi, .int .u64 c.e.lo, .int .u64 c.e.hi, .int .u64 c.p.lo, .int .u64 c.p.hi, .int .u8 c.mu, .int .u8 c.ma, .int .i64 c.s] 28)) m7) w.heap.size #[.int .i64 a.k, .int .u64 a.n.lo, .int .u64 a.n.hi, .int .u64 a.b.lo, .int .u64 a.b.hi, .int .u64 a.e.lo, .int .u64 a.e.hi, .int .u64 a.p.lo, .int .u64 a.p.hi, .int .u8 a.mu, .int .u8 a.ma, .int .i64 a.s] := (((At.new w _ _).alloc _).alloc _).gr ((Gr.refl _).grow _)
  have B0 : At (grow (((w.alloc (.cells #[.int .i64 a.k, .int .u64 a.n.lo, .int .u64 a.n.hi, .int .u64 a.b.lo, .int .u64 a.b.hi, .int .u64 a.e.lo, .int .u64 a.e.hi, .int .u64 a.p.lo, .int .u64 a.p.hi, .int .u8 a.mu, .int .u8 a.ma, .int .i64 a.s] 28)).alloc (.cells #[.int .i64 b.k, .int .u64 b.n.lo, .int .u64 b.n.hi, .int .u64 b.b.lo, .int .u64 b.b.hi, .int .u64 b.e.lo, .int .u64 b.e.hi, .int .u64 b.p.lo, .int .u64 b.p.hi, .int .u8 b.mu, .int .u8 b.ma, .int .i64 b.s] 28)).alloc (.cells #[.int .i64 c.k, .int .u64 c.n.lo, .int .u64 c.n.hi, .int .u64 c.b.lo, .int .u64 c.b.hi, .int .u64 c.e.lo, .int .u64 c.e.hi, .int .u64 c.p.lo, .int .u64 c.p.hi, .int .u8 c.mu, .int .u8 c.ma, .int .i64 c.s] 28)) m7) (w.heap.size + 1) #[.int .i64 b.k, .int .u64 b.n.lo, .int .u64 b.n.hi, .int .u64 b.b.lo, .int .u64 b.b.hi, .int .u64 b.e.lo, .int .u64 b.e.hi, .int .u64 b.p.lo, .int .u64 b.p.hi, .int .u8 b.mu, .int .u8 b.ma, .int .i64 b.s] := ((At.next w _ _ _).alloc _).gr ((Gr.refl _).grow _)
  generalize grow (((w.alloc (.cells #[.int .i64 a.k, .int .u64 a.n.lo, .int .u64 a.n.hi, .int .u64 a.b.lo, .int .u64 a.b.hi, .int .u64 a.e.lo, .int .u64 a.e.hi, .int .u64 a.p.lo, .int .u64 a.p.hi, .int .u8 a.mu, .int .u8 a.ma, .int .i64 a.s] 28)).alloc (.cells #[.int .i64 b.k, .int .u64 b.n.lo, .int .u64 b.n.hi, .int .u64 b.b.lo, .int .u64 b.b.hi, .int .u64 b.e.lo, .int .u64 b.e.hi, .int .u64 b.p.lo, .int .u64 b.p.hi, .int .u8 b.mu, .int .u8 b.ma, .int .i64 b.s] 28)).alloc (.cells #[.int .i64 c.k, .int .u64 c.n.lo, .int .u64 c.n.hi, .int .u64 c.b.lo, .int .u64 c.b.hi, .int .u64 c.e.lo, .int .u64 c.e.hi, .int .u64 c.p.lo, .int .u64 c.p.hi, .int .u8 c.mu, .int .u8 c.ma, .int .i64 c.s] 28)) m7 = W0 at *
  replace G0 := T.Hid.mk G0
  have ⟨z0, p0, f0⟩ := A0
  have ⟨z1, p1, f1⟩ := B0
  replace B0 := T.Hid.mk B0
  clear A0 f0 f1 L1 L2 L3 L4 L5 L6 L7 L8 L9 L10 L11 L12 L13 L14 L15 L16 L17 L18
  clear h0 h1 h2 h3 h4 h5 h6
  cases u1 with
  | false =>
    clear t1
    go_wp2_with fail
    go_region_with (first | (have _ := mk1; go_at_call 11; refine (h8.out _).mono ?_; rintro x w2 ⟨rfl, q⟩; have g2 : Gr W0 w2 := Gr.trans (by (repeat (first | assumption | with_reducible exact Gr.refl _ | with_reducible refine Gr.drew ?_))) q; clear q mk1) | (go_at_call 11; refine (h7.out _).mono ?_; rintro x w1 ⟨rfl, q⟩; have g1 : Gr W0 w1 := Gr.trans (by (repeat (first | assumption | with_reducible exact Gr.refl _ | with_reducible refine Gr.drew ?_))) q; have ⟨z2, p2, f2⟩ := B0.out.gr g1; clear q f2; have mk1 := True.intro))
    all_goals
      go_wp2_with fail
      go_ret
      exact ⟨rfl, G0.out.trans (by (repeat (first | assumption | with_reducible exact Gr.refl _ | with_reducible refine Gr.drew ?_)))⟩
  | true =>
    cases u2 with
    | false =>
      clear t1
      cases u4
      all_goals
        go_wp2_with fail
        go_region_with (first | (have _ := mk1; go_at_call 11; refine (h8.out _).mono ?_; rintro x w2 ⟨rfl, q⟩; have g2 : Gr W0 w2 := Gr.trans (by (repeat (first | assumption | with_reducible exact Gr.refl _ | with_reducible refine Gr.drew ?_))) q; clear q mk1) | (go_at_call 11; refine (h7.out _).mono ?_; rintro x w1 ⟨rfl, q⟩; have g1 : Gr W0 w1 := Gr.trans (by (repeat (first | assumption | with_reducible exact Gr.refl _ | with_reducible refine Gr.drew ?_))) q; have ⟨z2, p2, f2⟩ := B0.out.gr g1; clear q f2; have mk1 := True.intro))
        all_goals
          go_wp2_with fail
          go_ret
          exact ⟨rfl, G0.out.trans (by (repeat (first | assumption | with_reducible exact Gr.refl _ | with_reducible refine Gr.drew ?_)))⟩
    | true =>
      have e3 : u3 = true := t1 rfl rfl
      subst e3
      clear t1
      cases u4
      all_goals
        go_wp2_with fail
        go_region_with (first | (have _ := mk1; go_at_call 11; refine (h8.out _).mono ?_; rintro x w2 ⟨rfl, q⟩; have g2 : Gr W0 w2 := Gr.trans (by (repeat (first | assumption | with_reducible exact Gr.refl _ | with_reducible refine Gr.drew ?_))) q; clear q mk1) | (go_at_call 11; refine (h7.out _).mono ?_; rintro x w1 ⟨rfl, q⟩; have g1 : Gr W0 w1 := Gr.trans (by (repeat (first | assumption | with_reducible exact Gr.refl _ | with_reducible refine Gr.drew ?_))) q; have ⟨z2, p2, f2⟩ := B0.out.gr g1; clear q f2; have mk1 := True.intro))
        all_goals
          go_wp2_with fail
          go_ret
          exact ⟨rfl, G0.out.trans (by (repeat (first | assumption | with_reducible exact Gr.refl _ | with_reducible refine Gr.drew ?_)))⟩
end R
end Go.Proofs.Ytihminokipepcaa
