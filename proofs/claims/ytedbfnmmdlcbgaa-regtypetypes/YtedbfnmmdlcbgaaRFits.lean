/-
  Stage 9, regtype: image.Fits, plain.
-/
import Derived.Test.YtedbfnmmdlcbgaaRProU
import Derived.Test.YtedbfnmmdlcbgaaRProO
import Derived.Test.YtedbfnmmdlcbgaaRRefH
import Derived.Test.YtedbfnmmdlcbgaaRNum
import Derived.Test.YtedbfnmmdlcbgaaSSet
import Derived.Deep.RegionHeld3
namespace Go.Proofs.Ytedbfnmmdlcbgaa
namespace R
open Go.RowKit

def Kc.eqB (a b : Kc) : Bool := decide (a.b = b.b ∧ a.e = b.e ∧ a.c = b.c ∧ a.pm = b.pm ∧ a.s = b.s)
set_option maxHeartbeats 2000000 in
theorem eqKc (a b : Kc) (W : World) : (binOp .eql 32 (.agg a.vals.toArray) (.agg b.vals.toArray)).run Try.prog W = .ok (.bool (a.eqB b)) W := by
  obtain ⟨k1, k2, k3, k4, k5⟩ := a
  obtain ⟨l1, l2, l3, l4, l5⟩ := b
  simp only [Kc.vals, Kc.eqB]
  simp [go_sem, Int.natCast_inj]
  (repeat' split) <;> simp [*]
set_option maxHeartbeats 1000000 in
theorem pCapOf_any (t : Tt) (c : Int) (w : World) : Calls Try.prog 34 #[t.agg, .int .u64 c] w fun x w' => x = .returned (.agg (Kc.mk t.b t.e c t.pm t.s).vals.toArray) ∧ Gr w w' := by
  simp only [Tt.agg, Kc.vals]
  have L1 := grow_cell; have L2 := grow_frozen; have L3 := grow_set; have L4 := grow_lt; have L5 := glt1; have L6 := glt2; have L7 := glt3; have L8 := glt4; have L9 := glt5; have L10 := glt6; have L11 := lt1; have L12 := lt2; have L13 := lt3; have L14 := lt4; have L15 := lt5; have L16 := lt6; have L17 := lt7; have L18 := lt8
  go_enter Try.func34, Try.ntmps34
  go_wp2_with fail
  simp [bodyPost, results, Try.results34, go_sem, *]
  repeat (first | exact Gr.refl _ | refine Gr.alloc ?_ _ | refine Gr.grow ?_ _ | refine Gr.drew ?_)
def ptB (t : Tt) (c : Int) : Bool := decide (t.lo ≤ c) && decide (c ≤ t.hi)
set_option maxHeartbeats 1000000 in
theorem pWithin_any (t : Tt) (c : Int) (w : World) : Calls Try.prog 35 #[t.agg, .int .u64 c] w fun x w' => x = .returned (.bool (ptB t c)) ∧ Gr w w' := by
  unfold ptB
  simp only [Tt.agg]
  go_enter Try.func35, Try.ntmps35
  go_wp2_with fail
  all_goals
    go_ret
    refine ⟨ret_bool (by simp_all <;> omega), ?_⟩
    repeat (first | exact Gr.refl _ | refine Gr.alloc ?_ _ | refine Gr.grow ?_ _ | refine Gr.drew ?_)
def Tt.zero : Tt := ⟨false, 0, 0, 0, 0, 0, 0⟩
def Tt.pl (t : Tt) : Tt := if t.cap then t else Tt.zero
set_option maxHeartbeats 1000000 in
theorem plain_any (t : Tt) (w : World) : Calls Try.prog 13 #[t.agg] w fun x w' => x = .returned t.pl.agg ∧ Gr w w' := by
  obtain ⟨tg, tb, te, tl, th, tp, ts⟩ := t
  cases tg
  · rw [show (Tt.mk false tb te tl th tp ts).pl = Tt.zero from rfl]
    simp only [Tt.agg, Tt.zero, Int.cast_ofNat_Int]
    have L1 := grow_cell; have L2 := grow_frozen; have L3 := grow_set; have L4 := grow_lt; have L5 := glt1; have L6 := glt2; have L7 := glt3; have L8 := glt4; have L9 := glt5; have L10 := glt6; have L11 := lt1; have L12 := lt2; have L13 := lt3; have L14 := lt4; have L15 := lt5; have L16 := lt6; have L17 := lt7; have L18 := lt8
    go_enter Try.func13, Try.ntmps13
    go_wp2_with fail
    simp [bodyPost, results, Try.results13, go_sem, *]
    repeat (first | exact Gr.refl _ | refine Gr.alloc ?_ _ | refine Gr.grow ?_ _ | refine Gr.drew ?_)
  · rw [show (Tt.mk true tb te tl th tp ts).pl = ⟨true, tb, te, tl, th, tp, ts⟩ from rfl]
    simp only [Tt.agg]
    have L1 := grow_cell; have L2 := grow_frozen; have L3 := grow_set; have L4 := grow_lt; have L5 := glt1; have L6 := glt2; have L7 := glt3; have L8 := glt4; have L9 := glt5; have L10 := glt6; have L11 := lt1; have L12 := lt2; have L13 := lt3; have L14 := lt4; have L15 := lt5; have L16 := lt6; have L17 := lt7; have L18 := lt8
    go_enter Try.func13, Try.ntmps13
    go_wp2_with fail
    simp [bodyPost, results, Try.results13, go_sem, *]
    repeat (first | exact Gr.refl _ | refine Gr.alloc ?_ _ | refine Gr.grow ?_ _ | refine Gr.drew ?_)
def fitB (v : Vv) (t : Tt) : Bool := if t.cap then v.tag && v.c.eqB ⟨t.b, t.e, v.c.c, t.pm, t.s⟩ && ptB t v.c.c else !v.tag
set_option maxHeartbeats 4000000 in
theorem pFits_any (v : Vv) (t : Tt) (w : World) : Calls Try.prog 12 #[v.agg, t.agg] w fun x w' => x = .returned (.bool (fitB v t)) ∧ Gr w w' := by
  have h1 := T.Hid.mk (fun W => pCapOf_any t v.c.c W)
  have h2 := T.Hid.mk (fun W => pWithin_any t v.c.c W)
  have q1 := fun W => eqKc v.c ⟨t.b, t.e, v.c.c, t.pm, t.s⟩ W
  obtain ⟨tg, tb, te, tl, th, tp, ts⟩ := t
  obtain ⟨vt, vn, ⟨vb, ve, vc, vp, vs⟩⟩ := v
  cases tg
  · clear h1 h2 q1
    rw [show fitB ⟨vt, vn, ⟨vb, ve, vc, vp, vs⟩⟩ ⟨false, tb, te, tl, th, tp, ts⟩ = !vt from rfl]
    simp only [Tt.agg, Vv.agg]
    go_enter Try.func12, Try.ntmps12
    go_wp2_with fail
    go_ret
    refine ⟨ret_bool (by simp), ?_⟩
    repeat (first | exact Gr.refl _ | refine Gr.alloc ?_ _ | refine Gr.grow ?_ _ | refine Gr.drew ?_)
  · rw [show fitB ⟨vt, vn, ⟨vb, ve, vc, vp, vs⟩⟩ ⟨true, tb, te, tl, th, tp, ts⟩ = (vt && (Kc.mk vb ve vc vp vs).eqB ⟨tb, te, vc, tp, ts⟩ && ptB ⟨true, tb, te, tl, th, tp, ts⟩ vc) from rfl]
    simp only [Tt.agg, Vv.agg, Kc.vals] at h1 h2 q1 ⊢
    generalize (Kc.mk vb ve vc vp vs).eqB ⟨tb, te, vc, tp, ts⟩ = c1 at *
    generalize ptB ⟨true, tb, te, tl, th, tp, ts⟩ vc = c2 at *
    cases vt
    · go_enter Try.func12, Try.ntmps12
      go_upto_region 1 with fail
      have B0 : T.Hid (At (((w).alloc (.cells #[.bool false, .int .u64 vn, .int .u64 vb, .int .u64 ve, .int .u64 vc, .int .u8 (vp : Nat), .int .i64 vs] 34)).alloc (.cells #[.bool true, .int .u64 tb, .int .u64 te, .int .u64 tl, .int .u64 th, .int .u8 (tp : Nat), .int .i64 ts] 30)) (w.heap.size) #[.bool false, .int .u64 vn, .int .u64 vb, .int .u64 ve, .int .u64 vc, .int .u8 (vp : Nat), .int .i64 vs]) := T.Hid.mk ((At.at_ (w) _ _ (by simp)).alloc _)
      have B1 : T.Hid (At (((w).alloc (.cells #[.bool false, .int .u64 vn, .int .u64 vb, .int .u64 ve, .int .u64 vc, .int .u8 (vp : Nat), .int .i64 vs] 34)).alloc (.cells #[.bool true, .int .u64 tb, .int .u64 te, .int .u64 tl, .int .u64 th, .int .u8 (tp : Nat), .int .i64 ts] 30)) (w.heap.size + 1) #[.bool true, .int .u64 tb, .int .u64 te, .int .u64 tl, .int .u64 th, .int .u8 (tp : Nat), .int .i64 ts]) := T.Hid.mk (At.at_ ((w).alloc (.cells #[.bool false, .int .u64 vn, .int .u64 vb, .int .u64 ve, .int .u64 vc, .int .u8 (vp : Nat), .int .i64 vs] 34)) _ _ (by simp))
      have G := T.Hid.mk (show Gr w (((w).alloc (.cells #[.bool false, .int .u64 vn, .int .u64 vb, .int .u64 ve, .int .u64 vc, .int .u8 (vp : Nat), .int .i64 vs] 34)).alloc (.cells #[.bool true, .int .u64 tb, .int .u64 te, .int .u64 tl, .int .u64 th, .int .u8 (tp : Nat), .int .i64 ts] 30)) from (((Gr.refl w).alloc _).alloc _))
      generalize ((w).alloc (.cells #[.bool false, .int .u64 vn, .int .u64 vb, .int .u64 ve, .int .u64 vc, .int .u8 (vp : Nat), .int .i64 vs] 34)).alloc (.cells #[.bool true, .int .u64 tb, .int .u64 te, .int .u64 tl, .int .u64 th, .int .u8 (tp : Nat), .int .i64 ts] 30) = W0 at G B0 B1 ⊢
      have ⟨z0, p0, f0⟩ := B0.out
      have ⟨z1, p1, f1⟩ := B1.out
      clear f0 f1
      go_upto_region 3 with fail
      clear z0 p0 z1 p1
      have KS : T.Hid (∀ W, Gr W0 W → W.cell? ⟨w.heap.size, 0, none⟩ = some (.bool false) ∧ W.cell? ⟨w.heap.size, 1, none⟩ = some (.int .u64 vn) ∧ W.cell? ⟨w.heap.size, 2, none⟩ = some (.int .u64 vb) ∧ W.cell? ⟨w.heap.size, 3, none⟩ = some (.int .u64 ve) ∧ W.cell? ⟨w.heap.size, 4, none⟩ = some (.int .u64 vc) ∧ W.cell? ⟨w.heap.size, 5, none⟩ = some (.int .u8 (vp : Nat)) ∧ W.cell? ⟨w.heap.size, 6, none⟩ = some (.int .i64 vs) ∧ W.cell? ⟨w.heap.size + 1, 0, none⟩ = some (.bool true) ∧ W.cell? ⟨w.heap.size + 1, 1, none⟩ = some (.int .u64 tb) ∧ W.cell? ⟨w.heap.size + 1, 2, none⟩ = some (.int .u64 te) ∧ W.cell? ⟨w.heap.size + 1, 3, none⟩ = some (.int .u64 tl) ∧ W.cell? ⟨w.heap.size + 1, 4, none⟩ = some (.int .u64 th) ∧ W.cell? ⟨w.heap.size + 1, 5, none⟩ = some (.int .u8 (tp : Nat)) ∧ W.cell? ⟨w.heap.size + 1, 6, none⟩ = some (.int .i64 ts)) := T.Hid.mk (fun W g => by
        have a0 := (B0.out.gr g).2.1
        have a1 := (B1.out.gr g).2.1
        exact ⟨a0 0, a0 1, a0 2, a0 3, a0 4, a0 5, a0 6, a1 0, a1 1, a1 2, a1 3, a1 4, a1 5, a1 6⟩)
      have d1 : Gr W0 W0.drew := (Gr.refl _).drew
      refine wp_region_held_drew (S := (fun W => W.cell? ⟨w.heap.size, 0, none⟩ = some (.bool false) ∧ W.cell? ⟨w.heap.size, 1, none⟩ = some (.int .u64 vn) ∧ W.cell? ⟨w.heap.size, 2, none⟩ = some (.int .u64 vb) ∧ W.cell? ⟨w.heap.size, 3, none⟩ = some (.int .u64 ve) ∧ W.cell? ⟨w.heap.size, 4, none⟩ = some (.int .u64 vc) ∧ W.cell? ⟨w.heap.size, 5, none⟩ = some (.int .u8 (vp : Nat)) ∧ W.cell? ⟨w.heap.size, 6, none⟩ = some (.int .i64 vs) ∧ W.cell? ⟨w.heap.size + 1, 0, none⟩ = some (.bool true) ∧ W.cell? ⟨w.heap.size + 1, 1, none⟩ = some (.int .u64 tb) ∧ W.cell? ⟨w.heap.size + 1, 2, none⟩ = some (.int .u64 te) ∧ W.cell? ⟨w.heap.size + 1, 3, none⟩ = some (.int .u64 tl) ∧ W.cell? ⟨w.heap.size + 1, 4, none⟩ = some (.int .u64 th) ∧ W.cell? ⟨w.heap.size + 1, 5, none⟩ = some (.int .u8 (tp : Nat)) ∧ W.cell? ⟨w.heap.size + 1, 6, none⟩ = some (.int .i64 ts))) (by kernel_rfl) (KS.out _ d1) (fun hHeld => ?_)
      refine wpAnyH_take (i := 0) (oi := { dst := some 11, op := Op.fieldAddr 34 (Operand.tmp 2) 0, type := 0, pos := "image.go:79", after := #[], guard := none }) (v := ?_) rfl (by kernel_rfl) (by kernel_rfl) (by kernel_rfl) (fun _ _ _ h => h) (Or.inl ⟨by rfl, ?_⟩) (by assumption) ?_
      rotate_left
      · intro w hSw; (try dsimp only at hSw); go_simp; first | done | with_reducible rfl
      try simp only [Act.put, List.setIfInBounds_toArray, List.set_cons_zero, List.set_cons_succ]
      refine wpAnyH_take (i := 1) (oi := { dst := some 12, op := Op.load 4 (Operand.tmp 11), type := 4, pos := "image.go:79", after := #[{ on := 0, ground := Ground.data }], guard := none }) (v := ?_) rfl (by kernel_rfl) (by kernel_rfl) (by kernel_rfl) (fun _ _ _ h => h) (Or.inl ⟨by rfl, ?_⟩) (by assumption) ?_
      rotate_left
      · intro w hSw; (try dsimp only at hSw); go_simp; first | done | with_reducible rfl
      try simp only [Act.put, List.setIfInBounds_toArray, List.set_cons_zero, List.set_cons_succ]
      refine wpAnyH_take (i := 2) (oi := { dst := some 13, op := Op.move (Operand.tmp 12), type := 4, pos := "image.go:79", after := #[{ on := 1, ground := Ground.data }], guard := none }) (v := ?_) rfl (by kernel_rfl) (by kernel_rfl) (by kernel_rfl) (fun _ _ _ h => h) (Or.inl ⟨by rfl, ?_⟩) (by assumption) ?_
      rotate_left
      · intro w hSw; (try dsimp only at hSw); go_simp; first | done | with_reducible rfl
      try simp only [Act.put, List.setIfInBounds_toArray, List.set_cons_zero, List.set_cons_succ]
      refine wpAnyH_take (i := 3) (oi := { dst := some 14, op := Op.fieldAddr 34 (Operand.tmp 2) 2, type := 0, pos := "image.go:79", after := #[{ on := 2, ground := Ground.guard }], guard := some (2, true) }) (v := undef) rfl (by kernel_rfl) (by kernel_rfl) (by kernel_rfl) (fun _ _ _ h => h) (Or.inr ⟨by rfl, rfl⟩) (by assumption) ?_
      try simp only [Act.put, List.setIfInBounds_toArray, List.set_cons_zero, List.set_cons_succ]
      refine wpAnyH_take (i := 4) (oi := { dst := some 15, op := Op.load 32 (Operand.tmp 14), type := 32, pos := "image.go:79", after := #[{ on := 3, ground := Ground.data }, { on := 2, ground := Ground.guard }], guard := some (2, true) }) (v := undef) rfl (by kernel_rfl) (by kernel_rfl) (by kernel_rfl) (fun _ _ _ h => h) (Or.inr ⟨by rfl, rfl⟩) (by assumption) ?_
      try simp only [Act.put, List.setIfInBounds_toArray, List.set_cons_zero, List.set_cons_succ]
      refine wpAnyH_take (i := 5) (oi := { dst := some 16, op := Op.load 30 (Operand.tmp 3), type := 30, pos := "image.go:79", after := #[{ on := 2, ground := Ground.guard }], guard := some (2, true) }) (v := undef) rfl (by kernel_rfl) (by kernel_rfl) (by kernel_rfl) (fun _ _ _ h => h) (Or.inr ⟨by rfl, rfl⟩) (by assumption) ?_
      try simp only [Act.put, List.setIfInBounds_toArray, List.set_cons_zero, List.set_cons_succ]
      refine wpAnyH_take (i := 6) (oi := { dst := some 17, op := Op.fieldAddr 34 (Operand.tmp 2) 2, type := 0, pos := "image.go:79", after := #[{ on := 2, ground := Ground.guard }], guard := some (2, true) }) (v := undef) rfl (by kernel_rfl) (by kernel_rfl) (by kernel_rfl) (fun _ _ _ h => h) (Or.inr ⟨by rfl, rfl⟩) (by assumption) ?_
      try simp only [Act.put, List.setIfInBounds_toArray, List.set_cons_zero, List.set_cons_succ]
      refine wpAnyH_take (i := 7) (oi := { dst := some 18, op := Op.fieldAddr 32 (Operand.tmp 17) 2, type := 0, pos := "image.go:79", after := #[{ on := 6, ground := Ground.data }, { on := 2, ground := Ground.guard }], guard := some (2, true) }) (v := undef) rfl (by kernel_rfl) (by kernel_rfl) (by kernel_rfl) (fun _ _ _ h => h) (Or.inr ⟨by rfl, rfl⟩) (by assumption) ?_
      try simp only [Act.put, List.setIfInBounds_toArray, List.set_cons_zero, List.set_cons_succ]
      refine wpAnyH_take (i := 8) (oi := { dst := some 19, op := Op.load 23 (Operand.tmp 18), type := 23, pos := "image.go:79", after := #[{ on := 7, ground := Ground.data }, { on := 2, ground := Ground.guard }], guard := some (2, true) }) (v := undef) rfl (by kernel_rfl) (by kernel_rfl) (by kernel_rfl) (fun _ _ _ h => h) (Or.inr ⟨by rfl, rfl⟩) (by assumption) ?_
      try simp only [Act.put, List.setIfInBounds_toArray, List.set_cons_zero, List.set_cons_succ]
      refine wpAnyH_take (i := 9) (oi := { dst := some 20, op := Op.call { callee := Callee.value (Operand.func 34), args := #[Operand.tmp 16, Operand.tmp 19], argTypes := #[30, 23] }, type := 32, pos := "image.go:79", after := #[{ on := 5, ground := Ground.data }, { on := 8, ground := Ground.data }, { on := 2, ground := Ground.chain }, { on := 2, ground := Ground.guard }], guard := some (2, true) }) (v := undef) rfl (by kernel_rfl) (by kernel_rfl) (by kernel_rfl) (fun _ _ _ h => h) (Or.inr ⟨by rfl, rfl⟩) (by assumption) ?_
      try simp only [Act.put, List.setIfInBounds_toArray, List.set_cons_zero, List.set_cons_succ]
      refine wpAnyH_take (i := 10) (oi := { dst := some 21, op := Op.binOp BinOp.eql 32 (Operand.tmp 15) (Operand.tmp 20) 32, type := 4, pos := "image.go:79", after := #[{ on := 4, ground := Ground.data }, { on := 9, ground := Ground.data }, { on := 2, ground := Ground.guard }], guard := some (2, true) }) (v := undef) rfl (by kernel_rfl) (by kernel_rfl) (by kernel_rfl) (fun _ _ _ h => h) (Or.inr ⟨by rfl, rfl⟩) (by assumption) ?_
      try simp only [Act.put, List.setIfInBounds_toArray, List.set_cons_zero, List.set_cons_succ]
      refine wpAnyH_take (i := 11) (oi := { dst := some 22, op := Op.pick (Operand.tmp 13) (Operand.tmp 21) (Operand.const (Value.bool false)), type := 4, pos := "image.go:79", after := #[{ on := 2, ground := Ground.data }, { on := 10, ground := Ground.data }], guard := none }) (v := ?_) rfl (by kernel_rfl) (by kernel_rfl) (by kernel_rfl) (fun _ _ _ h => h) (Or.inl ⟨by rfl, ?_⟩) (by assumption) ?_
      rotate_left
      · intro w hSw; (try dsimp only at hSw); go_simp; first | done | with_reducible rfl
      try simp only [Act.put, List.setIfInBounds_toArray, List.set_cons_zero, List.set_cons_succ]
      refine wpAnyH_take (i := 12) (oi := { dst := some 23, op := Op.move (Operand.tmp 22), type := 4, pos := "image.go:79", after := #[{ on := 11, ground := Ground.data }, { on := 9, ground := Ground.chain }], guard := none }) (v := ?_) rfl (by kernel_rfl) (by kernel_rfl) (by kernel_rfl) (fun _ _ _ h => h) (Or.inl ⟨by rfl, ?_⟩) (by assumption) ?_
      rotate_left
      · intro w hSw; (try dsimp only at hSw); go_simp; first | done | with_reducible rfl
      try simp only [Act.put, List.setIfInBounds_toArray, List.set_cons_zero, List.set_cons_succ]
      refine wpAnyH_take (i := 13) (oi := { dst := some 24, op := Op.load 30 (Operand.tmp 3), type := 30, pos := "image.go:79", after := #[{ on := 12, ground := Ground.guard }], guard := some (12, true) }) (v := undef) rfl (by kernel_rfl) (by kernel_rfl) (by kernel_rfl) (fun _ _ _ h => h) (Or.inr ⟨by rfl, rfl⟩) (by assumption) ?_
      try simp only [Act.put, List.setIfInBounds_toArray, List.set_cons_zero, List.set_cons_succ]
      refine wpAnyH_take (i := 14) (oi := { dst := some 25, op := Op.fieldAddr 34 (Operand.tmp 2) 2, type := 0, pos := "image.go:79", after := #[{ on := 12, ground := Ground.guard }], guard := some (12, true) }) (v := undef) rfl (by kernel_rfl) (by kernel_rfl) (by kernel_rfl) (fun _ _ _ h => h) (Or.inr ⟨by rfl, rfl⟩) (by assumption) ?_
      try simp only [Act.put, List.setIfInBounds_toArray, List.set_cons_zero, List.set_cons_succ]
      refine wpAnyH_take (i := 15) (oi := { dst := some 26, op := Op.fieldAddr 32 (Operand.tmp 25) 2, type := 0, pos := "image.go:79", after := #[{ on := 14, ground := Ground.data }, { on := 12, ground := Ground.guard }], guard := some (12, true) }) (v := undef) rfl (by kernel_rfl) (by kernel_rfl) (by kernel_rfl) (fun _ _ _ h => h) (Or.inr ⟨by rfl, rfl⟩) (by assumption) ?_
      try simp only [Act.put, List.setIfInBounds_toArray, List.set_cons_zero, List.set_cons_succ]
      refine wpAnyH_take (i := 16) (oi := { dst := some 27, op := Op.load 23 (Operand.tmp 26), type := 23, pos := "image.go:79", after := #[{ on := 15, ground := Ground.data }, { on := 12, ground := Ground.guard }], guard := some (12, true) }) (v := undef) rfl (by kernel_rfl) (by kernel_rfl) (by kernel_rfl) (fun _ _ _ h => h) (Or.inr ⟨by rfl, rfl⟩) (by assumption) ?_
      try simp only [Act.put, List.setIfInBounds_toArray, List.set_cons_zero, List.set_cons_succ]
      refine wpAnyH_take (i := 17) (oi := { dst := some 28, op := Op.call { callee := Callee.value (Operand.func 35), args := #[Operand.tmp 24, Operand.tmp 27], argTypes := #[30, 23] }, type := 4, pos := "image.go:79", after := #[{ on := 13, ground := Ground.data }, { on := 16, ground := Ground.data }, { on := 12, ground := Ground.chain }, { on := 12, ground := Ground.guard }], guard := some (12, true) }) (v := undef) rfl (by kernel_rfl) (by kernel_rfl) (by kernel_rfl) (fun _ _ _ h => h) (Or.inr ⟨by rfl, rfl⟩) (by assumption) ?_
      try simp only [Act.put, List.setIfInBounds_toArray, List.set_cons_zero, List.set_cons_succ]
      refine wpAnyH_take (i := 18) (oi := { dst := some 29, op := Op.pick (Operand.tmp 23) (Operand.tmp 28) (Operand.const (Value.bool false)), type := 4, pos := "image.go:79", after := #[{ on := 12, ground := Ground.data }, { on := 17, ground := Ground.data }], guard := none }) (v := ?_) rfl (by kernel_rfl) (by kernel_rfl) (by kernel_rfl) (fun _ _ _ h => h) (Or.inl ⟨by rfl, ?_⟩) (by assumption) ?_
      rotate_left
      · intro w hSw; (try dsimp only at hSw); go_simp; first | done | with_reducible rfl
      try simp only [Act.put, List.setIfInBounds_toArray, List.set_cons_zero, List.set_cons_succ]
      refine wpAnyH_take (i := 19) (oi := { dst := some 4, op := Op.assign (Operand.tmp 29), type := 4, pos := "image.go:79", after := #[{ on := 18, ground := Ground.data }, { on := 17, ground := Ground.chain }, { on := 0, ground := Ground.phase }, { on := 1, ground := Ground.phase }, { on := 2, ground := Ground.phase }, { on := 3, ground := Ground.phase }, { on := 4, ground := Ground.phase }, { on := 5, ground := Ground.phase }, { on := 6, ground := Ground.phase }, { on := 7, ground := Ground.phase }, { on := 8, ground := Ground.phase }, { on := 9, ground := Ground.phase }, { on := 10, ground := Ground.phase }, { on := 11, ground := Ground.phase }, { on := 12, ground := Ground.phase }, { on := 13, ground := Ground.phase }, { on := 14, ground := Ground.phase }, { on := 15, ground := Ground.phase }, { on := 16, ground := Ground.phase }, { on := 17, ground := Ground.phase }, { on := 18, ground := Ground.phase }], guard := none }) (v := ?_) rfl (by kernel_rfl) (by kernel_rfl) (by kernel_rfl) (fun _ _ _ h => h) (Or.inl ⟨by rfl, ?_⟩) (by assumption) ?_
      rotate_left
      · intro w hSw; (try dsimp only at hSw); go_simp; first | done | with_reducible rfl
      try simp only [Act.put, List.setIfInBounds_toArray, List.set_cons_zero, List.set_cons_succ]
      refine wpAnyH_done (by kernel_rfl) ?_ _
      clear hHeld KS
      replace B0 := T.Hid.mk (B0.out.gr d1)
      replace B1 := T.Hid.mk (B1.out.gr d1)
      replace G := T.Hid.mk (G.out.trans d1)
      clear d1 
      have ⟨z0, p0, f0⟩ := B0.out
      have ⟨z1, p1, f1⟩ := B1.out
      clear f0 f1
      go_wp2_with fail
      go_ret
      refine ⟨ret_bool (by simp), G.out⟩
    · cases c1
      · go_enter Try.func12, Try.ntmps12
        go_upto_region 1 with fail
        have B0 : T.Hid (At (((w).alloc (.cells #[.bool true, .int .u64 vn, .int .u64 vb, .int .u64 ve, .int .u64 vc, .int .u8 (vp : Nat), .int .i64 vs] 34)).alloc (.cells #[.bool true, .int .u64 tb, .int .u64 te, .int .u64 tl, .int .u64 th, .int .u8 (tp : Nat), .int .i64 ts] 30)) (w.heap.size) #[.bool true, .int .u64 vn, .int .u64 vb, .int .u64 ve, .int .u64 vc, .int .u8 (vp : Nat), .int .i64 vs]) := T.Hid.mk ((At.at_ (w) _ _ (by simp)).alloc _)
        have B1 : T.Hid (At (((w).alloc (.cells #[.bool true, .int .u64 vn, .int .u64 vb, .int .u64 ve, .int .u64 vc, .int .u8 (vp : Nat), .int .i64 vs] 34)).alloc (.cells #[.bool true, .int .u64 tb, .int .u64 te, .int .u64 tl, .int .u64 th, .int .u8 (tp : Nat), .int .i64 ts] 30)) (w.heap.size + 1) #[.bool true, .int .u64 tb, .int .u64 te, .int .u64 tl, .int .u64 th, .int .u8 (tp : Nat), .int .i64 ts]) := T.Hid.mk (At.at_ ((w).alloc (.cells #[.bool true, .int .u64 vn, .int .u64 vb, .int .u64 ve, .int .u64 vc, .int .u8 (vp : Nat), .int .i64 vs] 34)) _ _ (by simp))
        have G := T.Hid.mk (show Gr w (((w).alloc (.cells #[.bool true, .int .u64 vn, .int .u64 vb, .int .u64 ve, .int .u64 vc, .int .u8 (vp : Nat), .int .i64 vs] 34)).alloc (.cells #[.bool true, .int .u64 tb, .int .u64 te, .int .u64 tl, .int .u64 th, .int .u8 (tp : Nat), .int .i64 ts] 30)) from (((Gr.refl w).alloc _).alloc _))
        generalize ((w).alloc (.cells #[.bool true, .int .u64 vn, .int .u64 vb, .int .u64 ve, .int .u64 vc, .int .u8 (vp : Nat), .int .i64 vs] 34)).alloc (.cells #[.bool true, .int .u64 tb, .int .u64 te, .int .u64 tl, .int .u64 th, .int .u8 (tp : Nat), .int .i64 ts] 30) = W0 at G B0 B1 ⊢
        have ⟨z0, p0, f0⟩ := B0.out
        have ⟨z1, p1, f1⟩ := B1.out
        clear f0 f1
        go_upto_region 3 with fail
        clear z0 p0 z1 p1
        have KS : T.Hid (∀ W, Gr W0 W → W.cell? ⟨w.heap.size, 0, none⟩ = some (.bool true) ∧ W.cell? ⟨w.heap.size, 1, none⟩ = some (.int .u64 vn) ∧ W.cell? ⟨w.heap.size, 2, none⟩ = some (.int .u64 vb) ∧ W.cell? ⟨w.heap.size, 3, none⟩ = some (.int .u64 ve) ∧ W.cell? ⟨w.heap.size, 4, none⟩ = some (.int .u64 vc) ∧ W.cell? ⟨w.heap.size, 5, none⟩ = some (.int .u8 (vp : Nat)) ∧ W.cell? ⟨w.heap.size, 6, none⟩ = some (.int .i64 vs) ∧ W.cell? ⟨w.heap.size + 1, 0, none⟩ = some (.bool true) ∧ W.cell? ⟨w.heap.size + 1, 1, none⟩ = some (.int .u64 tb) ∧ W.cell? ⟨w.heap.size + 1, 2, none⟩ = some (.int .u64 te) ∧ W.cell? ⟨w.heap.size + 1, 3, none⟩ = some (.int .u64 tl) ∧ W.cell? ⟨w.heap.size + 1, 4, none⟩ = some (.int .u64 th) ∧ W.cell? ⟨w.heap.size + 1, 5, none⟩ = some (.int .u8 (tp : Nat)) ∧ W.cell? ⟨w.heap.size + 1, 6, none⟩ = some (.int .i64 ts)) := T.Hid.mk (fun W g => by
          have a0 := (B0.out.gr g).2.1
          have a1 := (B1.out.gr g).2.1
          exact ⟨a0 0, a0 1, a0 2, a0 3, a0 4, a0 5, a0 6, a1 0, a1 1, a1 2, a1 3, a1 4, a1 5, a1 6⟩)
        have d1 : Gr W0 W0.drew := (Gr.refl _).drew
        refine wp_region_held_drew (S := (fun W => W.cell? ⟨w.heap.size, 0, none⟩ = some (.bool true) ∧ W.cell? ⟨w.heap.size, 1, none⟩ = some (.int .u64 vn) ∧ W.cell? ⟨w.heap.size, 2, none⟩ = some (.int .u64 vb) ∧ W.cell? ⟨w.heap.size, 3, none⟩ = some (.int .u64 ve) ∧ W.cell? ⟨w.heap.size, 4, none⟩ = some (.int .u64 vc) ∧ W.cell? ⟨w.heap.size, 5, none⟩ = some (.int .u8 (vp : Nat)) ∧ W.cell? ⟨w.heap.size, 6, none⟩ = some (.int .i64 vs) ∧ W.cell? ⟨w.heap.size + 1, 0, none⟩ = some (.bool true) ∧ W.cell? ⟨w.heap.size + 1, 1, none⟩ = some (.int .u64 tb) ∧ W.cell? ⟨w.heap.size + 1, 2, none⟩ = some (.int .u64 te) ∧ W.cell? ⟨w.heap.size + 1, 3, none⟩ = some (.int .u64 tl) ∧ W.cell? ⟨w.heap.size + 1, 4, none⟩ = some (.int .u64 th) ∧ W.cell? ⟨w.heap.size + 1, 5, none⟩ = some (.int .u8 (tp : Nat)) ∧ W.cell? ⟨w.heap.size + 1, 6, none⟩ = some (.int .i64 ts))) (by kernel_rfl) (KS.out _ d1) (fun hHeld => ?_)
        refine wpAnyH_take (i := 0) (oi := { dst := some 11, op := Op.fieldAddr 34 (Operand.tmp 2) 0, type := 0, pos := "image.go:79", after := #[], guard := none }) (v := ?_) rfl (by kernel_rfl) (by kernel_rfl) (by kernel_rfl) (fun _ _ _ h => h) (Or.inl ⟨by rfl, ?_⟩) (by assumption) ?_
        rotate_left
        · intro w hSw; (try dsimp only at hSw); go_simp; first | done | with_reducible rfl
        try simp only [Act.put, List.setIfInBounds_toArray, List.set_cons_zero, List.set_cons_succ]
        refine wpAnyH_take (i := 1) (oi := { dst := some 12, op := Op.load 4 (Operand.tmp 11), type := 4, pos := "image.go:79", after := #[{ on := 0, ground := Ground.data }], guard := none }) (v := ?_) rfl (by kernel_rfl) (by kernel_rfl) (by kernel_rfl) (fun _ _ _ h => h) (Or.inl ⟨by rfl, ?_⟩) (by assumption) ?_
        rotate_left
        · intro w hSw; (try dsimp only at hSw); go_simp; first | done | with_reducible rfl
        try simp only [Act.put, List.setIfInBounds_toArray, List.set_cons_zero, List.set_cons_succ]
        refine wpAnyH_take (i := 2) (oi := { dst := some 13, op := Op.move (Operand.tmp 12), type := 4, pos := "image.go:79", after := #[{ on := 1, ground := Ground.data }], guard := none }) (v := ?_) rfl (by kernel_rfl) (by kernel_rfl) (by kernel_rfl) (fun _ _ _ h => h) (Or.inl ⟨by rfl, ?_⟩) (by assumption) ?_
        rotate_left
        · intro w hSw; (try dsimp only at hSw); go_simp; first | done | with_reducible rfl
        try simp only [Act.put, List.setIfInBounds_toArray, List.set_cons_zero, List.set_cons_succ]
        refine wpAnyH_take (i := 3) (oi := { dst := some 14, op := Op.fieldAddr 34 (Operand.tmp 2) 2, type := 0, pos := "image.go:79", after := #[{ on := 2, ground := Ground.guard }], guard := some (2, true) }) (v := ?_) rfl (by kernel_rfl) (by kernel_rfl) (by kernel_rfl) (fun _ _ _ h => h) (Or.inl ⟨by rfl, ?_⟩) (by assumption) ?_
        rotate_left
        · intro w hSw; (try dsimp only at hSw); go_simp; first | done | with_reducible rfl
        try simp only [Act.put, List.setIfInBounds_toArray, List.set_cons_zero, List.set_cons_succ]
        refine wpAnyH_take (i := 4) (oi := { dst := some 15, op := Op.load 32 (Operand.tmp 14), type := 32, pos := "image.go:79", after := #[{ on := 3, ground := Ground.data }, { on := 2, ground := Ground.guard }], guard := some (2, true) }) (v := ?_) rfl (by kernel_rfl) (by kernel_rfl) (by kernel_rfl) (fun _ _ _ h => h) (Or.inl ⟨by rfl, ?_⟩) (by assumption) ?_
        rotate_left
        · intro w hSw; (try dsimp only at hSw); go_simp; first | done | with_reducible rfl
        try simp only [Act.put, List.setIfInBounds_toArray, List.set_cons_zero, List.set_cons_succ]
        refine wpAnyH_take (i := 5) (oi := { dst := some 16, op := Op.load 30 (Operand.tmp 3), type := 30, pos := "image.go:79", after := #[{ on := 2, ground := Ground.guard }], guard := some (2, true) }) (v := ?_) rfl (by kernel_rfl) (by kernel_rfl) (by kernel_rfl) (fun _ _ _ h => h) (Or.inl ⟨by rfl, ?_⟩) (by assumption) ?_
        rotate_left
        · intro w hSw; (try dsimp only at hSw); go_simp; first | done | with_reducible rfl
        try simp only [Act.put, List.setIfInBounds_toArray, List.set_cons_zero, List.set_cons_succ]
        refine wpAnyH_take (i := 6) (oi := { dst := some 17, op := Op.fieldAddr 34 (Operand.tmp 2) 2, type := 0, pos := "image.go:79", after := #[{ on := 2, ground := Ground.guard }], guard := some (2, true) }) (v := ?_) rfl (by kernel_rfl) (by kernel_rfl) (by kernel_rfl) (fun _ _ _ h => h) (Or.inl ⟨by rfl, ?_⟩) (by assumption) ?_
        rotate_left
        · intro w hSw; (try dsimp only at hSw); go_simp; first | done | with_reducible rfl
        try simp only [Act.put, List.setIfInBounds_toArray, List.set_cons_zero, List.set_cons_succ]
        refine wpAnyH_take (i := 7) (oi := { dst := some 18, op := Op.fieldAddr 32 (Operand.tmp 17) 2, type := 0, pos := "image.go:79", after := #[{ on := 6, ground := Ground.data }, { on := 2, ground := Ground.guard }], guard := some (2, true) }) (v := ?_) rfl (by kernel_rfl) (by kernel_rfl) (by kernel_rfl) (fun _ _ _ h => h) (Or.inl ⟨by rfl, ?_⟩) (by assumption) ?_
        rotate_left
        · intro w hSw; (try dsimp only at hSw); go_simp; first | done | with_reducible rfl
        try simp only [Act.put, List.setIfInBounds_toArray, List.set_cons_zero, List.set_cons_succ]
        refine wpAnyH_take (i := 8) (oi := { dst := some 19, op := Op.load 23 (Operand.tmp 18), type := 23, pos := "image.go:79", after := #[{ on := 7, ground := Ground.data }, { on := 2, ground := Ground.guard }], guard := some (2, true) }) (v := ?_) rfl (by kernel_rfl) (by kernel_rfl) (by kernel_rfl) (fun _ _ _ h => h) (Or.inl ⟨by rfl, ?_⟩) (by assumption) ?_
        rotate_left
        · intro w hSw; (try dsimp only at hSw); go_simp; first | done | with_reducible rfl
        try simp only [Act.put, List.setIfInBounds_toArray, List.set_cons_zero, List.set_cons_succ]
        refine wpAnyH_ready (rs := [9]) (by kernel_rfl) (by simp) ?_
        refine AllReadyH.cons (o := { dst := some 20, op := Op.call { callee := Callee.value (Operand.func 34), args := #[Operand.tmp 16, Operand.tmp 19], argTypes := #[30, 23] }, type := 32, pos := "image.go:79", after := #[{ on := 5, ground := Ground.data }, { on := 8, ground := Ground.data }, { on := 2, ground := Ground.chain }, { on := 2, ground := Ground.guard }], guard := some (2, true) }) rfl (fun K hK => ?_) AllReadyH.nil
        go_simp
        go_wp2_with (first | (go_at_call 34; refine (h1.out _).mono ?_; rintro x wq ⟨rfl, q9⟩; have d1 : Gr W0 wq := Gr.trans (by (repeat (first | with_reducible assumption | with_reducible exact Gr.refl _ | with_reducible refine Gr.drew ?_ | with_reducible refine Gr.alloc ?_ _))) q9; clear q9) | (go_at_call 35; refine (h2.out _).mono ?_; rintro x wq ⟨rfl, q9⟩; have d1 : Gr W0 wq := Gr.trans (by (repeat (first | with_reducible assumption | with_reducible exact Gr.refl _ | with_reducible refine Gr.drew ?_ | with_reducible refine Gr.alloc ?_ _))) q9; clear q9))
        refine hK.out _ _ (KS.out _ d1) (fun hHeld => ?_)
        clear hK K
        try simp only [Act.put, List.setIfInBounds_toArray, List.set_cons_zero, List.set_cons_succ]
        refine wpAnyH_take (i := 10) (oi := { dst := some 21, op := Op.binOp BinOp.eql 32 (Operand.tmp 15) (Operand.tmp 20) 32, type := 4, pos := "image.go:79", after := #[{ on := 4, ground := Ground.data }, { on := 9, ground := Ground.data }, { on := 2, ground := Ground.guard }], guard := some (2, true) }) (v := ?_) rfl (by kernel_rfl) (by kernel_rfl) (by kernel_rfl) (fun _ _ _ h => h) (Or.inl ⟨by rfl, ?_⟩) (by assumption) ?_
        rotate_left
        · intro w hSw; (try dsimp only at hSw); go_simp; first | done | with_reducible rfl
        try simp only [Act.put, List.setIfInBounds_toArray, List.set_cons_zero, List.set_cons_succ]
        refine wpAnyH_take (i := 11) (oi := { dst := some 22, op := Op.pick (Operand.tmp 13) (Operand.tmp 21) (Operand.const (Value.bool false)), type := 4, pos := "image.go:79", after := #[{ on := 2, ground := Ground.data }, { on := 10, ground := Ground.data }], guard := none }) (v := ?_) rfl (by kernel_rfl) (by kernel_rfl) (by kernel_rfl) (fun _ _ _ h => h) (Or.inl ⟨by rfl, ?_⟩) (by assumption) ?_
        rotate_left
        · intro w hSw; (try dsimp only at hSw); go_simp; first | done | with_reducible rfl
        try simp only [Act.put, List.setIfInBounds_toArray, List.set_cons_zero, List.set_cons_succ]
        refine wpAnyH_take (i := 12) (oi := { dst := some 23, op := Op.move (Operand.tmp 22), type := 4, pos := "image.go:79", after := #[{ on := 11, ground := Ground.data }, { on := 9, ground := Ground.chain }], guard := none }) (v := ?_) rfl (by kernel_rfl) (by kernel_rfl) (by kernel_rfl) (fun _ _ _ h => h) (Or.inl ⟨by rfl, ?_⟩) (by assumption) ?_
        rotate_left
        · intro w hSw; (try dsimp only at hSw); go_simp; first | done | with_reducible rfl
        try simp only [Act.put, List.setIfInBounds_toArray, List.set_cons_zero, List.set_cons_succ]
        refine wpAnyH_take (i := 13) (oi := { dst := some 24, op := Op.load 30 (Operand.tmp 3), type := 30, pos := "image.go:79", after := #[{ on := 12, ground := Ground.guard }], guard := some (12, true) }) (v := undef) rfl (by kernel_rfl) (by kernel_rfl) (by kernel_rfl) (fun _ _ _ h => h) (Or.inr ⟨by rfl, rfl⟩) (by assumption) ?_
        try simp only [Act.put, List.setIfInBounds_toArray, List.set_cons_zero, List.set_cons_succ]
        refine wpAnyH_take (i := 14) (oi := { dst := some 25, op := Op.fieldAddr 34 (Operand.tmp 2) 2, type := 0, pos := "image.go:79", after := #[{ on := 12, ground := Ground.guard }], guard := some (12, true) }) (v := undef) rfl (by kernel_rfl) (by kernel_rfl) (by kernel_rfl) (fun _ _ _ h => h) (Or.inr ⟨by rfl, rfl⟩) (by assumption) ?_
        try simp only [Act.put, List.setIfInBounds_toArray, List.set_cons_zero, List.set_cons_succ]
        refine wpAnyH_take (i := 15) (oi := { dst := some 26, op := Op.fieldAddr 32 (Operand.tmp 25) 2, type := 0, pos := "image.go:79", after := #[{ on := 14, ground := Ground.data }, { on := 12, ground := Ground.guard }], guard := some (12, true) }) (v := undef) rfl (by kernel_rfl) (by kernel_rfl) (by kernel_rfl) (fun _ _ _ h => h) (Or.inr ⟨by rfl, rfl⟩) (by assumption) ?_
        try simp only [Act.put, List.setIfInBounds_toArray, List.set_cons_zero, List.set_cons_succ]
        refine wpAnyH_take (i := 16) (oi := { dst := some 27, op := Op.load 23 (Operand.tmp 26), type := 23, pos := "image.go:79", after := #[{ on := 15, ground := Ground.data }, { on := 12, ground := Ground.guard }], guard := some (12, true) }) (v := undef) rfl (by kernel_rfl) (by kernel_rfl) (by kernel_rfl) (fun _ _ _ h => h) (Or.inr ⟨by rfl, rfl⟩) (by assumption) ?_
        try simp only [Act.put, List.setIfInBounds_toArray, List.set_cons_zero, List.set_cons_succ]
        refine wpAnyH_take (i := 17) (oi := { dst := some 28, op := Op.call { callee := Callee.value (Operand.func 35), args := #[Operand.tmp 24, Operand.tmp 27], argTypes := #[30, 23] }, type := 4, pos := "image.go:79", after := #[{ on := 13, ground := Ground.data }, { on := 16, ground := Ground.data }, { on := 12, ground := Ground.chain }, { on := 12, ground := Ground.guard }], guard := some (12, true) }) (v := undef) rfl (by kernel_rfl) (by kernel_rfl) (by kernel_rfl) (fun _ _ _ h => h) (Or.inr ⟨by rfl, rfl⟩) (by assumption) ?_
        try simp only [Act.put, List.setIfInBounds_toArray, List.set_cons_zero, List.set_cons_succ]
        refine wpAnyH_take (i := 18) (oi := { dst := some 29, op := Op.pick (Operand.tmp 23) (Operand.tmp 28) (Operand.const (Value.bool false)), type := 4, pos := "image.go:79", after := #[{ on := 12, ground := Ground.data }, { on := 17, ground := Ground.data }], guard := none }) (v := ?_) rfl (by kernel_rfl) (by kernel_rfl) (by kernel_rfl) (fun _ _ _ h => h) (Or.inl ⟨by rfl, ?_⟩) (by assumption) ?_
        rotate_left
        · intro w hSw; (try dsimp only at hSw); go_simp; first | done | with_reducible rfl
        try simp only [Act.put, List.setIfInBounds_toArray, List.set_cons_zero, List.set_cons_succ]
        refine wpAnyH_take (i := 19) (oi := { dst := some 4, op := Op.assign (Operand.tmp 29), type := 4, pos := "image.go:79", after := #[{ on := 18, ground := Ground.data }, { on := 17, ground := Ground.chain }, { on := 0, ground := Ground.phase }, { on := 1, ground := Ground.phase }, { on := 2, ground := Ground.phase }, { on := 3, ground := Ground.phase }, { on := 4, ground := Ground.phase }, { on := 5, ground := Ground.phase }, { on := 6, ground := Ground.phase }, { on := 7, ground := Ground.phase }, { on := 8, ground := Ground.phase }, { on := 9, ground := Ground.phase }, { on := 10, ground := Ground.phase }, { on := 11, ground := Ground.phase }, { on := 12, ground := Ground.phase }, { on := 13, ground := Ground.phase }, { on := 14, ground := Ground.phase }, { on := 15, ground := Ground.phase }, { on := 16, ground := Ground.phase }, { on := 17, ground := Ground.phase }, { on := 18, ground := Ground.phase }], guard := none }) (v := ?_) rfl (by kernel_rfl) (by kernel_rfl) (by kernel_rfl) (fun _ _ _ h => h) (Or.inl ⟨by rfl, ?_⟩) (by assumption) ?_
        rotate_left
        · intro w hSw; (try dsimp only at hSw); go_simp; first | done | with_reducible rfl
        try simp only [Act.put, List.setIfInBounds_toArray, List.set_cons_zero, List.set_cons_succ]
        refine wpAnyH_done (by kernel_rfl) ?_ _
        clear hHeld KS
        replace B0 := T.Hid.mk (B0.out.gr d1)
        replace B1 := T.Hid.mk (B1.out.gr d1)
        replace G := T.Hid.mk (G.out.trans d1)
        clear d1 
        have ⟨z0, p0, f0⟩ := B0.out
        have ⟨z1, p1, f1⟩ := B1.out
        clear f0 f1
        go_wp2_with fail
        go_ret
        refine ⟨ret_bool (by simp), G.out⟩
      · go_enter Try.func12, Try.ntmps12
        go_upto_region 1 with fail
        have B0 : T.Hid (At (((w).alloc (.cells #[.bool true, .int .u64 vn, .int .u64 vb, .int .u64 ve, .int .u64 vc, .int .u8 (vp : Nat), .int .i64 vs] 34)).alloc (.cells #[.bool true, .int .u64 tb, .int .u64 te, .int .u64 tl, .int .u64 th, .int .u8 (tp : Nat), .int .i64 ts] 30)) (w.heap.size) #[.bool true, .int .u64 vn, .int .u64 vb, .int .u64 ve, .int .u64 vc, .int .u8 (vp : Nat), .int .i64 vs]) := T.Hid.mk ((At.at_ (w) _ _ (by simp)).alloc _)
        have B1 : T.Hid (At (((w).alloc (.cells #[.bool true, .int .u64 vn, .int .u64 vb, .int .u64 ve, .int .u64 vc, .int .u8 (vp : Nat), .int .i64 vs] 34)).alloc (.cells #[.bool true, .int .u64 tb, .int .u64 te, .int .u64 tl, .int .u64 th, .int .u8 (tp : Nat), .int .i64 ts] 30)) (w.heap.size + 1) #[.bool true, .int .u64 tb, .int .u64 te, .int .u64 tl, .int .u64 th, .int .u8 (tp : Nat), .int .i64 ts]) := T.Hid.mk (At.at_ ((w).alloc (.cells #[.bool true, .int .u64 vn, .int .u64 vb, .int .u64 ve, .int .u64 vc, .int .u8 (vp : Nat), .int .i64 vs] 34)) _ _ (by simp))
        have G := T.Hid.mk (show Gr w (((w).alloc (.cells #[.bool true, .int .u64 vn, .int .u64 vb, .int .u64 ve, .int .u64 vc, .int .u8 (vp : Nat), .int .i64 vs] 34)).alloc (.cells #[.bool true, .int .u64 tb, .int .u64 te, .int .u64 tl, .int .u64 th, .int .u8 (tp : Nat), .int .i64 ts] 30)) from (((Gr.refl w).alloc _).alloc _))
        generalize ((w).alloc (.cells #[.bool true, .int .u64 vn, .int .u64 vb, .int .u64 ve, .int .u64 vc, .int .u8 (vp : Nat), .int .i64 vs] 34)).alloc (.cells #[.bool true, .int .u64 tb, .int .u64 te, .int .u64 tl, .int .u64 th, .int .u8 (tp : Nat), .int .i64 ts] 30) = W0 at G B0 B1 ⊢
        have ⟨z0, p0, f0⟩ := B0.out
        have ⟨z1, p1, f1⟩ := B1.out
        clear f0 f1
        go_upto_region 3 with fail
        clear z0 p0 z1 p1
        have KS : T.Hid (∀ W, Gr W0 W → W.cell? ⟨w.heap.size, 0, none⟩ = some (.bool true) ∧ W.cell? ⟨w.heap.size, 1, none⟩ = some (.int .u64 vn) ∧ W.cell? ⟨w.heap.size, 2, none⟩ = some (.int .u64 vb) ∧ W.cell? ⟨w.heap.size, 3, none⟩ = some (.int .u64 ve) ∧ W.cell? ⟨w.heap.size, 4, none⟩ = some (.int .u64 vc) ∧ W.cell? ⟨w.heap.size, 5, none⟩ = some (.int .u8 (vp : Nat)) ∧ W.cell? ⟨w.heap.size, 6, none⟩ = some (.int .i64 vs) ∧ W.cell? ⟨w.heap.size + 1, 0, none⟩ = some (.bool true) ∧ W.cell? ⟨w.heap.size + 1, 1, none⟩ = some (.int .u64 tb) ∧ W.cell? ⟨w.heap.size + 1, 2, none⟩ = some (.int .u64 te) ∧ W.cell? ⟨w.heap.size + 1, 3, none⟩ = some (.int .u64 tl) ∧ W.cell? ⟨w.heap.size + 1, 4, none⟩ = some (.int .u64 th) ∧ W.cell? ⟨w.heap.size + 1, 5, none⟩ = some (.int .u8 (tp : Nat)) ∧ W.cell? ⟨w.heap.size + 1, 6, none⟩ = some (.int .i64 ts)) := T.Hid.mk (fun W g => by
          have a0 := (B0.out.gr g).2.1
          have a1 := (B1.out.gr g).2.1
          exact ⟨a0 0, a0 1, a0 2, a0 3, a0 4, a0 5, a0 6, a1 0, a1 1, a1 2, a1 3, a1 4, a1 5, a1 6⟩)
        have d1 : Gr W0 W0.drew := (Gr.refl _).drew
        refine wp_region_held_drew (S := (fun W => W.cell? ⟨w.heap.size, 0, none⟩ = some (.bool true) ∧ W.cell? ⟨w.heap.size, 1, none⟩ = some (.int .u64 vn) ∧ W.cell? ⟨w.heap.size, 2, none⟩ = some (.int .u64 vb) ∧ W.cell? ⟨w.heap.size, 3, none⟩ = some (.int .u64 ve) ∧ W.cell? ⟨w.heap.size, 4, none⟩ = some (.int .u64 vc) ∧ W.cell? ⟨w.heap.size, 5, none⟩ = some (.int .u8 (vp : Nat)) ∧ W.cell? ⟨w.heap.size, 6, none⟩ = some (.int .i64 vs) ∧ W.cell? ⟨w.heap.size + 1, 0, none⟩ = some (.bool true) ∧ W.cell? ⟨w.heap.size + 1, 1, none⟩ = some (.int .u64 tb) ∧ W.cell? ⟨w.heap.size + 1, 2, none⟩ = some (.int .u64 te) ∧ W.cell? ⟨w.heap.size + 1, 3, none⟩ = some (.int .u64 tl) ∧ W.cell? ⟨w.heap.size + 1, 4, none⟩ = some (.int .u64 th) ∧ W.cell? ⟨w.heap.size + 1, 5, none⟩ = some (.int .u8 (tp : Nat)) ∧ W.cell? ⟨w.heap.size + 1, 6, none⟩ = some (.int .i64 ts))) (by kernel_rfl) (KS.out _ d1) (fun hHeld => ?_)
        refine wpAnyH_take (i := 0) (oi := { dst := some 11, op := Op.fieldAddr 34 (Operand.tmp 2) 0, type := 0, pos := "image.go:79", after := #[], guard := none }) (v := ?_) rfl (by kernel_rfl) (by kernel_rfl) (by kernel_rfl) (fun _ _ _ h => h) (Or.inl ⟨by rfl, ?_⟩) (by assumption) ?_
        rotate_left
        · intro w hSw; (try dsimp only at hSw); go_simp; first | done | with_reducible rfl
        try simp only [Act.put, List.setIfInBounds_toArray, List.set_cons_zero, List.set_cons_succ]
        refine wpAnyH_take (i := 1) (oi := { dst := some 12, op := Op.load 4 (Operand.tmp 11), type := 4, pos := "image.go:79", after := #[{ on := 0, ground := Ground.data }], guard := none }) (v := ?_) rfl (by kernel_rfl) (by kernel_rfl) (by kernel_rfl) (fun _ _ _ h => h) (Or.inl ⟨by rfl, ?_⟩) (by assumption) ?_
        rotate_left
        · intro w hSw; (try dsimp only at hSw); go_simp; first | done | with_reducible rfl
        try simp only [Act.put, List.setIfInBounds_toArray, List.set_cons_zero, List.set_cons_succ]
        refine wpAnyH_take (i := 2) (oi := { dst := some 13, op := Op.move (Operand.tmp 12), type := 4, pos := "image.go:79", after := #[{ on := 1, ground := Ground.data }], guard := none }) (v := ?_) rfl (by kernel_rfl) (by kernel_rfl) (by kernel_rfl) (fun _ _ _ h => h) (Or.inl ⟨by rfl, ?_⟩) (by assumption) ?_
        rotate_left
        · intro w hSw; (try dsimp only at hSw); go_simp; first | done | with_reducible rfl
        try simp only [Act.put, List.setIfInBounds_toArray, List.set_cons_zero, List.set_cons_succ]
        refine wpAnyH_take (i := 3) (oi := { dst := some 14, op := Op.fieldAddr 34 (Operand.tmp 2) 2, type := 0, pos := "image.go:79", after := #[{ on := 2, ground := Ground.guard }], guard := some (2, true) }) (v := ?_) rfl (by kernel_rfl) (by kernel_rfl) (by kernel_rfl) (fun _ _ _ h => h) (Or.inl ⟨by rfl, ?_⟩) (by assumption) ?_
        rotate_left
        · intro w hSw; (try dsimp only at hSw); go_simp; first | done | with_reducible rfl
        try simp only [Act.put, List.setIfInBounds_toArray, List.set_cons_zero, List.set_cons_succ]
        refine wpAnyH_take (i := 4) (oi := { dst := some 15, op := Op.load 32 (Operand.tmp 14), type := 32, pos := "image.go:79", after := #[{ on := 3, ground := Ground.data }, { on := 2, ground := Ground.guard }], guard := some (2, true) }) (v := ?_) rfl (by kernel_rfl) (by kernel_rfl) (by kernel_rfl) (fun _ _ _ h => h) (Or.inl ⟨by rfl, ?_⟩) (by assumption) ?_
        rotate_left
        · intro w hSw; (try dsimp only at hSw); go_simp; first | done | with_reducible rfl
        try simp only [Act.put, List.setIfInBounds_toArray, List.set_cons_zero, List.set_cons_succ]
        refine wpAnyH_take (i := 5) (oi := { dst := some 16, op := Op.load 30 (Operand.tmp 3), type := 30, pos := "image.go:79", after := #[{ on := 2, ground := Ground.guard }], guard := some (2, true) }) (v := ?_) rfl (by kernel_rfl) (by kernel_rfl) (by kernel_rfl) (fun _ _ _ h => h) (Or.inl ⟨by rfl, ?_⟩) (by assumption) ?_
        rotate_left
        · intro w hSw; (try dsimp only at hSw); go_simp; first | done | with_reducible rfl
        try simp only [Act.put, List.setIfInBounds_toArray, List.set_cons_zero, List.set_cons_succ]
        refine wpAnyH_take (i := 6) (oi := { dst := some 17, op := Op.fieldAddr 34 (Operand.tmp 2) 2, type := 0, pos := "image.go:79", after := #[{ on := 2, ground := Ground.guard }], guard := some (2, true) }) (v := ?_) rfl (by kernel_rfl) (by kernel_rfl) (by kernel_rfl) (fun _ _ _ h => h) (Or.inl ⟨by rfl, ?_⟩) (by assumption) ?_
        rotate_left
        · intro w hSw; (try dsimp only at hSw); go_simp; first | done | with_reducible rfl
        try simp only [Act.put, List.setIfInBounds_toArray, List.set_cons_zero, List.set_cons_succ]
        refine wpAnyH_take (i := 7) (oi := { dst := some 18, op := Op.fieldAddr 32 (Operand.tmp 17) 2, type := 0, pos := "image.go:79", after := #[{ on := 6, ground := Ground.data }, { on := 2, ground := Ground.guard }], guard := some (2, true) }) (v := ?_) rfl (by kernel_rfl) (by kernel_rfl) (by kernel_rfl) (fun _ _ _ h => h) (Or.inl ⟨by rfl, ?_⟩) (by assumption) ?_
        rotate_left
        · intro w hSw; (try dsimp only at hSw); go_simp; first | done | with_reducible rfl
        try simp only [Act.put, List.setIfInBounds_toArray, List.set_cons_zero, List.set_cons_succ]
        refine wpAnyH_take (i := 8) (oi := { dst := some 19, op := Op.load 23 (Operand.tmp 18), type := 23, pos := "image.go:79", after := #[{ on := 7, ground := Ground.data }, { on := 2, ground := Ground.guard }], guard := some (2, true) }) (v := ?_) rfl (by kernel_rfl) (by kernel_rfl) (by kernel_rfl) (fun _ _ _ h => h) (Or.inl ⟨by rfl, ?_⟩) (by assumption) ?_
        rotate_left
        · intro w hSw; (try dsimp only at hSw); go_simp; first | done | with_reducible rfl
        try simp only [Act.put, List.setIfInBounds_toArray, List.set_cons_zero, List.set_cons_succ]
        refine wpAnyH_ready (rs := [9]) (by kernel_rfl) (by simp) ?_
        refine AllReadyH.cons (o := { dst := some 20, op := Op.call { callee := Callee.value (Operand.func 34), args := #[Operand.tmp 16, Operand.tmp 19], argTypes := #[30, 23] }, type := 32, pos := "image.go:79", after := #[{ on := 5, ground := Ground.data }, { on := 8, ground := Ground.data }, { on := 2, ground := Ground.chain }, { on := 2, ground := Ground.guard }], guard := some (2, true) }) rfl (fun K hK => ?_) AllReadyH.nil
        go_simp
        go_wp2_with (first | (go_at_call 34; refine (h1.out _).mono ?_; rintro x wq ⟨rfl, q9⟩; have d1 : Gr W0 wq := Gr.trans (by (repeat (first | with_reducible assumption | with_reducible exact Gr.refl _ | with_reducible refine Gr.drew ?_ | with_reducible refine Gr.alloc ?_ _))) q9; clear q9) | (go_at_call 35; refine (h2.out _).mono ?_; rintro x wq ⟨rfl, q9⟩; have d1 : Gr W0 wq := Gr.trans (by (repeat (first | with_reducible assumption | with_reducible exact Gr.refl _ | with_reducible refine Gr.drew ?_ | with_reducible refine Gr.alloc ?_ _))) q9; clear q9))
        refine hK.out _ _ (KS.out _ d1) (fun hHeld => ?_)
        clear hK K
        try simp only [Act.put, List.setIfInBounds_toArray, List.set_cons_zero, List.set_cons_succ]
        refine wpAnyH_take (i := 10) (oi := { dst := some 21, op := Op.binOp BinOp.eql 32 (Operand.tmp 15) (Operand.tmp 20) 32, type := 4, pos := "image.go:79", after := #[{ on := 4, ground := Ground.data }, { on := 9, ground := Ground.data }, { on := 2, ground := Ground.guard }], guard := some (2, true) }) (v := ?_) rfl (by kernel_rfl) (by kernel_rfl) (by kernel_rfl) (fun _ _ _ h => h) (Or.inl ⟨by rfl, ?_⟩) (by assumption) ?_
        rotate_left
        · intro w hSw; (try dsimp only at hSw); go_simp; first | done | with_reducible rfl
        try simp only [Act.put, List.setIfInBounds_toArray, List.set_cons_zero, List.set_cons_succ]
        refine wpAnyH_take (i := 11) (oi := { dst := some 22, op := Op.pick (Operand.tmp 13) (Operand.tmp 21) (Operand.const (Value.bool false)), type := 4, pos := "image.go:79", after := #[{ on := 2, ground := Ground.data }, { on := 10, ground := Ground.data }], guard := none }) (v := ?_) rfl (by kernel_rfl) (by kernel_rfl) (by kernel_rfl) (fun _ _ _ h => h) (Or.inl ⟨by rfl, ?_⟩) (by assumption) ?_
        rotate_left
        · intro w hSw; (try dsimp only at hSw); go_simp; first | done | with_reducible rfl
        try simp only [Act.put, List.setIfInBounds_toArray, List.set_cons_zero, List.set_cons_succ]
        refine wpAnyH_take (i := 12) (oi := { dst := some 23, op := Op.move (Operand.tmp 22), type := 4, pos := "image.go:79", after := #[{ on := 11, ground := Ground.data }, { on := 9, ground := Ground.chain }], guard := none }) (v := ?_) rfl (by kernel_rfl) (by kernel_rfl) (by kernel_rfl) (fun _ _ _ h => h) (Or.inl ⟨by rfl, ?_⟩) (by assumption) ?_
        rotate_left
        · intro w hSw; (try dsimp only at hSw); go_simp; first | done | with_reducible rfl
        try simp only [Act.put, List.setIfInBounds_toArray, List.set_cons_zero, List.set_cons_succ]
        refine wpAnyH_take (i := 13) (oi := { dst := some 24, op := Op.load 30 (Operand.tmp 3), type := 30, pos := "image.go:79", after := #[{ on := 12, ground := Ground.guard }], guard := some (12, true) }) (v := ?_) rfl (by kernel_rfl) (by kernel_rfl) (by kernel_rfl) (fun _ _ _ h => h) (Or.inl ⟨by rfl, ?_⟩) (by assumption) ?_
        rotate_left
        · intro w hSw; (try dsimp only at hSw); go_simp; first | done | with_reducible rfl
        try simp only [Act.put, List.setIfInBounds_toArray, List.set_cons_zero, List.set_cons_succ]
        refine wpAnyH_take (i := 14) (oi := { dst := some 25, op := Op.fieldAddr 34 (Operand.tmp 2) 2, type := 0, pos := "image.go:79", after := #[{ on := 12, ground := Ground.guard }], guard := some (12, true) }) (v := ?_) rfl (by kernel_rfl) (by kernel_rfl) (by kernel_rfl) (fun _ _ _ h => h) (Or.inl ⟨by rfl, ?_⟩) (by assumption) ?_
        rotate_left
        · intro w hSw; (try dsimp only at hSw); go_simp; first | done | with_reducible rfl
        try simp only [Act.put, List.setIfInBounds_toArray, List.set_cons_zero, List.set_cons_succ]
        refine wpAnyH_take (i := 15) (oi := { dst := some 26, op := Op.fieldAddr 32 (Operand.tmp 25) 2, type := 0, pos := "image.go:79", after := #[{ on := 14, ground := Ground.data }, { on := 12, ground := Ground.guard }], guard := some (12, true) }) (v := ?_) rfl (by kernel_rfl) (by kernel_rfl) (by kernel_rfl) (fun _ _ _ h => h) (Or.inl ⟨by rfl, ?_⟩) (by assumption) ?_
        rotate_left
        · intro w hSw; (try dsimp only at hSw); go_simp; first | done | with_reducible rfl
        try simp only [Act.put, List.setIfInBounds_toArray, List.set_cons_zero, List.set_cons_succ]
        refine wpAnyH_take (i := 16) (oi := { dst := some 27, op := Op.load 23 (Operand.tmp 26), type := 23, pos := "image.go:79", after := #[{ on := 15, ground := Ground.data }, { on := 12, ground := Ground.guard }], guard := some (12, true) }) (v := ?_) rfl (by kernel_rfl) (by kernel_rfl) (by kernel_rfl) (fun _ _ _ h => h) (Or.inl ⟨by rfl, ?_⟩) (by assumption) ?_
        rotate_left
        · intro w hSw; (try dsimp only at hSw); go_simp; first | done | with_reducible rfl
        try simp only [Act.put, List.setIfInBounds_toArray, List.set_cons_zero, List.set_cons_succ]
        refine wpAnyH_ready (rs := [17]) (by kernel_rfl) (by simp) ?_
        refine AllReadyH.cons (o := { dst := some 28, op := Op.call { callee := Callee.value (Operand.func 35), args := #[Operand.tmp 24, Operand.tmp 27], argTypes := #[30, 23] }, type := 4, pos := "image.go:79", after := #[{ on := 13, ground := Ground.data }, { on := 16, ground := Ground.data }, { on := 12, ground := Ground.chain }, { on := 12, ground := Ground.guard }], guard := some (12, true) }) rfl (fun K hK => ?_) AllReadyH.nil
        go_simp
        go_wp2_with (first | (go_at_call 34; refine (h1.out _).mono ?_; rintro x wq ⟨rfl, q9⟩; have d1 : Gr W0 wq := Gr.trans (by (repeat (first | with_reducible assumption | with_reducible exact Gr.refl _ | with_reducible refine Gr.drew ?_ | with_reducible refine Gr.alloc ?_ _))) q9; clear q9) | (go_at_call 35; refine (h2.out _).mono ?_; rintro x wq ⟨rfl, q9⟩; have d1 : Gr W0 wq := Gr.trans (by (repeat (first | with_reducible assumption | with_reducible exact Gr.refl _ | with_reducible refine Gr.drew ?_ | with_reducible refine Gr.alloc ?_ _))) q9; clear q9))
        refine hK.out _ _ (KS.out _ d1) (fun hHeld => ?_)
        clear hK K
        try simp only [Act.put, List.setIfInBounds_toArray, List.set_cons_zero, List.set_cons_succ]
        refine wpAnyH_take (i := 18) (oi := { dst := some 29, op := Op.pick (Operand.tmp 23) (Operand.tmp 28) (Operand.const (Value.bool false)), type := 4, pos := "image.go:79", after := #[{ on := 12, ground := Ground.data }, { on := 17, ground := Ground.data }], guard := none }) (v := ?_) rfl (by kernel_rfl) (by kernel_rfl) (by kernel_rfl) (fun _ _ _ h => h) (Or.inl ⟨by rfl, ?_⟩) (by assumption) ?_
        rotate_left
        · intro w hSw; (try dsimp only at hSw); go_simp; first | done | with_reducible rfl
        try simp only [Act.put, List.setIfInBounds_toArray, List.set_cons_zero, List.set_cons_succ]
        refine wpAnyH_take (i := 19) (oi := { dst := some 4, op := Op.assign (Operand.tmp 29), type := 4, pos := "image.go:79", after := #[{ on := 18, ground := Ground.data }, { on := 17, ground := Ground.chain }, { on := 0, ground := Ground.phase }, { on := 1, ground := Ground.phase }, { on := 2, ground := Ground.phase }, { on := 3, ground := Ground.phase }, { on := 4, ground := Ground.phase }, { on := 5, ground := Ground.phase }, { on := 6, ground := Ground.phase }, { on := 7, ground := Ground.phase }, { on := 8, ground := Ground.phase }, { on := 9, ground := Ground.phase }, { on := 10, ground := Ground.phase }, { on := 11, ground := Ground.phase }, { on := 12, ground := Ground.phase }, { on := 13, ground := Ground.phase }, { on := 14, ground := Ground.phase }, { on := 15, ground := Ground.phase }, { on := 16, ground := Ground.phase }, { on := 17, ground := Ground.phase }, { on := 18, ground := Ground.phase }], guard := none }) (v := ?_) rfl (by kernel_rfl) (by kernel_rfl) (by kernel_rfl) (fun _ _ _ h => h) (Or.inl ⟨by rfl, ?_⟩) (by assumption) ?_
        rotate_left
        · intro w hSw; (try dsimp only at hSw); go_simp; first | done | with_reducible rfl
        try simp only [Act.put, List.setIfInBounds_toArray, List.set_cons_zero, List.set_cons_succ]
        refine wpAnyH_done (by kernel_rfl) ?_ _
        clear hHeld KS
        replace B0 := T.Hid.mk (B0.out.gr d1)
        replace B1 := T.Hid.mk (B1.out.gr d1)
        replace G := T.Hid.mk (G.out.trans d1)
        clear d1 
        have ⟨z0, p0, f0⟩ := B0.out
        have ⟨z1, p1, f1⟩ := B1.out
        clear f0 f1
        go_wp2_with fail
        go_ret
        refine ⟨ret_bool (by simp), G.out⟩
/-- What is sure of a type has values of it alone. -/
theorem sure_fit {a : RV} {t : Tt} {v : Vv} (hs : a.sure t = true) (hv : a.has v = true) : fitB v t.pl = true := by
  cases a with
  | any => cases hs
  | int n =>
    simp only [RV.sure, RV.has, Bool.not_eq_true', Bool.and_eq_true] at hs hv
    simp [fitB, Tt.pl, hs, Tt.zero, hv.1]
  | cap b e p mu ma s =>
    simp only [RV.sure, RV.has, Bool.and_eq_true, Bool.or_eq_true, decide_eq_true_eq, beq_iff_eq, Sp.has_iff] at hs hv
    obtain ⟨⟨⟨⟨⟨⟨s0, s1⟩, s2⟩, s3⟩, s4⟩, s5⟩, s6⟩ := hs
    obtain ⟨⟨⟨⟨⟨⟨v0, v1⟩, v2⟩, v3⟩, v4⟩, v5⟩, v6⟩ := hv
    subst s4
    subst s5
    have e := amg_anti v5 v4
    rw [show t.pl = t from if_pos s0]
    unfold fitB
    rw [if_pos s0, v0, Bool.true_and, Bool.and_eq_true]
    refine ⟨?_, ?_⟩
    · unfold Kc.eqB
      rw [decide_eq_true_eq]
      exact ⟨by show v.c.b = t.b; omega, by show v.c.e = t.e; omega, rfl, e, by show v.c.s = t.s; omega⟩
    · unfold ptB
      rw [Bool.and_eq_true, decide_eq_true_eq, decide_eq_true_eq]
      omega
end R
end Go.Proofs.Ytedbfnmmdlcbgaa
