/-
  Stage 9, regtype: RegtypeStates, walked.
-/
import Derived.Test.YtedbfnmmdlcbgaaRStAll
import Derived.Test.YtedbfnmmdlcbgaaRStEq
import Derived.Test.YtedbfnmmdlcbgaaRLaw
import Derived.Test.YtedbfnmmdlcbgaaRProH
namespace Go.Proofs.Ytedbfnmmdlcbgaa
namespace R
open Go.RowKit

set_option maxRecDepth 100000 in
set_option maxHeartbeats 16000000 in
theorem walk_RegtypeStates (la : Bool) (A : List RT) (lb : Bool) (B : List RT) (V : List Vv) (w : World) (hA : R16 A) (hB : R16 B) (hV : V16 V) : Calls Try.prog 5 #[.agg (stC la A).toArray, .agg (stC lb B).toArray, .agg (rowV [] Vv.vals V).toArray] w fun x w' => x = .returned (.bool true) ∧ Gr w w' := by
  have h0 := T.Hid.mk (fun W => alive_any pInt_any pJoin_any W)
  have h1 := T.Hid.mk (fun W => pUnderState_any la A lb B hA hB W)
  have h2 := T.Hid.mk (fun W => dUnderState_any la A lb B hA hB W)
  have h3 := T.Hid.mk (fun W => pJoinState_any la A lb B hA hB W)
  have h4 := T.Hid.mk (fun W => dJoinState_any la A lb B hA hB W)
  have h5 := T.Hid.mk (fun W => pWidenState_any la A lb B hA hB W)
  have h6 := T.Hid.mk (fun W => dWidenState_any la A lb B hA hB W)
  have h7 := T.Hid.mk (fun W => pAllows_any la A V hA hV W)
  have h8 := T.Hid.mk (fun W => dAllows_any la A V hA hV W)
  have q1 := fun W => eqSt (mL la lb) (mR F9 J9 la A lb B) (mR_len hA.1 hB.1) W
  have q2 := fun W => eqSt (mL la lb) (mR F9 W9 la A lb B) (mR_len hA.1 hB.1) W
  generalize stC (mL la lb) (mR F9 J9 la A lb B) = XJ at *
  generalize stC (mL la lb) (mR F9 W9 la A lb B) = XW at *
  generalize uS U9 la A lb B = u1 at *
  generalize aS H9 la A V = u2 at *
  replace hA := hA.1
  replace hB := hB.1
  replace hV := hV.1
  go_enter Try.func5, Try.ntmps5
  go_upto_region 1 with fail
  have B0 : T.Hid (At ((((w).alloc (.cells (stC la A).toArray 47)).alloc (.cells (stC lb B).toArray 47)).alloc (.cells (rowV [] Vv.vals V).toArray 48)) (w.heap.size) (stC la A).toArray) := T.Hid.mk (((At.at_ w _ _ rfl).alloc _).alloc _)
  have B1 : T.Hid (At ((((w).alloc (.cells (stC la A).toArray 47)).alloc (.cells (stC lb B).toArray 47)).alloc (.cells (rowV [] Vv.vals V).toArray 48)) (w.heap.size + 1) (stC lb B).toArray) := T.Hid.mk ((At.at_ _ _ _ (by simp)).alloc _)
  have B2 : T.Hid (At ((((w).alloc (.cells (stC la A).toArray 47)).alloc (.cells (stC lb B).toArray 47)).alloc (.cells (rowV [] Vv.vals V).toArray 48)) (w.heap.size + 1 + 1) (rowV [] Vv.vals V).toArray) := T.Hid.mk (At.at_ _ _ _ (by simp))
  have G : T.Hid (Gr w ((((w).alloc (.cells (stC la A).toArray 47)).alloc (.cells (stC lb B).toArray 47)).alloc (.cells (rowV [] Vv.vals V).toArray 48))) := T.Hid.mk ((((Gr.refl w).alloc _).alloc _).alloc _)
  generalize (((w).alloc (.cells (stC la A).toArray 47)).alloc (.cells (stC lb B).toArray 47)).alloc (.cells (rowV [] Vv.vals V).toArray 48) = W0 at B0 B1 B2 G ⊢
  go_upto_region 2 with (go_at_call 6; refine (h0.out _).mono ?_; rintro x w1 ⟨rfl, q⟩)
  replace B0 := T.Hid.mk (B0.out.gr q)
  replace B1 := T.Hid.mk (B1.out.gr q)
  replace B2 := T.Hid.mk (B2.out.gr q)
  replace G := T.Hid.mk (G.out.trans q)
  clear q h0
  have KS : T.Hid (∀ W, Gr w1 W → W.rangeAt w.heap.size 0 (stC la A) ∧ W.rangeAt (w.heap.size + 1) 0 (stC lb B)) := T.Hid.mk (fun W g => ⟨(B0.out.gr g).range, (B1.out.gr g).range⟩)
  have d1 : Gr w1 w1.drew := (Gr.refl _).drew
  refine wp_region_held_drew (S := (fun W => W.rangeAt w.heap.size 0 (stC la A) ∧ W.rangeAt (w.heap.size + 1) 0 (stC lb B))) (by kernel_rfl) (KS.out _ d1) (fun hHeld => ?_)
  refine wpAnyH_take (i := 0) (oi := { dst := some 13, op := Op.load 47 (Operand.tmp 3), type := 47, pos := "law.go:47", after := #[], guard := none }) (v := _) rfl (by kernel_rfl) (by kernel_rfl) (by kernel_rfl) (fun _ _ _ h => h) (yieldsIf_load_mid (by rfl) _ _ rfl _ _ rfl _ _ (fun _ h => h.1) Try.underlying47 rfl (info_st hA)) (by assumption) ?_
  try simp only [Act.put, List.setIfInBounds_toArray, List.set_cons_zero, List.set_cons_succ]
  refine wpAnyH_take (i := 1) (oi := { dst := some 14, op := Op.load 47 (Operand.tmp 4), type := 47, pos := "law.go:47", after := #[], guard := none }) (v := _) rfl (by kernel_rfl) (by kernel_rfl) (by kernel_rfl) (fun _ _ _ h => h) (yieldsIf_load_mid (by rfl) _ _ rfl _ _ rfl _ _ (fun _ h => h.2) Try.underlying47 rfl (info_st hB)) (by assumption) ?_
  try simp only [Act.put, List.setIfInBounds_toArray, List.set_cons_zero, List.set_cons_succ]
  refine wpAnyH_take (i := 3) (oi := { dst := some 16, op := Op.load 47 (Operand.tmp 3), type := 47, pos := "law.go:47", after := #[], guard := none }) (v := _) rfl (by kernel_rfl) (by kernel_rfl) (by kernel_rfl) (fun _ _ _ h => h) (yieldsIf_load_mid (by rfl) _ _ rfl _ _ rfl _ _ (fun _ h => h.1) Try.underlying47 rfl (info_st hA)) (by assumption) ?_
  try simp only [Act.put, List.setIfInBounds_toArray, List.set_cons_zero, List.set_cons_succ]
  refine wpAnyH_take (i := 4) (oi := { dst := some 17, op := Op.load 47 (Operand.tmp 4), type := 47, pos := "law.go:47", after := #[], guard := none }) (v := _) rfl (by kernel_rfl) (by kernel_rfl) (by kernel_rfl) (fun _ _ _ h => h) (yieldsIf_load_mid (by rfl) _ _ rfl _ _ rfl _ _ (fun _ h => h.2) Try.underlying47 rfl (info_st hB)) (by assumption) ?_
  try simp only [Act.put, List.setIfInBounds_toArray, List.set_cons_zero, List.set_cons_succ]
  refine wpAnyH_ready (rs := [2]) (by kernel_rfl) (by simp) ?_
  refine AllReadyH.cons (o := { dst := some 15, op := Op.call { callee := Callee.value (Operand.func 16), args := #[Operand.tmp 13, Operand.tmp 14], argTypes := #[47, 47] }, type := 4, pos := "law.go:47", after := #[{ on := 0, ground := Ground.data }, { on := 1, ground := Ground.data }], guard := none }) rfl (fun K hK => ?_) AllReadyH.nil
  go_simp
  go_wp2_with (first | (go_at_call 16; refine (h1.out _).mono ?_; rintro x wq ⟨rfl, q9⟩; have d1 : Gr w1 wq := Gr.trans (by (repeat (first | with_reducible assumption | with_reducible exact Gr.refl _ | with_reducible refine Gr.drew ?_ | with_reducible refine Gr.alloc ?_ _))) q9; clear q9) | (go_at_call 18; refine (h2.out _).mono ?_; rintro x wq ⟨rfl, q9⟩; have d1 : Gr w1 wq := Gr.trans (by (repeat (first | with_reducible assumption | with_reducible exact Gr.refl _ | with_reducible refine Gr.drew ?_ | with_reducible refine Gr.alloc ?_ _))) q9; clear q9))
  refine hK.out _ _ (KS.out _ d1) (fun hHeld => ?_)
  clear hK K
  try simp only [Act.put, List.setIfInBounds_toArray, List.set_cons_zero, List.set_cons_succ]
  refine wpAnyH_ready (rs := [5]) (by kernel_rfl) (by simp) ?_
  refine AllReadyH.cons (o := { dst := some 18, op := Op.call { callee := Callee.value (Operand.func 18), args := #[Operand.tmp 16, Operand.tmp 17], argTypes := #[47, 47] }, type := 4, pos := "law.go:47", after := #[{ on := 3, ground := Ground.data }, { on := 4, ground := Ground.data }, { on := 2, ground := Ground.chain }], guard := none }) rfl (fun K hK => ?_) AllReadyH.nil
  go_simp
  go_wp2_with (first | (go_at_call 16; refine (h1.out _).mono ?_; rintro x wq ⟨rfl, q9⟩; have d1 : Gr w1 wq := Gr.trans (by (repeat (first | with_reducible assumption | with_reducible exact Gr.refl _ | with_reducible refine Gr.drew ?_ | with_reducible refine Gr.alloc ?_ _))) q9; clear q9) | (go_at_call 18; refine (h2.out _).mono ?_; rintro x wq ⟨rfl, q9⟩; have d1 : Gr w1 wq := Gr.trans (by (repeat (first | with_reducible assumption | with_reducible exact Gr.refl _ | with_reducible refine Gr.drew ?_ | with_reducible refine Gr.alloc ?_ _))) q9; clear q9))
  refine hK.out _ _ (KS.out _ d1) (fun hHeld => ?_)
  clear hK K
  try simp only [Act.put, List.setIfInBounds_toArray, List.set_cons_zero, List.set_cons_succ]
  refine wpAnyH_take (i := 6) (oi := { dst := some 19, op := Op.binOp BinOp.eql 4 (Operand.tmp 15) (Operand.tmp 18) 4, type := 4, pos := "law.go:47", after := #[{ on := 2, ground := Ground.data }, { on := 5, ground := Ground.data }], guard := none }) (v := ?_) rfl (by kernel_rfl) (by kernel_rfl) (by kernel_rfl) (fun _ _ _ h => h) (Or.inl ⟨by rfl, ?_⟩) (by assumption) ?_
  rotate_left
  · intro w hSw; (try dsimp only at hSw); go_simp; first | done | with_reducible rfl
  try simp only [Act.put, List.setIfInBounds_toArray, List.set_cons_zero, List.set_cons_succ]
  refine wpAnyH_take (i := 7) (oi := { dst := some 8, op := Op.assign (Operand.tmp 19), type := 4, pos := "law.go:47", after := #[{ on := 6, ground := Ground.data }, { on := 5, ground := Ground.chain }, { on := 0, ground := Ground.phase }, { on := 1, ground := Ground.phase }, { on := 2, ground := Ground.phase }, { on := 3, ground := Ground.phase }, { on := 4, ground := Ground.phase }, { on := 5, ground := Ground.phase }, { on := 6, ground := Ground.phase }], guard := none }) (v := ?_) rfl (by kernel_rfl) (by kernel_rfl) (by kernel_rfl) (fun _ _ _ h => h) (Or.inl ⟨by rfl, ?_⟩) (by assumption) ?_
  rotate_left
  · intro w hSw; (try dsimp only at hSw); go_simp; first | done | with_reducible rfl
  try simp only [Act.put, List.setIfInBounds_toArray, List.set_cons_zero, List.set_cons_succ]
  refine wpAnyH_done (by kernel_rfl) ?_ _
  clear hHeld KS
  replace B0 := T.Hid.mk (B0.out.gr d1)
  replace B1 := T.Hid.mk (B1.out.gr d1)
  replace B2 := T.Hid.mk (B2.out.gr d1)
  replace G := T.Hid.mk (G.out.trans d1)
  clear d1 h1 h2
  generalize wq = w2 at *
  go_upto_region 3 with fail
  have KS : T.Hid (∀ W, Gr w2 W → W.rangeAt w.heap.size 0 (stC la A) ∧ W.rangeAt (w.heap.size + 1) 0 (stC lb B)) := T.Hid.mk (fun W g => ⟨(B0.out.gr g).range, (B1.out.gr g).range⟩)
  have d1 : Gr w2 w2.drew := (Gr.refl _).drew
  refine wp_region_held_drew (S := (fun W => W.rangeAt w.heap.size 0 (stC la A) ∧ W.rangeAt (w.heap.size + 1) 0 (stC lb B))) (by kernel_rfl) (KS.out _ d1) (fun hHeld => ?_)
  refine wpAnyH_take (i := 0) (oi := { dst := some 20, op := Op.load 47 (Operand.tmp 3), type := 47, pos := "law.go:48", after := #[], guard := none }) (v := _) rfl (by kernel_rfl) (by kernel_rfl) (by kernel_rfl) (fun _ _ _ h => h) (yieldsIf_load_mid (by rfl) _ _ rfl _ _ rfl _ _ (fun _ h => h.1) Try.underlying47 rfl (info_st hA)) (by assumption) ?_
  try simp only [Act.put, List.setIfInBounds_toArray, List.set_cons_zero, List.set_cons_succ]
  refine wpAnyH_take (i := 1) (oi := { dst := some 21, op := Op.load 47 (Operand.tmp 4), type := 47, pos := "law.go:48", after := #[], guard := none }) (v := _) rfl (by kernel_rfl) (by kernel_rfl) (by kernel_rfl) (fun _ _ _ h => h) (yieldsIf_load_mid (by rfl) _ _ rfl _ _ rfl _ _ (fun _ h => h.2) Try.underlying47 rfl (info_st hB)) (by assumption) ?_
  try simp only [Act.put, List.setIfInBounds_toArray, List.set_cons_zero, List.set_cons_succ]
  refine wpAnyH_take (i := 3) (oi := { dst := some 23, op := Op.load 47 (Operand.tmp 3), type := 47, pos := "law.go:48", after := #[], guard := none }) (v := _) rfl (by kernel_rfl) (by kernel_rfl) (by kernel_rfl) (fun _ _ _ h => h) (yieldsIf_load_mid (by rfl) _ _ rfl _ _ rfl _ _ (fun _ h => h.1) Try.underlying47 rfl (info_st hA)) (by assumption) ?_
  try simp only [Act.put, List.setIfInBounds_toArray, List.set_cons_zero, List.set_cons_succ]
  refine wpAnyH_take (i := 4) (oi := { dst := some 24, op := Op.load 47 (Operand.tmp 4), type := 47, pos := "law.go:48", after := #[], guard := none }) (v := _) rfl (by kernel_rfl) (by kernel_rfl) (by kernel_rfl) (fun _ _ _ h => h) (yieldsIf_load_mid (by rfl) _ _ rfl _ _ rfl _ _ (fun _ h => h.2) Try.underlying47 rfl (info_st hB)) (by assumption) ?_
  try simp only [Act.put, List.setIfInBounds_toArray, List.set_cons_zero, List.set_cons_succ]
  refine wpAnyH_ready (rs := [2]) (by kernel_rfl) (by simp) ?_
  refine AllReadyH.cons (o := { dst := some 22, op := Op.call { callee := Callee.value (Operand.func 14), args := #[Operand.tmp 20, Operand.tmp 21], argTypes := #[47, 47] }, type := 47, pos := "law.go:48", after := #[{ on := 0, ground := Ground.data }, { on := 1, ground := Ground.data }], guard := none }) rfl (fun K hK => ?_) AllReadyH.nil
  go_simp
  go_wp2_with (first | (go_at_call 14; refine (h3.out _).mono ?_; rintro x wq ⟨rfl, q9⟩; have d1 : Gr w2 wq := Gr.trans (by (repeat (first | with_reducible assumption | with_reducible exact Gr.refl _ | with_reducible refine Gr.drew ?_ | with_reducible refine Gr.alloc ?_ _))) q9; clear q9) | (go_at_call 19; refine (h4.out _).mono ?_; rintro x wq ⟨rfl, q9⟩; have d1 : Gr w2 wq := Gr.trans (by (repeat (first | with_reducible assumption | with_reducible exact Gr.refl _ | with_reducible refine Gr.drew ?_ | with_reducible refine Gr.alloc ?_ _))) q9; clear q9))
  refine hK.out _ _ (KS.out _ d1) (fun hHeld => ?_)
  clear hK K
  try simp only [Act.put, List.setIfInBounds_toArray, List.set_cons_zero, List.set_cons_succ]
  refine wpAnyH_ready (rs := [5]) (by kernel_rfl) (by simp) ?_
  refine AllReadyH.cons (o := { dst := some 25, op := Op.call { callee := Callee.value (Operand.func 19), args := #[Operand.tmp 23, Operand.tmp 24], argTypes := #[47, 47] }, type := 47, pos := "law.go:48", after := #[{ on := 3, ground := Ground.data }, { on := 4, ground := Ground.data }, { on := 2, ground := Ground.chain }], guard := none }) rfl (fun K hK => ?_) AllReadyH.nil
  go_simp
  go_wp2_with (first | (go_at_call 14; refine (h3.out _).mono ?_; rintro x wq ⟨rfl, q9⟩; have d1 : Gr w2 wq := Gr.trans (by (repeat (first | with_reducible assumption | with_reducible exact Gr.refl _ | with_reducible refine Gr.drew ?_ | with_reducible refine Gr.alloc ?_ _))) q9; clear q9) | (go_at_call 19; refine (h4.out _).mono ?_; rintro x wq ⟨rfl, q9⟩; have d1 : Gr w2 wq := Gr.trans (by (repeat (first | with_reducible assumption | with_reducible exact Gr.refl _ | with_reducible refine Gr.drew ?_ | with_reducible refine Gr.alloc ?_ _))) q9; clear q9))
  refine hK.out _ _ (KS.out _ d1) (fun hHeld => ?_)
  clear hK K
  try simp only [Act.put, List.setIfInBounds_toArray, List.set_cons_zero, List.set_cons_succ]
  refine wpAnyH_take (i := 6) (oi := { dst := some 26, op := Op.binOp BinOp.eql 47 (Operand.tmp 22) (Operand.tmp 25) 47, type := 4, pos := "law.go:48", after := #[{ on := 2, ground := Ground.data }, { on := 5, ground := Ground.data }], guard := none }) (v := ?_) rfl (by kernel_rfl) (by kernel_rfl) (by kernel_rfl) (fun _ _ _ h => h) (Or.inl ⟨by rfl, ?_⟩) (by assumption) ?_
  rotate_left
  · intro w hSw; (try dsimp only at hSw); go_simp; first | done | with_reducible rfl
  try simp only [Act.put, List.setIfInBounds_toArray, List.set_cons_zero, List.set_cons_succ]
  refine wpAnyH_take (i := 7) (oi := { dst := some 9, op := Op.assign (Operand.tmp 26), type := 4, pos := "law.go:48", after := #[{ on := 6, ground := Ground.data }, { on := 5, ground := Ground.chain }, { on := 0, ground := Ground.phase }, { on := 1, ground := Ground.phase }, { on := 2, ground := Ground.phase }, { on := 3, ground := Ground.phase }, { on := 4, ground := Ground.phase }, { on := 5, ground := Ground.phase }, { on := 6, ground := Ground.phase }], guard := none }) (v := ?_) rfl (by kernel_rfl) (by kernel_rfl) (by kernel_rfl) (fun _ _ _ h => h) (Or.inl ⟨by rfl, ?_⟩) (by assumption) ?_
  rotate_left
  · intro w hSw; (try dsimp only at hSw); go_simp; first | done | with_reducible rfl
  try simp only [Act.put, List.setIfInBounds_toArray, List.set_cons_zero, List.set_cons_succ]
  refine wpAnyH_done (by kernel_rfl) ?_ _
  clear hHeld KS
  replace B0 := T.Hid.mk (B0.out.gr d1)
  replace B1 := T.Hid.mk (B1.out.gr d1)
  replace B2 := T.Hid.mk (B2.out.gr d1)
  replace G := T.Hid.mk (G.out.trans d1)
  clear d1 h3 h4
  generalize wq = w3 at *
  go_upto_region 4 with fail
  have KS : T.Hid (∀ W, Gr w3 W → W.rangeAt w.heap.size 0 (stC la A) ∧ W.rangeAt (w.heap.size + 1) 0 (stC lb B)) := T.Hid.mk (fun W g => ⟨(B0.out.gr g).range, (B1.out.gr g).range⟩)
  have d1 : Gr w3 w3.drew := (Gr.refl _).drew
  refine wp_region_held_drew (S := (fun W => W.rangeAt w.heap.size 0 (stC la A) ∧ W.rangeAt (w.heap.size + 1) 0 (stC lb B))) (by kernel_rfl) (KS.out _ d1) (fun hHeld => ?_)
  refine wpAnyH_take (i := 0) (oi := { dst := some 27, op := Op.load 47 (Operand.tmp 3), type := 47, pos := "law.go:49", after := #[], guard := none }) (v := _) rfl (by kernel_rfl) (by kernel_rfl) (by kernel_rfl) (fun _ _ _ h => h) (yieldsIf_load_mid (by rfl) _ _ rfl _ _ rfl _ _ (fun _ h => h.1) Try.underlying47 rfl (info_st hA)) (by assumption) ?_
  try simp only [Act.put, List.setIfInBounds_toArray, List.set_cons_zero, List.set_cons_succ]
  refine wpAnyH_take (i := 1) (oi := { dst := some 28, op := Op.load 47 (Operand.tmp 4), type := 47, pos := "law.go:49", after := #[], guard := none }) (v := _) rfl (by kernel_rfl) (by kernel_rfl) (by kernel_rfl) (fun _ _ _ h => h) (yieldsIf_load_mid (by rfl) _ _ rfl _ _ rfl _ _ (fun _ h => h.2) Try.underlying47 rfl (info_st hB)) (by assumption) ?_
  try simp only [Act.put, List.setIfInBounds_toArray, List.set_cons_zero, List.set_cons_succ]
  refine wpAnyH_take (i := 3) (oi := { dst := some 30, op := Op.load 47 (Operand.tmp 3), type := 47, pos := "law.go:49", after := #[], guard := none }) (v := _) rfl (by kernel_rfl) (by kernel_rfl) (by kernel_rfl) (fun _ _ _ h => h) (yieldsIf_load_mid (by rfl) _ _ rfl _ _ rfl _ _ (fun _ h => h.1) Try.underlying47 rfl (info_st hA)) (by assumption) ?_
  try simp only [Act.put, List.setIfInBounds_toArray, List.set_cons_zero, List.set_cons_succ]
  refine wpAnyH_take (i := 4) (oi := { dst := some 31, op := Op.load 47 (Operand.tmp 4), type := 47, pos := "law.go:49", after := #[], guard := none }) (v := _) rfl (by kernel_rfl) (by kernel_rfl) (by kernel_rfl) (fun _ _ _ h => h) (yieldsIf_load_mid (by rfl) _ _ rfl _ _ rfl _ _ (fun _ h => h.2) Try.underlying47 rfl (info_st hB)) (by assumption) ?_
  try simp only [Act.put, List.setIfInBounds_toArray, List.set_cons_zero, List.set_cons_succ]
  refine wpAnyH_ready (rs := [2]) (by kernel_rfl) (by simp) ?_
  refine AllReadyH.cons (o := { dst := some 29, op := Op.call { callee := Callee.value (Operand.func 15), args := #[Operand.tmp 27, Operand.tmp 28], argTypes := #[47, 47] }, type := 47, pos := "law.go:49", after := #[{ on := 0, ground := Ground.data }, { on := 1, ground := Ground.data }], guard := none }) rfl (fun K hK => ?_) AllReadyH.nil
  go_simp
  go_wp2_with (first | (go_at_call 15; refine (h5.out _).mono ?_; rintro x wq ⟨rfl, q9⟩; have d1 : Gr w3 wq := Gr.trans (by (repeat (first | with_reducible assumption | with_reducible exact Gr.refl _ | with_reducible refine Gr.drew ?_ | with_reducible refine Gr.alloc ?_ _))) q9; clear q9) | (go_at_call 20; refine (h6.out _).mono ?_; rintro x wq ⟨rfl, q9⟩; have d1 : Gr w3 wq := Gr.trans (by (repeat (first | with_reducible assumption | with_reducible exact Gr.refl _ | with_reducible refine Gr.drew ?_ | with_reducible refine Gr.alloc ?_ _))) q9; clear q9))
  refine hK.out _ _ (KS.out _ d1) (fun hHeld => ?_)
  clear hK K
  try simp only [Act.put, List.setIfInBounds_toArray, List.set_cons_zero, List.set_cons_succ]
  refine wpAnyH_ready (rs := [5]) (by kernel_rfl) (by simp) ?_
  refine AllReadyH.cons (o := { dst := some 32, op := Op.call { callee := Callee.value (Operand.func 20), args := #[Operand.tmp 30, Operand.tmp 31], argTypes := #[47, 47] }, type := 47, pos := "law.go:49", after := #[{ on := 3, ground := Ground.data }, { on := 4, ground := Ground.data }, { on := 2, ground := Ground.chain }], guard := none }) rfl (fun K hK => ?_) AllReadyH.nil
  go_simp
  go_wp2_with (first | (go_at_call 15; refine (h5.out _).mono ?_; rintro x wq ⟨rfl, q9⟩; have d1 : Gr w3 wq := Gr.trans (by (repeat (first | with_reducible assumption | with_reducible exact Gr.refl _ | with_reducible refine Gr.drew ?_ | with_reducible refine Gr.alloc ?_ _))) q9; clear q9) | (go_at_call 20; refine (h6.out _).mono ?_; rintro x wq ⟨rfl, q9⟩; have d1 : Gr w3 wq := Gr.trans (by (repeat (first | with_reducible assumption | with_reducible exact Gr.refl _ | with_reducible refine Gr.drew ?_ | with_reducible refine Gr.alloc ?_ _))) q9; clear q9))
  refine hK.out _ _ (KS.out _ d1) (fun hHeld => ?_)
  clear hK K
  try simp only [Act.put, List.setIfInBounds_toArray, List.set_cons_zero, List.set_cons_succ]
  refine wpAnyH_take (i := 6) (oi := { dst := some 33, op := Op.binOp BinOp.eql 47 (Operand.tmp 29) (Operand.tmp 32) 47, type := 4, pos := "law.go:49", after := #[{ on := 2, ground := Ground.data }, { on := 5, ground := Ground.data }], guard := none }) (v := ?_) rfl (by kernel_rfl) (by kernel_rfl) (by kernel_rfl) (fun _ _ _ h => h) (Or.inl ⟨by rfl, ?_⟩) (by assumption) ?_
  rotate_left
  · intro w hSw; (try dsimp only at hSw); go_simp; first | done | with_reducible rfl
  try simp only [Act.put, List.setIfInBounds_toArray, List.set_cons_zero, List.set_cons_succ]
  refine wpAnyH_take (i := 7) (oi := { dst := some 10, op := Op.assign (Operand.tmp 33), type := 4, pos := "law.go:49", after := #[{ on := 6, ground := Ground.data }, { on := 5, ground := Ground.chain }, { on := 0, ground := Ground.phase }, { on := 1, ground := Ground.phase }, { on := 2, ground := Ground.phase }, { on := 3, ground := Ground.phase }, { on := 4, ground := Ground.phase }, { on := 5, ground := Ground.phase }, { on := 6, ground := Ground.phase }], guard := none }) (v := ?_) rfl (by kernel_rfl) (by kernel_rfl) (by kernel_rfl) (fun _ _ _ h => h) (Or.inl ⟨by rfl, ?_⟩) (by assumption) ?_
  rotate_left
  · intro w hSw; (try dsimp only at hSw); go_simp; first | done | with_reducible rfl
  try simp only [Act.put, List.setIfInBounds_toArray, List.set_cons_zero, List.set_cons_succ]
  refine wpAnyH_done (by kernel_rfl) ?_ _
  clear hHeld KS
  replace B0 := T.Hid.mk (B0.out.gr d1)
  replace B1 := T.Hid.mk (B1.out.gr d1)
  replace B2 := T.Hid.mk (B2.out.gr d1)
  replace G := T.Hid.mk (G.out.trans d1)
  clear d1 h5 h6
  generalize wq = w4 at *
  go_upto_region 5 with fail
  have KS : T.Hid (∀ W, Gr w4 W → W.rangeAt w.heap.size 0 (stC la A) ∧ W.rangeAt (w.heap.size + 1 + 1) 0 (rowV [] Vv.vals V)) := T.Hid.mk (fun W g => ⟨(B0.out.gr g).range, (B2.out.gr g).range⟩)
  have d1 : Gr w4 w4.drew := (Gr.refl _).drew
  refine wp_region_held_drew (S := (fun W => W.rangeAt w.heap.size 0 (stC la A) ∧ W.rangeAt (w.heap.size + 1 + 1) 0 (rowV [] Vv.vals V))) (by kernel_rfl) (KS.out _ d1) (fun hHeld => ?_)
  refine wpAnyH_take (i := 0) (oi := { dst := some 34, op := Op.load 47 (Operand.tmp 3), type := 47, pos := "law.go:50", after := #[], guard := none }) (v := _) rfl (by kernel_rfl) (by kernel_rfl) (by kernel_rfl) (fun _ _ _ h => h) (yieldsIf_load_mid (by rfl) _ _ rfl _ _ rfl _ _ (fun _ h => h.1) Try.underlying47 rfl (info_st hA)) (by assumption) ?_
  try simp only [Act.put, List.setIfInBounds_toArray, List.set_cons_zero, List.set_cons_succ]
  refine wpAnyH_take (i := 1) (oi := { dst := some 35, op := Op.load 48 (Operand.tmp 5), type := 48, pos := "law.go:50", after := #[], guard := none }) (v := _) rfl (by kernel_rfl) (by kernel_rfl) (by kernel_rfl) (fun _ _ _ h => h) (yieldsIf_load_mid (by rfl) _ _ rfl _ _ rfl _ _ (fun _ h => h.2) Try.underlying48 rfl (by rw [row_len vv_len, hV]; exact info48)) (by assumption) ?_
  try simp only [Act.put, List.setIfInBounds_toArray, List.set_cons_zero, List.set_cons_succ]
  refine wpAnyH_take (i := 3) (oi := { dst := some 37, op := Op.load 47 (Operand.tmp 3), type := 47, pos := "law.go:50", after := #[], guard := none }) (v := _) rfl (by kernel_rfl) (by kernel_rfl) (by kernel_rfl) (fun _ _ _ h => h) (yieldsIf_load_mid (by rfl) _ _ rfl _ _ rfl _ _ (fun _ h => h.1) Try.underlying47 rfl (info_st hA)) (by assumption) ?_
  try simp only [Act.put, List.setIfInBounds_toArray, List.set_cons_zero, List.set_cons_succ]
  refine wpAnyH_take (i := 4) (oi := { dst := some 38, op := Op.load 48 (Operand.tmp 5), type := 48, pos := "law.go:50", after := #[], guard := none }) (v := _) rfl (by kernel_rfl) (by kernel_rfl) (by kernel_rfl) (fun _ _ _ h => h) (yieldsIf_load_mid (by rfl) _ _ rfl _ _ rfl _ _ (fun _ h => h.2) Try.underlying48 rfl (by rw [row_len vv_len, hV]; exact info48)) (by assumption) ?_
  try simp only [Act.put, List.setIfInBounds_toArray, List.set_cons_zero, List.set_cons_succ]
  refine wpAnyH_ready (rs := [2]) (by kernel_rfl) (by simp) ?_
  refine AllReadyH.cons (o := { dst := some 36, op := Op.call { callee := Callee.value (Operand.func 17), args := #[Operand.tmp 34, Operand.tmp 35], argTypes := #[47, 48] }, type := 4, pos := "law.go:50", after := #[{ on := 0, ground := Ground.data }, { on := 1, ground := Ground.data }], guard := none }) rfl (fun K hK => ?_) AllReadyH.nil
  go_simp
  go_wp2_with (first | (go_at_call 17; refine (h7.out _).mono ?_; rintro x wq ⟨rfl, q9⟩; have d1 : Gr w4 wq := Gr.trans (by (repeat (first | with_reducible assumption | with_reducible exact Gr.refl _ | with_reducible refine Gr.drew ?_ | with_reducible refine Gr.alloc ?_ _))) q9; clear q9) | (go_at_call 21; refine (h8.out _).mono ?_; rintro x wq ⟨rfl, q9⟩; have d1 : Gr w4 wq := Gr.trans (by (repeat (first | with_reducible assumption | with_reducible exact Gr.refl _ | with_reducible refine Gr.drew ?_ | with_reducible refine Gr.alloc ?_ _))) q9; clear q9))
  refine hK.out _ _ (KS.out _ d1) (fun hHeld => ?_)
  clear hK K
  try simp only [Act.put, List.setIfInBounds_toArray, List.set_cons_zero, List.set_cons_succ]
  refine wpAnyH_ready (rs := [5]) (by kernel_rfl) (by simp) ?_
  refine AllReadyH.cons (o := { dst := some 39, op := Op.call { callee := Callee.value (Operand.func 21), args := #[Operand.tmp 37, Operand.tmp 38], argTypes := #[47, 48] }, type := 4, pos := "law.go:50", after := #[{ on := 3, ground := Ground.data }, { on := 4, ground := Ground.data }, { on := 2, ground := Ground.chain }], guard := none }) rfl (fun K hK => ?_) AllReadyH.nil
  go_simp
  go_wp2_with (first | (go_at_call 17; refine (h7.out _).mono ?_; rintro x wq ⟨rfl, q9⟩; have d1 : Gr w4 wq := Gr.trans (by (repeat (first | with_reducible assumption | with_reducible exact Gr.refl _ | with_reducible refine Gr.drew ?_ | with_reducible refine Gr.alloc ?_ _))) q9; clear q9) | (go_at_call 21; refine (h8.out _).mono ?_; rintro x wq ⟨rfl, q9⟩; have d1 : Gr w4 wq := Gr.trans (by (repeat (first | with_reducible assumption | with_reducible exact Gr.refl _ | with_reducible refine Gr.drew ?_ | with_reducible refine Gr.alloc ?_ _))) q9; clear q9))
  refine hK.out _ _ (KS.out _ d1) (fun hHeld => ?_)
  clear hK K
  try simp only [Act.put, List.setIfInBounds_toArray, List.set_cons_zero, List.set_cons_succ]
  refine wpAnyH_take (i := 6) (oi := { dst := some 40, op := Op.binOp BinOp.eql 4 (Operand.tmp 36) (Operand.tmp 39) 4, type := 4, pos := "law.go:50", after := #[{ on := 2, ground := Ground.data }, { on := 5, ground := Ground.data }], guard := none }) (v := ?_) rfl (by kernel_rfl) (by kernel_rfl) (by kernel_rfl) (fun _ _ _ h => h) (Or.inl ⟨by rfl, ?_⟩) (by assumption) ?_
  rotate_left
  · intro w hSw; (try dsimp only at hSw); go_simp; first | done | with_reducible rfl
  try simp only [Act.put, List.setIfInBounds_toArray, List.set_cons_zero, List.set_cons_succ]
  refine wpAnyH_take (i := 7) (oi := { dst := some 11, op := Op.assign (Operand.tmp 40), type := 4, pos := "law.go:50", after := #[{ on := 6, ground := Ground.data }, { on := 5, ground := Ground.chain }, { on := 0, ground := Ground.phase }, { on := 1, ground := Ground.phase }, { on := 2, ground := Ground.phase }, { on := 3, ground := Ground.phase }, { on := 4, ground := Ground.phase }, { on := 5, ground := Ground.phase }, { on := 6, ground := Ground.phase }], guard := none }) (v := ?_) rfl (by kernel_rfl) (by kernel_rfl) (by kernel_rfl) (fun _ _ _ h => h) (Or.inl ⟨by rfl, ?_⟩) (by assumption) ?_
  rotate_left
  · intro w hSw; (try dsimp only at hSw); go_simp; first | done | with_reducible rfl
  try simp only [Act.put, List.setIfInBounds_toArray, List.set_cons_zero, List.set_cons_succ]
  refine wpAnyH_done (by kernel_rfl) ?_ _
  clear hHeld KS
  replace B0 := T.Hid.mk (B0.out.gr d1)
  replace B1 := T.Hid.mk (B1.out.gr d1)
  replace B2 := T.Hid.mk (B2.out.gr d1)
  replace G := T.Hid.mk (G.out.trans d1)
  clear d1 h7 h8
  generalize wq = w5 at *
  go_wp2_with fail
  go_ret
  exact ⟨ret_bool (by simp), G.out⟩
end R
end Go.Proofs.Ytedbfnmmdlcbgaa
