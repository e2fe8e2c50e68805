/-
  Stage 9, regtype: all calls on states, of the program and of the document.
-/
import Derived.Test.YtbbpbfbifgfjdaaRRefSm
import Derived.Test.YtbbpbfbifgfjdaaRRefH
import Derived.Test.YtbbpbfbifgfjdaaRProN
import Derived.Test.YtbbpbfbifgfjdaaRProM
namespace Go.Proofs.Ytbbpbfbifgfjdaa
namespace R
open Go.RowKit

set_option maxRecDepth 100000 in
set_option maxHeartbeats 4000000 in
theorem dJoinState_of (F : RT → RT) (G2 : RT → RT → RT) (la : Bool) (A : List RT) (lb : Bool) (B : List RT) (w : World) (hA : A.length = 16) (hB : B.length = 16)
    (hM : ∀ W, Calls Try.prog 41 #[.agg (stC la A).toArray, .agg (stC lb B).toArray, .bool false] W fun x w' => x = .returned (.agg (stC (mL la lb) (mR F G2 la A lb B)).toArray) ∧ Gr W w') :
    Calls Try.prog 19 #[.agg (stC la A).toArray, .agg (stC lb B).toArray] w fun x w' => x = .returned (.agg (stC (mL la lb) (mR F G2 la A lb B)).toArray) ∧ Gr w w' := by
  replace hM := T.Hid.mk hM
  have hL : (mR F G2 la A lb B).length = 16 := mR_len hA hB
  generalize mR F G2 la A lb B = RM at *
  generalize mL la lb = lm at *
  go_enter Try.func19, Try.ntmps19
  go_upto_region 1 with fail
  have B0 : T.Hid (At ((((w).alloc (.cells (stC la A).toArray 47)).alloc (.cells (stC lb B).toArray 47)).alloc (.cells Try.zeroCells47 47)) (w.heap.size) (stC la A).toArray) := T.Hid.mk (((At.at_ w _ _ rfl).alloc _).alloc _)
  have B1 : T.Hid (At ((((w).alloc (.cells (stC la A).toArray 47)).alloc (.cells (stC lb B).toArray 47)).alloc (.cells Try.zeroCells47 47)) (w.heap.size + 1) (stC lb B).toArray) := T.Hid.mk ((At.at_ _ _ _ (by simp)).alloc _)
  have B2 : T.Hid (At ((((w).alloc (.cells (stC la A).toArray 47)).alloc (.cells (stC lb B).toArray 47)).alloc (.cells Try.zeroCells47 47)) (w.heap.size + 1 + 1) (stC false Z16).toArray) := T.Hid.mk (by rw [← zero_st]; exact At.at_ _ _ _ (by simp))
  have G : T.Hid (Gr w ((((w).alloc (.cells (stC la A).toArray 47)).alloc (.cells (stC lb B).toArray 47)).alloc (.cells Try.zeroCells47 47))) := T.Hid.mk ((((Gr.refl w).alloc _).alloc _).alloc _)
  generalize (((w).alloc (.cells (stC la A).toArray 47)).alloc (.cells (stC lb B).toArray 47)).alloc (.cells Try.zeroCells47 47) = W0 at B0 B1 B2 G ⊢
  refine wp_region_lit ?_
  refine wpList_plain rfl (fun K hK => ?_)
  refine wp_load_mid _ _ rfl _ 0 rfl (stC la A) _ B0.out.range Try.underlying47 rfl (info_st hA) (hK _ _ ?_)
  clear hK K
  try simp only [Act.put, List.setIfInBounds_toArray, List.set_cons_zero, List.set_cons_succ]
  refine wpList_plain rfl (fun K hK => ?_)
  refine wp_load_mid _ _ rfl _ 0 rfl (stC lb B) _ B1.out.range Try.underlying47 rfl (info_st hB) (hK _ _ ?_)
  clear hK K
  try simp only [Act.put, List.setIfInBounds_toArray, List.set_cons_zero, List.set_cons_succ]
  refine wpList_plain rfl (fun K hK => ?_)
  go_simp
  (go_at_call 41; refine (hM.out _).mono ?_; rintro x wq ⟨rfl, q9⟩; replace q9 := T.Hid.mk q9)
  refine hK _ _ ?_
  clear hK K
  try simp only [Act.put, List.setIfInBounds_toArray, List.set_cons_zero, List.set_cons_succ]
  have hl9 := T.Hid.mk (show (stC lm RM).length = (stC false Z16).length by rw [stC_len hL, stC_len z16_len])
  have s2 := T.Hid.mk ((B2.out.gr q9.out).setAll (stC lm RM) hl9.out)
  have hres := T.Hid.mk ((G.out.trans q9.out).setCells (w.heap.size + 1 + 1) (by omega) (stC lm RM) 0)
  refine wpList_plain rfl (fun K hK => ?_)
  refine wp_store_mid _ _ _ rfl _ _ (List.toArray (stC lm RM)) rfl rfl ((B2.out.gr q9.out).there 0 _ (by rw [List.size_toArray, hl9.out]; omega)) (by rw [List.size_toArray, hl9.out]; exact (info_st z16_len)) (all_oneCell_toArray (one_stC _ _)) (hK _ _ ?_)
  clear hK K
  try simp only [Act.put]
  have s5 := T.Hid.mk (s2.out.range)
  clear s2
  generalize World.setCells _ _ _ _ = W5 at *
  have hrun := T.Hid.mk (run_loadVar_mid (P := Try.prog) W5 (w.heap.size + 1 + 1) 0 47 (stC lm RM) _ s5.out Try.underlying47 rfl (by rw [hl9.out]; exact (info_st z16_len)))
  clear s5 hl9
  go_wp2_with fail
  refine bodyPost_ret (v := .agg (stC lm RM).toArray) ?_ rfl ⟨rfl, hres.out⟩
  exact results_row Try.results19 _ _ rfl hrun.out
set_option maxRecDepth 100000 in
set_option maxHeartbeats 4000000 in
theorem dWidenState_of (F : RT → RT) (G2 : RT → RT → RT) (la : Bool) (A : List RT) (lb : Bool) (B : List RT) (w : World) (hA : A.length = 16) (hB : B.length = 16)
    (hM : ∀ W, Calls Try.prog 41 #[.agg (stC la A).toArray, .agg (stC lb B).toArray, .bool true] W fun x w' => x = .returned (.agg (stC (mL la lb) (mR F G2 la A lb B)).toArray) ∧ Gr W w') :
    Calls Try.prog 20 #[.agg (stC la A).toArray, .agg (stC lb B).toArray] w fun x w' => x = .returned (.agg (stC (mL la lb) (mR F G2 la A lb B)).toArray) ∧ Gr w w' := by
  replace hM := T.Hid.mk hM
  have hL : (mR F G2 la A lb B).length = 16 := mR_len hA hB
  generalize mR F G2 la A lb B = RM at *
  generalize mL la lb = lm at *
  go_enter Try.func20, Try.ntmps20
  go_upto_region 1 with fail
  have B0 : T.Hid (At ((((w).alloc (.cells (stC la A).toArray 47)).alloc (.cells (stC lb B).toArray 47)).alloc (.cells Try.zeroCells47 47)) (w.heap.size) (stC la A).toArray) := T.Hid.mk (((At.at_ w _ _ rfl).alloc _).alloc _)
  have B1 : T.Hid (At ((((w).alloc (.cells (stC la A).toArray 47)).alloc (.cells (stC lb B).toArray 47)).alloc (.cells Try.zeroCells47 47)) (w.heap.size + 1) (stC lb B).toArray) := T.Hid.mk ((At.at_ _ _ _ (by simp)).alloc _)
  have B2 : T.Hid (At ((((w).alloc (.cells (stC la A).toArray 47)).alloc (.cells (stC lb B).toArray 47)).alloc (.cells Try.zeroCells47 47)) (w.heap.size + 1 + 1) (stC false Z16).toArray) := T.Hid.mk (by rw [← zero_st]; exact At.at_ _ _ _ (by simp))
  have G : T.Hid (Gr w ((((w).alloc (.cells (stC la A).toArray 47)).alloc (.cells (stC lb B).toArray 47)).alloc (.cells Try.zeroCells47 47))) := T.Hid.mk ((((Gr.refl w).alloc _).alloc _).alloc _)
  generalize (((w).alloc (.cells (stC la A).toArray 47)).alloc (.cells (stC lb B).toArray 47)).alloc (.cells Try.zeroCells47 47) = W0 at B0 B1 B2 G ⊢
  refine wp_region_lit ?_
  refine wpList_plain rfl (fun K hK => ?_)
  refine wp_load_mid _ _ rfl _ 0 rfl (stC la A) _ B0.out.range Try.underlying47 rfl (info_st hA) (hK _ _ ?_)
  clear hK K
  try simp only [Act.put, List.setIfInBounds_toArray, List.set_cons_zero, List.set_cons_succ]
  refine wpList_plain rfl (fun K hK => ?_)
  refine wp_load_mid _ _ rfl _ 0 rfl (stC lb B) _ B1.out.range Try.underlying47 rfl (info_st hB) (hK _ _ ?_)
  clear hK K
  try simp only [Act.put, List.setIfInBounds_toArray, List.set_cons_zero, List.set_cons_succ]
  refine wpList_plain rfl (fun K hK => ?_)
  go_simp
  (go_at_call 41; refine (hM.out _).mono ?_; rintro x wq ⟨rfl, q9⟩; replace q9 := T.Hid.mk q9)
  refine hK _ _ ?_
  clear hK K
  try simp only [Act.put, List.setIfInBounds_toArray, List.set_cons_zero, List.set_cons_succ]
  have hl9 := T.Hid.mk (show (stC lm RM).length = (stC false Z16).length by rw [stC_len hL, stC_len z16_len])
  have s2 := T.Hid.mk ((B2.out.gr q9.out).setAll (stC lm RM) hl9.out)
  have hres := T.Hid.mk ((G.out.trans q9.out).setCells (w.heap.size + 1 + 1) (by omega) (stC lm RM) 0)
  refine wpList_plain rfl (fun K hK => ?_)
  refine wp_store_mid _ _ _ rfl _ _ (List.toArray (stC lm RM)) rfl rfl ((B2.out.gr q9.out).there 0 _ (by rw [List.size_toArray, hl9.out]; omega)) (by rw [List.size_toArray, hl9.out]; exact (info_st z16_len)) (all_oneCell_toArray (one_stC _ _)) (hK _ _ ?_)
  clear hK K
  try simp only [Act.put]
  have s5 := T.Hid.mk (s2.out.range)
  clear s2
  generalize World.setCells _ _ _ _ = W5 at *
  have hrun := T.Hid.mk (run_loadVar_mid (P := Try.prog) W5 (w.heap.size + 1 + 1) 0 47 (stC lm RM) _ s5.out Try.underlying47 rfl (by rw [hl9.out]; exact (info_st z16_len)))
  clear s5 hl9
  go_wp2_with fail
  refine bodyPost_ret (v := .agg (stC lm RM).toArray) ?_ rfl ⟨rfl, hres.out⟩
  exact results_row Try.results20 _ _ rfl hrun.out
noncomputable def F9 (r : RT) : RT := r.nm.rt
noncomputable def J9 (a b : RT) : RT := (a.nm.jn b.nm).rt
noncomputable def W9 (a b : RT) : RT := (a.nm.wd b.nm).rt
noncomputable def U9 (a b : RT) : Bool := a.nm.und b.nm
noncomputable def H9 (a : RT) (v : Vv) : Bool := a.nm.has v
/-- Sixteen, in reach of the machine's numbers. -/
def R16 (A : List RT) : Prop := A.length = 16 ∧ ∀ a ∈ A, a.Rng
def V16 (V : List Vv) : Prop := V.length = 16 ∧ ∀ v ∈ V, v.Rng
theorem pKn_any (l : Bool) (A : List RT) (hA : R16 A) (W : World) : Calls Try.prog 50 #[.agg (stC l A).toArray] W fun x w' => x = .returned (.agg (stC l (kR F9 l A)).toArray) ∧ Gr W w' :=
  knownS_any F9 l A W hA.1 (fun W => eachKnown_any F9 A W hA.1 (fun a ha W => pKnown_any a W (hA.2 a ha)))
theorem dKn_any (l : Bool) (A : List RT) (hA : R16 A) (W : World) : Calls Try.prog 56 #[.agg (stC l A).toArray] W fun x w' => x = .returned (.agg (stC l (kR F9 l A)).toArray) ∧ Gr W w' :=
  dNormState_of F9 l A W hA.1 (fun a ha W => Norm_any a W (hA.2 a ha))
theorem pJoinState_any (la : Bool) (A : List RT) (lb : Bool) (B : List RT) (hA : R16 A) (hB : R16 B) (w : World) : Calls Try.prog 14 #[.agg (stC la A).toArray, .agg (stC lb B).toArray] w fun x w' => x = .returned (.agg (stC (mL la lb) (mR F9 J9 la A lb B)).toArray) ∧ Gr w w' :=
  pJoinState_of F9 J9 la A lb B w hA.1 hB.1 (fun W => mergeJ_any F9 J9 la A lb B W hA.1 hB.1 (pKn_any la A hA) (pKn_any lb B hB) (fun W => ofJoin_any J9 A B W hA.1 hB.1 (fun a b ha hb W => pJoin_any a b W (hA.2 a ha) (hB.2 b hb))))
theorem pWidenState_any (la : Bool) (A : List RT) (lb : Bool) (B : List RT) (hA : R16 A) (hB : R16 B) (w : World) : Calls Try.prog 15 #[.agg (stC la A).toArray, .agg (stC lb B).toArray] w fun x w' => x = .returned (.agg (stC (mL la lb) (mR F9 W9 la A lb B)).toArray) ∧ Gr w w' :=
  pWidenState_of F9 W9 la A lb B w hA.1 hB.1 (fun W => mergeW_any F9 W9 la A lb B W hA.1 hB.1 (pKn_any la A hA) (pKn_any lb B hB) (fun W => ofWiden_any W9 A B W hA.1 hB.1 (fun a b ha hb W => pWiden_any a b W (hA.2 a ha) (hB.2 b hb))))
theorem pUnderState_any (la : Bool) (A : List RT) (lb : Bool) (B : List RT) (hA : R16 A) (hB : R16 B) (w : World) : Calls Try.prog 16 #[.agg (stC la A).toArray, .agg (stC lb B).toArray] w fun x w' => x = .returned (.bool (uS U9 la A lb B)) ∧ Gr w w' :=
  pUnderState_of U9 la A lb B w hA.1 hB.1 (fun W => allTwoR_any U9 A B W hA.1 hB.1 (fun a b ha hb W => pUnder_any a b W (hA.2 a ha) (hB.2 b hb)))
theorem pAllows_any (l : Bool) (A : List RT) (V : List Vv) (hA : R16 A) (hV : V16 V) (w : World) : Calls Try.prog 17 #[.agg (stC l A).toArray, .agg (rowV [] Vv.vals V).toArray] w fun x w' => x = .returned (.bool (aS H9 l A V)) ∧ Gr w w' :=
  pAllows_of H9 l A V w hA.1 hV.1 (fun W => allTwoV_any H9 A V W hA.1 hV.1 (fun a v ha hv W => pHas_any a v W (hA.2 a ha) (hV.2 v hv).2.2.2.2))
theorem dJoinState_any (la : Bool) (A : List RT) (lb : Bool) (B : List RT) (hA : R16 A) (hB : R16 B) (w : World) : Calls Try.prog 19 #[.agg (stC la A).toArray, .agg (stC lb B).toArray] w fun x w' => x = .returned (.agg (stC (mL la lb) (mR F9 J9 la A lb B)).toArray) ∧ Gr w w' :=
  dJoinState_of F9 J9 la A lb B w hA.1 hB.1 (fun W => dMergeJ_of F9 J9 la A lb B W hA.1 hB.1 (dKn_any la A hA) (dKn_any lb B hB) (fun a b ha hb W => dJoin0_any a b W (hA.2 a ha) (hB.2 b hb)))
theorem dWidenState_any (la : Bool) (A : List RT) (lb : Bool) (B : List RT) (hA : R16 A) (hB : R16 B) (w : World) : Calls Try.prog 20 #[.agg (stC la A).toArray, .agg (stC lb B).toArray] w fun x w' => x = .returned (.agg (stC (mL la lb) (mR F9 W9 la A lb B)).toArray) ∧ Gr w w' :=
  dWidenState_of F9 W9 la A lb B w hA.1 hB.1 (fun W => dMergeW_of F9 W9 la A lb B W hA.1 hB.1 (dKn_any la A hA) (dKn_any lb B hB) (fun a b ha hb W => dWiden0_any a b W (hA.2 a ha) (hB.2 b hb)))
theorem dUnderState_any (la : Bool) (A : List RT) (lb : Bool) (B : List RT) (hA : R16 A) (hB : R16 B) (w : World) : Calls Try.prog 18 #[.agg (stC la A).toArray, .agg (stC lb B).toArray] w fun x w' => x = .returned (.bool (uS U9 la A lb B)) ∧ Gr w w' :=
  dUnderState_of U9 la A lb B w hA.1 hB.1 (fun a b ha hb W => dUnder_any a b W (hA.2 a ha) (hB.2 b hb))
theorem dAllows_any (l : Bool) (A : List RT) (V : List Vv) (hA : R16 A) (hV : V16 V) (w : World) : Calls Try.prog 21 #[.agg (stC l A).toArray, .agg (rowV [] Vv.vals V).toArray] w fun x w' => x = .returned (.bool (aS H9 l A V)) ∧ Gr w w' :=
  dAllows_of H9 l A V w hA.1 hV.1 (fun a v ha hv W => dHas_any a v W (hA.2 a ha) (hV.2 v hv).2.2.2.2)
end R
end Go.Proofs.Ytbbpbfbifgfjdaa
