/-
  Stage 9, regtype: UnderState: the program's.
-/
import Derived.Test.YtbbpbfbifgfjdaaRMrgS
import Derived.BigFrame
namespace Go.Proofs.Ytbbpbfbifgfjdaa
namespace R
open Go.RowKit

def uS (U : RT → RT → Bool) (la : Bool) (A : List RT) (lb : Bool) (B : List RT) : Bool := !la || (lb && all2 U A B)
set_option maxRecDepth 100000 in
set_option maxHeartbeats 4000000 in
theorem pUnderState_of (U : RT → RT → Bool) (la : Bool) (A : List RT) (lb : Bool) (B : List RT) (w : World) (hA : A.length = 16) (hB : B.length = 16)
    (hT : ∀ W, Calls Try.prog 38 #[.agg (rowV [] RT.vals A).toArray, .agg (rowV [] RT.vals B).toArray, .func (.func 11) #[] #[]] W fun x w' => x = .returned (.bool (all2 U A B)) ∧ Gr W w') :
    Calls Try.prog 16 #[.agg (stC la A).toArray, .agg (stC lb B).toArray] w fun x w' => x = .returned (.bool (uS U la A lb B)) ∧ Gr w w' := by
  replace hT := T.Hid.mk hT
  unfold uS
  generalize all2 U A B = u at *
  cases la
  · clear hT hA hB
    rw [show (!false || (lb && u)) = true from rfl]
    clear u
    go_enter Try.func16, Try.ntmps16
    go_upto_region 1 with fail
    have B0 : T.Hid (At (((w).alloc (.cells (stC false A).toArray 47)).alloc (.cells (stC lb B).toArray 47)) (w.heap.size) (stC false A).toArray) := T.Hid.mk ((At.at_ w _ _ rfl).alloc _)
    have B1 : T.Hid (At (((w).alloc (.cells (stC false A).toArray 47)).alloc (.cells (stC lb B).toArray 47)) (w.heap.size + 1) (stC lb B).toArray) := T.Hid.mk (At.at_ _ _ _ (by simp))
    have G : T.Hid (Gr w (((w).alloc (.cells (stC false A).toArray 47)).alloc (.cells (stC lb B).toArray 47))) := T.Hid.mk (((Gr.refl w).alloc _).alloc _)
    generalize ((w).alloc (.cells (stC false A).toArray 47)).alloc (.cells (stC lb B).toArray 47) = W0 at B0 B1 G ⊢
    have c0 := At.headRow B0.out
    have c1 := At.headRow B1.out
    go_wp2_with fail
    go_ret
    exact ⟨rfl, G.out⟩
  · cases lb
    · clear hT hA hB
      go_enter Try.func16, Try.ntmps16
      go_upto_region 1 with fail
      have B0 : T.Hid (At (((w).alloc (.cells (stC true A).toArray 47)).alloc (.cells (stC false B).toArray 47)) (w.heap.size) (stC true A).toArray) := T.Hid.mk ((At.at_ w _ _ rfl).alloc _)
      have B1 : T.Hid (At (((w).alloc (.cells (stC true A).toArray 47)).alloc (.cells (stC false B).toArray 47)) (w.heap.size + 1) (stC false B).toArray) := T.Hid.mk (At.at_ _ _ _ (by simp))
      have G : T.Hid (Gr w (((w).alloc (.cells (stC true A).toArray 47)).alloc (.cells (stC false B).toArray 47))) := T.Hid.mk (((Gr.refl w).alloc _).alloc _)
      generalize ((w).alloc (.cells (stC true A).toArray 47)).alloc (.cells (stC false B).toArray 47) = W0 at B0 B1 G ⊢
      have c0 := At.headRow B0.out
      have c1 := At.headRow B1.out
      go_wp2_with fail
      go_ret
      exact ⟨ret_bool (by simp), G.out⟩
    · go_enter Try.func16, Try.ntmps16
      go_upto_region 1 with fail
      have B0 : T.Hid (At (((w).alloc (.cells (stC true A).toArray 47)).alloc (.cells (stC true B).toArray 47)) (w.heap.size) (stC true A).toArray) := T.Hid.mk ((At.at_ w _ _ rfl).alloc _)
      have B1 : T.Hid (At (((w).alloc (.cells (stC true A).toArray 47)).alloc (.cells (stC true B).toArray 47)) (w.heap.size + 1) (stC true B).toArray) := T.Hid.mk (At.at_ _ _ _ (by simp))
      have G : T.Hid (Gr w (((w).alloc (.cells (stC true A).toArray 47)).alloc (.cells (stC true B).toArray 47))) := T.Hid.mk (((Gr.refl w).alloc _).alloc _)
      generalize ((w).alloc (.cells (stC true A).toArray 47)).alloc (.cells (stC true B).toArray 47) = W0 at B0 B1 G ⊢
      have c0 := At.headRow B0.out
      have c1 := At.headRow B1.out
      have a0 := T.Hid.mk (At.tailRow B0.out)
      have a1 := T.Hid.mk (At.tailRow B1.out)
      refine wp_region_lit ?_
      refine wpList_plain rfl (fun K hK => ?_)
      go_simp
      refine hK _ _ ?_
      clear hK K
      try simp only [Act.put, List.setIfInBounds_toArray, List.set_cons_zero, List.set_cons_succ]
      refine wpList_plain rfl (fun K hK => ?_)
      go_simp
      refine hK _ _ ?_
      clear hK K
      try simp only [Act.put, List.setIfInBounds_toArray, List.set_cons_zero, List.set_cons_succ]
      refine wpList_plain rfl (fun K hK => ?_)
      go_simp
      refine hK _ _ ?_
      clear hK K
      try simp only [Act.put, List.setIfInBounds_toArray, List.set_cons_zero, List.set_cons_succ]
      refine wpList_plain rfl (fun K hK => ?_)
      go_simp
      refine hK _ _ ?_
      clear hK K
      try simp only [Act.put, List.setIfInBounds_toArray, List.set_cons_zero, List.set_cons_succ]
      refine BigFrame.wpList_want (by rfl) (fun K hK => ?_)
      go_simp
      refine hK _ _ ?_
      clear hK K
      try simp only [Act.put, List.setIfInBounds_toArray, List.set_cons_zero, List.set_cons_succ]
      refine BigFrame.wpList_want (by rfl) (fun K hK => ?_)
      go_simp
      refine hK _ _ ?_
      clear hK K
      try simp only [Act.put, List.setIfInBounds_toArray, List.set_cons_zero, List.set_cons_succ]
      refine BigFrame.wpList_want (by rfl) (fun K hK => ?_)
      go_simp
      refine hK _ _ ?_
      clear hK K
      try simp only [Act.put, List.setIfInBounds_toArray, List.set_cons_zero, List.set_cons_succ]
      refine BigFrame.wpList_want (by rfl) (fun K hK => ?_)
      go_simp
      refine hK _ _ ?_
      clear hK K
      try simp only [Act.put, List.setIfInBounds_toArray, List.set_cons_zero, List.set_cons_succ]
      refine BigFrame.wpList_want (by rfl) (fun K hK => ?_)
      refine wp_load_mid _ _ rfl _ 1 rfl (rowV [] RT.vals A) _ a0.out Try.underlying45 rfl (by rw [row_len rt_len, hA]; exact info45) (hK _ _ ?_)
      clear hK K
      try simp only [Act.put, List.setIfInBounds_toArray, List.set_cons_zero, List.set_cons_succ]
      refine BigFrame.wpList_want (by rfl) (fun K hK => ?_)
      go_simp
      refine hK _ _ ?_
      clear hK K
      try simp only [Act.put, List.setIfInBounds_toArray, List.set_cons_zero, List.set_cons_succ]
      refine BigFrame.wpList_want (by rfl) (fun K hK => ?_)
      refine wp_load_mid _ _ rfl _ 1 rfl (rowV [] RT.vals B) _ a1.out Try.underlying45 rfl (by rw [row_len rt_len, hB]; exact info45) (hK _ _ ?_)
      clear hK K
      try simp only [Act.put, List.setIfInBounds_toArray, List.set_cons_zero, List.set_cons_succ]
      refine BigFrame.wpList_want (by rfl) (fun K hK => ?_)
      go_simp
      (go_at_call 38; refine (hT.out _).mono ?_; rintro x wq ⟨rfl, q9⟩; replace q9 := T.Hid.mk q9)
      refine hK _ _ ?_
      clear hK K
      try simp only [Act.put, List.setIfInBounds_toArray, List.set_cons_zero, List.set_cons_succ]
      refine BigFrame.wpList_want (by rfl) (fun K hK => ?_)
      go_simp
      refine hK _ _ ?_
      clear hK K
      try simp only [Act.put, List.setIfInBounds_toArray, List.set_cons_zero, List.set_cons_succ]
      refine wpList_plain rfl (fun K hK => ?_)
      go_simp
      refine hK _ _ ?_
      clear hK K
      try simp only [Act.put, List.setIfInBounds_toArray, List.set_cons_zero, List.set_cons_succ]
      refine wpList_plain rfl (fun K hK => ?_)
      go_simp
      refine hK _ _ ?_
      clear hK K
      try simp only [Act.put, List.setIfInBounds_toArray, List.set_cons_zero, List.set_cons_succ]
      go_wp2_with fail
      go_ret
      exact ⟨ret_bool (by simp), G.out.trans q9.out⟩
end R
end Go.Proofs.Ytbbpbfbifgfjdaa
