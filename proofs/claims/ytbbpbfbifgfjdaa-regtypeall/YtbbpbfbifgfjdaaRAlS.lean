/-
  Stage 9, regtype: Allows: the program's.
-/
import Derived.Test.YtbbpbfbifgfjdaaRMrgS
import Derived.BigFrame
namespace Go.Proofs.Ytbbpbfbifgfjdaa
namespace R
open Go.RowKit

theorem info48 : (Try.prog.info? 48).map (·.size) = some 112 := by kernel_rfl
def aS (H : RT → Vv → Bool) (l : Bool) (A : List RT) (V : List Vv) : Bool := l && all2 H A V
set_option maxRecDepth 100000 in
set_option maxHeartbeats 4000000 in
theorem pAllows_of (H : RT → Vv → Bool) (l : Bool) (A : List RT) (V : List Vv) (w : World) (hA : A.length = 16) (hV : V.length = 16)
    (hT : ∀ W, Calls Try.prog 39 #[.agg (rowV [] RT.vals A).toArray, .agg (rowV [] Vv.vals V).toArray, .func (.func 10) #[] #[]] W fun x w' => x = .returned (.bool (all2 H A V)) ∧ Gr W w') :
    Calls Try.prog 17 #[.agg (stC l A).toArray, .agg (rowV [] Vv.vals V).toArray] w fun x w' => x = .returned (.bool (aS H l A V)) ∧ Gr w w' := by
  replace hT := T.Hid.mk hT
  unfold aS
  generalize all2 H A V = u at *
  cases l
  · clear hT hA hV
    go_enter Try.func17, Try.ntmps17
    go_upto_region 1 with fail
    have B0 : T.Hid (At (((w).alloc (.cells (stC false A).toArray 47)).alloc (.cells (rowV [] Vv.vals V).toArray 48)) (w.heap.size) (stC false A).toArray) := T.Hid.mk ((At.at_ w _ _ rfl).alloc _)
    have B1 : T.Hid (At (((w).alloc (.cells (stC false A).toArray 47)).alloc (.cells (rowV [] Vv.vals V).toArray 48)) (w.heap.size + 1) (rowV [] Vv.vals V).toArray) := T.Hid.mk (At.at_ _ _ _ (by simp))
    have G : T.Hid (Gr w (((w).alloc (.cells (stC false A).toArray 47)).alloc (.cells (rowV [] Vv.vals V).toArray 48))) := T.Hid.mk (((Gr.refl w).alloc _).alloc _)
    generalize ((w).alloc (.cells (stC false A).toArray 47)).alloc (.cells (rowV [] Vv.vals V).toArray 48) = W0 at B0 B1 G ⊢
    have c0 := At.headRow B0.out
    refine wp_region_lit ?_
    refine wpList_plain rfl (fun K hK => ?_)
    go_simp
    refine hK _ _ ?_
    clear hK K
    try simp only [Act.put, List.setIfInBounds_toArray, List.set_cons_zero, List.set_cons_succ]
    refine wpList_plain rfl (fun K hK => ?_)
    go_simp
    refine hK _ _ ?_
    clear hK K
    try simp only [Act.put, List.setIfInBounds_toArray, List.set_cons_zero, List.set_cons_succ]
    refine wpList_plain rfl (fun K hK => ?_)
    go_simp
    refine hK _ _ ?_
    clear hK K
    try simp only [Act.put, List.setIfInBounds_toArray, List.set_cons_zero, List.set_cons_succ]
    refine wpList_skip (by rfl) ?_
    try simp only [Act.put, List.setIfInBounds_toArray, List.set_cons_zero, List.set_cons_succ]
    refine wpList_skip (by rfl) ?_
    try simp only [Act.put, List.setIfInBounds_toArray, List.set_cons_zero, List.set_cons_succ]
    refine wpList_skip (by rfl) ?_
    try simp only [Act.put, List.setIfInBounds_toArray, List.set_cons_zero, List.set_cons_succ]
    refine wpList_skip (by rfl) ?_
    try simp only [Act.put, List.setIfInBounds_toArray, List.set_cons_zero, List.set_cons_succ]
    refine wpList_plain rfl (fun K hK => ?_)
    go_simp
    refine hK _ _ ?_
    clear hK K
    try simp only [Act.put, List.setIfInBounds_toArray, List.set_cons_zero, List.set_cons_succ]
    refine wpList_plain rfl (fun K hK => ?_)
    go_simp
    refine hK _ _ ?_
    clear hK K
    try simp only [Act.put, List.setIfInBounds_toArray, List.set_cons_zero, List.set_cons_succ]
    go_wp2_with fail
    go_ret
    exact ⟨ret_bool (by simp), G.out⟩
  · go_enter Try.func17, Try.ntmps17
    go_upto_region 1 with fail
    have B0 : T.Hid (At (((w).alloc (.cells (stC true A).toArray 47)).alloc (.cells (rowV [] Vv.vals V).toArray 48)) (w.heap.size) (stC true A).toArray) := T.Hid.mk ((At.at_ w _ _ rfl).alloc _)
    have B1 : T.Hid (At (((w).alloc (.cells (stC true A).toArray 47)).alloc (.cells (rowV [] Vv.vals V).toArray 48)) (w.heap.size + 1) (rowV [] Vv.vals V).toArray) := T.Hid.mk (At.at_ _ _ _ (by simp))
    have G : T.Hid (Gr w (((w).alloc (.cells (stC true A).toArray 47)).alloc (.cells (rowV [] Vv.vals V).toArray 48))) := T.Hid.mk (((Gr.refl w).alloc _).alloc _)
    generalize ((w).alloc (.cells (stC true A).toArray 47)).alloc (.cells (rowV [] Vv.vals V).toArray 48) = W0 at B0 B1 G ⊢
    have c0 := At.headRow B0.out
    have a0 := T.Hid.mk (At.tailRow B0.out)
    refine wp_region_lit ?_
    refine wpList_plain rfl (fun K hK => ?_)
    go_simp
    refine hK _ _ ?_
    clear hK K
    try simp only [Act.put, List.setIfInBounds_toArray, List.set_cons_zero, List.set_cons_succ]
    refine wpList_plain rfl (fun K hK => ?_)
    go_simp
    refine hK _ _ ?_
    clear hK K
    try simp only [Act.put, List.setIfInBounds_toArray, List.set_cons_zero, List.set_cons_succ]
    refine wpList_plain rfl (fun K hK => ?_)
    go_simp
    refine hK _ _ ?_
    clear hK K
    try simp only [Act.put, List.setIfInBounds_toArray, List.set_cons_zero, List.set_cons_succ]
    refine BigFrame.wpList_want (by rfl) (fun K hK => ?_)
    go_simp
    refine hK _ _ ?_
    clear hK K
    try simp only [Act.put, List.setIfInBounds_toArray, List.set_cons_zero, List.set_cons_succ]
    refine BigFrame.wpList_want (by rfl) (fun K hK => ?_)
    refine wp_load_mid _ _ rfl _ 1 rfl (rowV [] RT.vals A) _ a0.out Try.underlying45 rfl (by rw [row_len rt_len, hA]; exact info45) (hK _ _ ?_)
    clear hK K
    try simp only [Act.put, List.setIfInBounds_toArray, List.set_cons_zero, List.set_cons_succ]
    refine BigFrame.wpList_want (by rfl) (fun K hK => ?_)
    refine wp_load_mid _ _ rfl _ 0 rfl (rowV [] Vv.vals V) _ B1.out.range Try.underlying48 rfl (by rw [row_len vv_len, hV]; exact info48) (hK _ _ ?_)
    clear hK K
    try simp only [Act.put, List.setIfInBounds_toArray, List.set_cons_zero, List.set_cons_succ]
    refine BigFrame.wpList_want (by rfl) (fun K hK => ?_)
    go_simp
    (go_at_call 39; refine (hT.out _).mono ?_; rintro x wq ⟨rfl, q9⟩; replace q9 := T.Hid.mk q9)
    refine hK _ _ ?_
    clear hK K
    try simp only [Act.put, List.setIfInBounds_toArray, List.set_cons_zero, List.set_cons_succ]
    refine wpList_plain rfl (fun K hK => ?_)
    go_simp
    refine hK _ _ ?_
    clear hK K
    try simp only [Act.put, List.setIfInBounds_toArray, List.set_cons_zero, List.set_cons_succ]
    refine wpList_plain rfl (fun K hK => ?_)
    go_simp
    refine hK _ _ ?_
    clear hK K
    try simp only [Act.put, List.setIfInBounds_toArray, List.set_cons_zero, List.set_cons_succ]
    go_wp2_with fail
    go_ret
    exact ⟨ret_bool (by simp), G.out.trans q9.out⟩
end R
end Go.Proofs.Ytbbpbfbifgfjdaa
