/-
  Stage 9, regtype: mergeStates, JoinState, WidenState, UnderState, Allows: the program's.
-/
import Derived.Test.YtbbpbfbifgfjdaaRKnS
import Derived.Test.YtbbpbfbifgfjdaaRProM
import Derived.Test.YtbbpbfbifgfjdaaRProN
import Derived.Test.YtbbpbfbifgfjdaaRProU
import Derived.Test.YtbbpbfbifgfjdaaRProH
namespace Go.Proofs.Ytbbpbfbifgfjdaa
namespace R
open Go.RowKit

def Z16 : List RT := List.replicate 16 RT.zero
def stC (l : Bool) (R : List RT) : List Value := rowV [.bool l] RT.vals R
theorem stC_len {l : Bool} {R : List RT} (h : R.length = 16) : (stC l R).length = 193 := by unfold stC; rw [row_len rt_len, h]; rfl
theorem one_stC (l : Bool) (R : List RT) : ∀ v ∈ stC l R, v.oneCell' = true := one_st l R
theorem zero_st : Try.zeroCells47 = (stC false Z16).toArray := zero47
theorem info_st {l : Bool} {R : List RT} (h : R.length = 16) : (Try.prog.info? 47).map (·.size) = some (stC l R).length := by rw [stC_len h]; exact info47
theorem z16_len : Z16.length = 16 := rfl
/-- What is rightly built of a state. -/
def kL (l : Bool) : Bool := l
def kR (F : RT → RT) (l : Bool) (R : List RT) : List RT := if l then R.map F else Z16
theorem kR_len {F : RT → RT} {l : Bool} {R : List RT} (h : R.length = 16) : (kR F l R).length = 16 := by
  unfold kR; split
  · rw [List.length_map, h]
  · rfl
theorem knownS_any (F : RT → RT) (l : Bool) (R : List RT) (w : World) (hR : R.length = 16) (hE : ∀ W, Calls Try.prog 62 #[.agg (rowV [] RT.vals R).toArray, .func (.func 24) #[] #[]] W fun x w' => x = .returned (.agg (rowV [] RT.vals (R.map F)).toArray) ∧ Gr W w') : Calls Try.prog 50 #[.agg (stC l R).toArray] w fun x w' => x = .returned (.agg (stC l (kR F l R)).toArray) ∧ Gr w w' := by
  have := knownState_any F l R w hR hE
  cases l
  · exact this
  · exact this
def mL (la lb : Bool) : Bool := if la then true else lb
def mR (F : RT → RT) (G2 : RT → RT → RT) (la : Bool) (A : List RT) (lb : Bool) (B : List RT) : List RT := if la then (if lb then List.zipWith G2 A B else kR F la A) else kR F lb B
theorem mR_len {F : RT → RT} {G2 : RT → RT → RT} {la lb : Bool} {A B : List RT} (hA : A.length = 16) (hB : B.length = 16) : (mR F G2 la A lb B).length = 16 := by
  unfold mR
  split
  · split
    · rw [List.length_zipWith, hA, hB]; rfl
    · exact kR_len hA
  · exact kR_len hB
set_option maxRecDepth 100000 in
set_option maxHeartbeats 4000000 in
theorem mergeJ_any (F : RT → RT) (G2 : RT → RT → RT) (la : Bool) (A : List RT) (lb : Bool) (B : List RT) (w : World) (hA : A.length = 16) (hB : B.length = 16)
    (hKA : ∀ W, Calls Try.prog 50 #[.agg (stC la A).toArray] W fun x w' => x = .returned (.agg (stC la (kR F la A)).toArray) ∧ Gr W w')
    (hKB : ∀ W, Calls Try.prog 50 #[.agg (stC lb B).toArray] W fun x w' => x = .returned (.agg (stC lb (kR F lb B)).toArray) ∧ Gr W w')
    (hT : ∀ W, Calls Try.prog 51 #[.agg (rowV [] RT.vals A).toArray, .agg (rowV [] RT.vals B).toArray, .func (.func 9) #[] #[]] W fun x w' => x = .returned (.agg (rowV [] RT.vals (List.zipWith G2 A B)).toArray) ∧ Gr W w') :
    Calls Try.prog 36 #[.agg (stC la A).toArray, .agg (stC lb B).toArray, .func (.func 9) #[] #[]] w fun x w' => x = .returned (.agg (stC (mL la lb) (mR F G2 la A lb B)).toArray) ∧ Gr w w' := by
  replace hKA := T.Hid.mk hKA
  replace hKB := T.Hid.mk hKB
  replace hT := T.Hid.mk hT
  cases la
  · rw [show mL false lb = lb from rfl, show mR F G2 false A lb B = kR F lb B from rfl]
    go_enter Try.func36, Try.ntmps36
    go_upto_region 1 with fail
    have B0 : T.Hid (At ((((w).alloc (.cells (stC false A).toArray 47)).alloc (.cells (stC lb B).toArray 47)).alloc (.cells Try.zeroCells47 47)) (w.heap.size) (stC false A).toArray) := T.Hid.mk (((At.at_ w _ _ rfl).alloc _).alloc _)
    have B1 : T.Hid (At ((((w).alloc (.cells (stC false A).toArray 47)).alloc (.cells (stC lb B).toArray 47)).alloc (.cells Try.zeroCells47 47)) (w.heap.size + 1) (stC lb B).toArray) := T.Hid.mk ((At.at_ _ _ _ (by simp)).alloc _)
    have B2 : T.Hid (At ((((w).alloc (.cells (stC false A).toArray 47)).alloc (.cells (stC lb B).toArray 47)).alloc (.cells Try.zeroCells47 47)) (w.heap.size + 1 + 1) (stC false Z16).toArray) := T.Hid.mk (by rw [← zero_st]; exact At.at_ _ _ _ (by simp))
    have G : T.Hid (Gr w ((((w).alloc (.cells (stC false A).toArray 47)).alloc (.cells (stC lb B).toArray 47)).alloc (.cells Try.zeroCells47 47))) := T.Hid.mk ((((Gr.refl w).alloc _).alloc _).alloc _)
    generalize (((w).alloc (.cells (stC false A).toArray 47)).alloc (.cells (stC lb B).toArray 47)).alloc (.cells Try.zeroCells47 47) = W0 at B0 B1 B2 G ⊢
    have c0 := At.headRow B0.out
    go_upto_region 2 with fail
    clear c0 hKA hT B0
    refine wp_region_lit ?_
    refine wpList_plain rfl (fun K hK => ?_)
    refine wp_load_mid _ _ rfl _ 0 rfl (stC lb B) _ B1.out.range Try.underlying47 rfl (info_st hB) (hK _ _ ?_)
    clear hK K
    try simp only [Act.put, List.setIfInBounds_toArray, List.set_cons_zero, List.set_cons_succ]
    refine wpList_plain rfl (fun K hK => ?_)
    go_simp
    (go_at_call 50; refine (hKB.out _).mono ?_; rintro x wq ⟨rfl, q9⟩; replace q9 := T.Hid.mk q9)
    refine hK _ _ ?_
    clear hK K
    try simp only [Act.put, List.setIfInBounds_toArray, List.set_cons_zero, List.set_cons_succ]
    have hl9 := T.Hid.mk (show (stC lb (kR F lb B)).length = (stC false Z16).length by rw [stC_len (kR_len hB), stC_len z16_len])
    have s2 := T.Hid.mk ((B2.out.gr q9.out).setAll (stC lb (kR F lb B)) hl9.out)
    have hres := T.Hid.mk ((G.out.trans q9.out).setCells (w.heap.size + 1 + 1) (by omega) (stC lb (kR F lb B)) 0)
    refine wpList_plain rfl (fun K hK => ?_)
    refine wp_store_mid _ _ _ rfl _ _ (List.toArray (stC lb (kR F lb B))) rfl rfl ((B2.out.gr q9.out).there 0 _ (by rw [List.size_toArray, hl9.out]; omega)) (by rw [List.size_toArray, hl9.out]; exact (info_st z16_len)) (all_oneCell_toArray (one_stC _ _)) (hK _ _ ?_)
    clear hK K
    try simp only [Act.put]
    have s5 := T.Hid.mk (s2.out.range)
    clear s2
    generalize World.setCells _ _ _ _ = W5 at *
    have hrun := T.Hid.mk (run_loadVar_mid (P := Try.prog) W5 (w.heap.size + 1 + 1) 0 47 (stC lb (kR F lb B)) _ s5.out Try.underlying47 rfl (by rw [hl9.out]; exact (info_st z16_len)))
    clear s5 hl9
    go_wp2_with fail
    refine bodyPost_ret (v := .agg (stC lb (kR F lb B)).toArray) ?_ rfl ⟨rfl, hres.out⟩
    exact results_row Try.results36 _ _ rfl hrun.out
  · cases lb
    · rw [show mL true false = true from rfl, show mR F G2 true A false B = kR F true A from rfl]
      go_enter Try.func36, Try.ntmps36
      go_upto_region 1 with fail
      have B0 : T.Hid (At ((((w).alloc (.cells (stC true A).toArray 47)).alloc (.cells (stC false B).toArray 47)).alloc (.cells Try.zeroCells47 47)) (w.heap.size) (stC true A).toArray) := T.Hid.mk (((At.at_ w _ _ rfl).alloc _).alloc _)
      have B1 : T.Hid (At ((((w).alloc (.cells (stC true A).toArray 47)).alloc (.cells (stC false B).toArray 47)).alloc (.cells Try.zeroCells47 47)) (w.heap.size + 1) (stC false B).toArray) := T.Hid.mk ((At.at_ _ _ _ (by simp)).alloc _)
      have B2 : T.Hid (At ((((w).alloc (.cells (stC true A).toArray 47)).alloc (.cells (stC false B).toArray 47)).alloc (.cells Try.zeroCells47 47)) (w.heap.size + 1 + 1) (stC false Z16).toArray) := T.Hid.mk (by rw [← zero_st]; exact At.at_ _ _ _ (by simp))
      have G : T.Hid (Gr w ((((w).alloc (.cells (stC true A).toArray 47)).alloc (.cells (stC false B).toArray 47)).alloc (.cells Try.zeroCells47 47))) := T.Hid.mk ((((Gr.refl w).alloc _).alloc _).alloc _)
      generalize (((w).alloc (.cells (stC true A).toArray 47)).alloc (.cells (stC false B).toArray 47)).alloc (.cells Try.zeroCells47 47) = W0 at B0 B1 B2 G ⊢
      have c0 := At.headRow B0.out
      have c1 := At.headRow B1.out
      go_upto_region 4 with fail
      clear c0 c1 hKB hT B1
      refine wp_region_lit ?_
      refine wpList_plain rfl (fun K hK => ?_)
      refine wp_load_mid _ _ rfl _ 0 rfl (stC true A) _ B0.out.range Try.underlying47 rfl (info_st hA) (hK _ _ ?_)
      clear hK K
      try simp only [Act.put, List.setIfInBounds_toArray, List.set_cons_zero, List.set_cons_succ]
      refine wpList_plain rfl (fun K hK => ?_)
      go_simp
      (go_at_call 50; refine (hKA.out _).mono ?_; rintro x wq ⟨rfl, q9⟩; replace q9 := T.Hid.mk q9)
      refine hK _ _ ?_
      clear hK K
      try simp only [Act.put, List.setIfInBounds_toArray, List.set_cons_zero, List.set_cons_succ]
      have hl9 := T.Hid.mk (show (stC true (kR F true A)).length = (stC false Z16).length by rw [stC_len (kR_len hA), stC_len z16_len])
      have s2 := T.Hid.mk ((B2.out.gr q9.out).setAll (stC true (kR F true A)) hl9.out)
      have hres := T.Hid.mk ((G.out.trans q9.out).setCells (w.heap.size + 1 + 1) (by omega) (stC true (kR F true A)) 0)
      refine wpList_plain rfl (fun K hK => ?_)
      refine wp_store_mid _ _ _ rfl _ _ (List.toArray (stC true (kR F true A))) rfl rfl ((B2.out.gr q9.out).there 0 _ (by rw [List.size_toArray, hl9.out]; omega)) (by rw [List.size_toArray, hl9.out]; exact (info_st z16_len)) (all_oneCell_toArray (one_stC _ _)) (hK _ _ ?_)
      clear hK K
      try simp only [Act.put]
      have s5 := T.Hid.mk (s2.out.range)
      clear s2
      generalize World.setCells _ _ _ _ = W5 at *
      have hrun := T.Hid.mk (run_loadVar_mid (P := Try.prog) W5 (w.heap.size + 1 + 1) 0 47 (stC true (kR F true A)) _ s5.out Try.underlying47 rfl (by rw [hl9.out]; exact (info_st z16_len)))
      clear s5 hl9
      go_wp2_with fail
      refine bodyPost_ret (v := .agg (stC true (kR F true A)).toArray) ?_ rfl ⟨rfl, hres.out⟩
      exact results_row Try.results36 _ _ rfl hrun.out
    · rw [show mL true true = true from rfl, show mR F G2 true A true B = List.zipWith G2 A B from rfl]
      go_enter Try.func36, Try.ntmps36
      go_upto_region 1 with fail
      have B0 : T.Hid (At ((((w).alloc (.cells (stC true A).toArray 47)).alloc (.cells (stC true B).toArray 47)).alloc (.cells Try.zeroCells47 47)) (w.heap.size) (stC true A).toArray) := T.Hid.mk (((At.at_ w _ _ rfl).alloc _).alloc _)
      have B1 : T.Hid (At ((((w).alloc (.cells (stC true A).toArray 47)).alloc (.cells (stC true B).toArray 47)).alloc (.cells Try.zeroCells47 47)) (w.heap.size + 1) (stC true B).toArray) := T.Hid.mk ((At.at_ _ _ _ (by simp)).alloc _)
      have B2 : T.Hid (At ((((w).alloc (.cells (stC true A).toArray 47)).alloc (.cells (stC true B).toArray 47)).alloc (.cells Try.zeroCells47 47)) (w.heap.size + 1 + 1) (stC false Z16).toArray) := T.Hid.mk (by rw [← zero_st]; exact At.at_ _ _ _ (by simp))
      have G : T.Hid (Gr w ((((w).alloc (.cells (stC true A).toArray 47)).alloc (.cells (stC true B).toArray 47)).alloc (.cells Try.zeroCells47 47))) := T.Hid.mk ((((Gr.refl w).alloc _).alloc _).alloc _)
      generalize (((w).alloc (.cells (stC true A).toArray 47)).alloc (.cells (stC true B).toArray 47)).alloc (.cells Try.zeroCells47 47) = W0 at B0 B1 B2 G ⊢
      have c0 := At.headRow B0.out
      have c1 := At.headRow B1.out
      go_upto_region 5 with fail
      have a0 := T.Hid.mk (At.tailRow B0.out)
      have a1 := T.Hid.mk (At.tailRow B1.out)
      have hZ : (List.zipWith G2 A B).length = 16 := by rw [List.length_zipWith, hA, hB]; rfl
      have hlen : (rowV [] RT.vals (List.zipWith G2 A B)).length = 192 := by rw [row_len rt_len, hZ]; rfl
      have hbd := bld Try.zeroCells47 (by rw [zero_st, List.size_toArray, stC_len z16_len]) (.bool true) _ hlen
      rw [show (Value.bool true :: rowV [] RT.vals (List.zipWith G2 A B)) = stC true (List.zipWith G2 A B) from rfl] at hbd
      clear c0 c1 hKA hKB
      refine wp_region_lit ?_
      refine wpList_plain rfl (fun K hK => ?_)
      go_simp
      refine hK _ _ ?_
      clear hK K
      try simp only [Act.put, List.setIfInBounds_toArray, List.set_cons_zero, List.set_cons_succ]
      refine wpList_plain rfl (fun K hK => ?_)
      refine wp_load_mid _ _ rfl _ 1 rfl (rowV [] RT.vals A) _ a0.out Try.underlying45 rfl (by rw [row_len rt_len, hA]; exact info45) (hK _ _ ?_)
      clear hK K
      try simp only [Act.put, List.setIfInBounds_toArray, List.set_cons_zero, List.set_cons_succ]
      refine wpList_plain rfl (fun K hK => ?_)
      go_simp
      refine hK _ _ ?_
      clear hK K
      try simp only [Act.put, List.setIfInBounds_toArray, List.set_cons_zero, List.set_cons_succ]
      refine wpList_plain rfl (fun K hK => ?_)
      refine wp_load_mid _ _ rfl _ 1 rfl (rowV [] RT.vals B) _ a1.out Try.underlying45 rfl (by rw [row_len rt_len, hB]; exact info45) (hK _ _ ?_)
      clear hK K
      try simp only [Act.put, List.setIfInBounds_toArray, List.set_cons_zero, List.set_cons_succ]
      refine wpList_plain rfl (fun K hK => ?_)
      go_simp
      refine hK _ _ ?_
      clear hK K
      try simp only [Act.put, List.setIfInBounds_toArray, List.set_cons_zero, List.set_cons_succ]
      refine wpList_plain rfl (fun K hK => ?_)
      go_simp
      (go_at_call 51; refine (hT.out _).mono ?_; rintro x wq ⟨rfl, q9⟩; replace q9 := T.Hid.mk q9)
      refine hK _ _ ?_
      clear hK K
      try simp only [Act.put, List.setIfInBounds_toArray, List.set_cons_zero, List.set_cons_succ]
      refine wpList_plain rfl (fun K hK => ?_)
      go_simp
      refine hK _ _ ?_
      clear hK K hbd hlen a0 a1 hT
      try simp only [Act.put, List.setIfInBounds_toArray, List.set_cons_zero, List.set_cons_succ]
      have hl9 := T.Hid.mk (show (stC true (List.zipWith G2 A B)).length = (stC false Z16).length by rw [stC_len hZ, stC_len z16_len])
      have s2 := T.Hid.mk ((B2.out.gr q9.out).setAll (stC true (List.zipWith G2 A B)) hl9.out)
      have hres := T.Hid.mk ((G.out.trans q9.out).setCells (w.heap.size + 1 + 1) (by omega) (stC true (List.zipWith G2 A B)) 0)
      refine wpList_plain rfl (fun K hK => ?_)
      refine wp_store_mid _ _ _ rfl _ _ (List.toArray (stC true (List.zipWith G2 A B))) rfl rfl ((B2.out.gr q9.out).there 0 _ (by rw [List.size_toArray, hl9.out]; omega)) (by rw [List.size_toArray, hl9.out]; exact (info_st z16_len)) (all_oneCell_toArray (one_stC _ _)) (hK _ _ ?_)
      clear hK K
      try simp only [Act.put]
      have s5 := T.Hid.mk (s2.out.range)
      clear s2
      generalize World.setCells _ _ _ _ = W5 at *
      have hrun := T.Hid.mk (run_loadVar_mid (P := Try.prog) W5 (w.heap.size + 1 + 1) 0 47 (stC true (List.zipWith G2 A B)) _ s5.out Try.underlying47 rfl (by rw [hl9.out]; exact (info_st z16_len)))
      clear s5 hl9
      go_wp2_with fail
      refine bodyPost_ret (v := .agg (stC true (List.zipWith G2 A B)).toArray) ?_ rfl ⟨rfl, hres.out⟩
      exact results_row Try.results36 _ _ rfl hrun.out
set_option maxRecDepth 100000 in
set_option maxHeartbeats 4000000 in
theorem mergeW_any (F : RT → RT) (G2 : RT → RT → RT) (la : Bool) (A : List RT) (lb : Bool) (B : List RT) (w : World) (hA : A.length = 16) (hB : B.length = 16)
    (hKA : ∀ W, Calls Try.prog 50 #[.agg (stC la A).toArray] W fun x w' => x = .returned (.agg (stC la (kR F la A)).toArray) ∧ Gr W w')
    (hKB : ∀ W, Calls Try.prog 50 #[.agg (stC lb B).toArray] W fun x w' => x = .returned (.agg (stC lb (kR F lb B)).toArray) ∧ Gr W w')
    (hT : ∀ W, Calls Try.prog 51 #[.agg (rowV [] RT.vals A).toArray, .agg (rowV [] RT.vals B).toArray, .func (.func 37) #[] #[]] W fun x w' => x = .returned (.agg (rowV [] RT.vals (List.zipWith G2 A B)).toArray) ∧ Gr W w') :
    Calls Try.prog 36 #[.agg (stC la A).toArray, .agg (stC lb B).toArray, .func (.func 37) #[] #[]] w fun x w' => x = .returned (.agg (stC (mL la lb) (mR F G2 la A lb B)).toArray) ∧ Gr w w' := by
  replace hKA := T.Hid.mk hKA
  replace hKB := T.Hid.mk hKB
  replace hT := T.Hid.mk hT
  cases la
  · rw [show mL false lb = lb from rfl, show mR F G2 false A lb B = kR F lb B from rfl]
    go_enter Try.func36, Try.ntmps36
    go_upto_region 1 with fail
    have B0 : T.Hid (At ((((w).alloc (.cells (stC false A).toArray 47)).alloc (.cells (stC lb B).toArray 47)).alloc (.cells Try.zeroCells47 47)) (w.heap.size) (stC false A).toArray) := T.Hid.mk (((At.at_ w _ _ rfl).alloc _).alloc _)
    have B1 : T.Hid (At ((((w).alloc (.cells (stC false A).toArray 47)).alloc (.cells (stC lb B).toArray 47)).alloc (.cells Try.zeroCells47 47)) (w.heap.size + 1) (stC lb B).toArray) := T.Hid.mk ((At.at_ _ _ _ (by simp)).alloc _)
    have B2 : T.Hid (At ((((w).alloc (.cells (stC false A).toArray 47)).alloc (.cells (stC lb B).toArray 47)).alloc (.cells Try.zeroCells47 47)) (w.heap.size + 1 + 1) (stC false Z16).toArray) := T.Hid.mk (by rw [← zero_st]; exact At.at_ _ _ _ (by simp))
    have G : T.Hid (Gr w ((((w).alloc (.cells (stC false A).toArray 47)).alloc (.cells (stC lb B).toArray 47)).alloc (.cells Try.zeroCells47 47))) := T.Hid.mk ((((Gr.refl w).alloc _).alloc _).alloc _)
    generalize (((w).alloc (.cells (stC false A).toArray 47)).alloc (.cells (stC lb B).toArray 47)).alloc (.cells Try.zeroCells47 47) = W0 at B0 B1 B2 G ⊢
    have c0 := At.headRow B0.out
    go_upto_region 2 with fail
    clear c0 hKA hT B0
    refine wp_region_lit ?_
    refine wpList_plain rfl (fun K hK => ?_)
    refine wp_load_mid _ _ rfl _ 0 rfl (stC lb B) _ B1.out.range Try.underlying47 rfl (info_st hB) (hK _ _ ?_)
    clear hK K
    try simp only [Act.put, List.setIfInBounds_toArray, List.set_cons_zero, List.set_cons_succ]
    refine wpList_plain rfl (fun K hK => ?_)
    go_simp
    (go_at_call 50; refine (hKB.out _).mono ?_; rintro x wq ⟨rfl, q9⟩; replace q9 := T.Hid.mk q9)
    refine hK _ _ ?_
    clear hK K
    try simp only [Act.put, List.setIfInBounds_toArray, List.set_cons_zero, List.set_cons_succ]
    have hl9 := T.Hid.mk (show (stC lb (kR F lb B)).length = (stC false Z16).length by rw [stC_len (kR_len hB), stC_len z16_len])
    have s2 := T.Hid.mk ((B2.out.gr q9.out).setAll (stC lb (kR F lb B)) hl9.out)
    have hres := T.Hid.mk ((G.out.trans q9.out).setCells (w.heap.size + 1 + 1) (by omega) (stC lb (kR F lb B)) 0)
    refine wpList_plain rfl (fun K hK => ?_)
    refine wp_store_mid _ _ _ rfl _ _ (List.toArray (stC lb (kR F lb B))) rfl rfl ((B2.out.gr q9.out).there 0 _ (by rw [List.size_toArray, hl9.out]; omega)) (by rw [List.size_toArray, hl9.out]; exact (info_st z16_len)) (all_oneCell_toArray (one_stC _ _)) (hK _ _ ?_)
    clear hK K
    try simp only [Act.put]
    have s5 := T.Hid.mk (s2.out.range)
    clear s2
    generalize World.setCells _ _ _ _ = W5 at *
    have hrun := T.Hid.mk (run_loadVar_mid (P := Try.prog) W5 (w.heap.size + 1 + 1) 0 47 (stC lb (kR F lb B)) _ s5.out Try.underlying47 rfl (by rw [hl9.out]; exact (info_st z16_len)))
    clear s5 hl9
    go_wp2_with fail
    refine bodyPost_ret (v := .agg (stC lb (kR F lb B)).toArray) ?_ rfl ⟨rfl, hres.out⟩
    exact results_row Try.results36 _ _ rfl hrun.out
  · cases lb
    · rw [show mL true false = true from rfl, show mR F G2 true A false B = kR F true A from rfl]
      go_enter Try.func36, Try.ntmps36
      go_upto_region 1 with fail
      have B0 : T.Hid (At ((((w).alloc (.cells (stC true A).toArray 47)).alloc (.cells (stC false B).toArray 47)).alloc (.cells Try.zeroCells47 47)) (w.heap.size) (stC true A).toArray) := T.Hid.mk (((At.at_ w _ _ rfl).alloc _).alloc _)
      have B1 : T.Hid (At ((((w).alloc (.cells (stC true A).toArray 47)).alloc (.cells (stC false B).toArray 47)).alloc (.cells Try.zeroCells47 47)) (w.heap.size + 1) (stC false B).toArray) := T.Hid.mk ((At.at_ _ _ _ (by simp)).alloc _)
      have B2 : T.Hid (At ((((w).alloc (.cells (stC true A).toArray 47)).alloc (.cells (stC false B).toArray 47)).alloc (.cells Try.zeroCells47 47)) (w.heap.size + 1 + 1) (stC false Z16).toArray) := T.Hid.mk (by rw [← zero_st]; exact At.at_ _ _ _ (by simp))
      have G : T.Hid (Gr w ((((w).alloc (.cells (stC true A).toArray 47)).alloc (.cells (stC false B).toArray 47)).alloc (.cells Try.zeroCells47 47))) := T.Hid.mk ((((Gr.refl w).alloc _).alloc _).alloc _)
      generalize (((w).alloc (.cells (stC true A).toArray 47)).alloc (.cells (stC false B).toArray 47)).alloc (.cells Try.zeroCells47 47) = W0 at B0 B1 B2 G ⊢
      have c0 := At.headRow B0.out
      have c1 := At.headRow B1.out
      go_upto_region 4 with fail
      clear c0 c1 hKB hT B1
      refine wp_region_lit ?_
      refine wpList_plain rfl (fun K hK => ?_)
      refine wp_load_mid _ _ rfl _ 0 rfl (stC true A) _ B0.out.range Try.underlying47 rfl (info_st hA) (hK _ _ ?_)
      clear hK K
      try simp only [Act.put, List.setIfInBounds_toArray, List.set_cons_zero, List.set_cons_succ]
      refine wpList_plain rfl (fun K hK => ?_)
      go_simp
      (go_at_call 50; refine (hKA.out _).mono ?_; rintro x wq ⟨rfl, q9⟩; replace q9 := T.Hid.mk q9)
      refine hK _ _ ?_
      clear hK K
      try simp only [Act.put, List.setIfInBounds_toArray, List.set_cons_zero, List.set_cons_succ]
      have hl9 := T.Hid.mk (show (stC true (kR F true A)).length = (stC false Z16).length by rw [stC_len (kR_len hA), stC_len z16_len])
      have s2 := T.Hid.mk ((B2.out.gr q9.out).setAll (stC true (kR F true A)) hl9.out)
      have hres := T.Hid.mk ((G.out.trans q9.out).setCells (w.heap.size + 1 + 1) (by omega) (stC true (kR F true A)) 0)
      refine wpList_plain rfl (fun K hK => ?_)
      refine wp_store_mid _ _ _ rfl _ _ (List.toArray (stC true (kR F true A))) rfl rfl ((B2.out.gr q9.out).there 0 _ (by rw [List.size_toArray, hl9.out]; omega)) (by rw [List.size_toArray, hl9.out]; exact (info_st z16_len)) (all_oneCell_toArray (one_stC _ _)) (hK _ _ ?_)
      clear hK K
      try simp only [Act.put]
      have s5 := T.Hid.mk (s2.out.range)
      clear s2
      generalize World.setCells _ _ _ _ = W5 at *
      have hrun := T.Hid.mk (run_loadVar_mid (P := Try.prog) W5 (w.heap.size + 1 + 1) 0 47 (stC true (kR F true A)) _ s5.out Try.underlying47 rfl (by rw [hl9.out]; exact (info_st z16_len)))
      clear s5 hl9
      go_wp2_with fail
      refine bodyPost_ret (v := .agg (stC true (kR F true A)).toArray) ?_ rfl ⟨rfl, hres.out⟩
      exact results_row Try.results36 _ _ rfl hrun.out
    · rw [show mL true true = true from rfl, show mR F G2 true A true B = List.zipWith G2 A B from rfl]
      go_enter Try.func36, Try.ntmps36
      go_upto_region 1 with fail
      have B0 : T.Hid (At ((((w).alloc (.cells (stC true A).toArray 47)).alloc (.cells (stC true B).toArray 47)).alloc (.cells Try.zeroCells47 47)) (w.heap.size) (stC true A).toArray) := T.Hid.mk (((At.at_ w _ _ rfl).alloc _).alloc _)
      have B1 : T.Hid (At ((((w).alloc (.cells (stC true A).toArray 47)).alloc (.cells (stC true B).toArray 47)).alloc (.cells Try.zeroCells47 47)) (w.heap.size + 1) (stC true B).toArray) := T.Hid.mk ((At.at_ _ _ _ (by simp)).alloc _)
      have B2 : T.Hid (At ((((w).alloc (.cells (stC true A).toArray 47)).alloc (.cells (stC true B).toArray 47)).alloc (.cells Try.zeroCells47 47)) (w.heap.size + 1 + 1) (stC false Z16).toArray) := T.Hid.mk (by rw [← zero_st]; exact At.at_ _ _ _ (by simp))
      have G : T.Hid (Gr w ((((w).alloc (.cells (stC true A).toArray 47)).alloc (.cells (stC true B).toArray 47)).alloc (.cells Try.zeroCells47 47))) := T.Hid.mk ((((Gr.refl w).alloc _).alloc _).alloc _)
      generalize (((w).alloc (.cells (stC true A).toArray 47)).alloc (.cells (stC true B).toArray 47)).alloc (.cells Try.zeroCells47 47) = W0 at B0 B1 B2 G ⊢
      have c0 := At.headRow B0.out
      have c1 := At.headRow B1.out
      go_upto_region 5 with fail
      have a0 := T.Hid.mk (At.tailRow B0.out)
      have a1 := T.Hid.mk (At.tailRow B1.out)
      have hZ : (List.zipWith G2 A B).length = 16 := by rw [List.length_zipWith, hA, hB]; rfl
      have hlen : (rowV [] RT.vals (List.zipWith G2 A B)).length = 192 := by rw [row_len rt_len, hZ]; rfl
      have hbd := bld Try.zeroCells47 (by rw [zero_st, List.size_toArray, stC_len z16_len]) (.bool true) _ hlen
      rw [show (Value.bool true :: rowV [] RT.vals (List.zipWith G2 A B)) = stC true (List.zipWith G2 A B) from rfl] at hbd
      clear c0 c1 hKA hKB
      refine wp_region_lit ?_
      refine wpList_plain rfl (fun K hK => ?_)
      go_simp
      refine hK _ _ ?_
      clear hK K
      try simp only [Act.put, List.setIfInBounds_toArray, List.set_cons_zero, List.set_cons_succ]
      refine wpList_plain rfl (fun K hK => ?_)
      refine wp_load_mid _ _ rfl _ 1 rfl (rowV [] RT.vals A) _ a0.out Try.underlying45 rfl (by rw [row_len rt_len, hA]; exact info45) (hK _ _ ?_)
      clear hK K
      try simp only [Act.put, List.setIfInBounds_toArray, List.set_cons_zero, List.set_cons_succ]
      refine wpList_plain rfl (fun K hK => ?_)
      go_simp
      refine hK _ _ ?_
      clear hK K
      try simp only [Act.put, List.setIfInBounds_toArray, List.set_cons_zero, List.set_cons_succ]
      refine wpList_plain rfl (fun K hK => ?_)
      refine wp_load_mid _ _ rfl _ 1 rfl (rowV [] RT.vals B) _ a1.out Try.underlying45 rfl (by rw [row_len rt_len, hB]; exact info45) (hK _ _ ?_)
      clear hK K
      try simp only [Act.put, List.setIfInBounds_toArray, List.set_cons_zero, List.set_cons_succ]
      refine wpList_plain rfl (fun K hK => ?_)
      go_simp
      refine hK _ _ ?_
      clear hK K
      try simp only [Act.put, List.setIfInBounds_toArray, List.set_cons_zero, List.set_cons_succ]
      refine wpList_plain rfl (fun K hK => ?_)
      go_simp
      (go_at_call 51; refine (hT.out _).mono ?_; rintro x wq ⟨rfl, q9⟩; replace q9 := T.Hid.mk q9)
      refine hK _ _ ?_
      clear hK K
      try simp only [Act.put, List.setIfInBounds_toArray, List.set_cons_zero, List.set_cons_succ]
      refine wpList_plain rfl (fun K hK => ?_)
      go_simp
      refine hK _ _ ?_
      clear hK K hbd hlen a0 a1 hT
      try simp only [Act.put, List.setIfInBounds_toArray, List.set_cons_zero, List.set_cons_succ]
      have hl9 := T.Hid.mk (show (stC true (List.zipWith G2 A B)).length = (stC false Z16).length by rw [stC_len hZ, stC_len z16_len])
      have s2 := T.Hid.mk ((B2.out.gr q9.out).setAll (stC true (List.zipWith G2 A B)) hl9.out)
      have hres := T.Hid.mk ((G.out.trans q9.out).setCells (w.heap.size + 1 + 1) (by omega) (stC true (List.zipWith G2 A B)) 0)
      refine wpList_plain rfl (fun K hK => ?_)
      refine wp_store_mid _ _ _ rfl _ _ (List.toArray (stC true (List.zipWith G2 A B))) rfl rfl ((B2.out.gr q9.out).there 0 _ (by rw [List.size_toArray, hl9.out]; omega)) (by rw [List.size_toArray, hl9.out]; exact (info_st z16_len)) (all_oneCell_toArray (one_stC _ _)) (hK _ _ ?_)
      clear hK K
      try simp only [Act.put]
      have s5 := T.Hid.mk (s2.out.range)
      clear s2
      generalize World.setCells _ _ _ _ = W5 at *
      have hrun := T.Hid.mk (run_loadVar_mid (P := Try.prog) W5 (w.heap.size + 1 + 1) 0 47 (stC true (List.zipWith G2 A B)) _ s5.out Try.underlying47 rfl (by rw [hl9.out]; exact (info_st z16_len)))
      clear s5 hl9
      go_wp2_with fail
      refine bodyPost_ret (v := .agg (stC true (List.zipWith G2 A B)).toArray) ?_ rfl ⟨rfl, hres.out⟩
      exact results_row Try.results36 _ _ rfl hrun.out
set_option maxRecDepth 100000 in
set_option maxHeartbeats 4000000 in
theorem pJoinState_of (F : RT → RT) (G2 : RT → RT → RT) (la : Bool) (A : List RT) (lb : Bool) (B : List RT) (w : World) (hA : A.length = 16) (hB : B.length = 16)
    (hM : ∀ W, Calls Try.prog 36 #[.agg (stC la A).toArray, .agg (stC lb B).toArray, .func (.func 9) #[] #[]] W fun x w' => x = .returned (.agg (stC (mL la lb) (mR F G2 la A lb B)).toArray) ∧ Gr W w') :
    Calls Try.prog 14 #[.agg (stC la A).toArray, .agg (stC lb B).toArray] w fun x w' => x = .returned (.agg (stC (mL la lb) (mR F G2 la A lb B)).toArray) ∧ Gr w w' := by
  replace hM := T.Hid.mk hM
  have hL : (mR F G2 la A lb B).length = 16 := mR_len hA hB
  generalize mR F G2 la A lb B = RM at *
  generalize mL la lb = lm at *
  go_enter Try.func14, Try.ntmps14
  go_upto_region 1 with fail
  have B0 : T.Hid (At ((((w).alloc (.cells (stC la A).toArray 47)).alloc (.cells (stC lb B).toArray 47)).alloc (.cells Try.zeroCells47 47)) (w.heap.size) (stC la A).toArray) := T.Hid.mk (((At.at_ w _ _ rfl).alloc _).alloc _)
  have B1 : T.Hid (At ((((w).alloc (.cells (stC la A).toArray 47)).alloc (.cells (stC lb B).toArray 47)).alloc (.cells Try.zeroCells47 47)) (w.heap.size + 1) (stC lb B).toArray) := T.Hid.mk ((At.at_ _ _ _ (by simp)).alloc _)
  have B2 : T.Hid (At ((((w).alloc (.cells (stC la A).toArray 47)).alloc (.cells (stC lb B).toArray 47)).alloc (.cells Try.zeroCells47 47)) (w.heap.size + 1 + 1) (stC false Z16).toArray) := T.Hid.mk (by rw [← zero_st]; exact At.at_ _ _ _ (by simp))
  have G : T.Hid (Gr w ((((w).alloc (.cells (stC la A).toArray 47)).alloc (.cells (stC lb B).toArray 47)).alloc (.cells Try.zeroCells47 47))) := T.Hid.mk ((((Gr.refl w).alloc _).alloc _).alloc _)
  generalize (((w).alloc (.cells (stC la A).toArray 47)).alloc (.cells (stC lb B).toArray 47)).alloc (.cells Try.zeroCells47 47) = W0 at B0 B1 B2 G ⊢
  refine wp_region_lit ?_
  refine wpList_plain rfl (fun K hK => ?_)
  refine wp_load_mid _ _ rfl _ 0 rfl (stC la A) _ B0.out.range Try.underlying47 rfl (info_st hA) (hK _ _ ?_)
  clear hK K
  try simp only [Act.put, List.setIfInBounds_toArray, List.set_cons_zero, List.set_cons_succ]
  refine wpList_plain rfl (fun K hK => ?_)
  refine wp_load_mid _ _ rfl _ 0 rfl (stC lb B) _ B1.out.range Try.underlying47 rfl (info_st hB) (hK _ _ ?_)
  clear hK K
  try simp only [Act.put, List.setIfInBounds_toArray, List.set_cons_zero, List.set_cons_succ]
  refine wpList_plain rfl (fun K hK => ?_)
  go_simp
  (go_at_call 36; refine (hM.out _).mono ?_; rintro x wq ⟨rfl, q9⟩; replace q9 := T.Hid.mk q9)
  refine hK _ _ ?_
  clear hK K
  try simp only [Act.put, List.setIfInBounds_toArray, List.set_cons_zero, List.set_cons_succ]
  have hl9 := T.Hid.mk (show (stC lm RM).length = (stC false Z16).length by rw [stC_len hL, stC_len z16_len])
  have s2 := T.Hid.mk ((B2.out.gr q9.out).setAll (stC lm RM) hl9.out)
  have hres := T.Hid.mk ((G.out.trans q9.out).setCells (w.heap.size + 1 + 1) (by omega) (stC lm RM) 0)
  refine wpList_plain rfl (fun K hK => ?_)
  refine wp_store_mid _ _ _ rfl _ _ (List.toArray (stC lm RM)) rfl rfl ((B2.out.gr q9.out).there 0 _ (by rw [List.size_toArray, hl9.out]; omega)) (by rw [List.size_toArray, hl9.out]; exact (info_st z16_len)) (all_oneCell_toArray (one_stC _ _)) (hK _ _ ?_)
  clear hK K
  try simp only [Act.put]
  have s5 := T.Hid.mk (s2.out.range)
  clear s2
  generalize World.setCells _ _ _ _ = W5 at *
  have hrun := T.Hid.mk (run_loadVar_mid (P := Try.prog) W5 (w.heap.size + 1 + 1) 0 47 (stC lm RM) _ s5.out Try.underlying47 rfl (by rw [hl9.out]; exact (info_st z16_len)))
  clear s5 hl9
  go_wp2_with fail
  refine bodyPost_ret (v := .agg (stC lm RM).toArray) ?_ rfl ⟨rfl, hres.out⟩
  exact results_row Try.results14 _ _ rfl hrun.out
set_option maxRecDepth 100000 in
set_option maxHeartbeats 4000000 in
theorem pWidenState_of (F : RT → RT) (G2 : RT → RT → RT) (la : Bool) (A : List RT) (lb : Bool) (B : List RT) (w : World) (hA : A.length = 16) (hB : B.length = 16)
    (hM : ∀ W, Calls Try.prog 36 #[.agg (stC la A).toArray, .agg (stC lb B).toArray, .func (.func 37) #[] #[]] W fun x w' => x = .returned (.agg (stC (mL la lb) (mR F G2 la A lb B)).toArray) ∧ Gr W w') :
    Calls Try.prog 15 #[.agg (stC la A).toArray, .agg (stC lb B).toArray] w fun x w' => x = .returned (.agg (stC (mL la lb) (mR F G2 la A lb B)).toArray) ∧ Gr w w' := by
  replace hM := T.Hid.mk hM
  have hL : (mR F G2 la A lb B).length = 16 := mR_len hA hB
  generalize mR F G2 la A lb B = RM at *
  generalize mL la lb = lm at *
  go_enter Try.func15, Try.ntmps15
  go_upto_region 1 with fail
  have B0 : T.Hid (At ((((w).alloc (.cells (stC la A).toArray 47)).alloc (.cells (stC lb B).toArray 47)).alloc (.cells Try.zeroCells47 47)) (w.heap.size) (stC la A).toArray) := T.Hid.mk (((At.at_ w _ _ rfl).alloc _).alloc _)
  have B1 : T.Hid (At ((((w).alloc (.cells (stC la A).toArray 47)).alloc (.cells (stC lb B).toArray 47)).alloc (.cells Try.zeroCells47 47)) (w.heap.size + 1) (stC lb B).toArray) := T.Hid.mk ((At.at_ _ _ _ (by simp)).alloc _)
  have B2 : T.Hid (At ((((w).alloc (.cells (stC la A).toArray 47)).alloc (.cells (stC lb B).toArray 47)).alloc (.cells Try.zeroCells47 47)) (w.heap.size + 1 + 1) (stC false Z16).toArray) := T.Hid.mk (by rw [← zero_st]; exact At.at_ _ _ _ (by simp))
  have G : T.Hid (Gr w ((((w).alloc (.cells (stC la A).toArray 47)).alloc (.cells (stC lb B).toArray 47)).alloc (.cells Try.zeroCells47 47))) := T.Hid.mk ((((Gr.refl w).alloc _).alloc _).alloc _)
  generalize (((w).alloc (.cells (stC la A).toArray 47)).alloc (.cells (stC lb B).toArray 47)).alloc (.cells Try.zeroCells47 47) = W0 at B0 B1 B2 G ⊢
  refine wp_region_lit ?_
  refine wpList_plain rfl (fun K hK => ?_)
  refine wp_load_mid _ _ rfl _ 0 rfl (stC la A) _ B0.out.range Try.underlying47 rfl (info_st hA) (hK _ _ ?_)
  clear hK K
  try simp only [Act.put, List.setIfInBounds_toArray, List.set_cons_zero, List.set_cons_succ]
  refine wpList_plain rfl (fun K hK => ?_)
  refine wp_load_mid _ _ rfl _ 0 rfl (stC lb B) _ B1.out.range Try.underlying47 rfl (info_st hB) (hK _ _ ?_)
  clear hK K
  try simp only [Act.put, List.setIfInBounds_toArray, List.set_cons_zero, List.set_cons_succ]
  refine wpList_plain rfl (fun K hK => ?_)
  go_simp
  (go_at_call 36; refine (hM.out _).mono ?_; rintro x wq ⟨rfl, q9⟩; replace q9 := T.Hid.mk q9)
  refine hK _ _ ?_
  clear hK K
  try simp only [Act.put, List.setIfInBounds_toArray, List.set_cons_zero, List.set_cons_succ]
  have hl9 := T.Hid.mk (show (stC lm RM).length = (stC false Z16).length by rw [stC_len hL, stC_len z16_len])
  have s2 := T.Hid.mk ((B2.out.gr q9.out).setAll (stC lm RM) hl9.out)
  have hres := T.Hid.mk ((G.out.trans q9.out).setCells (w.heap.size + 1 + 1) (by omega) (stC lm RM) 0)
  refine wpList_plain rfl (fun K hK => ?_)
  refine wp_store_mid _ _ _ rfl _ _ (List.toArray (stC lm RM)) rfl rfl ((B2.out.gr q9.out).there 0 _ (by rw [List.size_toArray, hl9.out]; omega)) (by rw [List.size_toArray, hl9.out]; exact (info_st z16_len)) (all_oneCell_toArray (one_stC _ _)) (hK _ _ ?_)
  clear hK K
  try simp only [Act.put]
  have s5 := T.Hid.mk (s2.out.range)
  clear s2
  generalize World.setCells _ _ _ _ = W5 at *
  have hrun := T.Hid.mk (run_loadVar_mid (P := Try.prog) W5 (w.heap.size + 1 + 1) 0 47 (stC lm RM) _ s5.out Try.underlying47 rfl (by rw [hl9.out]; exact (info_st z16_len)))
  clear s5 hl9
  go_wp2_with fail
  refine bodyPost_ret (v := .agg (stC lm RM).toArray) ?_ rfl ⟨rfl, hres.out⟩
  exact results_row Try.results15 _ _ rfl hrun.out
end R
end Go.Proofs.Ytbbpbfbifgfjdaa
