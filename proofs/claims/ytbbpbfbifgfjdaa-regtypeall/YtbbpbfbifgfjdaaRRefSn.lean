/-
  Stage 9, regtype: NormState, mergeState: the document's.
-/
import Derived.Test.YtbbpbfbifgfjdaaRRefSt
import Derived.Test.YtbbpbfbifgfjdaaRRefJ
import Derived.Test.YtbbpbfbifgfjdaaRRefX
namespace Go.Proofs.Ytbbpbfbifgfjdaa
namespace R
open Go.RowKit

theorem st_live {l : Bool} {L : List RT} {w : World} {b : Nat} (h : At w b (stC l L).toArray) (v : Bool) : At (w.setCell ⟨b, 0, none⟩ (.bool v)) b (stC v L).toArray := by
  have := h.set 0 (.bool v) (by rw [List.size_toArray]; unfold stC rowV; simp)
  unfold stC rowV at *
  simpa using this
theorem st_set {l : Bool} {L : List RT} {w : World} {b : Nat} (h : At w b (stC l L).toArray) (k : Nat) (hk : k < L.length) (y : RT) : At (w.setCells b (1 + k * 12) (RT.vals y)) b (stC l (L.set k y)).toArray := At.setElem rt_len (pre := [.bool l]) h k hk y _ (by simp)
theorem st_there {l : Bool} {L : List RT} {w : World} {b : Nat} (h : At w b (stC l L).toArray) (hL : L.length = 16) (k : Nat) (hk : k < 16) : w.there b (1 + k * 12) 12 := h.there _ _ (by rw [stC_len hL]; omega)
set_option maxRecDepth 100000 in
set_option maxHeartbeats 4000000 in
theorem dNormState_of (F : RT → RT) (l : Bool) (A : List RT) (w : World) (hA : A.length = 16)
    (hc : ∀ a, a ∈ A → ∀ W, Calls Try.prog 53 #[.agg (RT.vals a).toArray] W fun x w' => x = .returned (.agg (RT.vals (F a)).toArray) ∧ Gr W w') :
    Calls Try.prog 56 #[.agg (stC l A).toArray] w fun x w' => x = .returned (.agg (stC l (kR F l A)).toArray) ∧ Gr w w' := by
  have hC := T.Hid.mk hc
  clear hc
  cases l
  · rw [show kR F false A = Z16 from rfl]
    go_enter Try.func56, Try.ntmps56
    go_upto_region 2 with fail
    have B0 : T.Hid (At (((w.alloc (.cells (stC false A).toArray 47)).alloc (.cells Try.zeroCells47 47)).alloc (.cells Try.zeroCells47 47)) w.heap.size (stC false A).toArray) := T.Hid.mk (((At.at_ w _ _ rfl).alloc _).alloc _)
    have B1 : T.Hid (At (((w.alloc (.cells (stC false A).toArray 47)).alloc (.cells Try.zeroCells47 47)).alloc (.cells Try.zeroCells47 47)) (w.heap.size + 1) (stC false Z16).toArray) := T.Hid.mk (by rw [← zero_st]; exact (At.at_ _ _ _ (by simp)).alloc _)
    have B2 : T.Hid (At (((w.alloc (.cells (stC false A).toArray 47)).alloc (.cells Try.zeroCells47 47)).alloc (.cells Try.zeroCells47 47)) (w.heap.size + 1 + 1) (stC false Z16).toArray) := T.Hid.mk (by rw [← zero_st]; exact At.at_ _ _ _ (by simp))
    have G : T.Hid (Gr w (((w.alloc (.cells (stC false A).toArray 47)).alloc (.cells Try.zeroCells47 47)).alloc (.cells Try.zeroCells47 47))) := T.Hid.mk ((((Gr.refl w).alloc _).alloc _).alloc _)
    generalize ((w.alloc (.cells (stC false A).toArray 47)).alloc (.cells Try.zeroCells47 47)).alloc (.cells Try.zeroCells47 47) = W0 at B0 B1 B2 G ⊢
    have c0 := At.headRow B0.out
    go_upto_region 3 with fail
    clear c0 hC B0
    have hone := T.Hid.mk (one_stC false Z16)
    have hinf := T.Hid.mk ((show (Try.prog.info? 47).map (·.size) = some (stC false Z16).length from info_st z16_len))
    have a3 := T.Hid.mk (B2.out.range)
    have hl9 := T.Hid.mk (show (stC false Z16).length = (stC false Z16).length by first | rfl | (rw [stC_len z16_len, stC_len z16_len]))
    have th := T.Hid.mk (show World.there _ (w.heap.size + 1) 0 (List.toArray (stC false Z16)).size from B1.out.there 0 _ (by rw [List.size_toArray, hl9.out]; omega))
    have s2 := T.Hid.mk (B1.out.setAll (stC false Z16) hl9.out)
    have hres := T.Hid.mk (G.out.setCells (w.heap.size + 1) (by omega) (stC false Z16) 0)
    clear B2 B1 G hl9
    generalize hrow : (stC false Z16) = row at *
    replace hrow := T.Hid.mk hrow
    refine wp_region_lit ?_
    refine wpList_load_mid rfl _ _ rfl _ 0 rfl row _ a3.out Try.underlying47 rfl hinf.out ?_
    simp only [Act.put, List.setIfInBounds_toArray, List.set_cons_zero, List.set_cons_succ]
    refine wpList_store_mid rfl _ _ _ rfl _ _ (List.toArray row) rfl rfl th.out hinf.out (all_oneCell_toArray hone.out) ?_
    simp only [Act.put]
    have s5 := T.Hid.mk (s2.out.range)
    clear s2 th a3
    generalize World.setCells _ _ _ _ = W5 at *
    have hrun := T.Hid.mk (run_loadVar_mid (P := Try.prog) W5 (w.heap.size + 1) 0 47 row _ s5.out Try.underlying47 rfl hinf.out)
    clear s5 hinf hone
    go_wp2_with fail
    refine bodyPost_ret (v := .agg row.toArray) ?_ rfl ⟨by rw [hrow.out], hres.out⟩
    exact results_row Try.results56 _ _ rfl hrun.out
  · rw [show kR F true A = A.map F from rfl]
    go_enter Try.func56, Try.ntmps56
    go_upto_region 2 with fail
    have B0 : T.Hid (At (((w.alloc (.cells (stC true A).toArray 47)).alloc (.cells Try.zeroCells47 47)).alloc (.cells Try.zeroCells47 47)) w.heap.size (stC true A).toArray) := T.Hid.mk (((At.at_ w _ _ rfl).alloc _).alloc _)
    have B1 : T.Hid (At (((w.alloc (.cells (stC true A).toArray 47)).alloc (.cells Try.zeroCells47 47)).alloc (.cells Try.zeroCells47 47)) (w.heap.size + 1) (stC false Z16).toArray) := T.Hid.mk (by rw [← zero_st]; exact (At.at_ _ _ _ (by simp)).alloc _)
    have B2 : T.Hid (At (((w.alloc (.cells (stC true A).toArray 47)).alloc (.cells Try.zeroCells47 47)).alloc (.cells Try.zeroCells47 47)) (w.heap.size + 1 + 1) (stC false Z16).toArray) := T.Hid.mk (by rw [← zero_st]; exact At.at_ _ _ _ (by simp))
    have G : T.Hid (Gr w (((w.alloc (.cells (stC true A).toArray 47)).alloc (.cells Try.zeroCells47 47)).alloc (.cells Try.zeroCells47 47))) := T.Hid.mk ((((Gr.refl w).alloc _).alloc _).alloc _)
    generalize ((w.alloc (.cells (stC true A).toArray 47)).alloc (.cells Try.zeroCells47 47)).alloc (.cells Try.zeroCells47 47) = W0 at B0 B1 B2 G ⊢
    have c0 := At.headRow B0.out
    have ⟨_, _, f2⟩ := B2.out
    have c2 := At.headRow B2.out
    have b0 := T.Hid.mk (B0.out.set_other (k' := w.heap.size + 1 + 1) (j := 0) (.bool true) (by omega))
    have b1 := T.Hid.mk (B1.out.set_other (k' := w.heap.size + 1 + 1) (j := 0) (.bool true) (by omega))
    have b2 := T.Hid.mk (st_live B2.out true)
    have g0 := T.Hid.mk (G.out.setCell (w.heap.size + 1 + 1) 0 (.bool true) (by omega))
    clear B0 B1 B2 G
    go_upto_region 6 with fail
    clear c0 c2 f2
    generalize W0.setCell ⟨w.heap.size + 1 + 1, 0, none⟩ (.bool true) = W1 at *
    generalize Value.agg (stC true A).toArray = va
    go_loopw [4] (fun i wr => ∃ (k : Nat) (L : List RT), i = .int .i64 k ∧ k ≤ 16 ∧ L.length = 16 ∧ T.Hid (∀ i, i < k → L[i]? = (A.map F)[i]?) ∧ T.Hid (At wr w.heap.size (stC true A).toArray) ∧ T.Hid (At wr (w.heap.size + 1) (stC false Z16).toArray) ∧ T.Hid (At wr (w.heap.size + 1 + 1) (stC true L).toArray) ∧ T.Hid (Gr w wr)) (fun i _ => 16 - (intOf i).toNat)
    case atStart => exact ⟨0, Z16, rfl, by omega, rfl, T.Hid.mk (fun i h => by omega), b0, b1, b2, g0⟩
    case round =>
      clear b0 b1 b2 g0
      obtain ⟨k, L, rfl, hk, hL, hall, B0, B1, B2, G⟩ := hrel
      by_cases hlt : k < 16
      · have ha : k < A.length := by omega
        have h1 := T.Hid.mk (fun W => hC.out A[k] (List.getElem_mem ha) W)
        have k1 : (k : Int) < 16 := by omega
        have a0 := T.Hid.mk (st_elem B0.out k ha)
        have hs : T.Hid (∀ i, i < k + 1 → (L.set k (F A[k]))[i]? = (A.map F)[i]?) := T.Hid.mk (fun i hi => by
          by_cases q : i = k
          · subst q
            rw [List.getElem?_set_self (by omega), List.getElem?_map, List.getElem?_eq_getElem ha]
            rfl
          · rw [List.getElem?_set_ne (by omega)]
            exact hall.out i (by omega))
        generalize F A[k] = y at *
        generalize A[k] = x0 at *
        go_upto_region 8 with fail
        refine wp_region_lit ?_
        refine wpList_plain rfl (fun K hK => ?_)
        go_simp
        refine hK _ _ ?_
        clear hK K
        try simp only [Act.put, List.setIfInBounds_toArray, List.set_cons_zero, List.set_cons_succ]
        refine wpList_plain rfl (fun K hK => ?_)
        go_simp
        refine hK _ _ ?_
        clear hK K
        try simp only [Act.put, List.setIfInBounds_toArray, List.set_cons_zero, List.set_cons_succ]
        refine wpList_plain rfl (fun K hK => ?_)
        go_simp
        refine hK _ _ ?_
        clear hK K
        try simp only [Act.put, List.setIfInBounds_toArray, List.set_cons_zero, List.set_cons_succ]
        refine wpList_plain rfl (fun K hK => ?_)
        go_simp
        refine hK _ _ ?_
        clear hK K
        try simp only [Act.put, List.setIfInBounds_toArray, List.set_cons_zero, List.set_cons_succ]
        refine wpList_plain rfl (fun K hK => ?_)
        refine wp_load_mid _ _ rfl _ (1 + k * 12) rfl (RT.vals x0) _ a0.out Try.underlying28 rfl info28 (hK _ _ ?_)
        clear hK K
        try simp only [Act.put, List.setIfInBounds_toArray, List.set_cons_zero, List.set_cons_succ]
        refine wpList_plain rfl (fun K hK => ?_)
        go_simp
        (go_at_call 53; refine (h1.out _).mono ?_; rintro x wq ⟨rfl, q9⟩; replace q9 := T.Hid.mk q9)
        refine hK _ _ ?_
        clear hK K
        try simp only [Act.put, List.setIfInBounds_toArray, List.set_cons_zero, List.set_cons_succ]
        refine wpList_plain rfl (fun K hK => ?_)
        go_simp
        refine hK _ _ ?_
        clear hK K
        try simp only [Act.put, List.setIfInBounds_toArray, List.set_cons_zero, List.set_cons_succ]
        refine wpList_plain rfl (fun K hK => ?_)
        go_simp
        refine hK _ _ ?_
        clear hK K
        try simp only [Act.put, List.setIfInBounds_toArray, List.set_cons_zero, List.set_cons_succ]
        refine wpList_plain rfl (fun K hK => ?_)
        refine wp_store_mid _ _ _ rfl _ _ (List.toArray (RT.vals y)) rfl rfl (st_there (B2.out.gr q9.out) hL k hlt) info28 (all_oneCell_toArray (one_rt _)) (hK _ _ ?_)
        clear hK K
        try simp only [Act.put]
        have b0 := T.Hid.mk ((B0.out.gr q9.out).other (b' := w.heap.size + 1 + 1) (by omega) (1 + k * 12) (RT.vals y))
        have b1 := T.Hid.mk ((B1.out.gr q9.out).other (b' := w.heap.size + 1 + 1) (by omega) (1 + k * 12) (RT.vals y))
        have b2 := T.Hid.mk (st_set (B2.out.gr q9.out) k (by omega) y)
        have g := T.Hid.mk ((G.out.trans q9.out).setCells (w.heap.size + 1 + 1) (by omega) (RT.vals y) (1 + k * 12))
        clear q9 B0 B1 B2 G a0
        go_wp2_with fail
        exact ⟨⟨k + 1, L.set k y, by go_num, by omega, by simp [hL], hs, b0, b1, b2, g⟩, by simp [intOf]; omega⟩
      · have k1 : ¬ (k : Int) < 16 := by omega
        have e : L = A.map F := List.ext_getElem? (fun i => by
          by_cases q : i < 16
          · exact hall.out i (by omega)
          · rw [List.getElem?_eq_none (by omega), List.getElem?_eq_none (by simp; omega)])
        subst e
        clear hall hlt hk hC B0
        go_upto_region 9 with fail
        have hone := T.Hid.mk (one_stC true (A.map F))
        have hinf := T.Hid.mk ((show (Try.prog.info? 47).map (·.size) = some (stC true (A.map F)).length from info_st hL))
        have a3 := T.Hid.mk (B2.out.range)
        have hl9 := T.Hid.mk (show (stC true (A.map F)).length = (stC false Z16).length by first | rfl | (rw [stC_len hL, stC_len z16_len]))
        have th := T.Hid.mk (show World.there _ (w.heap.size + 1) 0 (List.toArray (stC true (A.map F))).size from B1.out.there 0 _ (by rw [List.size_toArray, hl9.out]; omega))
        have s2 := T.Hid.mk (B1.out.setAll (stC true (A.map F)) hl9.out)
        have hres := T.Hid.mk (G.out.setCells (w.heap.size + 1) (by omega) (stC true (A.map F)) 0)
        clear B2 B1 G hl9
        generalize hrow : (stC true (A.map F)) = row at *
        replace hrow := T.Hid.mk hrow
        refine wp_region_lit ?_
        refine wpList_load_mid rfl _ _ rfl _ 0 rfl row _ a3.out Try.underlying47 rfl hinf.out ?_
        simp only [Act.put, List.setIfInBounds_toArray, List.set_cons_zero, List.set_cons_succ]
        refine wpList_store_mid rfl _ _ _ rfl _ _ (List.toArray row) rfl rfl th.out hinf.out (all_oneCell_toArray hone.out) ?_
        simp only [Act.put]
        have s5 := T.Hid.mk (s2.out.range)
        clear s2 th a3
        generalize World.setCells _ _ _ _ = W5 at *
        have hrun := T.Hid.mk (run_loadVar_mid (P := Try.prog) W5 (w.heap.size + 1) 0 47 row _ s5.out Try.underlying47 rfl hinf.out)
        clear s5 hinf hone
        go_wp2_with fail
        refine bodyPost_ret (v := .agg row.toArray) ?_ rfl ⟨by rw [hrow.out], hres.out⟩
        exact results_row Try.results56 _ _ rfl hrun.out
end R
end Go.Proofs.Ytbbpbfbifgfjdaa
