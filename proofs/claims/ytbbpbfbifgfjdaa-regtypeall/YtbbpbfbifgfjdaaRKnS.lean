/-
  Stage 9, regtype: knownState.
-/
import Derived.Test.YtbbpbfbifgfjdaaREach
namespace Go.Proofs.Ytbbpbfbifgfjdaa
namespace R
open Go.RowKit

theorem zero47 : Try.zeroCells47 = (rowV [.bool false] RT.vals (List.replicate 16 RT.zero)).toArray := by kernel_rfl
theorem info47 : (Try.prog.info? 47).map (·.size) = some 193 := by kernel_rfl
theorem At.tailRow {α : Type} {f : α → List Value} {w : World} {b : Nat} {v : Value} {L : List α} (h : At w b (rowV [v] f L).toArray) : w.rangeAt b 1 (rowV [] f L) := fun j u q => by
  rw [h.2.1, List.getElem?_toArray]
  unfold rowV at *
  rw [Nat.add_comm]
  simpa using q
theorem At.headRow {α : Type} {f : α → List Value} {w : World} {b : Nat} {v : Value} {L : List α} (h : At w b (rowV [v] f L).toArray) : w.cell? ⟨b, 0, none⟩ = some v := by
  rw [h.2.1, List.getElem?_toArray]
  rfl
theorem fold_size (o : Nat) : ∀ (row : List Value) (k : Nat) (cs : Array Value), ((row.zipIdx k).foldl (fun cs x => cs.setIfInBounds (o + x.snd) x.fst) cs).size = cs.size
  | [], _, _ => rfl
  | v :: row, k, cs => by
    rw [List.zipIdx_cons, List.foldl_cons, fold_size o row]
    simp
theorem fold_at (o : Nat) : ∀ (row : List Value) (k : Nat) (cs : Array Value) (i : Nat), o + k + row.length ≤ cs.size → ((row.zipIdx k).foldl (fun cs x => cs.setIfInBounds (o + x.snd) x.fst) cs)[i]? = if o + k ≤ i ∧ i < o + k + row.length then row[i - (o + k)]? else cs[i]?
  | [], k, cs, i, _ => by
    rw [if_neg (by simp)]
    rfl
  | v :: row, k, cs, i, h => by
    rw [List.zipIdx_cons, List.foldl_cons, fold_at o row (k + 1) _ i (by simp at h ⊢; omega)]
    simp only [List.length_cons] at h ⊢
    by_cases q : i = o + k
    · subst q
      rw [if_neg (by omega), if_pos (by omega), Array.getElem?_setIfInBounds_self_of_lt (by omega)]
      simp
    · by_cases q2 : o + k ≤ i ∧ i < o + k + (row.length + 1)
      · rw [if_pos (by omega), if_pos q2, show i - (o + k) = (i - (o + (k + 1))) + 1 by omega, List.getElem?_cons_succ]
      · rw [if_neg (by omega), if_neg q2, Array.getElem?_setIfInBounds_ne (by omega)]
theorem bld (cs : Array Value) (hs : cs.size = 193) (v : Value) (row : List Value) (h : row.length = 192) : List.foldl (fun cs x => cs.setIfInBounds (1 + x.snd) x.fst) (cs.setIfInBounds 0 v) row.zipIdx = (v :: row).toArray := by
  apply Array.ext_getElem?
  intro i
  have e : (v :: row).toArray[i]? = (v :: row)[i]? := by simp
  rw [fold_at 1 row 0 _ i (by simp; omega), e]
  clear e
  by_cases q : 1 + 0 ≤ i ∧ i < 1 + 0 + row.length
  · obtain ⟨j, rfl⟩ : ∃ j, i = j + 1 := ⟨i - 1, by omega⟩
    rw [if_pos q, List.getElem?_cons_succ]
    simp
  · rw [if_neg q]
    by_cases q0 : i = 0
    · subst q0
      rw [Array.getElem?_setIfInBounds_self_of_lt (by omega)]
      rfl
    · rw [Array.getElem?_eq_none (by simp; omega), List.getElem?_eq_none (by simp; omega)]
theorem one_st (l : Bool) (L : List RT) : ∀ v ∈ (rowV [.bool l] RT.vals L), v.oneCell' = true := by
  intro v h
  unfold rowV at h
  rw [List.singleton_append, List.mem_cons] at h
  rcases h with rfl | h
  · rfl
  · exact one_row L v (by unfold rowV; simpa using h)
set_option maxRecDepth 100000 in
set_option maxHeartbeats 4000000 in
theorem knownState_any (F : RT → RT) (l : Bool) (R : List RT) (w : World) (hR : R.length = 16) (hE : ∀ W, Calls Try.prog 62 #[.agg (rowV [] RT.vals R).toArray, .func (.func 24) #[] #[]] W fun x w' => x = .returned (.agg (rowV [] RT.vals (R.map F)).toArray) ∧ Gr W w') : Calls Try.prog 50 #[.agg (rowV [.bool l] RT.vals R).toArray] w fun x w' => x = .returned (.agg (if l then (rowV [.bool true] RT.vals (R.map F)) else (rowV [.bool false] RT.vals (List.replicate 16 RT.zero))).toArray) ∧ Gr w w' := by
  replace hE := T.Hid.mk hE
  cases l
  · rw [if_neg (by simp)]
    go_enter Try.func50, Try.ntmps50
    go_upto_region 1 with fail
    have B0 : T.Hid (At ((w.alloc (.cells (rowV [.bool false] RT.vals R).toArray 47)).alloc (.cells Try.zeroCells47 47)) w.heap.size (rowV [.bool false] RT.vals R).toArray) := T.Hid.mk ((At.at_ w _ _ rfl).alloc _)
    have B1 : T.Hid (At ((w.alloc (.cells (rowV [.bool false] RT.vals R).toArray 47)).alloc (.cells Try.zeroCells47 47)) (w.heap.size + 1) (rowV [.bool false] RT.vals (List.replicate 16 RT.zero)).toArray) := T.Hid.mk (by rw [← zero47]; exact At.at_ _ _ _ (by simp))
    have G : T.Hid (Gr w ((w.alloc (.cells (rowV [.bool false] RT.vals R).toArray 47)).alloc (.cells Try.zeroCells47 47))) := T.Hid.mk (((Gr.refl w).alloc _).alloc _)
    generalize (w.alloc (.cells (rowV [.bool false] RT.vals R).toArray 47)).alloc (.cells Try.zeroCells47 47) = W0 at B0 B1 G ⊢
    have c0 := At.headRow B0.out
    go_upto_region 2 with fail
    clear c0 hE B0
    refine wp_region_lit ?_
    refine wpList_plain rfl (fun K hK => ?_)
    go_simp
    refine hK _ _ ?_
    clear hK K
    rw [zero47]
    have hl9 := T.Hid.mk (show (rowV [.bool false] RT.vals (List.replicate 16 RT.zero)).length = (rowV [.bool false] RT.vals (List.replicate 16 RT.zero)).length by rfl)
    have s2 := T.Hid.mk ((B1.out).setAll (rowV [.bool false] RT.vals (List.replicate 16 RT.zero)) hl9.out)
    have hres := T.Hid.mk ((G.out).setCells (w.heap.size + 1) (by omega) (rowV [.bool false] RT.vals (List.replicate 16 RT.zero)) 0)
    refine wpList_plain rfl (fun K hK => ?_)
    refine wp_store_mid _ _ _ rfl _ _ (List.toArray (rowV [.bool false] RT.vals (List.replicate 16 RT.zero))) rfl rfl ((B1.out).there 0 _ (by rw [List.size_toArray, hl9.out]; omega)) (by rw [List.size_toArray, hl9.out]; exact (show (Try.prog.info? 47).map (·.size) = some (rowV [.bool false] RT.vals (List.replicate 16 RT.zero)).length by rw [row_len rt_len]; exact info47)) (all_oneCell_toArray (one_st false (List.replicate 16 RT.zero))) (hK _ _ ?_)
    clear hK K
    try simp only [Act.put]
    have s5 := T.Hid.mk (s2.out.range)
    clear s2
    generalize World.setCells _ _ _ _ = W5 at *
    have hrun := T.Hid.mk (run_loadVar_mid (P := Try.prog) W5 (w.heap.size + 1) 0 47 (rowV [.bool false] RT.vals (List.replicate 16 RT.zero)) _ s5.out Try.underlying47 rfl (by rw [hl9.out]; exact (show (Try.prog.info? 47).map (·.size) = some (rowV [.bool false] RT.vals (List.replicate 16 RT.zero)).length by rw [row_len rt_len]; exact info47)))
    clear s5 hl9
    go_wp2_with fail
    refine bodyPost_ret (v := .agg (rowV [.bool false] RT.vals (List.replicate 16 RT.zero)).toArray) ?_ rfl ⟨rfl, hres.out⟩
    exact results_row Try.results50 _ _ rfl hrun.out
  · rw [if_pos rfl]
    go_enter Try.func50, Try.ntmps50
    go_upto_region 1 with fail
    have B0 : T.Hid (At ((w.alloc (.cells (rowV [.bool true] RT.vals R).toArray 47)).alloc (.cells Try.zeroCells47 47)) w.heap.size (rowV [.bool true] RT.vals R).toArray) := T.Hid.mk ((At.at_ w _ _ rfl).alloc _)
    have B1 : T.Hid (At ((w.alloc (.cells (rowV [.bool true] RT.vals R).toArray 47)).alloc (.cells Try.zeroCells47 47)) (w.heap.size + 1) (rowV [.bool false] RT.vals (List.replicate 16 RT.zero)).toArray) := T.Hid.mk (by rw [← zero47]; exact At.at_ _ _ _ (by simp))
    have G : T.Hid (Gr w ((w.alloc (.cells (rowV [.bool true] RT.vals R).toArray 47)).alloc (.cells Try.zeroCells47 47))) := T.Hid.mk (((Gr.refl w).alloc _).alloc _)
    generalize (w.alloc (.cells (rowV [.bool true] RT.vals R).toArray 47)).alloc (.cells Try.zeroCells47 47) = W0 at B0 B1 G ⊢
    have c0 := At.headRow B0.out
    go_upto_region 3 with fail
    have a1 := T.Hid.mk (At.tailRow B0.out)
    have hlen : (rowV [] RT.vals (R.map F)).length = 192 := by rw [row_len rt_len, List.length_map, hR]; rfl
    have hbd := bld Try.zeroCells47 (by rw [zero47, List.size_toArray, row_len rt_len]; rfl) (.bool true) _ hlen
    rw [show (Value.bool true :: rowV [] RT.vals (R.map F)) = rowV [.bool true] RT.vals (R.map F) from rfl] at hbd
    clear c0
    refine wp_region_lit ?_
    refine wpList_plain rfl (fun K hK => ?_)
    go_simp
    refine hK _ _ ?_
    clear hK K
    try simp only [Act.put, List.setIfInBounds_toArray, List.set_cons_zero, List.set_cons_succ]
    refine wpList_plain rfl (fun K hK => ?_)
    refine wp_load_mid _ _ rfl _ 1 rfl (rowV [] RT.vals R) _ a1.out Try.underlying45 rfl (by rw [row_len rt_len, hR]; exact info45) (hK _ _ ?_)
    clear hK K
    try simp only [Act.put, List.setIfInBounds_toArray, List.set_cons_zero, List.set_cons_succ]
    refine wpList_plain rfl (fun K hK => ?_)
    go_simp
    (go_at_call 62; refine (hE.out _).mono ?_; rintro x wq ⟨rfl, q9⟩; replace q9 := T.Hid.mk q9)
    refine hK _ _ ?_
    clear hK K
    try simp only [Act.put, List.setIfInBounds_toArray, List.set_cons_zero, List.set_cons_succ]
    refine wpList_plain rfl (fun K hK => ?_)
    go_simp
    refine hK _ _ ?_
    clear hK K hbd hlen a1 hE
    try simp only [Act.put, List.setIfInBounds_toArray, List.set_cons_zero, List.set_cons_succ]
    have hl9 := T.Hid.mk (show (rowV [.bool true] RT.vals (R.map F)).length = (rowV [.bool false] RT.vals (List.replicate 16 RT.zero)).length by rw [row_len rt_len, row_len rt_len, List.length_map, hR]; rfl)
    have s2 := T.Hid.mk ((B1.out.gr q9.out).setAll (rowV [.bool true] RT.vals (R.map F)) hl9.out)
    have hres := T.Hid.mk ((G.out.trans q9.out).setCells (w.heap.size + 1) (by omega) (rowV [.bool true] RT.vals (R.map F)) 0)
    refine wpList_plain rfl (fun K hK => ?_)
    refine wp_store_mid _ _ _ rfl _ _ (List.toArray (rowV [.bool true] RT.vals (R.map F))) rfl rfl ((B1.out.gr q9.out).there 0 _ (by rw [List.size_toArray, hl9.out]; omega)) (by rw [List.size_toArray, hl9.out]; exact (show (Try.prog.info? 47).map (·.size) = some (rowV [.bool false] RT.vals (List.replicate 16 RT.zero)).length by rw [row_len rt_len]; exact info47)) (all_oneCell_toArray (one_st true (R.map F))) (hK _ _ ?_)
    clear hK K
    try simp only [Act.put]
    have s5 := T.Hid.mk (s2.out.range)
    clear s2
    generalize World.setCells _ _ _ _ = W5 at *
    have hrun := T.Hid.mk (run_loadVar_mid (P := Try.prog) W5 (w.heap.size + 1) 0 47 (rowV [.bool true] RT.vals (R.map F)) _ s5.out Try.underlying47 rfl (by rw [hl9.out]; exact (show (Try.prog.info? 47).map (·.size) = some (rowV [.bool false] RT.vals (List.replicate 16 RT.zero)).length by rw [row_len rt_len]; exact info47)))
    clear s5 hl9
    go_wp2_with fail
    refine bodyPost_ret (v := .agg (rowV [.bool true] RT.vals (R.map F)).toArray) ?_ rfl ⟨rfl, hres.out⟩
    exact results_row Try.results50 _ _ rfl hrun.out
end R
end Go.Proofs.Ytbbpbfbifgfjdaa
