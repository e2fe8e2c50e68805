/-
  Stage 9, regtype: each: a row of sixteen, made of one.
-/
import Derived.Test.YtbbpbfbifgfjdaaROf2
namespace Go.Proofs.Ytbbpbfbifgfjdaa
namespace R
open Go.RowKit

theorem row_take {α : Type} {f : α → List Value} {k : Nat} (hf : ∀ x, (f x).length = k) (L : List α) (i : Nat) (h : i < L.length) : List.take k (List.drop (i * k) (rowV [] f L)) = f L[i] := by
  apply List.ext_getElem?
  intro j
  have hk : (i + 1) * k ≤ L.length * k := Nat.mul_le_mul_right k h
  rw [Nat.add_mul] at hk
  by_cases hj : j < k
  · have := row_at (pre := []) hf L i h j hj
    simp only [List.length_nil, Nat.zero_add] at this
    rw [List.getElem?_take_of_lt hj, List.getElem?_drop, this]
  · rw [List.getElem?_eq_none (by rw [List.length_take]; omega), List.getElem?_eq_none (by rw [hf]; omega)]
theorem store_at {w : World} {b : Nat} {cs : List Value} (h : At w b cs.toArray) (o : Nat) (vs : List Value) (hl : o + vs.length ≤ cs.length) (h1 : ∀ v ∈ vs, v.oneCell' = true) : (storeCells ⟨b, o, none⟩ vs).run Try.prog w = .ok () (w.setCells b o vs) :=
  run_storeCells_cells (P := Try.prog) b o vs 0 w (fun j hj => (h.there o vs.length hl j hj).1) (fun j hj => (h.there o vs.length hl j hj).2) h1
theorem zero28 : #[Value.int .i64 0, .int .u64 0, .int .u64 0, .int .u64 0, .int .u64 0, .int .u64 0, .int .u64 0, .int .u64 0, .int .u64 0, .int .u8 0, .int .u8 0, .int .i64 0] = (RT.vals RT.zero).toArray := rfl
set_option maxRecDepth 10000 in
theorem index_row (A : List RT) (k : Nat) (hk : k < A.length) (hA : A.length = 16) (W : World) : (Instr.index 45 (.agg (rowV [] RT.vals A).toArray) (.int .i64 k)).run Try.prog W = .ok (.agg (RT.vals A[k]).toArray) W := by
  have h0 : (0 : Int) ≤ k := by omega
  unfold Instr.index
  simp [go_sem, h0]
  rw [if_pos (by omega), row_take rt_len A k hk]
set_option maxRecDepth 100000 in
set_option maxHeartbeats 4000000 in
theorem eachKnown_any (F : RT → RT) (A : List RT) (w : World) (hA : A.length = 16) (hc : ∀ a, a ∈ A → ∀ W, Calls Try.prog 24 #[.agg (RT.vals a).toArray] W fun x w' => x = .returned (.agg (RT.vals (F a)).toArray) ∧ Gr W w') : Calls Try.prog 62 #[.agg (rowV [] RT.vals A).toArray, .func (.func 24) #[] #[]] w fun x w' => x = .returned (.agg (rowV [] RT.vals (A.map F)).toArray) ∧ Gr w w' := by
  have hC := T.Hid.mk hc
  clear hc
  go_enter Try.func62, Try.ntmps62
  go_upto_region 2 with fail
  have B0 : T.Hid (At (((w.alloc (.cells (rowV [] RT.vals A).toArray 45)).alloc (.cells Try.zeroCells45 45)).alloc (.cells Try.zeroCells45 45)) w.heap.size (rowV [] RT.vals A).toArray) := T.Hid.mk (((At.at_ w _ _ rfl).alloc _).alloc _)
  have B1 : T.Hid (At (((w.alloc (.cells (rowV [] RT.vals A).toArray 45)).alloc (.cells Try.zeroCells45 45)).alloc (.cells Try.zeroCells45 45)) (w.heap.size + 1) (rowV [] RT.vals (List.replicate 16 RT.zero)).toArray) := T.Hid.mk (by rw [← zero45]; exact (At.at_ _ _ _ (by simp)).alloc _)
  have B2 : T.Hid (At (((w.alloc (.cells (rowV [] RT.vals A).toArray 45)).alloc (.cells Try.zeroCells45 45)).alloc (.cells Try.zeroCells45 45)) (w.heap.size + 1 + 1) (rowV [] RT.vals (List.replicate 16 RT.zero)).toArray) := T.Hid.mk (by rw [← zero45]; exact At.at_ _ _ _ (by simp))
  have G : T.Hid (Gr w (((w.alloc (.cells (rowV [] RT.vals A).toArray 45)).alloc (.cells Try.zeroCells45 45)).alloc (.cells Try.zeroCells45 45))) := T.Hid.mk ((((Gr.refl w).alloc _).alloc _).alloc _)
  generalize ((w.alloc (.cells (rowV [] RT.vals A).toArray 45)).alloc (.cells Try.zeroCells45 45)).alloc (.cells Try.zeroCells45 45) = W0 at B0 B1 B2 G ⊢
  refine wp_region_lit ?_
  refine wpList_load_mid rfl _ _ rfl _ 0 rfl (rowV [] RT.vals A) _ B0.out.range Try.underlying45 rfl (by rw [row_len rt_len, hA]; exact info45) ?_
  simp only [Act.put, List.setIfInBounds_toArray, List.set_cons_zero, List.set_cons_succ]
  go_upto_region 3 with fail
  go_loopw [9] (fun i wr => ∃ (k : Nat) (L : List RT), i = .int .i64 k ∧ k ≤ 16 ∧ L.length = 16 ∧ T.Hid (∀ i, i < k → L[i]? = (A.map F)[i]?) ∧ T.Hid (At wr (w.heap.size + 1) (rowV [] RT.vals (List.replicate 16 RT.zero)).toArray) ∧ T.Hid (At wr (w.heap.size + 1 + 1) (rowV [] RT.vals L).toArray) ∧ T.Hid (Gr w wr)) (fun i _ => 16 - (intOf i).toNat)
  case atStart => exact ⟨0, List.replicate 16 RT.zero, rfl, by omega, by simp, T.Hid.mk (fun i h => by omega), B1, B2, G⟩
  case round =>
    clear B0 B1 B2 G
    obtain ⟨k, L, rfl, hk, hL, hall, B1, B2, G⟩ := hrel
    by_cases hlt : k < 16
    · have ha : k < A.length := by omega
      have h1 := T.Hid.mk (fun W => hC.out A[k] (List.getElem_mem ha) W)
      have k1 : (k : Int) < 16 := by omega
      have hix := fun W => index_row A k ha hA W
      have hs : T.Hid (∀ i, i < k + 1 → (L.set k (F A[k]))[i]? = (A.map F)[i]?) := T.Hid.mk (fun i hi => by
        by_cases q : i = k
        · subst q
          rw [List.getElem?_set_self (by omega), List.getElem?_map, List.getElem?_eq_getElem ha]
          rfl
        · rw [List.getElem?_set_ne (by omega)]
          exact hall.out i (by omega))
      generalize F A[k] = y at *
      generalize A[k] = x0 at *
      have hl0 : (RT.vals x0).length = 12 := rfl
      have hly : (RT.vals y).length = 12 := rfl
      have a0 := T.Hid.mk (At.new wr (RT.vals RT.zero).toArray 28)
      have hst := store_at a0.out 0 (RT.vals x0) (by simp [RT.vals]) (one_rt x0)
      rw [← zero28] at hst
      have b5 := T.Hid.mk (a0.out.setAll (RT.vals x0) rfl)
      have b1 := T.Hid.mk ((B1.out.alloc (.cells (RT.vals RT.zero).toArray 28)).other (b' := wr.heap.size) (Nat.ne_of_lt B1.out.1) 0 (RT.vals x0))
      have b2 := T.Hid.mk ((B2.out.alloc (.cells (RT.vals RT.zero).toArray 28)).other (b' := wr.heap.size) (Nat.ne_of_lt B2.out.1) 0 (RT.vals x0))
      have g5 := T.Hid.mk ((G.out.alloc (.cells (RT.vals RT.zero).toArray 28)).setCells wr.heap.size G.out.below.size (RT.vals x0) 0)
      rw [← zero28] at b5 b1 b2 g5
      clear B1 B2 G a0
      go_upto_region 5 with fail
      clear hst
      generalize World.setCells _ _ _ _ = W5 at *
      generalize wr.heap.size = k5 at *
      have a5 := T.Hid.mk b5.out.range
      refine wp_region_lit ?_
      refine wpList_plain rfl (fun K hK => ?_)
      go_simp
      refine hK _ _ ?_
      clear hK K
      try simp only [Act.put, List.setIfInBounds_toArray, List.set_cons_zero, List.set_cons_succ]
      refine wpList_plain rfl (fun K hK => ?_)
      go_simp
      refine hK _ _ ?_
      clear hK K
      try simp only [Act.put, List.setIfInBounds_toArray, List.set_cons_zero, List.set_cons_succ]
      refine wpList_plain rfl (fun K hK => ?_)
      refine wp_load_mid _ _ rfl _ 0 rfl (RT.vals x0) _ a5.out Try.underlying28 rfl info28 (hK _ _ ?_)
      clear hK K
      try simp only [Act.put, List.setIfInBounds_toArray, List.set_cons_zero, List.set_cons_succ]
      refine wpList_plain rfl (fun K hK => ?_)
      go_simp
      (go_at_call 24; refine (h1.out _).mono ?_; rintro x wq ⟨rfl, q9⟩; replace q9 := T.Hid.mk q9)
      refine hK _ _ ?_
      clear hK K
      try simp only [Act.put, List.setIfInBounds_toArray, List.set_cons_zero, List.set_cons_succ]
      refine wpList_plain rfl (fun K hK => ?_)
      go_simp
      refine hK _ _ ?_
      clear hK K
      try simp only [Act.put, List.setIfInBounds_toArray, List.set_cons_zero, List.set_cons_succ]
      refine wpList_plain rfl (fun K hK => ?_)
      refine wp_store_mid _ _ _ rfl _ _ (List.toArray (RT.vals y)) rfl rfl (At.there (b2.out.gr q9.out) _ _ (by rw [row_len rt_len, hL]; simp [RT.vals]; omega)) info28 (all_oneCell_toArray (one_rt _)) (hK _ _ ?_)
      clear hK K
      try simp only [Act.put]
      have c1 := T.Hid.mk ((b1.out.gr q9.out).other (b' := w.heap.size + 1 + 1) (by omega) (k * 12) (RT.vals y))
      have c2 := T.Hid.mk ((b2.out.gr q9.out).setElem rt_len k (by omega) y (k * 12) (by simp))
      have g := T.Hid.mk ((g5.out.trans q9.out).setCells (w.heap.size + 1 + 1) (by omega) (RT.vals y) (k * 12))
      clear q9 b1 b2 b5 a5 g5 hix
      go_wp2_with fail
      exact ⟨⟨k + 1, L.set k y, by go_num, by omega, by simp [hL], hs, c1, c2, g⟩, by simp [intOf]; omega⟩
    · have k1 : ¬ (k : Int) < 16 := by omega
      have e : L = A.map F := List.ext_getElem? (fun i => by
        by_cases q : i < 16
        · exact hall.out i (by omega)
        · rw [List.getElem?_eq_none (by omega), List.getElem?_eq_none (by simp; omega)])
      subst e
      clear hall hlt hk hC
      go_upto_region 7 with fail
      have hone := T.Hid.mk (one_row (A.map F))
      have hinf := T.Hid.mk ((show (Try.prog.info? 45).map (·.size) = some (rowV [] RT.vals (A.map F)).length by rw [row_len rt_len, hL]; exact info45))
      have a3 := T.Hid.mk (B2.out.range)
      have hl9 := T.Hid.mk (show (rowV [] RT.vals (A.map F)).length = (rowV [] RT.vals (List.replicate 16 RT.zero)).length by rw [row_len rt_len, row_len rt_len, hL]; rfl)
      have th := T.Hid.mk (show World.there _ (w.heap.size + 1) 0 (List.toArray (rowV [] RT.vals (A.map F))).size from B1.out.there 0 _ (by rw [List.size_toArray, hl9.out]; omega))
      have s2 := T.Hid.mk (B1.out.setAll (rowV [] RT.vals (A.map F)) hl9.out)
      have hres := T.Hid.mk (G.out.setCells (w.heap.size + 1) (by omega) (rowV [] RT.vals (A.map F)) 0)
      clear B2 B1 G hl9
      generalize hrow : (rowV [] RT.vals (A.map F)) = row at *
      replace hrow := T.Hid.mk hrow
      refine wp_region_lit ?_
      refine wpList_load_mid rfl _ _ rfl _ 0 rfl row _ a3.out Try.underlying45 rfl hinf.out ?_
      simp only [Act.put, List.setIfInBounds_toArray, List.set_cons_zero, List.set_cons_succ]
      refine wpList_store_mid rfl _ _ _ rfl _ _ (List.toArray row) rfl rfl th.out hinf.out (all_oneCell_toArray hone.out) ?_
      simp only [Act.put]
      have s5 := T.Hid.mk (s2.out.range)
      clear s2 th a3
      generalize World.setCells _ _ _ _ = W5 at *
      have hrun := T.Hid.mk (run_loadVar_mid (P := Try.prog) W5 (w.heap.size + 1) 0 45 row _ s5.out Try.underlying45 rfl hinf.out)
      clear s5 hinf hone
      go_wp2_with fail
      refine bodyPost_ret (v := .agg row.toArray) ?_ rfl ⟨by rw [hrow.out], hres.out⟩
      exact results_row Try.results62 _ _ rfl hrun.out
end R
end Go.Proofs.Ytbbpbfbifgfjdaa
