/-
  Stage 9, regtype: ofTwo, each: rows of sixteen, made.
-/
import Derived.Test.YtbbpbfbifgfjdaaRAll2
namespace Go.Proofs.Ytbbpbfbifgfjdaa
namespace R
open Go.RowKit

theorem zero45 : Try.zeroCells45 = (rowV [] RT.vals (List.replicate 16 RT.zero)).toArray := by kernel_rfl
theorem info45 : (Try.prog.info? 45).map (·.size) = some 192 := by kernel_rfl
theorem results_row {fn : Func} {p : Tmp} {ty : TypeId} {v : Value} {a : Addr} (h : fn.results = #[.cell p ty]) (tmps : Array Value) (w : World) (ht : tmps.getD p undef = .pointer (some a)) (hl : (loadVar ty a).run Try.prog w = .ok v w) :
    (results fn tmps).run Try.prog w = .ok v w := by
  have ht' : tmps[p]?.getD undef = .pointer (some a) := by simpa using ht
  simp [results, h, ht', asAddr, hl]
theorem store_row {w : World} {b : Nat} {cs : List Value} (h : At w b cs.toArray) (vs : List Value) (hl : vs.length = cs.length) (h1 : ∀ v ∈ vs, v.oneCell' = true) : (storeCells ⟨b, 0, none⟩ vs).run Try.prog w = .ok () (w.setCells b 0 vs) :=
  run_storeCells_cells (P := Try.prog) b 0 vs 0 w (fun j hj => (h.there 0 vs.length (by omega) j hj).1) (fun j hj => (h.there 0 vs.length (by omega) j hj).2) h1
theorem one_rt (x : RT) : ∀ v ∈ RT.vals x, v.oneCell' = true := by
  intro v h
  simp only [RT.vals, List.mem_cons, List.not_mem_nil, or_false] at h
  rcases h with rfl | rfl | rfl | rfl | rfl | rfl | rfl | rfl | rfl | rfl | rfl | rfl <;> rfl
theorem one_row (L : List RT) : ∀ v ∈ rowV [] RT.vals L, v.oneCell' = true := by
  intro v h
  unfold rowV at h
  rw [List.nil_append, List.mem_flatMap] at h
  obtain ⟨x, _, hx⟩ := h
  exact one_rt x v hx
set_option maxRecDepth 100000 in
set_option maxHeartbeats 4000000 in
theorem ofJoin_any (F : RT → RT → RT) (A B : List RT) (w : World) (hA : A.length = 16) (hB : B.length = 16) (hc : ∀ a b, a ∈ A → b ∈ B → ∀ W, Calls Try.prog 9 #[.agg (RT.vals a).toArray, .agg (RT.vals b).toArray] W fun x w' => x = .returned (.agg (RT.vals (F a b)).toArray) ∧ Gr W w') : Calls Try.prog 51 #[.agg (rowV [] RT.vals A).toArray, .agg (rowV [] RT.vals B).toArray, .func (.func 9) #[] #[]] w fun x w' => x = .returned (.agg (rowV [] RT.vals (List.zipWith F A B)).toArray) ∧ Gr w w' := by
  have hC := T.Hid.mk hc
  clear hc
  go_enter Try.func51, Try.ntmps51
  go_upto_region 3 with fail
  have B0 : T.Hid (At ((((w.alloc (.cells (rowV [] RT.vals A).toArray 45)).alloc (.cells (rowV [] RT.vals B).toArray 45)).alloc (.cells Try.zeroCells45 45)).alloc (.cells Try.zeroCells45 45)) w.heap.size (rowV [] RT.vals A).toArray) := T.Hid.mk ((((At.at_ w _ _ rfl).alloc _).alloc _).alloc _)
  have B1 : T.Hid (At ((((w.alloc (.cells (rowV [] RT.vals A).toArray 45)).alloc (.cells (rowV [] RT.vals B).toArray 45)).alloc (.cells Try.zeroCells45 45)).alloc (.cells Try.zeroCells45 45)) (w.heap.size + 1) (rowV [] RT.vals B).toArray) := T.Hid.mk (((At.at_ _ _ _ (by simp)).alloc _).alloc _)
  have B2 : T.Hid (At ((((w.alloc (.cells (rowV [] RT.vals A).toArray 45)).alloc (.cells (rowV [] RT.vals B).toArray 45)).alloc (.cells Try.zeroCells45 45)).alloc (.cells Try.zeroCells45 45)) (w.heap.size + 1 + 1) (rowV [] RT.vals (List.replicate 16 RT.zero)).toArray) := T.Hid.mk (by rw [← zero45]; exact (At.at_ _ _ _ (by simp)).alloc _)
  have B3 : T.Hid (At ((((w.alloc (.cells (rowV [] RT.vals A).toArray 45)).alloc (.cells (rowV [] RT.vals B).toArray 45)).alloc (.cells Try.zeroCells45 45)).alloc (.cells Try.zeroCells45 45)) (w.heap.size + 1 + 1 + 1) (rowV [] RT.vals (List.replicate 16 RT.zero)).toArray) := T.Hid.mk (by rw [← zero45]; exact At.at_ _ _ _ (by simp))
  have G : T.Hid (Gr w ((((w.alloc (.cells (rowV [] RT.vals A).toArray 45)).alloc (.cells (rowV [] RT.vals B).toArray 45)).alloc (.cells Try.zeroCells45 45)).alloc (.cells Try.zeroCells45 45))) := T.Hid.mk (((((Gr.refl w).alloc _).alloc _).alloc _).alloc _)
  generalize (((w.alloc (.cells (rowV [] RT.vals A).toArray 45)).alloc (.cells (rowV [] RT.vals B).toArray 45)).alloc (.cells Try.zeroCells45 45)).alloc (.cells Try.zeroCells45 45) = W0 at B0 B1 B2 B3 G ⊢
  generalize Value.agg (rowV [] RT.vals A).toArray = va
  try generalize Value.agg (rowV [] RT.vals B).toArray = vb
  go_loopw [9] (fun i wr => ∃ (k : Nat) (L : List RT), i = .int .i64 k ∧ k ≤ 16 ∧ L.length = 16 ∧ T.Hid (∀ i, i < k → L[i]? = (List.zipWith F A B)[i]?) ∧ T.Hid (At wr w.heap.size (rowV [] RT.vals A).toArray) ∧ T.Hid (At wr (w.heap.size + 1) (rowV [] RT.vals B).toArray) ∧ T.Hid (At wr (w.heap.size + 1 + 1) (rowV [] RT.vals (List.replicate 16 RT.zero)).toArray) ∧ T.Hid (At wr (w.heap.size + 1 + 1 + 1) (rowV [] RT.vals L).toArray) ∧ T.Hid (Gr w wr)) (fun i _ => 16 - (intOf i).toNat)
  case atStart => exact ⟨0, List.replicate 16 RT.zero, rfl, by omega, by simp, T.Hid.mk (fun i h => by omega), B0, B1, B2, B3, G⟩
  case round =>
    clear B0 B1 B2 B3 G
    obtain ⟨k, L, rfl, hk, hL, hall, B0, B1, B2, B3, G⟩ := hrel
    by_cases hlt : k < 16
    · have ha : k < A.length := by omega
      have hb : k < B.length := by omega
      have h1 := T.Hid.mk (fun W => hC.out A[k] B[k] (List.getElem_mem ha) (List.getElem_mem hb) W)
      have k1 : (k : Int) < 16 := by omega
      have KS : T.Hid (∀ W, Gr wr W → W.rangeAt w.heap.size (k * 12) (RT.vals A[k]) ∧ W.rangeAt (w.heap.size + 1) (k * 12) (RT.vals B[k])) := T.Hid.mk (fun W g => ⟨(B0.out.gr g).elem rt_len k ha _ (by simp), (B1.out.gr g).elem rt_len k hb _ (by simp)⟩)
      have hs : T.Hid (∀ i, i < k + 1 → (L.set k (F A[k] B[k]))[i]? = (List.zipWith F A B)[i]?) := T.Hid.mk (fun i hi => by
        by_cases q : i = k
        · subst q
          rw [List.getElem?_set_self (by omega), List.getElem?_zipWith, List.getElem?_eq_getElem ha, List.getElem?_eq_getElem hb]
        · rw [List.getElem?_set_ne (by omega)]
          exact hall.out i (by omega))
      generalize F A[k] B[k] = y at *
      go_upto_region 5 with fail
      have d1 : Gr wr wr.drew := (Gr.refl _).drew
      refine wp_region_held_drew (S := (fun W => W.rangeAt w.heap.size (k * 12) (RT.vals A[k]) ∧ W.rangeAt (w.heap.size + 1) (k * 12) (RT.vals B[k]))) (by kernel_rfl) (KS.out _ d1) (fun hHeld => ?_)
      refine wpAnyH_take (i := 0) (oi := { dst := some 12, op := Op.move (Operand.tmp 8), type := 3, pos := "merge.go:50", after := #[], guard := none }) (v := ?_) rfl (by kernel_rfl) (by kernel_rfl) (by kernel_rfl) (fun _ _ _ h => h) (Or.inl ⟨by rfl, ?_⟩) (by assumption) ?_
      rotate_left
      · intro w hSw; (try dsimp only at hSw); go_simp; first | done | with_reducible rfl
      try simp only [Act.put, List.setIfInBounds_toArray, List.set_cons_zero, List.set_cons_succ]
      refine wpAnyH_take (i := 1) (oi := { dst := some 13, op := Op.move (Operand.tmp 2), type := 38, pos := "merge.go:50", after := #[], guard := none }) (v := ?_) rfl (by kernel_rfl) (by kernel_rfl) (by kernel_rfl) (fun _ _ _ h => h) (Or.inl ⟨by rfl, ?_⟩) (by assumption) ?_
      rotate_left
      · intro w hSw; (try dsimp only at hSw); go_simp; first | done | with_reducible rfl
      try simp only [Act.put, List.setIfInBounds_toArray, List.set_cons_zero, List.set_cons_succ]
      refine wpAnyH_take (i := 2) (oi := { dst := some 14, op := Op.move (Operand.tmp 8), type := 3, pos := "merge.go:50", after := #[], guard := none }) (v := ?_) rfl (by kernel_rfl) (by kernel_rfl) (by kernel_rfl) (fun _ _ _ h => h) (Or.inl ⟨by rfl, ?_⟩) (by assumption) ?_
      rotate_left
      · intro w hSw; (try dsimp only at hSw); go_simp; first | done | with_reducible rfl
      try simp only [Act.put, List.setIfInBounds_toArray, List.set_cons_zero, List.set_cons_succ]
      refine wpAnyH_take (i := 3) (oi := { dst := some 15, op := Op.indexAddr 45 (Operand.tmp 3) (Operand.tmp 14), type := 0, pos := "merge.go:50", after := #[{ on := 2, ground := Ground.data }], guard := none }) (v := ?_) rfl (by kernel_rfl) (by kernel_rfl) (by kernel_rfl) (fun _ _ _ h => h) (Or.inl ⟨by rfl, ?_⟩) (by assumption) ?_
      rotate_left
      · intro w hSw; (try dsimp only at hSw); go_simp; first | done | with_reducible rfl
      try simp only [Act.put, List.setIfInBounds_toArray, List.set_cons_zero, List.set_cons_succ]
      refine wpAnyH_take (i := 4) (oi := { dst := some 16, op := Op.load 28 (Operand.tmp 15), type := 28, pos := "merge.go:50", after := #[{ on := 3, ground := Ground.data }], guard := none }) (v := _) rfl (by kernel_rfl) (by kernel_rfl) (by kernel_rfl) (fun _ _ _ h => h) (yieldsIf_load_mid (by rfl) _ _ rfl _ _ rfl _ _ (fun _ h => h.1) Try.underlying28 rfl info28) (by assumption) ?_
      try simp only [Act.put, List.setIfInBounds_toArray, List.set_cons_zero, List.set_cons_succ]
      refine wpAnyH_take (i := 5) (oi := { dst := some 17, op := Op.move (Operand.tmp 8), type := 3, pos := "merge.go:50", after := #[], guard := none }) (v := ?_) rfl (by kernel_rfl) (by kernel_rfl) (by kernel_rfl) (fun _ _ _ h => h) (Or.inl ⟨by rfl, ?_⟩) (by assumption) ?_
      rotate_left
      · intro w hSw; (try dsimp only at hSw); go_simp; first | done | with_reducible rfl
      try simp only [Act.put, List.setIfInBounds_toArray, List.set_cons_zero, List.set_cons_succ]
      refine wpAnyH_take (i := 6) (oi := { dst := some 18, op := Op.indexAddr 45 (Operand.tmp 4) (Operand.tmp 17), type := 0, pos := "merge.go:50", after := #[{ on := 5, ground := Ground.data }], guard := none }) (v := ?_) rfl (by kernel_rfl) (by kernel_rfl) (by kernel_rfl) (fun _ _ _ h => h) (Or.inl ⟨by rfl, ?_⟩) (by assumption) ?_
      rotate_left
      · intro w hSw; (try dsimp only at hSw); go_simp; first | done | with_reducible rfl
      try simp only [Act.put, List.setIfInBounds_toArray, List.set_cons_zero, List.set_cons_succ]
      refine wpAnyH_take (i := 7) (oi := { dst := some 19, op := Op.load 28 (Operand.tmp 18), type := 28, pos := "merge.go:50", after := #[{ on := 6, ground := Ground.data }], guard := none }) (v := _) rfl (by kernel_rfl) (by kernel_rfl) (by kernel_rfl) (fun _ _ _ h => h) (yieldsIf_load_mid (by rfl) _ _ rfl _ _ rfl _ _ (fun _ h => h.2) Try.underlying28 rfl info28) (by assumption) ?_
      try simp only [Act.put, List.setIfInBounds_toArray, List.set_cons_zero, List.set_cons_succ]
      refine wpAnyH_ready (rs := [8]) (by kernel_rfl) (by simp) ?_
      refine AllReadyH.cons (o := { dst := some 20, op := Op.call { callee := Callee.value (Operand.tmp 13), args := #[Operand.tmp 16, Operand.tmp 19], argTypes := #[28, 28] }, type := 28, pos := "merge.go:50", after := #[{ on := 1, ground := Ground.data }, { on := 4, ground := Ground.data }, { on := 7, ground := Ground.data }], guard := none }) rfl (fun K hK => ?_) AllReadyH.nil
      go_simp
      go_wp2_with ((go_at_call 9; refine (h1.out _).mono ?_; rintro x wq ⟨rfl, q9⟩; have d1 : Gr wr wq := Gr.trans (by (repeat (first | with_reducible assumption | with_reducible exact Gr.refl _ | with_reducible refine Gr.drew ?_ | with_reducible refine Gr.alloc ?_ _))) q9; clear q9))
      refine hK.out _ _ (KS.out _ d1) (fun hHeld => ?_)
      clear hK K
      try simp only [Act.put, List.setIfInBounds_toArray, List.set_cons_zero, List.set_cons_succ]
      refine wpAnyH_take (i := 9) (oi := { dst := some 21, op := Op.indexAddr 45 (Operand.tmp 7) (Operand.tmp 12), type := 0, pos := "merge.go:50", after := #[{ on := 0, ground := Ground.data }, { on := 0, ground := Ground.phase }, { on := 1, ground := Ground.phase }, { on := 2, ground := Ground.phase }, { on := 3, ground := Ground.phase }, { on := 4, ground := Ground.phase }, { on := 5, ground := Ground.phase }, { on := 6, ground := Ground.phase }, { on := 7, ground := Ground.phase }, { on := 8, ground := Ground.phase }], guard := none }) (v := ?_) rfl (by kernel_rfl) (by kernel_rfl) (by kernel_rfl) (fun _ _ _ h => h) (Or.inl ⟨by rfl, ?_⟩) (by assumption) ?_
      rotate_left
      · intro w hSw; (try dsimp only at hSw); go_simp; first | done | with_reducible rfl
      try simp only [Act.put, List.setIfInBounds_toArray, List.set_cons_zero, List.set_cons_succ]
      refine wpAnyH_ready (rs := [10]) (by kernel_rfl) (by simp) ?_
      refine AllReadyH.cons (o := { dst := none, op := Op.store 28 (Operand.tmp 21) (Operand.tmp 20), type := 0, pos := "merge.go:50", after := #[{ on := 9, ground := Ground.data }, { on := 8, ground := Ground.data }, { on := 8, ground := Ground.chain }, { on := 0, ground := Ground.phase }, { on := 1, ground := Ground.phase }, { on := 2, ground := Ground.phase }, { on := 3, ground := Ground.phase }, { on := 4, ground := Ground.phase }, { on := 5, ground := Ground.phase }, { on := 6, ground := Ground.phase }, { on := 7, ground := Ground.phase }, { on := 8, ground := Ground.phase }], guard := none }) rfl (fun K hK => ?_) AllReadyH.nil
      rw [if_pos (by rfl)]
      refine wp_store_mid _ _ _ rfl _ _ (List.toArray _) rfl rfl ((At.there (B3.out.gr d1) _ _ (by rw [row_len rt_len, hL]; show 0 + 16 * 12 ≥ _; simp [RT.vals]; omega))) (info28) (all_oneCell_toArray (one_rt _)) ?_
      refine hK.out _ _ (⟨World.rangeAt_setCells_apart (KS.out _ d1).1 _ _ _ (.inl (by omega)), World.rangeAt_setCells_apart (KS.out _ d1).2 _ _ _ (.inl (by omega))⟩) (fun hHeld => ?_)
      clear hK K
      try simp only [Act.put]
      refine wpAnyH_done (by kernel_rfl) ?_ _
      clear hHeld KS
      have b0 := T.Hid.mk ((B0.out.gr d1).other (b' := w.heap.size + 1 + 1 + 1) (by omega) (k * 12) (RT.vals y))
      have b1 := T.Hid.mk ((B1.out.gr d1).other (b' := w.heap.size + 1 + 1 + 1) (by omega) (k * 12) (RT.vals y))
      have b2 := T.Hid.mk ((B2.out.gr d1).other (b' := w.heap.size + 1 + 1 + 1) (by omega) (k * 12) (RT.vals y))
      have b3 := T.Hid.mk ((B3.out.gr d1).setElem rt_len k (by omega) y (k * 12) (by simp))
      have g := T.Hid.mk ((G.out.trans d1).setCells (w.heap.size + 1 + 1 + 1) (by omega) (RT.vals y) (k * 12))
      clear d1 B0 B1 B2 B3 G
      go_wp2_with fail
      exact ⟨⟨k + 1, L.set k y, by go_num, by omega, by simp [hL], hs, b0, b1, b2, b3, g⟩, by simp [intOf]; omega⟩
    · have k1 : ¬ (k : Int) < 16 := by omega
      have e : L = List.zipWith F A B := List.ext_getElem? (fun i => by
        by_cases q : i < 16
        · exact hall.out i (by omega)
        · rw [List.getElem?_eq_none (by omega), List.getElem?_eq_none (by simp; omega)])
      subst e
      clear hall hlt hk hC B0 B1
      go_upto_region 7 with fail
      have hone := T.Hid.mk (one_row (List.zipWith F A B))
      have hinf := T.Hid.mk ((show (Try.prog.info? 45).map (·.size) = some (rowV [] RT.vals (List.zipWith F A B)).length by rw [row_len rt_len, hL]; exact info45))
      have a3 := T.Hid.mk (B3.out.range)
      have hl9 := T.Hid.mk (show (rowV [] RT.vals (List.zipWith F A B)).length = (rowV [] RT.vals (List.replicate 16 RT.zero)).length by rw [row_len rt_len, row_len rt_len, hL]; rfl)
      have th := T.Hid.mk (show World.there _ (w.heap.size + 1 + 1) 0 (List.toArray (rowV [] RT.vals (List.zipWith F A B))).size from B2.out.there 0 _ (by rw [List.size_toArray, hl9.out]; omega))
      have s2 := T.Hid.mk (B2.out.setAll (rowV [] RT.vals (List.zipWith F A B)) hl9.out)
      have hres := T.Hid.mk (G.out.setCells (w.heap.size + 1 + 1) (by omega) (rowV [] RT.vals (List.zipWith F A B)) 0)
      clear B3 B2 G hl9
      generalize hrow : (rowV [] RT.vals (List.zipWith F A B)) = row at *
      replace hrow := T.Hid.mk hrow
      refine wp_region_lit ?_
      refine wpList_load_mid rfl _ _ rfl _ 0 rfl row _ a3.out Try.underlying45 rfl hinf.out ?_
      simp only [Act.put, List.setIfInBounds_toArray, List.set_cons_zero, List.set_cons_succ]
      refine wpList_store_mid rfl _ _ _ rfl _ _ (List.toArray row) rfl rfl th.out hinf.out (all_oneCell_toArray hone.out) ?_
      simp only [Act.put]
      have s5 := T.Hid.mk (s2.out.range)
      clear s2 th a3
      generalize World.setCells _ _ _ _ = W5 at *
      have hrun := T.Hid.mk (run_loadVar_mid (P := Try.prog) W5 (w.heap.size + 1 + 1) 0 45 row _ s5.out Try.underlying45 rfl hinf.out)
      clear s5 hinf hone
      go_wp2_with fail
      refine bodyPost_ret (v := .agg row.toArray) ?_ rfl ⟨by rw [hrow.out], hres.out⟩
      exact results_row Try.results51 _ _ rfl hrun.out
set_option maxRecDepth 100000 in
set_option maxHeartbeats 4000000 in
theorem ofWiden_any (F : RT → RT → RT) (A B : List RT) (w : World) (hA : A.length = 16) (hB : B.length = 16) (hc : ∀ a b, a ∈ A → b ∈ B → ∀ W, Calls Try.prog 37 #[.agg (RT.vals a).toArray, .agg (RT.vals b).toArray] W fun x w' => x = .returned (.agg (RT.vals (F a b)).toArray) ∧ Gr W w') : Calls Try.prog 51 #[.agg (rowV [] RT.vals A).toArray, .agg (rowV [] RT.vals B).toArray, .func (.func 37) #[] #[]] w fun x w' => x = .returned (.agg (rowV [] RT.vals (List.zipWith F A B)).toArray) ∧ Gr w w' := by
  have hC := T.Hid.mk hc
  clear hc
  go_enter Try.func51, Try.ntmps51
  go_upto_region 3 with fail
  have B0 : T.Hid (At ((((w.alloc (.cells (rowV [] RT.vals A).toArray 45)).alloc (.cells (rowV [] RT.vals B).toArray 45)).alloc (.cells Try.zeroCells45 45)).alloc (.cells Try.zeroCells45 45)) w.heap.size (rowV [] RT.vals A).toArray) := T.Hid.mk ((((At.at_ w _ _ rfl).alloc _).alloc _).alloc _)
  have B1 : T.Hid (At ((((w.alloc (.cells (rowV [] RT.vals A).toArray 45)).alloc (.cells (rowV [] RT.vals B).toArray 45)).alloc (.cells Try.zeroCells45 45)).alloc (.cells Try.zeroCells45 45)) (w.heap.size + 1) (rowV [] RT.vals B).toArray) := T.Hid.mk (((At.at_ _ _ _ (by simp)).alloc _).alloc _)
  have B2 : T.Hid (At ((((w.alloc (.cells (rowV [] RT.vals A).toArray 45)).alloc (.cells (rowV [] RT.vals B).toArray 45)).alloc (.cells Try.zeroCells45 45)).alloc (.cells Try.zeroCells45 45)) (w.heap.size + 1 + 1) (rowV [] RT.vals (List.replicate 16 RT.zero)).toArray) := T.Hid.mk (by rw [← zero45]; exact (At.at_ _ _ _ (by simp)).alloc _)
  have B3 : T.Hid (At ((((w.alloc (.cells (rowV [] RT.vals A).toArray 45)).alloc (.cells (rowV [] RT.vals B).toArray 45)).alloc (.cells Try.zeroCells45 45)).alloc (.cells Try.zeroCells45 45)) (w.heap.size + 1 + 1 + 1) (rowV [] RT.vals (List.replicate 16 RT.zero)).toArray) := T.Hid.mk (by rw [← zero45]; exact At.at_ _ _ _ (by simp))
  have G : T.Hid (Gr w ((((w.alloc (.cells (rowV [] RT.vals A).toArray 45)).alloc (.cells (rowV [] RT.vals B).toArray 45)).alloc (.cells Try.zeroCells45 45)).alloc (.cells Try.zeroCells45 45))) := T.Hid.mk (((((Gr.refl w).alloc _).alloc _).alloc _).alloc _)
  generalize (((w.alloc (.cells (rowV [] RT.vals A).toArray 45)).alloc (.cells (rowV [] RT.vals B).toArray 45)).alloc (.cells Try.zeroCells45 45)).alloc (.cells Try.zeroCells45 45) = W0 at B0 B1 B2 B3 G ⊢
  generalize Value.agg (rowV [] RT.vals A).toArray = va
  try generalize Value.agg (rowV [] RT.vals B).toArray = vb
  go_loopw [9] (fun i wr => ∃ (k : Nat) (L : List RT), i = .int .i64 k ∧ k ≤ 16 ∧ L.length = 16 ∧ T.Hid (∀ i, i < k → L[i]? = (List.zipWith F A B)[i]?) ∧ T.Hid (At wr w.heap.size (rowV [] RT.vals A).toArray) ∧ T.Hid (At wr (w.heap.size + 1) (rowV [] RT.vals B).toArray) ∧ T.Hid (At wr (w.heap.size + 1 + 1) (rowV [] RT.vals (List.replicate 16 RT.zero)).toArray) ∧ T.Hid (At wr (w.heap.size + 1 + 1 + 1) (rowV [] RT.vals L).toArray) ∧ T.Hid (Gr w wr)) (fun i _ => 16 - (intOf i).toNat)
  case atStart => exact ⟨0, List.replicate 16 RT.zero, rfl, by omega, by simp, T.Hid.mk (fun i h => by omega), B0, B1, B2, B3, G⟩
  case round =>
    clear B0 B1 B2 B3 G
    obtain ⟨k, L, rfl, hk, hL, hall, B0, B1, B2, B3, G⟩ := hrel
    by_cases hlt : k < 16
    · have ha : k < A.length := by omega
      have hb : k < B.length := by omega
      have h1 := T.Hid.mk (fun W => hC.out A[k] B[k] (List.getElem_mem ha) (List.getElem_mem hb) W)
      have k1 : (k : Int) < 16 := by omega
      have KS : T.Hid (∀ W, Gr wr W → W.rangeAt w.heap.size (k * 12) (RT.vals A[k]) ∧ W.rangeAt (w.heap.size + 1) (k * 12) (RT.vals B[k])) := T.Hid.mk (fun W g => ⟨(B0.out.gr g).elem rt_len k ha _ (by simp), (B1.out.gr g).elem rt_len k hb _ (by simp)⟩)
      have hs : T.Hid (∀ i, i < k + 1 → (L.set k (F A[k] B[k]))[i]? = (List.zipWith F A B)[i]?) := T.Hid.mk (fun i hi => by
        by_cases q : i = k
        · subst q
          rw [List.getElem?_set_self (by omega), List.getElem?_zipWith, List.getElem?_eq_getElem ha, List.getElem?_eq_getElem hb]
        · rw [List.getElem?_set_ne (by omega)]
          exact hall.out i (by omega))
      generalize F A[k] B[k] = y at *
      go_upto_region 5 with fail
      have d1 : Gr wr wr.drew := (Gr.refl _).drew
      refine wp_region_held_drew (S := (fun W => W.rangeAt w.heap.size (k * 12) (RT.vals A[k]) ∧ W.rangeAt (w.heap.size + 1) (k * 12) (RT.vals B[k]))) (by kernel_rfl) (KS.out _ d1) (fun hHeld => ?_)
      refine wpAnyH_take (i := 0) (oi := { dst := some 12, op := Op.move (Operand.tmp 8), type := 3, pos := "merge.go:50", after := #[], guard := none }) (v := ?_) rfl (by kernel_rfl) (by kernel_rfl) (by kernel_rfl) (fun _ _ _ h => h) (Or.inl ⟨by rfl, ?_⟩) (by assumption) ?_
      rotate_left
      · intro w hSw; (try dsimp only at hSw); go_simp; first | done | with_reducible rfl
      try simp only [Act.put, List.setIfInBounds_toArray, List.set_cons_zero, List.set_cons_succ]
      refine wpAnyH_take (i := 1) (oi := { dst := some 13, op := Op.move (Operand.tmp 2), type := 38, pos := "merge.go:50", after := #[], guard := none }) (v := ?_) rfl (by kernel_rfl) (by kernel_rfl) (by kernel_rfl) (fun _ _ _ h => h) (Or.inl ⟨by rfl, ?_⟩) (by assumption) ?_
      rotate_left
      · intro w hSw; (try dsimp only at hSw); go_simp; first | done | with_reducible rfl
      try simp only [Act.put, List.setIfInBounds_toArray, List.set_cons_zero, List.set_cons_succ]
      refine wpAnyH_take (i := 2) (oi := { dst := some 14, op := Op.move (Operand.tmp 8), type := 3, pos := "merge.go:50", after := #[], guard := none }) (v := ?_) rfl (by kernel_rfl) (by kernel_rfl) (by kernel_rfl) (fun _ _ _ h => h) (Or.inl ⟨by rfl, ?_⟩) (by assumption) ?_
      rotate_left
      · intro w hSw; (try dsimp only at hSw); go_simp; first | done | with_reducible rfl
      try simp only [Act.put, List.setIfInBounds_toArray, List.set_cons_zero, List.set_cons_succ]
      refine wpAnyH_take (i := 3) (oi := { dst := some 15, op := Op.indexAddr 45 (Operand.tmp 3) (Operand.tmp 14), type := 0, pos := "merge.go:50", after := #[{ on := 2, ground := Ground.data }], guard := none }) (v := ?_) rfl (by kernel_rfl) (by kernel_rfl) (by kernel_rfl) (fun _ _ _ h => h) (Or.inl ⟨by rfl, ?_⟩) (by assumption) ?_
      rotate_left
      · intro w hSw; (try dsimp only at hSw); go_simp; first | done | with_reducible rfl
      try simp only [Act.put, List.setIfInBounds_toArray, List.set_cons_zero, List.set_cons_succ]
      refine wpAnyH_take (i := 4) (oi := { dst := some 16, op := Op.load 28 (Operand.tmp 15), type := 28, pos := "merge.go:50", after := #[{ on := 3, ground := Ground.data }], guard := none }) (v := _) rfl (by kernel_rfl) (by kernel_rfl) (by kernel_rfl) (fun _ _ _ h => h) (yieldsIf_load_mid (by rfl) _ _ rfl _ _ rfl _ _ (fun _ h => h.1) Try.underlying28 rfl info28) (by assumption) ?_
      try simp only [Act.put, List.setIfInBounds_toArray, List.set_cons_zero, List.set_cons_succ]
      refine wpAnyH_take (i := 5) (oi := { dst := some 17, op := Op.move (Operand.tmp 8), type := 3, pos := "merge.go:50", after := #[], guard := none }) (v := ?_) rfl (by kernel_rfl) (by kernel_rfl) (by kernel_rfl) (fun _ _ _ h => h) (Or.inl ⟨by rfl, ?_⟩) (by assumption) ?_
      rotate_left
      · intro w hSw; (try dsimp only at hSw); go_simp; first | done | with_reducible rfl
      try simp only [Act.put, List.setIfInBounds_toArray, List.set_cons_zero, List.set_cons_succ]
      refine wpAnyH_take (i := 6) (oi := { dst := some 18, op := Op.indexAddr 45 (Operand.tmp 4) (Operand.tmp 17), type := 0, pos := "merge.go:50", after := #[{ on := 5, ground := Ground.data }], guard := none }) (v := ?_) rfl (by kernel_rfl) (by kernel_rfl) (by kernel_rfl) (fun _ _ _ h => h) (Or.inl ⟨by rfl, ?_⟩) (by assumption) ?_
      rotate_left
      · intro w hSw; (try dsimp only at hSw); go_simp; first | done | with_reducible rfl
      try simp only [Act.put, List.setIfInBounds_toArray, List.set_cons_zero, List.set_cons_succ]
      refine wpAnyH_take (i := 7) (oi := { dst := some 19, op := Op.load 28 (Operand.tmp 18), type := 28, pos := "merge.go:50", after := #[{ on := 6, ground := Ground.data }], guard := none }) (v := _) rfl (by kernel_rfl) (by kernel_rfl) (by kernel_rfl) (fun _ _ _ h => h) (yieldsIf_load_mid (by rfl) _ _ rfl _ _ rfl _ _ (fun _ h => h.2) Try.underlying28 rfl info28) (by assumption) ?_
      try simp only [Act.put, List.setIfInBounds_toArray, List.set_cons_zero, List.set_cons_succ]
      refine wpAnyH_ready (rs := [8]) (by kernel_rfl) (by simp) ?_
      refine AllReadyH.cons (o := { dst := some 20, op := Op.call { callee := Callee.value (Operand.tmp 13), args := #[Operand.tmp 16, Operand.tmp 19], argTypes := #[28, 28] }, type := 28, pos := "merge.go:50", after := #[{ on := 1, ground := Ground.data }, { on := 4, ground := Ground.data }, { on := 7, ground := Ground.data }], guard := none }) rfl (fun K hK => ?_) AllReadyH.nil
      go_simp
      go_wp2_with ((go_at_call 37; refine (h1.out _).mono ?_; rintro x wq ⟨rfl, q9⟩; have d1 : Gr wr wq := Gr.trans (by (repeat (first | with_reducible assumption | with_reducible exact Gr.refl _ | with_reducible refine Gr.drew ?_ | with_reducible refine Gr.alloc ?_ _))) q9; clear q9))
      refine hK.out _ _ (KS.out _ d1) (fun hHeld => ?_)
      clear hK K
      try simp only [Act.put, List.setIfInBounds_toArray, List.set_cons_zero, List.set_cons_succ]
      refine wpAnyH_take (i := 9) (oi := { dst := some 21, op := Op.indexAddr 45 (Operand.tmp 7) (Operand.tmp 12), type := 0, pos := "merge.go:50", after := #[{ on := 0, ground := Ground.data }, { on := 0, ground := Ground.phase }, { on := 1, ground := Ground.phase }, { on := 2, ground := Ground.phase }, { on := 3, ground := Ground.phase }, { on := 4, ground := Ground.phase }, { on := 5, ground := Ground.phase }, { on := 6, ground := Ground.phase }, { on := 7, ground := Ground.phase }, { on := 8, ground := Ground.phase }], guard := none }) (v := ?_) rfl (by kernel_rfl) (by kernel_rfl) (by kernel_rfl) (fun _ _ _ h => h) (Or.inl ⟨by rfl, ?_⟩) (by assumption) ?_
      rotate_left
      · intro w hSw; (try dsimp only at hSw); go_simp; first | done | with_reducible rfl
      try simp only [Act.put, List.setIfInBounds_toArray, List.set_cons_zero, List.set_cons_succ]
      refine wpAnyH_ready (rs := [10]) (by kernel_rfl) (by simp) ?_
      refine AllReadyH.cons (o := { dst := none, op := Op.store 28 (Operand.tmp 21) (Operand.tmp 20), type := 0, pos := "merge.go:50", after := #[{ on := 9, ground := Ground.data }, { on := 8, ground := Ground.data }, { on := 8, ground := Ground.chain }, { on := 0, ground := Ground.phase }, { on := 1, ground := Ground.phase }, { on := 2, ground := Ground.phase }, { on := 3, ground := Ground.phase }, { on := 4, ground := Ground.phase }, { on := 5, ground := Ground.phase }, { on := 6, ground := Ground.phase }, { on := 7, ground := Ground.phase }, { on := 8, ground := Ground.phase }], guard := none }) rfl (fun K hK => ?_) AllReadyH.nil
      rw [if_pos (by rfl)]
      refine wp_store_mid _ _ _ rfl _ _ (List.toArray _) rfl rfl ((At.there (B3.out.gr d1) _ _ (by rw [row_len rt_len, hL]; show 0 + 16 * 12 ≥ _; simp [RT.vals]; omega))) (info28) (all_oneCell_toArray (one_rt _)) ?_
      refine hK.out _ _ (⟨World.rangeAt_setCells_apart (KS.out _ d1).1 _ _ _ (.inl (by omega)), World.rangeAt_setCells_apart (KS.out _ d1).2 _ _ _ (.inl (by omega))⟩) (fun hHeld => ?_)
      clear hK K
      try simp only [Act.put]
      refine wpAnyH_done (by kernel_rfl) ?_ _
      clear hHeld KS
      have b0 := T.Hid.mk ((B0.out.gr d1).other (b' := w.heap.size + 1 + 1 + 1) (by omega) (k * 12) (RT.vals y))
      have b1 := T.Hid.mk ((B1.out.gr d1).other (b' := w.heap.size + 1 + 1 + 1) (by omega) (k * 12) (RT.vals y))
      have b2 := T.Hid.mk ((B2.out.gr d1).other (b' := w.heap.size + 1 + 1 + 1) (by omega) (k * 12) (RT.vals y))
      have b3 := T.Hid.mk ((B3.out.gr d1).setElem rt_len k (by omega) y (k * 12) (by simp))
      have g := T.Hid.mk ((G.out.trans d1).setCells (w.heap.size + 1 + 1 + 1) (by omega) (RT.vals y) (k * 12))
      clear d1 B0 B1 B2 B3 G
      go_wp2_with fail
      exact ⟨⟨k + 1, L.set k y, by go_num, by omega, by simp [hL], hs, b0, b1, b2, b3, g⟩, by simp [intOf]; omega⟩
    · have k1 : ¬ (k : Int) < 16 := by omega
      have e : L = List.zipWith F A B := List.ext_getElem? (fun i => by
        by_cases q : i < 16
        · exact hall.out i (by omega)
        · rw [List.getElem?_eq_none (by omega), List.getElem?_eq_none (by simp; omega)])
      subst e
      clear hall hlt hk hC B0 B1
      go_upto_region 7 with fail
      have hone := T.Hid.mk (one_row (List.zipWith F A B))
      have hinf := T.Hid.mk ((show (Try.prog.info? 45).map (·.size) = some (rowV [] RT.vals (List.zipWith F A B)).length by rw [row_len rt_len, hL]; exact info45))
      have a3 := T.Hid.mk (B3.out.range)
      have hl9 := T.Hid.mk (show (rowV [] RT.vals (List.zipWith F A B)).length = (rowV [] RT.vals (List.replicate 16 RT.zero)).length by rw [row_len rt_len, row_len rt_len, hL]; rfl)
      have th := T.Hid.mk (show World.there _ (w.heap.size + 1 + 1) 0 (List.toArray (rowV [] RT.vals (List.zipWith F A B))).size from B2.out.there 0 _ (by rw [List.size_toArray, hl9.out]; omega))
      have s2 := T.Hid.mk (B2.out.setAll (rowV [] RT.vals (List.zipWith F A B)) hl9.out)
      have hres := T.Hid.mk (G.out.setCells (w.heap.size + 1 + 1) (by omega) (rowV [] RT.vals (List.zipWith F A B)) 0)
      clear B3 B2 G hl9
      generalize hrow : (rowV [] RT.vals (List.zipWith F A B)) = row at *
      replace hrow := T.Hid.mk hrow
      refine wp_region_lit ?_
      refine wpList_load_mid rfl _ _ rfl _ 0 rfl row _ a3.out Try.underlying45 rfl hinf.out ?_
      simp only [Act.put, List.setIfInBounds_toArray, List.set_cons_zero, List.set_cons_succ]
      refine wpList_store_mid rfl _ _ _ rfl _ _ (List.toArray row) rfl rfl th.out hinf.out (all_oneCell_toArray hone.out) ?_
      simp only [Act.put]
      have s5 := T.Hid.mk (s2.out.range)
      clear s2 th a3
      generalize World.setCells _ _ _ _ = W5 at *
      have hrun := T.Hid.mk (run_loadVar_mid (P := Try.prog) W5 (w.heap.size + 1 + 1) 0 45 row _ s5.out Try.underlying45 rfl hinf.out)
      clear s5 hinf hone
      go_wp2_with fail
      refine bodyPost_ret (v := .agg row.toArray) ?_ rfl ⟨by rw [hrow.out], hres.out⟩
      exact results_row Try.results51 _ _ rfl hrun.out
end R
end Go.Proofs.Ytbbpbfbifgfjdaa
