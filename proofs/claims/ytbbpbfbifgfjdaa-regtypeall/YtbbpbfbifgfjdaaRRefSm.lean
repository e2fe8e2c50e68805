/-
  Stage 9, regtype: mergeState: the document's.
-/
import Derived.Test.YtbbpbfbifgfjdaaRRefSn
import Derived.Test.YtbbpbfbifgfjdaaRRefJ
import Derived.Test.YtbbpbfbifgfjdaaRRefX
namespace Go.Proofs.Ytbbpbfbifgfjdaa
namespace R
open Go.RowKit

theorem zero_true : Try.zeroCells47.setIfInBounds 0 (.bool true) = (stC true Z16).toArray := by kernel_rfl
set_option maxRecDepth 100000 in
set_option maxHeartbeats 8000000 in
theorem dMergeJ_of (F : RT → RT) (G2 : RT → RT → RT) (la : Bool) (A : List RT) (lb : Bool) (B : List RT) (w : World) (hA : A.length = 16) (hB : B.length = 16)
    (hKA : ∀ W, Calls Try.prog 56 #[.agg (stC la A).toArray] W fun x w' => x = .returned (.agg (stC la (kR F la A)).toArray) ∧ Gr W w')
    (hKB : ∀ W, Calls Try.prog 56 #[.agg (stC lb B).toArray] W fun x w' => x = .returned (.agg (stC lb (kR F lb B)).toArray) ∧ Gr W w')
    (hc : ∀ a b, a ∈ A → b ∈ B → ∀ W, Calls Try.prog 57 #[.agg (RT.vals a).toArray, .agg (RT.vals b).toArray, .bool false] W fun x w' => x = .returned (.agg (RT.vals (G2 a b)).toArray) ∧ Gr W w') :
    Calls Try.prog 41 #[.agg (stC la A).toArray, .agg (stC lb B).toArray, .bool false] w fun x w' => x = .returned (.agg (stC (mL la lb) (mR F G2 la A lb B)).toArray) ∧ Gr w w' := by
  replace hKA := T.Hid.mk hKA
  replace hKB := T.Hid.mk hKB
  have hC := T.Hid.mk hc
  clear hc
  cases la
  · rw [show mL false lb = lb from rfl, show mR F G2 false A lb B = kR F lb B from rfl]
    go_enter Try.func41, Try.ntmps41
    go_upto_region 1 with fail
    have B0 : T.Hid (At ((((w).alloc (.cells (stC false A).toArray 47)).alloc (.cells (stC lb B).toArray 47)).alloc (.cells Try.zeroCells47 47)) (w.heap.size) (stC false A).toArray) := T.Hid.mk (((At.at_ w _ _ rfl).alloc _).alloc _)
    have B1 : T.Hid (At ((((w).alloc (.cells (stC false A).toArray 47)).alloc (.cells (stC lb B).toArray 47)).alloc (.cells Try.zeroCells47 47)) (w.heap.size + 1) (stC lb B).toArray) := T.Hid.mk ((At.at_ _ _ _ (by simp)).alloc _)
    have B2 : T.Hid (At ((((w).alloc (.cells (stC false A).toArray 47)).alloc (.cells (stC lb B).toArray 47)).alloc (.cells Try.zeroCells47 47)) (w.heap.size + 1 + 1) (stC false Z16).toArray) := T.Hid.mk (by rw [← zero_st]; exact At.at_ _ _ _ (by simp))
    have G : T.Hid (Gr w ((((w).alloc (.cells (stC false A).toArray 47)).alloc (.cells (stC lb B).toArray 47)).alloc (.cells Try.zeroCells47 47))) := T.Hid.mk ((((Gr.refl w).alloc _).alloc _).alloc _)
    generalize (((w).alloc (.cells (stC false A).toArray 47)).alloc (.cells (stC lb B).toArray 47)).alloc (.cells Try.zeroCells47 47) = W0 at B0 B1 B2 G ⊢
    have c0 := At.headRow B0.out
    go_upto_region 2 with fail
    clear c0 hKA hC B0
    refine wp_region_lit ?_
    refine wpList_plain rfl (fun K hK => ?_)
    refine wp_load_mid _ _ rfl _ 0 rfl (stC lb B) _ B1.out.range Try.underlying47 rfl (info_st hB) (hK _ _ ?_)
    clear hK K
    try simp only [Act.put, List.setIfInBounds_toArray, List.set_cons_zero, List.set_cons_succ]
    refine wpList_plain rfl (fun K hK => ?_)
    go_simp
    (go_at_call 56; refine (hKB.out _).mono ?_; rintro x wq ⟨rfl, q9⟩; replace q9 := T.Hid.mk q9)
    refine hK _ _ ?_
    clear hK K
    try simp only [Act.put, List.setIfInBounds_toArray, List.set_cons_zero, List.set_cons_succ]
    have hl9 := T.Hid.mk (show (stC lb (kR F lb B)).length = (stC false Z16).length by rw [stC_len (kR_len hB), stC_len z16_len])
    have s2 := T.Hid.mk ((B2.out.gr q9.out).setAll (stC lb (kR F lb B)) hl9.out)
    have hres := T.Hid.mk ((G.out.trans q9.out).setCells (w.heap.size + 1 + 1) (by omega) (stC lb (kR F lb B)) 0)
    refine wpList_plain rfl (fun K hK => ?_)
    refine wp_store_mid _ _ _ rfl _ _ (List.toArray (stC lb (kR F lb B))) rfl rfl ((B2.out.gr q9.out).there 0 _ (by rw [List.size_toArray, hl9.out]; omega)) (by rw [List.size_toArray, hl9.out]; exact (info_st z16_len)) (all_oneCell_toArray (one_stC _ _)) (hK _ _ ?_)
    clear hK K
    try simp only [Act.put]
    have s5 := T.Hid.mk (s2.out.range)
    clear s2
    generalize World.setCells _ _ _ _ = W5 at *
    have hrun := T.Hid.mk (run_loadVar_mid (P := Try.prog) W5 (w.heap.size + 1 + 1) 0 47 (stC lb (kR F lb B)) _ s5.out Try.underlying47 rfl (by rw [hl9.out]; exact (info_st z16_len)))
    clear s5 hl9
    go_wp2_with fail
    refine bodyPost_ret (v := .agg (stC lb (kR F lb B)).toArray) ?_ rfl ⟨rfl, hres.out⟩
    exact results_row Try.results41 _ _ rfl hrun.out
  · cases lb
    · rw [show mL true false = true from rfl, show mR F G2 true A false B = kR F true A from rfl]
      go_enter Try.func41, Try.ntmps41
      go_upto_region 1 with fail
      have B0 : T.Hid (At ((((w).alloc (.cells (stC true A).toArray 47)).alloc (.cells (stC false B).toArray 47)).alloc (.cells Try.zeroCells47 47)) (w.heap.size) (stC true A).toArray) := T.Hid.mk (((At.at_ w _ _ rfl).alloc _).alloc _)
      have B1 : T.Hid (At ((((w).alloc (.cells (stC true A).toArray 47)).alloc (.cells (stC false B).toArray 47)).alloc (.cells Try.zeroCells47 47)) (w.heap.size + 1) (stC false B).toArray) := T.Hid.mk ((At.at_ _ _ _ (by simp)).alloc _)
      have B2 : T.Hid (At ((((w).alloc (.cells (stC true A).toArray 47)).alloc (.cells (stC false B).toArray 47)).alloc (.cells Try.zeroCells47 47)) (w.heap.size + 1 + 1) (stC false Z16).toArray) := T.Hid.mk (by rw [← zero_st]; exact At.at_ _ _ _ (by simp))
      have G : T.Hid (Gr w ((((w).alloc (.cells (stC true A).toArray 47)).alloc (.cells (stC false B).toArray 47)).alloc (.cells Try.zeroCells47 47))) := T.Hid.mk ((((Gr.refl w).alloc _).alloc _).alloc _)
      generalize (((w).alloc (.cells (stC true A).toArray 47)).alloc (.cells (stC false B).toArray 47)).alloc (.cells Try.zeroCells47 47) = W0 at B0 B1 B2 G ⊢
      have c0 := At.headRow B0.out
      have c1 := At.headRow B1.out
      go_upto_region 4 with fail
      clear c0 c1 hKB hC B1
      refine wp_region_lit ?_
      refine wpList_plain rfl (fun K hK => ?_)
      refine wp_load_mid _ _ rfl _ 0 rfl (stC true A) _ B0.out.range Try.underlying47 rfl (info_st hA) (hK _ _ ?_)
      clear hK K
      try simp only [Act.put, List.setIfInBounds_toArray, List.set_cons_zero, List.set_cons_succ]
      refine wpList_plain rfl (fun K hK => ?_)
      go_simp
      (go_at_call 56; refine (hKA.out _).mono ?_; rintro x wq ⟨rfl, q9⟩; replace q9 := T.Hid.mk q9)
      refine hK _ _ ?_
      clear hK K
      try simp only [Act.put, List.setIfInBounds_toArray, List.set_cons_zero, List.set_cons_succ]
      have hl9 := T.Hid.mk (show (stC true (kR F true A)).length = (stC false Z16).length by rw [stC_len (kR_len hA), stC_len z16_len])
      have s2 := T.Hid.mk ((B2.out.gr q9.out).setAll (stC true (kR F true A)) hl9.out)
      have hres := T.Hid.mk ((G.out.trans q9.out).setCells (w.heap.size + 1 + 1) (by omega) (stC true (kR F true A)) 0)
      refine wpList_plain rfl (fun K hK => ?_)
      refine wp_store_mid _ _ _ rfl _ _ (List.toArray (stC true (kR F true A))) rfl rfl ((B2.out.gr q9.out).there 0 _ (by rw [List.size_toArray, hl9.out]; omega)) (by rw [List.size_toArray, hl9.out]; exact (info_st z16_len)) (all_oneCell_toArray (one_stC _ _)) (hK _ _ ?_)
      clear hK K
      try simp only [Act.put]
      have s5 := T.Hid.mk (s2.out.range)
      clear s2
      generalize World.setCells _ _ _ _ = W5 at *
      have hrun := T.Hid.mk (run_loadVar_mid (P := Try.prog) W5 (w.heap.size + 1 + 1) 0 47 (stC true (kR F true A)) _ s5.out Try.underlying47 rfl (by rw [hl9.out]; exact (info_st z16_len)))
      clear s5 hl9
      go_wp2_with fail
      refine bodyPost_ret (v := .agg (stC true (kR F true A)).toArray) ?_ rfl ⟨rfl, hres.out⟩
      exact results_row Try.results41 _ _ rfl hrun.out
    · rw [show mL true true = true from rfl, show mR F G2 true A true B = List.zipWith G2 A B from rfl]
      go_enter Try.func41, Try.ntmps41
      go_upto_region 1 with fail
      have B0 : T.Hid (At ((((w).alloc (.cells (stC true A).toArray 47)).alloc (.cells (stC true B).toArray 47)).alloc (.cells Try.zeroCells47 47)) (w.heap.size) (stC true A).toArray) := T.Hid.mk (((At.at_ w _ _ rfl).alloc _).alloc _)
      have B1 : T.Hid (At ((((w).alloc (.cells (stC true A).toArray 47)).alloc (.cells (stC true B).toArray 47)).alloc (.cells Try.zeroCells47 47)) (w.heap.size + 1) (stC true B).toArray) := T.Hid.mk ((At.at_ _ _ _ (by simp)).alloc _)
      have B2 : T.Hid (At ((((w).alloc (.cells (stC true A).toArray 47)).alloc (.cells (stC true B).toArray 47)).alloc (.cells Try.zeroCells47 47)) (w.heap.size + 1 + 1) (stC false Z16).toArray) := T.Hid.mk (by rw [← zero_st]; exact At.at_ _ _ _ (by simp))
      have G : T.Hid (Gr w ((((w).alloc (.cells (stC true A).toArray 47)).alloc (.cells (stC true B).toArray 47)).alloc (.cells Try.zeroCells47 47))) := T.Hid.mk ((((Gr.refl w).alloc _).alloc _).alloc _)
      generalize (((w).alloc (.cells (stC true A).toArray 47)).alloc (.cells (stC true B).toArray 47)).alloc (.cells Try.zeroCells47 47) = W0 at B0 B1 B2 G ⊢
      have c0 := At.headRow B0.out
      have c1 := At.headRow B1.out
      go_upto_region 5 with fail
      clear c0 c1 hKA hKB
      refine wp_region_lit ?_
      refine wpList_plain rfl (fun K hK => ?_)
      go_simp
      refine hK _ _ ?_
      clear hK K
      try simp only [Act.put, List.setIfInBounds_toArray, List.set_cons_zero, List.set_cons_succ]
      refine wpList_plain rfl (fun K hK => ?_)
      go_simp
      refine hK _ _ ?_
      clear hK K
      try simp only [Act.put, List.setIfInBounds_toArray, List.set_cons_zero, List.set_cons_succ]
      rw [zero_true]
      have b3 : T.Hid (At (W0.alloc (.cells Try.zeroCells47 47)) W0.heap.size (stC false Z16).toArray) := T.Hid.mk (by rw [← zero_st]; exact At.new _ _ _)
      refine wpList_plain rfl (fun K hK => ?_)
      refine wp_store_mid _ _ _ rfl _ _ (List.toArray (stC true Z16)) rfl rfl (b3.out.there 0 _ (by rw [List.size_toArray, stC_len z16_len, stC_len z16_len]; omega)) (by rw [List.size_toArray]; exact info_st z16_len) (all_oneCell_toArray (one_stC _ _)) (hK _ _ ?_)
      clear hK K
      try simp only [Act.put]
      have e0 := T.Hid.mk ((B0.out.alloc (.cells Try.zeroCells47 47)).other (b' := W0.heap.size) (Nat.ne_of_lt B0.out.1) 0 (stC true Z16))
      have e1 := T.Hid.mk ((B1.out.alloc (.cells Try.zeroCells47 47)).other (b' := W0.heap.size) (Nat.ne_of_lt B1.out.1) 0 (stC true Z16))
      have e2 := T.Hid.mk ((B2.out.alloc (.cells Try.zeroCells47 47)).other (b' := W0.heap.size) (Nat.ne_of_lt B2.out.1) 0 (stC true Z16))
      have e3 := T.Hid.mk (b3.out.setAll (stC true Z16) rfl)
      have eg := T.Hid.mk ((G.out.alloc (.cells Try.zeroCells47 47)).setCells W0.heap.size G.out.below.size (stC true Z16) 0)
      have n0 : w.heap.size ≠ W0.heap.size := Nat.ne_of_lt B0.out.1
      have n1 : w.heap.size + 1 ≠ W0.heap.size := Nat.ne_of_lt B1.out.1
      have n2 : w.heap.size + 1 + 1 ≠ W0.heap.size := Nat.ne_of_lt B2.out.1
      have n3 : w.heap.size ≤ W0.heap.size := G.out.below.size
      clear B0 B1 B2 G b3
      generalize World.setCells _ _ _ _ = W1 at *
      generalize W0.heap.size = k3 at *
      replace n0 := T.Hid.mk n0
      replace n1 := T.Hid.mk n1
      replace n2 := T.Hid.mk n2
      replace n3 := T.Hid.mk n3
      go_upto_region 7 with fail
      generalize Value.agg (stC true A).toArray = va
      try generalize Value.agg (stC true B).toArray = vb
      generalize Value.agg (stC true Z16).toArray = vz
      go_loopw [8] (fun i wr => ∃ (k : Nat) (L : List RT), i = .int .i64 k ∧ k ≤ 16 ∧ L.length = 16 ∧ T.Hid (∀ i, i < k → L[i]? = (List.zipWith G2 A B)[i]?) ∧ T.Hid (At wr w.heap.size (stC true A).toArray) ∧ T.Hid (At wr (w.heap.size + 1) (stC true B).toArray) ∧ T.Hid (At wr (w.heap.size + 1 + 1) (stC false Z16).toArray) ∧ T.Hid (At wr k3 (stC true L).toArray) ∧ T.Hid (Gr w wr)) (fun i _ => 16 - (intOf i).toNat)
      case atStart => exact ⟨0, Z16, rfl, by omega, rfl, T.Hid.mk (fun i h => by omega), e0, e1, e2, e3, eg⟩
      case round =>
        clear e0 e1 e2 e3 eg
        obtain ⟨k, L, rfl, hk, hL, hall, B0, B1, B2, B3, G⟩ := hrel
        by_cases hlt : k < 16
        · have ha : k < A.length := by omega
          have hb : k < B.length := by omega
          have h1 := T.Hid.mk (fun W => hC.out A[k] B[k] (List.getElem_mem ha) (List.getElem_mem hb) W)
          have k1 : (k : Int) < 16 := by omega
          have KS : T.Hid (∀ W, Gr wr W → W.rangeAt w.heap.size (1 + k * 12) (RT.vals A[k]) ∧ W.rangeAt (w.heap.size + 1) (1 + k * 12) (RT.vals B[k])) := T.Hid.mk (fun W g => ⟨st_elem (B0.out.gr g) k ha, st_elem (B1.out.gr g) k hb⟩)
          have hs : T.Hid (∀ i, i < k + 1 → (L.set k (G2 A[k] B[k]))[i]? = (List.zipWith G2 A B)[i]?) := T.Hid.mk (fun i hi => by
            by_cases q : i = k
            · subst q
              rw [List.getElem?_set_self (by omega), List.getElem?_zipWith, List.getElem?_eq_getElem ha, List.getElem?_eq_getElem hb]
            · rw [List.getElem?_set_ne (by omega)]
              exact hall.out i (by omega))
          generalize G2 A[k] B[k] = y at *
          go_upto_region 9 with fail
          have d1 : Gr wr wr.drew := (Gr.refl _).drew
          refine wp_region_held_drew (S := (fun W => W.rangeAt w.heap.size (1 + k * 12) (RT.vals A[k]) ∧ W.rangeAt (w.heap.size + 1) (1 + k * 12) (RT.vals B[k]))) (by kernel_rfl) (KS.out _ d1) (fun hHeld => ?_)
          refine wpAnyH_take (i := 0) (oi := { dst := some 24, op := Op.move (Operand.tmp 8), type := 3, pos := "ref.go:213", after := #[], guard := none }) (v := ?_) rfl (by kernel_rfl) (by kernel_rfl) (by kernel_rfl) (fun _ _ _ h => h) (Or.inl ⟨by rfl, ?_⟩) (by assumption) ?_
          rotate_left
          · intro w hSw; (try dsimp only at hSw); go_simp; first | done | with_reducible rfl
          try simp only [Act.put, List.setIfInBounds_toArray, List.set_cons_zero, List.set_cons_succ]
          refine wpAnyH_take (i := 1) (oi := { dst := some 25, op := Op.move (Operand.tmp 8), type := 3, pos := "ref.go:213", after := #[], guard := none }) (v := ?_) rfl (by kernel_rfl) (by kernel_rfl) (by kernel_rfl) (fun _ _ _ h => h) (Or.inl ⟨by rfl, ?_⟩) (by assumption) ?_
          rotate_left
          · intro w hSw; (try dsimp only at hSw); go_simp; first | done | with_reducible rfl
          try simp only [Act.put, List.setIfInBounds_toArray, List.set_cons_zero, List.set_cons_succ]
          refine wpAnyH_take (i := 2) (oi := { dst := some 26, op := Op.fieldAddr 47 (Operand.tmp 3) 1, type := 0, pos := "ref.go:213", after := #[], guard := none }) (v := ?_) rfl (by kernel_rfl) (by kernel_rfl) (by kernel_rfl) (fun _ _ _ h => h) (Or.inl ⟨by rfl, ?_⟩) (by assumption) ?_
          rotate_left
          · intro w hSw; (try dsimp only at hSw); go_simp; first | done | with_reducible rfl
          try simp only [Act.put, List.setIfInBounds_toArray, List.set_cons_zero, List.set_cons_succ]
          refine wpAnyH_take (i := 3) (oi := { dst := some 27, op := Op.indexAddr 45 (Operand.tmp 26) (Operand.tmp 25), type := 0, pos := "ref.go:213", after := #[{ on := 2, ground := Ground.data }, { on := 1, ground := Ground.data }], guard := none }) (v := ?_) rfl (by kernel_rfl) (by kernel_rfl) (by kernel_rfl) (fun _ _ _ h => h) (Or.inl ⟨by rfl, ?_⟩) (by assumption) ?_
          rotate_left
          · intro w hSw; (try dsimp only at hSw); go_simp; first | done | with_reducible rfl
          try simp only [Act.put, List.setIfInBounds_toArray, List.set_cons_zero, List.set_cons_succ]
          refine wpAnyH_take (i := 4) (oi := { dst := some 28, op := Op.load 28 (Operand.tmp 27), type := 28, pos := "ref.go:213", after := #[{ on := 3, ground := Ground.data }], guard := none }) (v := _) rfl (by kernel_rfl) (by kernel_rfl) (by kernel_rfl) (fun _ _ _ h => h) (yieldsIf_load_mid (by rfl) _ _ rfl _ _ rfl _ _ (fun _ h => h.1) Try.underlying28 rfl info28) (by assumption) ?_
          try simp only [Act.put, List.setIfInBounds_toArray, List.set_cons_zero, List.set_cons_succ]
          refine wpAnyH_take (i := 5) (oi := { dst := some 29, op := Op.move (Operand.tmp 8), type := 3, pos := "ref.go:213", after := #[], guard := none }) (v := ?_) rfl (by kernel_rfl) (by kernel_rfl) (by kernel_rfl) (fun _ _ _ h => h) (Or.inl ⟨by rfl, ?_⟩) (by assumption) ?_
          rotate_left
          · intro w hSw; (try dsimp only at hSw); go_simp; first | done | with_reducible rfl
          try simp only [Act.put, List.setIfInBounds_toArray, List.set_cons_zero, List.set_cons_succ]
          refine wpAnyH_take (i := 6) (oi := { dst := some 30, op := Op.fieldAddr 47 (Operand.tmp 4) 1, type := 0, pos := "ref.go:213", after := #[], guard := none }) (v := ?_) rfl (by kernel_rfl) (by kernel_rfl) (by kernel_rfl) (fun _ _ _ h => h) (Or.inl ⟨by rfl, ?_⟩) (by assumption) ?_
          rotate_left
          · intro w hSw; (try dsimp only at hSw); go_simp; first | done | with_reducible rfl
          try simp only [Act.put, List.setIfInBounds_toArray, List.set_cons_zero, List.set_cons_succ]
          refine wpAnyH_take (i := 7) (oi := { dst := some 31, op := Op.indexAddr 45 (Operand.tmp 30) (Operand.tmp 29), type := 0, pos := "ref.go:213", after := #[{ on := 6, ground := Ground.data }, { on := 5, ground := Ground.data }], guard := none }) (v := ?_) rfl (by kernel_rfl) (by kernel_rfl) (by kernel_rfl) (fun _ _ _ h => h) (Or.inl ⟨by rfl, ?_⟩) (by assumption) ?_
          rotate_left
          · intro w hSw; (try dsimp only at hSw); go_simp; first | done | with_reducible rfl
          try simp only [Act.put, List.setIfInBounds_toArray, List.set_cons_zero, List.set_cons_succ]
          refine wpAnyH_take (i := 8) (oi := { dst := some 32, op := Op.load 28 (Operand.tmp 31), type := 28, pos := "ref.go:213", after := #[{ on := 7, ground := Ground.data }], guard := none }) (v := _) rfl (by kernel_rfl) (by kernel_rfl) (by kernel_rfl) (fun _ _ _ h => h) (yieldsIf_load_mid (by rfl) _ _ rfl _ _ rfl _ _ (fun _ h => h.2) Try.underlying28 rfl info28) (by assumption) ?_
          try simp only [Act.put, List.setIfInBounds_toArray, List.set_cons_zero, List.set_cons_succ]
          refine wpAnyH_take (i := 9) (oi := { dst := some 33, op := Op.move (Operand.tmp 2), type := 4, pos := "ref.go:213", after := #[], guard := none }) (v := ?_) rfl (by kernel_rfl) (by kernel_rfl) (by kernel_rfl) (fun _ _ _ h => h) (Or.inl ⟨by rfl, ?_⟩) (by assumption) ?_
          rotate_left
          · intro w hSw; (try dsimp only at hSw); go_simp; first | done | with_reducible rfl
          try simp only [Act.put, List.setIfInBounds_toArray, List.set_cons_zero, List.set_cons_succ]
          refine wpAnyH_take (i := 11) (oi := { dst := some 35, op := Op.fieldAddr 47 (Operand.tmp 7) 1, type := 0, pos := "ref.go:213", after := #[], guard := none }) (v := ?_) rfl (by kernel_rfl) (by kernel_rfl) (by kernel_rfl) (fun _ _ _ h => h) (Or.inl ⟨by rfl, ?_⟩) (by assumption) ?_
          rotate_left
          · intro w hSw; (try dsimp only at hSw); go_simp; first | done | with_reducible rfl
          try simp only [Act.put, List.setIfInBounds_toArray, List.set_cons_zero, List.set_cons_succ]
          refine wpAnyH_ready (rs := [10]) (by kernel_rfl) (by simp) ?_
          refine AllReadyH.cons (o := { dst := some 34, op := Op.call { callee := Callee.value (Operand.func 57), args := #[Operand.tmp 28, Operand.tmp 32, Operand.tmp 33], argTypes := #[28, 28, 4] }, type := 28, pos := "ref.go:213", after := #[{ on := 4, ground := Ground.data }, { on := 8, ground := Ground.data }, { on := 9, ground := Ground.data }], guard := none }) rfl (fun K hK => ?_) AllReadyH.nil
          go_simp
          go_wp2_with ((go_at_call 57; refine (h1.out _).mono ?_; rintro x wq ⟨rfl, q9⟩; have d1 : Gr wr wq := Gr.trans (by (repeat (first | with_reducible assumption | with_reducible exact Gr.refl _ | with_reducible refine Gr.drew ?_ | with_reducible refine Gr.alloc ?_ _))) q9; clear q9))
          refine hK.out _ _ (KS.out _ d1) (fun hHeld => ?_)
          clear hK K
          try simp only [Act.put, List.setIfInBounds_toArray, List.set_cons_zero, List.set_cons_succ]
          refine wpAnyH_take (i := 12) (oi := { dst := some 36, op := Op.indexAddr 45 (Operand.tmp 35) (Operand.tmp 24), type := 0, pos := "ref.go:213", after := #[{ on := 11, ground := Ground.data }, { on := 0, ground := Ground.data }, { on := 0, ground := Ground.phase }, { on := 1, ground := Ground.phase }, { on := 2, ground := Ground.phase }, { on := 3, ground := Ground.phase }, { on := 4, ground := Ground.phase }, { on := 5, ground := Ground.phase }, { on := 6, ground := Ground.phase }, { on := 7, ground := Ground.phase }, { on := 8, ground := Ground.phase }, { on := 9, ground := Ground.phase }, { on := 10, ground := Ground.phase }], guard := none }) (v := ?_) rfl (by kernel_rfl) (by kernel_rfl) (by kernel_rfl) (fun _ _ _ h => h) (Or.inl ⟨by rfl, ?_⟩) (by assumption) ?_
          rotate_left
          · intro w hSw; (try dsimp only at hSw); go_simp; first | done | with_reducible rfl
          try simp only [Act.put, List.setIfInBounds_toArray, List.set_cons_zero, List.set_cons_succ]
          refine wpAnyH_ready (rs := [13]) (by kernel_rfl) (by simp) ?_
          refine AllReadyH.cons (o := { dst := none, op := Op.store 28 (Operand.tmp 36) (Operand.tmp 34), type := 0, pos := "ref.go:213", after := #[{ on := 12, ground := Ground.data }, { on := 10, ground := Ground.data }, { on := 10, ground := Ground.chain }, { on := 0, ground := Ground.phase }, { on := 1, ground := Ground.phase }, { on := 2, ground := Ground.phase }, { on := 3, ground := Ground.phase }, { on := 4, ground := Ground.phase }, { on := 5, ground := Ground.phase }, { on := 6, ground := Ground.phase }, { on := 7, ground := Ground.phase }, { on := 8, ground := Ground.phase }, { on := 9, ground := Ground.phase }, { on := 10, ground := Ground.phase }], guard := none }) rfl (fun K hK => ?_) AllReadyH.nil
          rw [if_pos (by rfl)]
          refine wp_store_mid _ _ _ rfl _ _ (List.toArray _) rfl rfl (st_there (B3.out.gr d1) hL k hlt) (info28) (all_oneCell_toArray (one_rt _)) ?_
          refine hK.out _ _ (⟨World.rangeAt_setCells_apart (KS.out _ d1).1 _ _ _ (.inl n0.out), World.rangeAt_setCells_apart (KS.out _ d1).2 _ _ _ (.inl n1.out)⟩) (fun hHeld => ?_)
          clear hK K
          try simp only [Act.put]
          refine wpAnyH_done (by kernel_rfl) ?_ _
          clear hHeld KS
          have b0 := T.Hid.mk ((B0.out.gr d1).other (b' := k3) n0.out (1 + k * 12) (RT.vals y))
          have b1 := T.Hid.mk ((B1.out.gr d1).other (b' := k3) n1.out (1 + k * 12) (RT.vals y))
          have b2 := T.Hid.mk ((B2.out.gr d1).other (b' := k3) n2.out (1 + k * 12) (RT.vals y))
          have b3 := T.Hid.mk (st_set (B3.out.gr d1) k (by omega) y)
          have g := T.Hid.mk ((G.out.trans d1).setCells k3 n3.out (RT.vals y) (1 + k * 12))
          clear d1 B0 B1 B2 B3 G
          go_wp2_with fail
          exact ⟨⟨k + 1, L.set k y, by go_num, by omega, by simp [hL], hs, b0, b1, b2, b3, g⟩, by simp [intOf]; omega⟩
        · have k1 : ¬ (k : Int) < 16 := by omega
          have e : L = List.zipWith G2 A B := List.ext_getElem? (fun i => by
            by_cases q : i < 16
            · exact hall.out i (by omega)
            · rw [List.getElem?_eq_none (by omega), List.getElem?_eq_none (by simp; omega)])
          subst e
          clear hall hlt hk hC B0 B1
          go_upto_region 10 with fail
          have hone := T.Hid.mk (one_stC true (List.zipWith G2 A B))
          have hinf := T.Hid.mk ((show (Try.prog.info? 47).map (·.size) = some (stC true (List.zipWith G2 A B)).length from info_st hL))
          have a3 := T.Hid.mk (B3.out.range)
          have hl9 := T.Hid.mk (show (stC true (List.zipWith G2 A B)).length = (stC false Z16).length by first | rfl | (rw [stC_len hL, stC_len z16_len]))
          have th := T.Hid.mk (show World.there _ (w.heap.size + 1 + 1) 0 (List.toArray (stC true (List.zipWith G2 A B))).size from B2.out.there 0 _ (by rw [List.size_toArray, hl9.out]; omega))
          have s2 := T.Hid.mk (B2.out.setAll (stC true (List.zipWith G2 A B)) hl9.out)
          have hres := T.Hid.mk (G.out.setCells (w.heap.size + 1 + 1) (by omega) (stC true (List.zipWith G2 A B)) 0)
          clear B3 B2 G hl9
          generalize hrow : (stC true (List.zipWith G2 A B)) = row at *
          replace hrow := T.Hid.mk hrow
          refine wp_region_lit ?_
          refine wpList_load_mid rfl _ _ rfl _ 0 rfl row _ a3.out Try.underlying47 rfl hinf.out ?_
          simp only [Act.put, List.setIfInBounds_toArray, List.set_cons_zero, List.set_cons_succ]
          refine wpList_store_mid rfl _ _ _ rfl _ _ (List.toArray row) rfl rfl th.out hinf.out (all_oneCell_toArray hone.out) ?_
          simp only [Act.put]
          have s5 := T.Hid.mk (s2.out.range)
          clear s2 th a3
          generalize World.setCells _ _ _ _ = W5 at *
          have hrun := T.Hid.mk (run_loadVar_mid (P := Try.prog) W5 (w.heap.size + 1 + 1) 0 47 row _ s5.out Try.underlying47 rfl hinf.out)
          clear s5 hinf hone
          go_wp2_with fail
          refine bodyPost_ret (v := .agg row.toArray) ?_ rfl ⟨by rw [hrow.out], hres.out⟩
          exact results_row Try.results41 _ _ rfl hrun.out
set_option maxRecDepth 100000 in
set_option maxHeartbeats 8000000 in
theorem dMergeW_of (F : RT → RT) (G2 : RT → RT → RT) (la : Bool) (A : List RT) (lb : Bool) (B : List RT) (w : World) (hA : A.length = 16) (hB : B.length = 16)
    (hKA : ∀ W, Calls Try.prog 56 #[.agg (stC la A).toArray] W fun x w' => x = .returned (.agg (stC la (kR F la A)).toArray) ∧ Gr W w')
    (hKB : ∀ W, Calls Try.prog 56 #[.agg (stC lb B).toArray] W fun x w' => x = .returned (.agg (stC lb (kR F lb B)).toArray) ∧ Gr W w')
    (hc : ∀ a b, a ∈ A → b ∈ B → ∀ W, Calls Try.prog 57 #[.agg (RT.vals a).toArray, .agg (RT.vals b).toArray, .bool true] W fun x w' => x = .returned (.agg (RT.vals (G2 a b)).toArray) ∧ Gr W w') :
    Calls Try.prog 41 #[.agg (stC la A).toArray, .agg (stC lb B).toArray, .bool true] w fun x w' => x = .returned (.agg (stC (mL la lb) (mR F G2 la A lb B)).toArray) ∧ Gr w w' := by
  replace hKA := T.Hid.mk hKA
  replace hKB := T.Hid.mk hKB
  have hC := T.Hid.mk hc
  clear hc
  cases la
  · rw [show mL false lb = lb from rfl, show mR F G2 false A lb B = kR F lb B from rfl]
    go_enter Try.func41, Try.ntmps41
    go_upto_region 1 with fail
    have B0 : T.Hid (At ((((w).alloc (.cells (stC false A).toArray 47)).alloc (.cells (stC lb B).toArray 47)).alloc (.cells Try.zeroCells47 47)) (w.heap.size) (stC false A).toArray) := T.Hid.mk (((At.at_ w _ _ rfl).alloc _).alloc _)
    have B1 : T.Hid (At ((((w).alloc (.cells (stC false A).toArray 47)).alloc (.cells (stC lb B).toArray 47)).alloc (.cells Try.zeroCells47 47)) (w.heap.size + 1) (stC lb B).toArray) := T.Hid.mk ((At.at_ _ _ _ (by simp)).alloc _)
    have B2 : T.Hid (At ((((w).alloc (.cells (stC false A).toArray 47)).alloc (.cells (stC lb B).toArray 47)).alloc (.cells Try.zeroCells47 47)) (w.heap.size + 1 + 1) (stC false Z16).toArray) := T.Hid.mk (by rw [← zero_st]; exact At.at_ _ _ _ (by simp))
    have G : T.Hid (Gr w ((((w).alloc (.cells (stC false A).toArray 47)).alloc (.cells (stC lb B).toArray 47)).alloc (.cells Try.zeroCells47 47))) := T.Hid.mk ((((Gr.refl w).alloc _).alloc _).alloc _)
    generalize (((w).alloc (.cells (stC false A).toArray 47)).alloc (.cells (stC lb B).toArray 47)).alloc (.cells Try.zeroCells47 47) = W0 at B0 B1 B2 G ⊢
    have c0 := At.headRow B0.out
    go_upto_region 2 with fail
    clear c0 hKA hC B0
    refine wp_region_lit ?_
    refine wpList_plain rfl (fun K hK => ?_)
    refine wp_load_mid _ _ rfl _ 0 rfl (stC lb B) _ B1.out.range Try.underlying47 rfl (info_st hB) (hK _ _ ?_)
    clear hK K
    try simp only [Act.put, List.setIfInBounds_toArray, List.set_cons_zero, List.set_cons_succ]
    refine wpList_plain rfl (fun K hK => ?_)
    go_simp
    (go_at_call 56; refine (hKB.out _).mono ?_; rintro x wq ⟨rfl, q9⟩; replace q9 := T.Hid.mk q9)
    refine hK _ _ ?_
    clear hK K
    try simp only [Act.put, List.setIfInBounds_toArray, List.set_cons_zero, List.set_cons_succ]
    have hl9 := T.Hid.mk (show (stC lb (kR F lb B)).length = (stC false Z16).length by rw [stC_len (kR_len hB), stC_len z16_len])
    have s2 := T.Hid.mk ((B2.out.gr q9.out).setAll (stC lb (kR F lb B)) hl9.out)
    have hres := T.Hid.mk ((G.out.trans q9.out).setCells (w.heap.size + 1 + 1) (by omega) (stC lb (kR F lb B)) 0)
    refine wpList_plain rfl (fun K hK => ?_)
    refine wp_store_mid _ _ _ rfl _ _ (List.toArray (stC lb (kR F lb B))) rfl rfl ((B2.out.gr q9.out).there 0 _ (by rw [List.size_toArray, hl9.out]; omega)) (by rw [List.size_toArray, hl9.out]; exact (info_st z16_len)) (all_oneCell_toArray (one_stC _ _)) (hK _ _ ?_)
    clear hK K
    try simp only [Act.put]
    have s5 := T.Hid.mk (s2.out.range)
    clear s2
    generalize World.setCells _ _ _ _ = W5 at *
    have hrun := T.Hid.mk (run_loadVar_mid (P := Try.prog) W5 (w.heap.size + 1 + 1) 0 47 (stC lb (kR F lb B)) _ s5.out Try.underlying47 rfl (by rw [hl9.out]; exact (info_st z16_len)))
    clear s5 hl9
    go_wp2_with fail
    refine bodyPost_ret (v := .agg (stC lb (kR F lb B)).toArray) ?_ rfl ⟨rfl, hres.out⟩
    exact results_row Try.results41 _ _ rfl hrun.out
  · cases lb
    · rw [show mL true false = true from rfl, show mR F G2 true A false B = kR F true A from rfl]
      go_enter Try.func41, Try.ntmps41
      go_upto_region 1 with fail
      have B0 : T.Hid (At ((((w).alloc (.cells (stC true A).toArray 47)).alloc (.cells (stC false B).toArray 47)).alloc (.cells Try.zeroCells47 47)) (w.heap.size) (stC true A).toArray) := T.Hid.mk (((At.at_ w _ _ rfl).alloc _).alloc _)
      have B1 : T.Hid (At ((((w).alloc (.cells (stC true A).toArray 47)).alloc (.cells (stC false B).toArray 47)).alloc (.cells Try.zeroCells47 47)) (w.heap.size + 1) (stC false B).toArray) := T.Hid.mk ((At.at_ _ _ _ (by simp)).alloc _)
      have B2 : T.Hid (At ((((w).alloc (.cells (stC true A).toArray 47)).alloc (.cells (stC false B).toArray 47)).alloc (.cells Try.zeroCells47 47)) (w.heap.size + 1 + 1) (stC false Z16).toArray) := T.Hid.mk (by rw [← zero_st]; exact At.at_ _ _ _ (by simp))
      have G : T.Hid (Gr w ((((w).alloc (.cells (stC true A).toArray 47)).alloc (.cells (stC false B).toArray 47)).alloc (.cells Try.zeroCells47 47))) := T.Hid.mk ((((Gr.refl w).alloc _).alloc _).alloc _)
      generalize (((w).alloc (.cells (stC true A).toArray 47)).alloc (.cells (stC false B).toArray 47)).alloc (.cells Try.zeroCells47 47) = W0 at B0 B1 B2 G ⊢
      have c0 := At.headRow B0.out
      have c1 := At.headRow B1.out
      go_upto_region 4 with fail
      clear c0 c1 hKB hC B1
      refine wp_region_lit ?_
      refine wpList_plain rfl (fun K hK => ?_)
      refine wp_load_mid _ _ rfl _ 0 rfl (stC true A) _ B0.out.range Try.underlying47 rfl (info_st hA) (hK _ _ ?_)
      clear hK K
      try simp only [Act.put, List.setIfInBounds_toArray, List.set_cons_zero, List.set_cons_succ]
      refine wpList_plain rfl (fun K hK => ?_)
      go_simp
      (go_at_call 56; refine (hKA.out _).mono ?_; rintro x wq ⟨rfl, q9⟩; replace q9 := T.Hid.mk q9)
      refine hK _ _ ?_
      clear hK K
      try simp only [Act.put, List.setIfInBounds_toArray, List.set_cons_zero, List.set_cons_succ]
      have hl9 := T.Hid.mk (show (stC true (kR F true A)).length = (stC false Z16).length by rw [stC_len (kR_len hA), stC_len z16_len])
      have s2 := T.Hid.mk ((B2.out.gr q9.out).setAll (stC true (kR F true A)) hl9.out)
      have hres := T.Hid.mk ((G.out.trans q9.out).setCells (w.heap.size + 1 + 1) (by omega) (stC true (kR F true A)) 0)
      refine wpList_plain rfl (fun K hK => ?_)
      refine wp_store_mid _ _ _ rfl _ _ (List.toArray (stC true (kR F true A))) rfl rfl ((B2.out.gr q9.out).there 0 _ (by rw [List.size_toArray, hl9.out]; omega)) (by rw [List.size_toArray, hl9.out]; exact (info_st z16_len)) (all_oneCell_toArray (one_stC _ _)) (hK _ _ ?_)
      clear hK K
      try simp only [Act.put]
      have s5 := T.Hid.mk (s2.out.range)
      clear s2
      generalize World.setCells _ _ _ _ = W5 at *
      have hrun := T.Hid.mk (run_loadVar_mid (P := Try.prog) W5 (w.heap.size + 1 + 1) 0 47 (stC true (kR F true A)) _ s5.out Try.underlying47 rfl (by rw [hl9.out]; exact (info_st z16_len)))
      clear s5 hl9
      go_wp2_with fail
      refine bodyPost_ret (v := .agg (stC true (kR F true A)).toArray) ?_ rfl ⟨rfl, hres.out⟩
      exact results_row Try.results41 _ _ rfl hrun.out
    · rw [show mL true true = true from rfl, show mR F G2 true A true B = List.zipWith G2 A B from rfl]
      go_enter Try.func41, Try.ntmps41
      go_upto_region 1 with fail
      have B0 : T.Hid (At ((((w).alloc (.cells (stC true A).toArray 47)).alloc (.cells (stC true B).toArray 47)).alloc (.cells Try.zeroCells47 47)) (w.heap.size) (stC true A).toArray) := T.Hid.mk (((At.at_ w _ _ rfl).alloc _).alloc _)
      have B1 : T.Hid (At ((((w).alloc (.cells (stC true A).toArray 47)).alloc (.cells (stC true B).toArray 47)).alloc (.cells Try.zeroCells47 47)) (w.heap.size + 1) (stC true B).toArray) := T.Hid.mk ((At.at_ _ _ _ (by simp)).alloc _)
      have B2 : T.Hid (At ((((w).alloc (.cells (stC true A).toArray 47)).alloc (.cells (stC true B).toArray 47)).alloc (.cells Try.zeroCells47 47)) (w.heap.size + 1 + 1) (stC false Z16).toArray) := T.Hid.mk (by rw [← zero_st]; exact At.at_ _ _ _ (by simp))
      have G : T.Hid (Gr w ((((w).alloc (.cells (stC true A).toArray 47)).alloc (.cells (stC true B).toArray 47)).alloc (.cells Try.zeroCells47 47))) := T.Hid.mk ((((Gr.refl w).alloc _).alloc _).alloc _)
      generalize (((w).alloc (.cells (stC true A).toArray 47)).alloc (.cells (stC true B).toArray 47)).alloc (.cells Try.zeroCells47 47) = W0 at B0 B1 B2 G ⊢
      have c0 := At.headRow B0.out
      have c1 := At.headRow B1.out
      go_upto_region 5 with fail
      clear c0 c1 hKA hKB
      refine wp_region_lit ?_
      refine wpList_plain rfl (fun K hK => ?_)
      go_simp
      refine hK _ _ ?_
      clear hK K
      try simp only [Act.put, List.setIfInBounds_toArray, List.set_cons_zero, List.set_cons_succ]
      refine wpList_plain rfl (fun K hK => ?_)
      go_simp
      refine hK _ _ ?_
      clear hK K
      try simp only [Act.put, List.setIfInBounds_toArray, List.set_cons_zero, List.set_cons_succ]
      rw [zero_true]
      have b3 : T.Hid (At (W0.alloc (.cells Try.zeroCells47 47)) W0.heap.size (stC false Z16).toArray) := T.Hid.mk (by rw [← zero_st]; exact At.new _ _ _)
      refine wpList_plain rfl (fun K hK => ?_)
      refine wp_store_mid _ _ _ rfl _ _ (List.toArray (stC true Z16)) rfl rfl (b3.out.there 0 _ (by rw [List.size_toArray, stC_len z16_len, stC_len z16_len]; omega)) (by rw [List.size_toArray]; exact info_st z16_len) (all_oneCell_toArray (one_stC _ _)) (hK _ _ ?_)
      clear hK K
      try simp only [Act.put]
      have e0 := T.Hid.mk ((B0.out.alloc (.cells Try.zeroCells47 47)).other (b' := W0.heap.size) (Nat.ne_of_lt B0.out.1) 0 (stC true Z16))
      have e1 := T.Hid.mk ((B1.out.alloc (.cells Try.zeroCells47 47)).other (b' := W0.heap.size) (Nat.ne_of_lt B1.out.1) 0 (stC true Z16))
      have e2 := T.Hid.mk ((B2.out.alloc (.cells Try.zeroCells47 47)).other (b' := W0.heap.size) (Nat.ne_of_lt B2.out.1) 0 (stC true Z16))
      have e3 := T.Hid.mk (b3.out.setAll (stC true Z16) rfl)
      have eg := T.Hid.mk ((G.out.alloc (.cells Try.zeroCells47 47)).setCells W0.heap.size G.out.below.size (stC true Z16) 0)
      have n0 : w.heap.size ≠ W0.heap.size := Nat.ne_of_lt B0.out.1
      have n1 : w.heap.size + 1 ≠ W0.heap.size := Nat.ne_of_lt B1.out.1
      have n2 : w.heap.size + 1 + 1 ≠ W0.heap.size := Nat.ne_of_lt B2.out.1
      have n3 : w.heap.size ≤ W0.heap.size := G.out.below.size
      clear B0 B1 B2 G b3
      generalize World.setCells _ _ _ _ = W1 at *
      generalize W0.heap.size = k3 at *
      replace n0 := T.Hid.mk n0
      replace n1 := T.Hid.mk n1
      replace n2 := T.Hid.mk n2
      replace n3 := T.Hid.mk n3
      go_upto_region 7 with fail
      generalize Value.agg (stC true A).toArray = va
      try generalize Value.agg (stC true B).toArray = vb
      generalize Value.agg (stC true Z16).toArray = vz
      go_loopw [8] (fun i wr => ∃ (k : Nat) (L : List RT), i = .int .i64 k ∧ k ≤ 16 ∧ L.length = 16 ∧ T.Hid (∀ i, i < k → L[i]? = (List.zipWith G2 A B)[i]?) ∧ T.Hid (At wr w.heap.size (stC true A).toArray) ∧ T.Hid (At wr (w.heap.size + 1) (stC true B).toArray) ∧ T.Hid (At wr (w.heap.size + 1 + 1) (stC false Z16).toArray) ∧ T.Hid (At wr k3 (stC true L).toArray) ∧ T.Hid (Gr w wr)) (fun i _ => 16 - (intOf i).toNat)
      case atStart => exact ⟨0, Z16, rfl, by omega, rfl, T.Hid.mk (fun i h => by omega), e0, e1, e2, e3, eg⟩
      case round =>
        clear e0 e1 e2 e3 eg
        obtain ⟨k, L, rfl, hk, hL, hall, B0, B1, B2, B3, G⟩ := hrel
        by_cases hlt : k < 16
        · have ha : k < A.length := by omega
          have hb : k < B.length := by omega
          have h1 := T.Hid.mk (fun W => hC.out A[k] B[k] (List.getElem_mem ha) (List.getElem_mem hb) W)
          have k1 : (k : Int) < 16 := by omega
          have KS : T.Hid (∀ W, Gr wr W → W.rangeAt w.heap.size (1 + k * 12) (RT.vals A[k]) ∧ W.rangeAt (w.heap.size + 1) (1 + k * 12) (RT.vals B[k])) := T.Hid.mk (fun W g => ⟨st_elem (B0.out.gr g) k ha, st_elem (B1.out.gr g) k hb⟩)
          have hs : T.Hid (∀ i, i < k + 1 → (L.set k (G2 A[k] B[k]))[i]? = (List.zipWith G2 A B)[i]?) := T.Hid.mk (fun i hi => by
            by_cases q : i = k
            · subst q
              rw [List.getElem?_set_self (by omega), List.getElem?_zipWith, List.getElem?_eq_getElem ha, List.getElem?_eq_getElem hb]
            · rw [List.getElem?_set_ne (by omega)]
              exact hall.out i (by omega))
          generalize G2 A[k] B[k] = y at *
          go_upto_region 9 with fail
          have d1 : Gr wr wr.drew := (Gr.refl _).drew
          refine wp_region_held_drew (S := (fun W => W.rangeAt w.heap.size (1 + k * 12) (RT.vals A[k]) ∧ W.rangeAt (w.heap.size + 1) (1 + k * 12) (RT.vals B[k]))) (by kernel_rfl) (KS.out _ d1) (fun hHeld => ?_)
          refine wpAnyH_take (i := 0) (oi := { dst := some 24, op := Op.move (Operand.tmp 8), type := 3, pos := "ref.go:213", after := #[], guard := none }) (v := ?_) rfl (by kernel_rfl) (by kernel_rfl) (by kernel_rfl) (fun _ _ _ h => h) (Or.inl ⟨by rfl, ?_⟩) (by assumption) ?_
          rotate_left
          · intro w hSw; (try dsimp only at hSw); go_simp; first | done | with_reducible rfl
          try simp only [Act.put, List.setIfInBounds_toArray, List.set_cons_zero, List.set_cons_succ]
          refine wpAnyH_take (i := 1) (oi := { dst := some 25, op := Op.move (Operand.tmp 8), type := 3, pos := "ref.go:213", after := #[], guard := none }) (v := ?_) rfl (by kernel_rfl) (by kernel_rfl) (by kernel_rfl) (fun _ _ _ h => h) (Or.inl ⟨by rfl, ?_⟩) (by assumption) ?_
          rotate_left
          · intro w hSw; (try dsimp only at hSw); go_simp; first | done | with_reducible rfl
          try simp only [Act.put, List.setIfInBounds_toArray, List.set_cons_zero, List.set_cons_succ]
          refine wpAnyH_take (i := 2) (oi := { dst := some 26, op := Op.fieldAddr 47 (Operand.tmp 3) 1, type := 0, pos := "ref.go:213", after := #[], guard := none }) (v := ?_) rfl (by kernel_rfl) (by kernel_rfl) (by kernel_rfl) (fun _ _ _ h => h) (Or.inl ⟨by rfl, ?_⟩) (by assumption) ?_
          rotate_left
          · intro w hSw; (try dsimp only at hSw); go_simp; first | done | with_reducible rfl
          try simp only [Act.put, List.setIfInBounds_toArray, List.set_cons_zero, List.set_cons_succ]
          refine wpAnyH_take (i := 3) (oi := { dst := some 27, op := Op.indexAddr 45 (Operand.tmp 26) (Operand.tmp 25), type := 0, pos := "ref.go:213", after := #[{ on := 2, ground := Ground.data }, { on := 1, ground := Ground.data }], guard := none }) (v := ?_) rfl (by kernel_rfl) (by kernel_rfl) (by kernel_rfl) (fun _ _ _ h => h) (Or.inl ⟨by rfl, ?_⟩) (by assumption) ?_
          rotate_left
          · intro w hSw; (try dsimp only at hSw); go_simp; first | done | with_reducible rfl
          try simp only [Act.put, List.setIfInBounds_toArray, List.set_cons_zero, List.set_cons_succ]
          refine wpAnyH_take (i := 4) (oi := { dst := some 28, op := Op.load 28 (Operand.tmp 27), type := 28, pos := "ref.go:213", after := #[{ on := 3, ground := Ground.data }], guard := none }) (v := _) rfl (by kernel_rfl) (by kernel_rfl) (by kernel_rfl) (fun _ _ _ h => h) (yieldsIf_load_mid (by rfl) _ _ rfl _ _ rfl _ _ (fun _ h => h.1) Try.underlying28 rfl info28) (by assumption) ?_
          try simp only [Act.put, List.setIfInBounds_toArray, List.set_cons_zero, List.set_cons_succ]
          refine wpAnyH_take (i := 5) (oi := { dst := some 29, op := Op.move (Operand.tmp 8), type := 3, pos := "ref.go:213", after := #[], guard := none }) (v := ?_) rfl (by kernel_rfl) (by kernel_rfl) (by kernel_rfl) (fun _ _ _ h => h) (Or.inl ⟨by rfl, ?_⟩) (by assumption) ?_
          rotate_left
          · intro w hSw; (try dsimp only at hSw); go_simp; first | done | with_reducible rfl
          try simp only [Act.put, List.setIfInBounds_toArray, List.set_cons_zero, List.set_cons_succ]
          refine wpAnyH_take (i := 6) (oi := { dst := some 30, op := Op.fieldAddr 47 (Operand.tmp 4) 1, type := 0, pos := "ref.go:213", after := #[], guard := none }) (v := ?_) rfl (by kernel_rfl) (by kernel_rfl) (by kernel_rfl) (fun _ _ _ h => h) (Or.inl ⟨by rfl, ?_⟩) (by assumption) ?_
          rotate_left
          · intro w hSw; (try dsimp only at hSw); go_simp; first | done | with_reducible rfl
          try simp only [Act.put, List.setIfInBounds_toArray, List.set_cons_zero, List.set_cons_succ]
          refine wpAnyH_take (i := 7) (oi := { dst := some 31, op := Op.indexAddr 45 (Operand.tmp 30) (Operand.tmp 29), type := 0, pos := "ref.go:213", after := #[{ on := 6, ground := Ground.data }, { on := 5, ground := Ground.data }], guard := none }) (v := ?_) rfl (by kernel_rfl) (by kernel_rfl) (by kernel_rfl) (fun _ _ _ h => h) (Or.inl ⟨by rfl, ?_⟩) (by assumption) ?_
          rotate_left
          · intro w hSw; (try dsimp only at hSw); go_simp; first | done | with_reducible rfl
          try simp only [Act.put, List.setIfInBounds_toArray, List.set_cons_zero, List.set_cons_succ]
          refine wpAnyH_take (i := 8) (oi := { dst := some 32, op := Op.load 28 (Operand.tmp 31), type := 28, pos := "ref.go:213", after := #[{ on := 7, ground := Ground.data }], guard := none }) (v := _) rfl (by kernel_rfl) (by kernel_rfl) (by kernel_rfl) (fun _ _ _ h => h) (yieldsIf_load_mid (by rfl) _ _ rfl _ _ rfl _ _ (fun _ h => h.2) Try.underlying28 rfl info28) (by assumption) ?_
          try simp only [Act.put, List.setIfInBounds_toArray, List.set_cons_zero, List.set_cons_succ]
          refine wpAnyH_take (i := 9) (oi := { dst := some 33, op := Op.move (Operand.tmp 2), type := 4, pos := "ref.go:213", after := #[], guard := none }) (v := ?_) rfl (by kernel_rfl) (by kernel_rfl) (by kernel_rfl) (fun _ _ _ h => h) (Or.inl ⟨by rfl, ?_⟩) (by assumption) ?_
          rotate_left
          · intro w hSw; (try dsimp only at hSw); go_simp; first | done | with_reducible rfl
          try simp only [Act.put, List.setIfInBounds_toArray, List.set_cons_zero, List.set_cons_succ]
          refine wpAnyH_take (i := 11) (oi := { dst := some 35, op := Op.fieldAddr 47 (Operand.tmp 7) 1, type := 0, pos := "ref.go:213", after := #[], guard := none }) (v := ?_) rfl (by kernel_rfl) (by kernel_rfl) (by kernel_rfl) (fun _ _ _ h => h) (Or.inl ⟨by rfl, ?_⟩) (by assumption) ?_
          rotate_left
          · intro w hSw; (try dsimp only at hSw); go_simp; first | done | with_reducible rfl
          try simp only [Act.put, List.setIfInBounds_toArray, List.set_cons_zero, List.set_cons_succ]
          refine wpAnyH_ready (rs := [10]) (by kernel_rfl) (by simp) ?_
          refine AllReadyH.cons (o := { dst := some 34, op := Op.call { callee := Callee.value (Operand.func 57), args := #[Operand.tmp 28, Operand.tmp 32, Operand.tmp 33], argTypes := #[28, 28, 4] }, type := 28, pos := "ref.go:213", after := #[{ on := 4, ground := Ground.data }, { on := 8, ground := Ground.data }, { on := 9, ground := Ground.data }], guard := none }) rfl (fun K hK => ?_) AllReadyH.nil
          go_simp
          go_wp2_with ((go_at_call 57; refine (h1.out _).mono ?_; rintro x wq ⟨rfl, q9⟩; have d1 : Gr wr wq := Gr.trans (by (repeat (first | with_reducible assumption | with_reducible exact Gr.refl _ | with_reducible refine Gr.drew ?_ | with_reducible refine Gr.alloc ?_ _))) q9; clear q9))
          refine hK.out _ _ (KS.out _ d1) (fun hHeld => ?_)
          clear hK K
          try simp only [Act.put, List.setIfInBounds_toArray, List.set_cons_zero, List.set_cons_succ]
          refine wpAnyH_take (i := 12) (oi := { dst := some 36, op := Op.indexAddr 45 (Operand.tmp 35) (Operand.tmp 24), type := 0, pos := "ref.go:213", after := #[{ on := 11, ground := Ground.data }, { on := 0, ground := Ground.data }, { on := 0, ground := Ground.phase }, { on := 1, ground := Ground.phase }, { on := 2, ground := Ground.phase }, { on := 3, ground := Ground.phase }, { on := 4, ground := Ground.phase }, { on := 5, ground := Ground.phase }, { on := 6, ground := Ground.phase }, { on := 7, ground := Ground.phase }, { on := 8, ground := Ground.phase }, { on := 9, ground := Ground.phase }, { on := 10, ground := Ground.phase }], guard := none }) (v := ?_) rfl (by kernel_rfl) (by kernel_rfl) (by kernel_rfl) (fun _ _ _ h => h) (Or.inl ⟨by rfl, ?_⟩) (by assumption) ?_
          rotate_left
          · intro w hSw; (try dsimp only at hSw); go_simp; first | done | with_reducible rfl
          try simp only [Act.put, List.setIfInBounds_toArray, List.set_cons_zero, List.set_cons_succ]
          refine wpAnyH_ready (rs := [13]) (by kernel_rfl) (by simp) ?_
          refine AllReadyH.cons (o := { dst := none, op := Op.store 28 (Operand.tmp 36) (Operand.tmp 34), type := 0, pos := "ref.go:213", after := #[{ on := 12, ground := Ground.data }, { on := 10, ground := Ground.data }, { on := 10, ground := Ground.chain }, { on := 0, ground := Ground.phase }, { on := 1, ground := Ground.phase }, { on := 2, ground := Ground.phase }, { on := 3, ground := Ground.phase }, { on := 4, ground := Ground.phase }, { on := 5, ground := Ground.phase }, { on := 6, ground := Ground.phase }, { on := 7, ground := Ground.phase }, { on := 8, ground := Ground.phase }, { on := 9, ground := Ground.phase }, { on := 10, ground := Ground.phase }], guard := none }) rfl (fun K hK => ?_) AllReadyH.nil
          rw [if_pos (by rfl)]
          refine wp_store_mid _ _ _ rfl _ _ (List.toArray _) rfl rfl (st_there (B3.out.gr d1) hL k hlt) (info28) (all_oneCell_toArray (one_rt _)) ?_
          refine hK.out _ _ (⟨World.rangeAt_setCells_apart (KS.out _ d1).1 _ _ _ (.inl n0.out), World.rangeAt_setCells_apart (KS.out _ d1).2 _ _ _ (.inl n1.out)⟩) (fun hHeld => ?_)
          clear hK K
          try simp only [Act.put]
          refine wpAnyH_done (by kernel_rfl) ?_ _
          clear hHeld KS
          have b0 := T.Hid.mk ((B0.out.gr d1).other (b' := k3) n0.out (1 + k * 12) (RT.vals y))
          have b1 := T.Hid.mk ((B1.out.gr d1).other (b' := k3) n1.out (1 + k * 12) (RT.vals y))
          have b2 := T.Hid.mk ((B2.out.gr d1).other (b' := k3) n2.out (1 + k * 12) (RT.vals y))
          have b3 := T.Hid.mk (st_set (B3.out.gr d1) k (by omega) y)
          have g := T.Hid.mk ((G.out.trans d1).setCells k3 n3.out (RT.vals y) (1 + k * 12))
          clear d1 B0 B1 B2 B3 G
          go_wp2_with fail
          exact ⟨⟨k + 1, L.set k y, by go_num, by omega, by simp [hL], hs, b0, b1, b2, b3, g⟩, by simp [intOf]; omega⟩
        · have k1 : ¬ (k : Int) < 16 := by omega
          have e : L = List.zipWith G2 A B := List.ext_getElem? (fun i => by
            by_cases q : i < 16
            · exact hall.out i (by omega)
            · rw [List.getElem?_eq_none (by omega), List.getElem?_eq_none (by simp; omega)])
          subst e
          clear hall hlt hk hC B0 B1
          go_upto_region 10 with fail
          have hone := T.Hid.mk (one_stC true (List.zipWith G2 A B))
          have hinf := T.Hid.mk ((show (Try.prog.info? 47).map (·.size) = some (stC true (List.zipWith G2 A B)).length from info_st hL))
          have a3 := T.Hid.mk (B3.out.range)
          have hl9 := T.Hid.mk (show (stC true (List.zipWith G2 A B)).length = (stC false Z16).length by first | rfl | (rw [stC_len hL, stC_len z16_len]))
          have th := T.Hid.mk (show World.there _ (w.heap.size + 1 + 1) 0 (List.toArray (stC true (List.zipWith G2 A B))).size from B2.out.there 0 _ (by rw [List.size_toArray, hl9.out]; omega))
          have s2 := T.Hid.mk (B2.out.setAll (stC true (List.zipWith G2 A B)) hl9.out)
          have hres := T.Hid.mk (G.out.setCells (w.heap.size + 1 + 1) (by omega) (stC true (List.zipWith G2 A B)) 0)
          clear B3 B2 G hl9
          generalize hrow : (stC true (List.zipWith G2 A B)) = row at *
          replace hrow := T.Hid.mk hrow
          refine wp_region_lit ?_
          refine wpList_load_mid rfl _ _ rfl _ 0 rfl row _ a3.out Try.underlying47 rfl hinf.out ?_
          simp only [Act.put, List.setIfInBounds_toArray, List.set_cons_zero, List.set_cons_succ]
          refine wpList_store_mid rfl _ _ _ rfl _ _ (List.toArray row) rfl rfl th.out hinf.out (all_oneCell_toArray hone.out) ?_
          simp only [Act.put]
          have s5 := T.Hid.mk (s2.out.range)
          clear s2 th a3
          generalize World.setCells _ _ _ _ = W5 at *
          have hrun := T.Hid.mk (run_loadVar_mid (P := Try.prog) W5 (w.heap.size + 1 + 1) 0 47 row _ s5.out Try.underlying47 rfl hinf.out)
          clear s5 hinf hone
          go_wp2_with fail
          refine bodyPost_ret (v := .agg row.toArray) ?_ rfl ⟨by rw [hrow.out], hres.out⟩
          exact results_row Try.results41 _ _ rfl hrun.out
end R
end Go.Proofs.Ytbbpbfbifgfjdaa
