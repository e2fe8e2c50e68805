/-
  Stage 9, regtype: UnderState, Allows: the document's.
-/
import Derived.Test.YtbbpbfbifgfjdaaRUnS
import Derived.Test.YtbbpbfbifgfjdaaRAlS
import Derived.Test.YtbbpbfbifgfjdaaRRefU
import Derived.Test.YtbbpbfbifgfjdaaRRefH
namespace Go.Proofs.Ytbbpbfbifgfjdaa
namespace R
open Go.RowKit

theorem st_elem {l : Bool} {L : List RT} {w : World} {b : Nat} (h : At w b (stC l L).toArray) (k : Nat) (hk : k < L.length) : w.rangeAt b (1 + k * 12) (RT.vals L[k]) := At.elem rt_len (pre := [.bool l]) h k hk _ (by simp)
set_option maxRecDepth 100000 in
set_option maxHeartbeats 4000000 in
theorem dUnderState_of (U : RT → RT → Bool) (la : Bool) (A : List RT) (lb : Bool) (B : List RT) (w : World) (hA : A.length = 16) (hB : B.length = 16)
    (hc : ∀ a b, a ∈ A → b ∈ B → ∀ W, Calls Try.prog 40 #[.agg (RT.vals a).toArray, .agg (RT.vals b).toArray] W fun x w' => x = .returned (.bool (U a b)) ∧ Gr W w') :
    Calls Try.prog 18 #[.agg (stC la A).toArray, .agg (stC lb B).toArray] w fun x w' => x = .returned (.bool (uS U la A lb B)) ∧ Gr w w' := by
  have hC := T.Hid.mk hc
  clear hc
  unfold uS
  cases la
  · clear hC hA hB
    generalize all2 U A B = u at *
    go_enter Try.func18, Try.ntmps18
    go_upto_region 1 with fail
    have B0 : T.Hid (At (((w).alloc (.cells (stC false A).toArray 47)).alloc (.cells (stC lb B).toArray 47)) (w.heap.size) (stC false A).toArray) := T.Hid.mk ((At.at_ w _ _ rfl).alloc _)
    have B1 : T.Hid (At (((w).alloc (.cells (stC false A).toArray 47)).alloc (.cells (stC lb B).toArray 47)) (w.heap.size + 1) (stC lb B).toArray) := T.Hid.mk (At.at_ _ _ _ (by simp))
    have G : T.Hid (Gr w (((w).alloc (.cells (stC false A).toArray 47)).alloc (.cells (stC lb B).toArray 47))) := T.Hid.mk (((Gr.refl w).alloc _).alloc _)
    generalize ((w).alloc (.cells (stC false A).toArray 47)).alloc (.cells (stC lb B).toArray 47) = W0 at B0 B1 G ⊢
    have c0 := At.headRow B0.out
    have c1 := At.headRow B1.out
    go_wp2_with fail
    go_ret
    exact ⟨ret_bool (by simp), G.out⟩
  · cases lb
    · clear hC hA hB
      generalize all2 U A B = u at *
      go_enter Try.func18, Try.ntmps18
      go_upto_region 1 with fail
      have B0 : T.Hid (At (((w).alloc (.cells (stC true A).toArray 47)).alloc (.cells (stC false B).toArray 47)) (w.heap.size) (stC true A).toArray) := T.Hid.mk ((At.at_ w _ _ rfl).alloc _)
      have B1 : T.Hid (At (((w).alloc (.cells (stC true A).toArray 47)).alloc (.cells (stC false B).toArray 47)) (w.heap.size + 1) (stC false B).toArray) := T.Hid.mk (At.at_ _ _ _ (by simp))
      have G : T.Hid (Gr w (((w).alloc (.cells (stC true A).toArray 47)).alloc (.cells (stC false B).toArray 47))) := T.Hid.mk (((Gr.refl w).alloc _).alloc _)
      generalize ((w).alloc (.cells (stC true A).toArray 47)).alloc (.cells (stC false B).toArray 47) = W0 at B0 B1 G ⊢
      have c0 := At.headRow B0.out
      have c1 := At.headRow B1.out
      go_wp2_with fail
      go_ret
      exact ⟨ret_bool (by simp), G.out⟩
    · rw [show (!true || (true && all2 U A B)) = all2 U A B from rfl]
      go_enter Try.func18, Try.ntmps18
      go_upto_region 1 with fail
      have B0 : T.Hid (At (((w).alloc (.cells (stC true A).toArray 47)).alloc (.cells (stC true B).toArray 47)) (w.heap.size) (stC true A).toArray) := T.Hid.mk ((At.at_ w _ _ rfl).alloc _)
      have B1 : T.Hid (At (((w).alloc (.cells (stC true A).toArray 47)).alloc (.cells (stC true B).toArray 47)) (w.heap.size + 1) (stC true B).toArray) := T.Hid.mk (At.at_ _ _ _ (by simp))
      have G : T.Hid (Gr w (((w).alloc (.cells (stC true A).toArray 47)).alloc (.cells (stC true B).toArray 47))) := T.Hid.mk (((Gr.refl w).alloc _).alloc _)
      generalize ((w).alloc (.cells (stC true A).toArray 47)).alloc (.cells (stC true B).toArray 47) = W0 at B0 B1 G ⊢
      have c0 := At.headRow B0.out
      have c1 := At.headRow B1.out
      go_upto_region 4 with fail
      clear c0 c1
      generalize Value.agg (stC true A).toArray = va
      try generalize Value.agg (stC true B).toArray = vb
      go_loopw [5] (fun i wr => ∃ k : Nat, i = .int .i64 k ∧ k ≤ 16 ∧ T.Hid (allTo U A B k) ∧ T.Hid (At wr w.heap.size (stC true A).toArray) ∧ T.Hid (At wr (w.heap.size + 1) (stC true B).toArray) ∧ T.Hid (Gr w wr)) (fun i _ => 16 - (intOf i).toNat)
      case atStart => exact ⟨0, rfl, by omega, T.Hid.mk (fun i h => by omega), B0, B1, G⟩
      case round =>
        clear B0 B1 G
        obtain ⟨k, rfl, hk, hall, B0, B1, G⟩ := hrel
        by_cases hlt : k < 16
        · have ha : k < A.length := by omega
          have hb : k < B.length := by omega
          have h1 := T.Hid.mk (fun W => hC.out A[k] B[k] (List.getElem_mem ha) (List.getElem_mem hb) W)
          have k1 : (k : Int) < 16 := by omega
          have KS : T.Hid (∀ W, Gr wr W → W.rangeAt w.heap.size (1 + k * 12) (RT.vals A[k]) ∧ W.rangeAt (w.heap.size + 1) (1 + k * 12) (RT.vals B[k])) := T.Hid.mk (fun W g => ⟨st_elem (B0.out.gr g) k ha, st_elem (B1.out.gr g) k hb⟩)
          have hu : T.Hid (U A[k] B[k] = false → all2 U A B = false) := T.Hid.mk (fun h => by
            rw [Bool.eq_false_iff]
            intro q
            rw [all2_iff] at q
            have := q k ha hb
            rw [h] at this
            cases this)
          have hs : T.Hid (U A[k] B[k] = true → allTo U A B (k + 1)) := T.Hid.mk (fun h i hi ha' hb' => by
            rcases Nat.lt_succ_iff_lt_or_eq.1 hi with q | q
            · exact hall.out i q ha' hb'
            · subst q; exact h)
          generalize U A[k] B[k] = u at *
          go_upto_region 6 with fail
          have d1 : Gr wr wr.drew := (Gr.refl _).drew
          refine wp_region_held_drew (S := (fun W => W.rangeAt w.heap.size (1 + k * 12) (RT.vals A[k]) ∧ W.rangeAt (w.heap.size + 1) (1 + k * 12) (RT.vals B[k]))) (by kernel_rfl) (KS.out _ d1) (fun hHeld => ?_)
          refine wpAnyH_take (i := 0) (oi := { dst := some 22, op := Op.move (Operand.tmp 5), type := 3, pos := "ref.go:196", after := #[], guard := none }) (v := ?_) rfl (by kernel_rfl) (by kernel_rfl) (by kernel_rfl) (fun _ _ _ h => h) (Or.inl ⟨by rfl, ?_⟩) (by assumption) ?_
          rotate_left
          · intro w hSw; (try dsimp only at hSw); go_simp; first | done | with_reducible rfl
          try simp only [Act.put, List.setIfInBounds_toArray, List.set_cons_zero, List.set_cons_succ]
          refine wpAnyH_take (i := 1) (oi := { dst := some 23, op := Op.fieldAddr 47 (Operand.tmp 2) 1, type := 0, pos := "ref.go:196", after := #[], guard := none }) (v := ?_) rfl (by kernel_rfl) (by kernel_rfl) (by kernel_rfl) (fun _ _ _ h => h) (Or.inl ⟨by rfl, ?_⟩) (by assumption) ?_
          rotate_left
          · intro w hSw; (try dsimp only at hSw); go_simp; first | done | with_reducible rfl
          try simp only [Act.put, List.setIfInBounds_toArray, List.set_cons_zero, List.set_cons_succ]
          refine wpAnyH_take (i := 2) (oi := { dst := some 24, op := Op.indexAddr 45 (Operand.tmp 23) (Operand.tmp 22), type := 0, pos := "ref.go:196", after := #[{ on := 1, ground := Ground.data }, { on := 0, ground := Ground.data }], guard := none }) (v := ?_) rfl (by kernel_rfl) (by kernel_rfl) (by kernel_rfl) (fun _ _ _ h => h) (Or.inl ⟨by rfl, ?_⟩) (by assumption) ?_
          rotate_left
          · intro w hSw; (try dsimp only at hSw); go_simp; first | done | with_reducible rfl
          try simp only [Act.put, List.setIfInBounds_toArray, List.set_cons_zero, List.set_cons_succ]
          refine wpAnyH_take (i := 3) (oi := { dst := some 25, op := Op.load 28 (Operand.tmp 24), type := 28, pos := "ref.go:196", after := #[{ on := 2, ground := Ground.data }], guard := none }) (v := _) rfl (by kernel_rfl) (by kernel_rfl) (by kernel_rfl) (fun _ _ _ h => h) (yieldsIf_load_mid (by rfl) _ _ rfl _ _ rfl _ _ (fun _ h => h.1) Try.underlying28 rfl info28) (by assumption) ?_
          try simp only [Act.put, List.setIfInBounds_toArray, List.set_cons_zero, List.set_cons_succ]
          refine wpAnyH_take (i := 4) (oi := { dst := some 26, op := Op.move (Operand.tmp 5), type := 3, pos := "ref.go:196", after := #[], guard := none }) (v := ?_) rfl (by kernel_rfl) (by kernel_rfl) (by kernel_rfl) (fun _ _ _ h => h) (Or.inl ⟨by rfl, ?_⟩) (by assumption) ?_
          rotate_left
          · intro w hSw; (try dsimp only at hSw); go_simp; first | done | with_reducible rfl
          try simp only [Act.put, List.setIfInBounds_toArray, List.set_cons_zero, List.set_cons_succ]
          refine wpAnyH_take (i := 5) (oi := { dst := some 27, op := Op.fieldAddr 47 (Operand.tmp 3) 1, type := 0, pos := "ref.go:196", after := #[], guard := none }) (v := ?_) rfl (by kernel_rfl) (by kernel_rfl) (by kernel_rfl) (fun _ _ _ h => h) (Or.inl ⟨by rfl, ?_⟩) (by assumption) ?_
          rotate_left
          · intro w hSw; (try dsimp only at hSw); go_simp; first | done | with_reducible rfl
          try simp only [Act.put, List.setIfInBounds_toArray, List.set_cons_zero, List.set_cons_succ]
          refine wpAnyH_take (i := 6) (oi := { dst := some 28, op := Op.indexAddr 45 (Operand.tmp 27) (Operand.tmp 26), type := 0, pos := "ref.go:196", after := #[{ on := 5, ground := Ground.data }, { on := 4, ground := Ground.data }], guard := none }) (v := ?_) rfl (by kernel_rfl) (by kernel_rfl) (by kernel_rfl) (fun _ _ _ h => h) (Or.inl ⟨by rfl, ?_⟩) (by assumption) ?_
          rotate_left
          · intro w hSw; (try dsimp only at hSw); go_simp; first | done | with_reducible rfl
          try simp only [Act.put, List.setIfInBounds_toArray, List.set_cons_zero, List.set_cons_succ]
          refine wpAnyH_take (i := 7) (oi := { dst := some 29, op := Op.load 28 (Operand.tmp 28), type := 28, pos := "ref.go:196", after := #[{ on := 6, ground := Ground.data }], guard := none }) (v := _) rfl (by kernel_rfl) (by kernel_rfl) (by kernel_rfl) (fun _ _ _ h => h) (yieldsIf_load_mid (by rfl) _ _ rfl _ _ rfl _ _ (fun _ h => h.2) Try.underlying28 rfl info28) (by assumption) ?_
          try simp only [Act.put, List.setIfInBounds_toArray, List.set_cons_zero, List.set_cons_succ]
          refine wpAnyH_ready (rs := [8]) (by kernel_rfl) (by simp) ?_
          refine AllReadyH.cons (o := { dst := some 30, op := Op.call { callee := Callee.value (Operand.func 40), args := #[Operand.tmp 25, Operand.tmp 29], argTypes := #[28, 28] }, type := 4, pos := "ref.go:196", after := #[{ on := 3, ground := Ground.data }, { on := 7, ground := Ground.data }], guard := none }) rfl (fun K hK => ?_) AllReadyH.nil
          go_simp
          go_wp2_with ((go_at_call 40; refine (h1.out _).mono ?_; rintro x wq ⟨rfl, q9⟩; have d1 : Gr wr wq := Gr.trans (by (repeat (first | with_reducible assumption | with_reducible exact Gr.refl _ | with_reducible refine Gr.drew ?_ | with_reducible refine Gr.alloc ?_ _))) q9; clear q9))
          refine hK.out _ _ (KS.out _ d1) (fun hHeld => ?_)
          clear hK K
          try simp only [Act.put, List.setIfInBounds_toArray, List.set_cons_zero, List.set_cons_succ]
          refine wpAnyH_take (i := 9) (oi := { dst := some 6, op := Op.assign (Operand.tmp 30), type := 4, pos := "ref.go:196", after := #[{ on := 8, ground := Ground.data }, { on := 8, ground := Ground.chain }, { on := 0, ground := Ground.phase }, { on := 1, ground := Ground.phase }, { on := 2, ground := Ground.phase }, { on := 3, ground := Ground.phase }, { on := 4, ground := Ground.phase }, { on := 5, ground := Ground.phase }, { on := 6, ground := Ground.phase }, { on := 7, ground := Ground.phase }, { on := 8, ground := Ground.phase }], guard := none }) (v := ?_) rfl (by kernel_rfl) (by kernel_rfl) (by kernel_rfl) (fun _ _ _ h => h) (Or.inl ⟨by rfl, ?_⟩) (by assumption) ?_
          rotate_left
          · intro w hSw; (try dsimp only at hSw); go_simp; first | done | with_reducible rfl
          try simp only [Act.put, List.setIfInBounds_toArray, List.set_cons_zero, List.set_cons_succ]
          refine wpAnyH_done (by kernel_rfl) ?_ _
          clear hHeld KS
          replace B0 := T.Hid.mk (B0.out.gr d1)
          replace B1 := T.Hid.mk (B1.out.gr d1)
          replace G := T.Hid.mk (G.out.trans d1)
          clear d1
          cases u
          · have e := hu.out rfl
            clear hs hu
            go_wp2_with fail
            go_ret
            exact ⟨ret_bool (by first | rfl | exact e.symm), G.out⟩
          · have e := T.Hid.mk (hs.out rfl)
            clear hs hu
            go_wp2_with fail
            exact ⟨⟨k + 1, by go_num, by omega, e, B0, B1, G⟩, by simp [intOf]; omega⟩
        · have k1 : ¬ (k : Int) < 16 := by omega
          have e : all2 U A B = true := (all2_iff U A B).2 (fun i ha hb => hall.out i (by omega) ha hb)
          go_wp2_with fail
          go_ret
          exact ⟨ret_bool (by first | rfl | exact e.symm), G.out⟩
set_option maxRecDepth 100000 in
set_option maxHeartbeats 4000000 in
theorem dAllows_of (H : RT → Vv → Bool) (l : Bool) (A : List RT) (V : List Vv) (w : World) (hA : A.length = 16) (hV : V.length = 16)
    (hc : ∀ a b, a ∈ A → b ∈ V → ∀ W, Calls Try.prog 42 #[.agg (RT.vals a).toArray, .agg (Vv.vals b).toArray] W fun x w' => x = .returned (.bool (H a b)) ∧ Gr W w') :
    Calls Try.prog 21 #[.agg (stC l A).toArray, .agg (rowV [] Vv.vals V).toArray] w fun x w' => x = .returned (.bool (aS H l A V)) ∧ Gr w w' := by
  have hC := T.Hid.mk hc
  clear hc
  unfold aS
  go_enter Try.func21, Try.ntmps21
  go_upto_region 2 with fail
  have B0 : T.Hid (At (((w).alloc (.cells (stC l A).toArray 47)).alloc (.cells (rowV [] Vv.vals V).toArray 48)) (w.heap.size) (stC l A).toArray) := T.Hid.mk ((At.at_ w _ _ rfl).alloc _)
  have B1 : T.Hid (At (((w).alloc (.cells (stC l A).toArray 47)).alloc (.cells (rowV [] Vv.vals V).toArray 48)) (w.heap.size + 1) (rowV [] Vv.vals V).toArray) := T.Hid.mk (At.at_ _ _ _ (by simp))
  have G : T.Hid (Gr w (((w).alloc (.cells (stC l A).toArray 47)).alloc (.cells (rowV [] Vv.vals V).toArray 48))) := T.Hid.mk (((Gr.refl w).alloc _).alloc _)
  generalize ((w).alloc (.cells (stC l A).toArray 47)).alloc (.cells (rowV [] Vv.vals V).toArray 48) = W0 at B0 B1 G ⊢
  generalize Value.agg (stC l A).toArray = va
  generalize Value.agg (rowV [] Vv.vals V).toArray = vb
  go_loopw [5] (fun i wr => ∃ k : Nat, i = .int .i64 k ∧ k ≤ 16 ∧ T.Hid (allTo H A V k) ∧ T.Hid (At wr w.heap.size (stC l A).toArray) ∧ T.Hid (At wr (w.heap.size + 1) (rowV [] Vv.vals V).toArray) ∧ T.Hid (Gr w wr)) (fun i _ => 16 - (intOf i).toNat)
  case atStart => exact ⟨0, rfl, by omega, T.Hid.mk (fun i h => by omega), B0, B1, G⟩
  case round =>
    clear B0 B1 G
    obtain ⟨k, rfl, hk, hall, B0, B1, G⟩ := hrel
    by_cases hlt : k < 16
    · have ha : k < A.length := by omega
      have hb : k < V.length := by omega
      have h1 := T.Hid.mk (fun W => hC.out A[k] V[k] (List.getElem_mem ha) (List.getElem_mem hb) W)
      have k1 : (k : Int) < 16 := by omega
      have KS : T.Hid (∀ W, Gr wr W → W.rangeAt w.heap.size (1 + k * 12) (RT.vals A[k]) ∧ W.rangeAt (w.heap.size + 1) (k * 7) (Vv.vals V[k])) := T.Hid.mk (fun W g => ⟨st_elem (B0.out.gr g) k ha, (B1.out.gr g).elem vv_len k hb _ (by simp)⟩)
      have hu : T.Hid (H A[k] V[k] = false → all2 H A V = false) := T.Hid.mk (fun h => by
        rw [Bool.eq_false_iff]
        intro q
        rw [all2_iff] at q
        have := q k ha hb
        rw [h] at this
        cases this)
      have hs : T.Hid (H A[k] V[k] = true → allTo H A V (k + 1)) := T.Hid.mk (fun h i hi ha' hb' => by
        rcases Nat.lt_succ_iff_lt_or_eq.1 hi with q | q
        · exact hall.out i q ha' hb'
        · subst q; exact h)
      generalize H A[k] V[k] = u at *
      go_upto_region 4 with fail
      have d1 : Gr wr wr.drew := (Gr.refl _).drew
      refine wp_region_held_drew (S := (fun W => W.rangeAt w.heap.size (1 + k * 12) (RT.vals A[k]) ∧ W.rangeAt (w.heap.size + 1) (k * 7) (Vv.vals V[k]))) (by kernel_rfl) (KS.out _ d1) (fun hHeld => ?_)
      refine wpAnyH_take (i := 0) (oi := { dst := some 11, op := Op.move (Operand.tmp 5), type := 3, pos := "ref.go:226", after := #[], guard := none }) (v := ?_) rfl (by kernel_rfl) (by kernel_rfl) (by kernel_rfl) (fun _ _ _ h => h) (Or.inl ⟨by rfl, ?_⟩) (by assumption) ?_
      rotate_left
      · intro w hSw; (try dsimp only at hSw); go_simp; first | done | with_reducible rfl
      try simp only [Act.put, List.setIfInBounds_toArray, List.set_cons_zero, List.set_cons_succ]
      refine wpAnyH_take (i := 1) (oi := { dst := some 12, op := Op.fieldAddr 47 (Operand.tmp 2) 1, type := 0, pos := "ref.go:226", after := #[], guard := none }) (v := ?_) rfl (by kernel_rfl) (by kernel_rfl) (by kernel_rfl) (fun _ _ _ h => h) (Or.inl ⟨by rfl, ?_⟩) (by assumption) ?_
      rotate_left
      · intro w hSw; (try dsimp only at hSw); go_simp; first | done | with_reducible rfl
      try simp only [Act.put, List.setIfInBounds_toArray, List.set_cons_zero, List.set_cons_succ]
      refine wpAnyH_take (i := 2) (oi := { dst := some 13, op := Op.indexAddr 45 (Operand.tmp 12) (Operand.tmp 11), type := 0, pos := "ref.go:226", after := #[{ on := 1, ground := Ground.data }, { on := 0, ground := Ground.data }], guard := none }) (v := ?_) rfl (by kernel_rfl) (by kernel_rfl) (by kernel_rfl) (fun _ _ _ h => h) (Or.inl ⟨by rfl, ?_⟩) (by assumption) ?_
      rotate_left
      · intro w hSw; (try dsimp only at hSw); go_simp; first | done | with_reducible rfl
      try simp only [Act.put, List.setIfInBounds_toArray, List.set_cons_zero, List.set_cons_succ]
      refine wpAnyH_take (i := 3) (oi := { dst := some 14, op := Op.load 28 (Operand.tmp 13), type := 28, pos := "ref.go:226", after := #[{ on := 2, ground := Ground.data }], guard := none }) (v := _) rfl (by kernel_rfl) (by kernel_rfl) (by kernel_rfl) (fun _ _ _ h => h) (yieldsIf_load_mid (by rfl) _ _ rfl _ _ rfl _ _ (fun _ h => h.1) Try.underlying28 rfl info28) (by assumption) ?_
      try simp only [Act.put, List.setIfInBounds_toArray, List.set_cons_zero, List.set_cons_succ]
      refine wpAnyH_take (i := 4) (oi := { dst := some 15, op := Op.move (Operand.tmp 5), type := 3, pos := "ref.go:226", after := #[], guard := none }) (v := ?_) rfl (by kernel_rfl) (by kernel_rfl) (by kernel_rfl) (fun _ _ _ h => h) (Or.inl ⟨by rfl, ?_⟩) (by assumption) ?_
      rotate_left
      · intro w hSw; (try dsimp only at hSw); go_simp; first | done | with_reducible rfl
      try simp only [Act.put, List.setIfInBounds_toArray, List.set_cons_zero, List.set_cons_succ]
      refine wpAnyH_take (i := 5) (oi := { dst := some 16, op := Op.indexAddr 48 (Operand.tmp 3) (Operand.tmp 15), type := 0, pos := "ref.go:226", after := #[{ on := 4, ground := Ground.data }], guard := none }) (v := ?_) rfl (by kernel_rfl) (by kernel_rfl) (by kernel_rfl) (fun _ _ _ h => h) (Or.inl ⟨by rfl, ?_⟩) (by assumption) ?_
      rotate_left
      · intro w hSw; (try dsimp only at hSw); go_simp; first | done | with_reducible rfl
      try simp only [Act.put, List.setIfInBounds_toArray, List.set_cons_zero, List.set_cons_succ]
      refine wpAnyH_take (i := 6) (oi := { dst := some 17, op := Op.load 34 (Operand.tmp 16), type := 34, pos := "ref.go:226", after := #[{ on := 5, ground := Ground.data }], guard := none }) (v := _) rfl (by kernel_rfl) (by kernel_rfl) (by kernel_rfl) (fun _ _ _ h => h) (yieldsIf_load_mid (by rfl) _ _ rfl _ _ rfl _ _ (fun _ h => h.2) Try.underlying34 rfl info34) (by assumption) ?_
      try simp only [Act.put, List.setIfInBounds_toArray, List.set_cons_zero, List.set_cons_succ]
      refine wpAnyH_ready (rs := [7]) (by kernel_rfl) (by simp) ?_
      refine AllReadyH.cons (o := { dst := some 18, op := Op.call { callee := Callee.value (Operand.func 42), args := #[Operand.tmp 14, Operand.tmp 17], argTypes := #[28, 34] }, type := 4, pos := "ref.go:226", after := #[{ on := 3, ground := Ground.data }, { on := 6, ground := Ground.data }], guard := none }) rfl (fun K hK => ?_) AllReadyH.nil
      go_simp
      go_wp2_with ((go_at_call 42; refine (h1.out _).mono ?_; rintro x wq ⟨rfl, q9⟩; have d1 : Gr wr wq := Gr.trans (by (repeat (first | with_reducible assumption | with_reducible exact Gr.refl _ | with_reducible refine Gr.drew ?_ | with_reducible refine Gr.alloc ?_ _))) q9; clear q9))
      refine hK.out _ _ (KS.out _ d1) (fun hHeld => ?_)
      clear hK K
      try simp only [Act.put, List.setIfInBounds_toArray, List.set_cons_zero, List.set_cons_succ]
      refine wpAnyH_take (i := 8) (oi := { dst := some 6, op := Op.assign (Operand.tmp 18), type := 4, pos := "ref.go:226", after := #[{ on := 7, ground := Ground.data }, { on := 7, ground := Ground.chain }, { on := 0, ground := Ground.phase }, { on := 1, ground := Ground.phase }, { on := 2, ground := Ground.phase }, { on := 3, ground := Ground.phase }, { on := 4, ground := Ground.phase }, { on := 5, ground := Ground.phase }, { on := 6, ground := Ground.phase }, { on := 7, ground := Ground.phase }], guard := none }) (v := ?_) rfl (by kernel_rfl) (by kernel_rfl) (by kernel_rfl) (fun _ _ _ h => h) (Or.inl ⟨by rfl, ?_⟩) (by assumption) ?_
      rotate_left
      · intro w hSw; (try dsimp only at hSw); go_simp; first | done | with_reducible rfl
      try simp only [Act.put, List.setIfInBounds_toArray, List.set_cons_zero, List.set_cons_succ]
      refine wpAnyH_done (by kernel_rfl) ?_ _
      clear hHeld KS
      replace B0 := T.Hid.mk (B0.out.gr d1)
      replace B1 := T.Hid.mk (B1.out.gr d1)
      replace G := T.Hid.mk (G.out.trans d1)
      clear d1
      cases u
      · have e := T.Hid.mk (hu.out rfl)
        clear hs hu
        go_wp2_with fail
        go_ret
        exact ⟨ret_bool (by rw [e.out]; simp), G.out⟩
      · have e := T.Hid.mk (hs.out rfl)
        clear hs hu
        go_wp2_with fail
        exact ⟨⟨k + 1, by go_num, by omega, e, B0, B1, G⟩, by simp [intOf]; omega⟩
    · have k1 : ¬ (k : Int) < 16 := by omega
      have e := T.Hid.mk ((all2_iff H A V).2 (fun i ha hb => hall.out i (by omega) ha hb))
      have c0 := At.headRow B0.out
      go_wp2_with fail
      go_ret
      exact ⟨ret_bool (by rw [e.out]; simp), G.out⟩
end R
end Go.Proofs.Ytbbpbfbifgfjdaa
