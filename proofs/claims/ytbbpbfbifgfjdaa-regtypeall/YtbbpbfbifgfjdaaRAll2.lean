/-
  Stage 9, regtype: allTwo: two rows of sixteen.
-/
import Derived.Test.YtbbpbfbifgfjdaaRRow
import Derived.Test.YtbbpbfbifgfjdaaRProU
import Derived.Test.YtbbpbfbifgfjdaaRProH
import Derived.Deep.RegionHeld3
import Derived.StillTactics
import Derived.Deep.DeepCutAuto
namespace Go.Proofs.Ytbbpbfbifgfjdaa
namespace R
open Go.RowKit

theorem info28 : (Try.prog.info? 28).map (·.size) = some 12 := by kernel_rfl
theorem info34 : (Try.prog.info? 34).map (·.size) = some 7 := by kernel_rfl
theorem rt_len (x : RT) : (RT.vals x).length = 12 := rfl
theorem vv_len (x : Vv) : (Vv.vals x).length = 7 := rfl
/-- Does it hold of each pair? -/
def all2 {α β : Type} (f : α → β → Bool) : List α → List β → Bool
  | a :: A, b :: B => f a b && all2 f A B
  | _, _ => true
def allTo {α β : Type} (f : α → β → Bool) (A : List α) (B : List β) (n : Nat) : Prop := ∀ i (h : i < n) (ha : i < A.length) (hb : i < B.length), f A[i] B[i] = true
theorem all2_iff {α β : Type} (f : α → β → Bool) : ∀ (A : List α) (B : List β), all2 f A B = true ↔ ∀ i (ha : i < A.length) (hb : i < B.length), f A[i] B[i] = true
  | [], _ => by simp [all2]
  | _ :: _, [] => by simp [all2]
  | a :: A, b :: B => by
    rw [all2, Bool.and_eq_true, all2_iff f A B]
    constructor
    · rintro ⟨h0, h⟩ i ha hb
      cases i with
      | zero => exact h0
      | succ i => exact h i (by simpa using ha) (by simpa using hb)
    · intro h
      exact ⟨h 0 (by simp) (by simp), fun i ha hb => h (i + 1) (by simpa using ha) (by simpa using hb)⟩
set_option maxRecDepth 100000 in
set_option maxHeartbeats 4000000 in
theorem allTwoR_any (F : RT → RT → Bool) (A : List RT) (B : List RT) (w : World) (hA : A.length = 16) (hB : B.length = 16) (hc : ∀ a b, a ∈ A → b ∈ B → ∀ W, Calls Try.prog 11 #[.agg (RT.vals a).toArray, .agg (RT.vals b).toArray] W fun x w' => x = .returned (.bool (F a b)) ∧ Gr W w') : Calls Try.prog 38 #[.agg (rowV [] RT.vals A).toArray, .agg (rowV [] RT.vals B).toArray, .func (.func 11) #[] #[]] w fun x w' => x = .returned (.bool (all2 F A B)) ∧ Gr w w' := by
  have hC := T.Hid.mk hc
  clear hc
  go_enter Try.func38, Try.ntmps38
  go_upto_region 2 with fail
  have B0 : T.Hid (At ((w.alloc (.cells (rowV [] RT.vals A).toArray 45)).alloc (.cells (rowV [] RT.vals B).toArray 45)) w.heap.size (rowV [] RT.vals A).toArray) := T.Hid.mk ((At.at_ w _ _ rfl).alloc _)
  have B1 : T.Hid (At ((w.alloc (.cells (rowV [] RT.vals A).toArray 45)).alloc (.cells (rowV [] RT.vals B).toArray 45)) (w.heap.size + 1) (rowV [] RT.vals B).toArray) := T.Hid.mk (At.at_ _ _ _ (by simp))
  have G : T.Hid (Gr w ((w.alloc (.cells (rowV [] RT.vals A).toArray 45)).alloc (.cells (rowV [] RT.vals B).toArray 45))) := T.Hid.mk (((Gr.refl w).alloc _).alloc _)
  generalize (w.alloc (.cells (rowV [] RT.vals A).toArray 45)).alloc (.cells (rowV [] RT.vals B).toArray 45) = W0 at B0 B1 G ⊢
  generalize Value.agg (rowV [] RT.vals A).toArray = va
  try generalize Value.agg (rowV [] RT.vals B).toArray = vb
  go_loopw [8] (fun i wr => ∃ k : Nat, i = .int .i64 k ∧ k ≤ 16 ∧ T.Hid (allTo F A B k) ∧ T.Hid (At wr w.heap.size (rowV [] RT.vals A).toArray) ∧ T.Hid (At wr (w.heap.size + 1) (rowV [] RT.vals B).toArray) ∧ T.Hid (Gr w wr)) (fun i _ => 16 - (intOf i).toNat)
  case atStart => exact ⟨0, rfl, by omega, T.Hid.mk (fun i h => by omega), B0, B1, G⟩
  case round =>
    clear B0 B1 G
    obtain ⟨k, rfl, hk, hall, B0, B1, G⟩ := hrel
    by_cases hlt : k < 16
    · have ha : k < A.length := by omega
      have hb : k < B.length := by omega
      have h1 := T.Hid.mk (fun W => hC.out A[k] B[k] (List.getElem_mem ha) (List.getElem_mem hb) W)
      have k1 : (k : Int) < 16 := by omega
      have KS : T.Hid (∀ W, Gr wr W → W.rangeAt w.heap.size (k * 12) (RT.vals A[k]) ∧ W.rangeAt (w.heap.size + 1) (k * 12) (RT.vals B[k])) := T.Hid.mk (fun W g => ⟨(B0.out.gr g).elem rt_len k ha _ (by simp), (B1.out.gr g).elem rt_len k hb _ (by simp)⟩)
      have hu : T.Hid (F A[k] B[k] = false → all2 F A B = false) := T.Hid.mk (fun h => by
        rw [Bool.eq_false_iff]
        intro q
        rw [all2_iff] at q
        have := q k ha hb
        rw [h] at this
        cases this)
      have hs : T.Hid (F A[k] B[k] = true → allTo F A B (k + 1)) := T.Hid.mk (fun h i hi ha' hb' => by
        rcases Nat.lt_succ_iff_lt_or_eq.1 hi with q | q
        · exact hall.out i q ha' hb'
        · subst q; exact h)
      generalize F A[k] B[k] = u at *
      go_upto_region 4 with fail
      have d1 : Gr wr wr.drew := (Gr.refl _).drew
      refine wp_region_held_drew (S := (fun W => W.rangeAt w.heap.size (k * 12) (RT.vals A[k]) ∧ W.rangeAt (w.heap.size + 1) (k * 12) (RT.vals B[k]))) (by kernel_rfl) (KS.out _ d1) (fun hHeld => ?_)
      refine wpAnyH_take (i := 0) (oi := { dst := some 11, op := Op.move (Operand.tmp 2), type := 41, pos := "merge.go:58", after := #[], guard := none }) (v := ?_) rfl (by kernel_rfl) (by kernel_rfl) (by kernel_rfl) (fun _ _ _ h => h) (Or.inl ⟨by rfl, ?_⟩) (by assumption) ?_
      rotate_left
      · intro w hSw; (try dsimp only at hSw); go_simp; first | done | with_reducible rfl
      try simp only [Act.put, List.setIfInBounds_toArray, List.set_cons_zero, List.set_cons_succ]
      refine wpAnyH_take (i := 1) (oi := { dst := some 12, op := Op.move (Operand.tmp 7), type := 3, pos := "merge.go:58", after := #[], guard := none }) (v := ?_) rfl (by kernel_rfl) (by kernel_rfl) (by kernel_rfl) (fun _ _ _ h => h) (Or.inl ⟨by rfl, ?_⟩) (by assumption) ?_
      rotate_left
      · intro w hSw; (try dsimp only at hSw); go_simp; first | done | with_reducible rfl
      try simp only [Act.put, List.setIfInBounds_toArray, List.set_cons_zero, List.set_cons_succ]
      refine wpAnyH_take (i := 2) (oi := { dst := some 13, op := Op.indexAddr 45 (Operand.tmp 3) (Operand.tmp 12), type := 0, pos := "merge.go:58", after := #[{ on := 1, ground := Ground.data }], guard := none }) (v := ?_) rfl (by kernel_rfl) (by kernel_rfl) (by kernel_rfl) (fun _ _ _ h => h) (Or.inl ⟨by rfl, ?_⟩) (by assumption) ?_
      rotate_left
      · intro w hSw; (try dsimp only at hSw); go_simp; first | done | with_reducible rfl
      try simp only [Act.put, List.setIfInBounds_toArray, List.set_cons_zero, List.set_cons_succ]
      refine wpAnyH_take (i := 3) (oi := { dst := some 14, op := Op.load 28 (Operand.tmp 13), type := 28, pos := "merge.go:58", after := #[{ on := 2, ground := Ground.data }], guard := none }) (v := _) rfl (by kernel_rfl) (by kernel_rfl) (by kernel_rfl) (fun _ _ _ h => h) (yieldsIf_load_mid (by rfl) _ _ rfl _ _ rfl _ _ (fun _ h => h.1) Try.underlying28 rfl info28) (by assumption) ?_
      try simp only [Act.put, List.setIfInBounds_toArray, List.set_cons_zero, List.set_cons_succ]
      refine wpAnyH_take (i := 4) (oi := { dst := some 15, op := Op.move (Operand.tmp 7), type := 3, pos := "merge.go:58", after := #[], guard := none }) (v := ?_) rfl (by kernel_rfl) (by kernel_rfl) (by kernel_rfl) (fun _ _ _ h => h) (Or.inl ⟨by rfl, ?_⟩) (by assumption) ?_
      rotate_left
      · intro w hSw; (try dsimp only at hSw); go_simp; first | done | with_reducible rfl
      try simp only [Act.put, List.setIfInBounds_toArray, List.set_cons_zero, List.set_cons_succ]
      refine wpAnyH_take (i := 5) (oi := { dst := some 16, op := Op.indexAddr 45 (Operand.tmp 4) (Operand.tmp 15), type := 0, pos := "merge.go:58", after := #[{ on := 4, ground := Ground.data }], guard := none }) (v := ?_) rfl (by kernel_rfl) (by kernel_rfl) (by kernel_rfl) (fun _ _ _ h => h) (Or.inl ⟨by rfl, ?_⟩) (by assumption) ?_
      rotate_left
      · intro w hSw; (try dsimp only at hSw); go_simp; first | done | with_reducible rfl
      try simp only [Act.put, List.setIfInBounds_toArray, List.set_cons_zero, List.set_cons_succ]
      refine wpAnyH_take (i := 6) (oi := { dst := some 17, op := Op.load 28 (Operand.tmp 16), type := 28, pos := "merge.go:58", after := #[{ on := 5, ground := Ground.data }], guard := none }) (v := _) rfl (by kernel_rfl) (by kernel_rfl) (by kernel_rfl) (fun _ _ _ h => h) (yieldsIf_load_mid (by rfl) _ _ rfl _ _ rfl _ _ (fun _ h => h.2) Try.underlying28 rfl info28) (by assumption) ?_
      try simp only [Act.put, List.setIfInBounds_toArray, List.set_cons_zero, List.set_cons_succ]
      refine wpAnyH_ready (rs := [7]) (by kernel_rfl) (by simp) ?_
      refine AllReadyH.cons (o := { dst := some 18, op := Op.call { callee := Callee.value (Operand.tmp 11), args := #[Operand.tmp 14, Operand.tmp 17], argTypes := #[28, 28] }, type := 4, pos := "merge.go:58", after := #[{ on := 0, ground := Ground.data }, { on := 3, ground := Ground.data }, { on := 6, ground := Ground.data }], guard := none }) rfl (fun K hK => ?_) AllReadyH.nil
      go_simp
      go_wp2_with ((go_at_call 11; refine (h1.out _).mono ?_; rintro x wq ⟨rfl, q9⟩; have d1 : Gr wr wq := Gr.trans (by (repeat (first | with_reducible assumption | with_reducible exact Gr.refl _ | with_reducible refine Gr.drew ?_ | with_reducible refine Gr.alloc ?_ _))) q9; clear q9))
      refine hK.out _ _ (KS.out _ d1) (fun hHeld => ?_)
      clear hK K
      try simp only [Act.put, List.setIfInBounds_toArray, List.set_cons_zero, List.set_cons_succ]
      refine wpAnyH_take (i := 8) (oi := { dst := some 19, op := Op.unOp UnOp.not 4 (Operand.tmp 18), type := 4, pos := "merge.go:58", after := #[{ on := 7, ground := Ground.data }], guard := none }) (v := ?_) rfl (by kernel_rfl) (by kernel_rfl) (by kernel_rfl) (fun _ _ _ h => h) (Or.inl ⟨by rfl, ?_⟩) (by assumption) ?_
      rotate_left
      · intro w hSw; (try dsimp only at hSw); go_simp; first | done | with_reducible rfl
      try simp only [Act.put, List.setIfInBounds_toArray, List.set_cons_zero, List.set_cons_succ]
      refine wpAnyH_done (by kernel_rfl) ?_ _
      clear hHeld KS
      replace B0 := T.Hid.mk (B0.out.gr d1)
      replace B1 := T.Hid.mk (B1.out.gr d1)
      replace G := T.Hid.mk (G.out.trans d1)
      clear d1
      cases u
      · have e := hu.out rfl
        clear hs hu
        go_wp2_with fail
        go_ret
        exact ⟨ret_bool (by first | rfl | exact e.symm), G.out⟩
      · have e := T.Hid.mk (hs.out rfl)
        clear hs hu
        go_wp2_with fail
        exact ⟨⟨k + 1, by go_num, by omega, e, B0, B1, G⟩, by simp [intOf]; omega⟩
    · have k1 : ¬ (k : Int) < 16 := by omega
      have e : all2 F A B = true := (all2_iff F A B).2 (fun i ha hb => hall.out i (by omega) ha hb)
      go_wp2_with fail
      go_ret
      exact ⟨ret_bool (by first | rfl | exact e.symm), G.out⟩
set_option maxRecDepth 100000 in
set_option maxHeartbeats 4000000 in
theorem allTwoV_any (F : RT → Vv → Bool) (A : List RT) (B : List Vv) (w : World) (hA : A.length = 16) (hB : B.length = 16) (hc : ∀ a b, a ∈ A → b ∈ B → ∀ W, Calls Try.prog 10 #[.agg (RT.vals a).toArray, .agg (Vv.vals b).toArray] W fun x w' => x = .returned (.bool (F a b)) ∧ Gr W w') : Calls Try.prog 39 #[.agg (rowV [] RT.vals A).toArray, .agg (rowV [] Vv.vals B).toArray, .func (.func 10) #[] #[]] w fun x w' => x = .returned (.bool (all2 F A B)) ∧ Gr w w' := by
  have hC := T.Hid.mk hc
  clear hc
  go_enter Try.func39, Try.ntmps39
  go_upto_region 2 with fail
  have B0 : T.Hid (At ((w.alloc (.cells (rowV [] RT.vals A).toArray 45)).alloc (.cells (rowV [] Vv.vals B).toArray 48)) w.heap.size (rowV [] RT.vals A).toArray) := T.Hid.mk ((At.at_ w _ _ rfl).alloc _)
  have B1 : T.Hid (At ((w.alloc (.cells (rowV [] RT.vals A).toArray 45)).alloc (.cells (rowV [] Vv.vals B).toArray 48)) (w.heap.size + 1) (rowV [] Vv.vals B).toArray) := T.Hid.mk (At.at_ _ _ _ (by simp))
  have G : T.Hid (Gr w ((w.alloc (.cells (rowV [] RT.vals A).toArray 45)).alloc (.cells (rowV [] Vv.vals B).toArray 48))) := T.Hid.mk (((Gr.refl w).alloc _).alloc _)
  generalize (w.alloc (.cells (rowV [] RT.vals A).toArray 45)).alloc (.cells (rowV [] Vv.vals B).toArray 48) = W0 at B0 B1 G ⊢
  generalize Value.agg (rowV [] RT.vals A).toArray = va
  try generalize Value.agg (rowV [] Vv.vals B).toArray = vb
  go_loopw [8] (fun i wr => ∃ k : Nat, i = .int .i64 k ∧ k ≤ 16 ∧ T.Hid (allTo F A B k) ∧ T.Hid (At wr w.heap.size (rowV [] RT.vals A).toArray) ∧ T.Hid (At wr (w.heap.size + 1) (rowV [] Vv.vals B).toArray) ∧ T.Hid (Gr w wr)) (fun i _ => 16 - (intOf i).toNat)
  case atStart => exact ⟨0, rfl, by omega, T.Hid.mk (fun i h => by omega), B0, B1, G⟩
  case round =>
    clear B0 B1 G
    obtain ⟨k, rfl, hk, hall, B0, B1, G⟩ := hrel
    by_cases hlt : k < 16
    · have ha : k < A.length := by omega
      have hb : k < B.length := by omega
      have h1 := T.Hid.mk (fun W => hC.out A[k] B[k] (List.getElem_mem ha) (List.getElem_mem hb) W)
      have k1 : (k : Int) < 16 := by omega
      have KS : T.Hid (∀ W, Gr wr W → W.rangeAt w.heap.size (k * 12) (RT.vals A[k]) ∧ W.rangeAt (w.heap.size + 1) (k * 7) (Vv.vals B[k])) := T.Hid.mk (fun W g => ⟨(B0.out.gr g).elem rt_len k ha _ (by simp), (B1.out.gr g).elem vv_len k hb _ (by simp)⟩)
      have hu : T.Hid (F A[k] B[k] = false → all2 F A B = false) := T.Hid.mk (fun h => by
        rw [Bool.eq_false_iff]
        intro q
        rw [all2_iff] at q
        have := q k ha hb
        rw [h] at this
        cases this)
      have hs : T.Hid (F A[k] B[k] = true → allTo F A B (k + 1)) := T.Hid.mk (fun h i hi ha' hb' => by
        rcases Nat.lt_succ_iff_lt_or_eq.1 hi with q | q
        · exact hall.out i q ha' hb'
        · subst q; exact h)
      generalize F A[k] B[k] = u at *
      go_upto_region 4 with fail
      have d1 : Gr wr wr.drew := (Gr.refl _).drew
      refine wp_region_held_drew (S := (fun W => W.rangeAt w.heap.size (k * 12) (RT.vals A[k]) ∧ W.rangeAt (w.heap.size + 1) (k * 7) (Vv.vals B[k]))) (by kernel_rfl) (KS.out _ d1) (fun hHeld => ?_)
      refine wpAnyH_take (i := 0) (oi := { dst := some 11, op := Op.move (Operand.tmp 2), type := 40, pos := "merge.go:58", after := #[], guard := none }) (v := ?_) rfl (by kernel_rfl) (by kernel_rfl) (by kernel_rfl) (fun _ _ _ h => h) (Or.inl ⟨by rfl, ?_⟩) (by assumption) ?_
      rotate_left
      · intro w hSw; (try dsimp only at hSw); go_simp; first | done | with_reducible rfl
      try simp only [Act.put, List.setIfInBounds_toArray, List.set_cons_zero, List.set_cons_succ]
      refine wpAnyH_take (i := 1) (oi := { dst := some 12, op := Op.move (Operand.tmp 7), type := 3, pos := "merge.go:58", after := #[], guard := none }) (v := ?_) rfl (by kernel_rfl) (by kernel_rfl) (by kernel_rfl) (fun _ _ _ h => h) (Or.inl ⟨by rfl, ?_⟩) (by assumption) ?_
      rotate_left
      · intro w hSw; (try dsimp only at hSw); go_simp; first | done | with_reducible rfl
      try simp only [Act.put, List.setIfInBounds_toArray, List.set_cons_zero, List.set_cons_succ]
      refine wpAnyH_take (i := 2) (oi := { dst := some 13, op := Op.indexAddr 45 (Operand.tmp 3) (Operand.tmp 12), type := 0, pos := "merge.go:58", after := #[{ on := 1, ground := Ground.data }], guard := none }) (v := ?_) rfl (by kernel_rfl) (by kernel_rfl) (by kernel_rfl) (fun _ _ _ h => h) (Or.inl ⟨by rfl, ?_⟩) (by assumption) ?_
      rotate_left
      · intro w hSw; (try dsimp only at hSw); go_simp; first | done | with_reducible rfl
      try simp only [Act.put, List.setIfInBounds_toArray, List.set_cons_zero, List.set_cons_succ]
      refine wpAnyH_take (i := 3) (oi := { dst := some 14, op := Op.load 28 (Operand.tmp 13), type := 28, pos := "merge.go:58", after := #[{ on := 2, ground := Ground.data }], guard := none }) (v := _) rfl (by kernel_rfl) (by kernel_rfl) (by kernel_rfl) (fun _ _ _ h => h) (yieldsIf_load_mid (by rfl) _ _ rfl _ _ rfl _ _ (fun _ h => h.1) Try.underlying28 rfl info28) (by assumption) ?_
      try simp only [Act.put, List.setIfInBounds_toArray, List.set_cons_zero, List.set_cons_succ]
      refine wpAnyH_take (i := 4) (oi := { dst := some 15, op := Op.move (Operand.tmp 7), type := 3, pos := "merge.go:58", after := #[], guard := none }) (v := ?_) rfl (by kernel_rfl) (by kernel_rfl) (by kernel_rfl) (fun _ _ _ h => h) (Or.inl ⟨by rfl, ?_⟩) (by assumption) ?_
      rotate_left
      · intro w hSw; (try dsimp only at hSw); go_simp; first | done | with_reducible rfl
      try simp only [Act.put, List.setIfInBounds_toArray, List.set_cons_zero, List.set_cons_succ]
      refine wpAnyH_take (i := 5) (oi := { dst := some 16, op := Op.indexAddr 48 (Operand.tmp 4) (Operand.tmp 15), type := 0, pos := "merge.go:58", after := #[{ on := 4, ground := Ground.data }], guard := none }) (v := ?_) rfl (by kernel_rfl) (by kernel_rfl) (by kernel_rfl) (fun _ _ _ h => h) (Or.inl ⟨by rfl, ?_⟩) (by assumption) ?_
      rotate_left
      · intro w hSw; (try dsimp only at hSw); go_simp; first | done | with_reducible rfl
      try simp only [Act.put, List.setIfInBounds_toArray, List.set_cons_zero, List.set_cons_succ]
      refine wpAnyH_take (i := 6) (oi := { dst := some 17, op := Op.load 34 (Operand.tmp 16), type := 34, pos := "merge.go:58", after := #[{ on := 5, ground := Ground.data }], guard := none }) (v := _) rfl (by kernel_rfl) (by kernel_rfl) (by kernel_rfl) (fun _ _ _ h => h) (yieldsIf_load_mid (by rfl) _ _ rfl _ _ rfl _ _ (fun _ h => h.2) Try.underlying34 rfl info34) (by assumption) ?_
      try simp only [Act.put, List.setIfInBounds_toArray, List.set_cons_zero, List.set_cons_succ]
      refine wpAnyH_ready (rs := [7]) (by kernel_rfl) (by simp) ?_
      refine AllReadyH.cons (o := { dst := some 18, op := Op.call { callee := Callee.value (Operand.tmp 11), args := #[Operand.tmp 14, Operand.tmp 17], argTypes := #[28, 34] }, type := 4, pos := "merge.go:58", after := #[{ on := 0, ground := Ground.data }, { on := 3, ground := Ground.data }, { on := 6, ground := Ground.data }], guard := none }) rfl (fun K hK => ?_) AllReadyH.nil
      go_simp
      go_wp2_with ((go_at_call 10; refine (h1.out _).mono ?_; rintro x wq ⟨rfl, q9⟩; have d1 : Gr wr wq := Gr.trans (by (repeat (first | with_reducible assumption | with_reducible exact Gr.refl _ | with_reducible refine Gr.drew ?_ | with_reducible refine Gr.alloc ?_ _))) q9; clear q9))
      refine hK.out _ _ (KS.out _ d1) (fun hHeld => ?_)
      clear hK K
      try simp only [Act.put, List.setIfInBounds_toArray, List.set_cons_zero, List.set_cons_succ]
      refine wpAnyH_take (i := 8) (oi := { dst := some 19, op := Op.unOp UnOp.not 4 (Operand.tmp 18), type := 4, pos := "merge.go:58", after := #[{ on := 7, ground := Ground.data }], guard := none }) (v := ?_) rfl (by kernel_rfl) (by kernel_rfl) (by kernel_rfl) (fun _ _ _ h => h) (Or.inl ⟨by rfl, ?_⟩) (by assumption) ?_
      rotate_left
      · intro w hSw; (try dsimp only at hSw); go_simp; first | done | with_reducible rfl
      try simp only [Act.put, List.setIfInBounds_toArray, List.set_cons_zero, List.set_cons_succ]
      refine wpAnyH_done (by kernel_rfl) ?_ _
      clear hHeld KS
      replace B0 := T.Hid.mk (B0.out.gr d1)
      replace B1 := T.Hid.mk (B1.out.gr d1)
      replace G := T.Hid.mk (G.out.trans d1)
      clear d1
      cases u
      · have e := hu.out rfl
        clear hs hu
        go_wp2_with fail
        go_ret
        exact ⟨ret_bool (by first | rfl | exact e.symm), G.out⟩
      · have e := T.Hid.mk (hs.out rfl)
        clear hs hu
        go_wp2_with fail
        exact ⟨⟨k + 1, by go_num, by omega, e, B0, B1, G⟩, by simp [intOf]; omega⟩
    · have k1 : ¬ (k : Int) < 16 := by omega
      have e : all2 F A B = true := (all2_iff F A B).2 (fun i ha hb => hall.out i (by omega) ha hb)
      go_wp2_with fail
      go_ret
      exact ⟨ret_bool (by first | rfl | exact e.symm), G.out⟩
end R
end Go.Proofs.Ytbbpbfbifgfjdaa
