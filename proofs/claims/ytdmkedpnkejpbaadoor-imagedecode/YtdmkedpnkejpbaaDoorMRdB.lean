import Derived.Test.YtdmkedpnkejpbaaDoorMRdA
import Derived.Test.YtdmkedpnkejpbaaDoorP18
/-
  Stage 4, image: the reader's capability, root, kind and slot, of any state.
-/
namespace Go.Proofs.YtdmkedpnkejpbaaDoor
open Go.RowKit

/-- Some cells of a block, written one behind the other. -/
def setRow (w : World) (k : Nat) : Nat → List Value → World
  | _, [] => w
  | j, v :: vs => setRow (w.setCell ⟨k, j, none⟩ v) k (j + 1) vs
theorem setRow_box {k : Nat} {t : TypeId} : ∀ (vs : List Value) (w : World) (j : Nat) (pre post : List Value), Box w k (pre ++ post).toArray t → pre.length = j → vs.length ≤ post.length → Box (setRow w k j vs) k (pre ++ vs ++ post.drop vs.length).toArray t
  | [], w, j, pre, post, h, _, _ => by simpa [setRow] using h
  | v :: vs, w, j, pre, [], h, _, hl => by simp at hl
  | v :: vs, w, j, pre, u :: post, h, hj, hl => by
    rw [setRow]
    have h1 := h.set j v
    have e : (pre ++ u :: post).toArray.setIfInBounds j v = ((pre ++ [v]) ++ post).toArray := by
      subst hj
      simp
    rw [e] at h1
    have := setRow_box vs _ (j + 1) (pre ++ [v]) post h1 (by simp; omega) (by simpa using hl)
    simpa using this
theorem Box.setRow {w : World} {k : Nat} {cs : Array Value} {t : TypeId} (h : Box w k cs t) (vs : List Value) (hl : cs.size = vs.length) : Box (Go.Proofs.YtdmkedpnkejpbaaDoor.setRow w k 0 vs) k vs.toArray t := by
  have h1 : Box w k ([] ++ cs.toList).toArray t := by simpa using h
  have := setRow_box vs w 0 [] cs.toList h1 rfl (by simp [hl])
  have hd : cs.toList.drop vs.length = [] := by rw [List.drop_eq_nil_iff]; simp [hl]
  rw [hd] at this
  simpa using this
theorem Box.setRow_other {kr k : Nat} {c : Array Value} {t : TypeId} : ∀ {cs : List Value} {w : World} {j : Nat}, Box w kr c t → k ≠ kr → Box (Go.Proofs.YtdmkedpnkejpbaaDoor.setRow w k j cs) kr c t
  | [], _, _, h, _ => h
  | v :: vs, w, j, h, hne => Box.setRow_other (cs := vs) (j := j + 1) (h.kept (grown_set w k j v) (Ne.symm hne)) hne
theorem grown_row {w : World} {kr k : Nat} : ∀ (vs : List Value) {w3 : World} {j : Nat}, w.grownBy w3 (some kr) → w.heap.size ≤ k → w.grownBy (setRow w3 k j vs) (some kr)
  | [], _, _, h, _ => h
  | v :: vs, _, j, h, hk => grown_row vs (grown_box (o := j) (v := v) h hk) hk
theorem own_row {base e size n k : Nat} {v : Value} {xs : List Value} {t : TypeId} : ∀ (vs : List Value) {w : World} {j : Nat} {cs : Array Value}, w.ownsRow base e size v n xs → Box w k cs t → t ≠ e → (setRow w k j vs).ownsRow base e size v n xs
  | [], _, _, _, h, _, _ => h
  | u :: vs, _, j, _, h, hb, ht => own_row vs (own_setBox (o := j) (u := u) h hb ht) (hb.set j u) ht
set_option maxRecDepth 10000 in
set_option maxHeartbeats 2000000 in
theorem rcapability_any (S : List UInt8) (kr : Nat) (σ : RS) (w : World) (h : RIn w kr S σ) (hi : σ.In S) (hS : S.length ≤ 140737488355328) :
    Calls Tryd.prog 75 #[.pointer (some ⟨kr, 0, none⟩)] w fun x w' => x = .returned (.agg #[.int .u64 (numV S 8 σ), .int .u64 (numV S 8 (takeS S 8 σ)), .int .u64 (numV S 8 (takeS S 8 (takeS S 8 σ))), .int .u8 (numV S 1 (takeS S 8 (takeS S 8 (takeS S 8 σ)))), .int .i64 (numV S 1 (takeS S 1 (takeS S 8 (takeS S 8 (takeS S 8 σ)))))]) ∧ RIn w' kr S (capS S σ) ∧ w.grownBy w' (some kr) := by
  have c1 := fun W h1 => number_any S kr 8 (σ) W h1 hi hS (by omega)
  have i1 := takeS_in (S := S) 8 hi
  have c2 := fun W h1 => number_any S kr 8 (takeS S 8 σ) W h1 i1 hS (by omega)
  have i2 := takeS_in (S := S) 8 i1
  have c3 := fun W h1 => number_any S kr 8 (takeS S 8 (takeS S 8 σ)) W h1 i2 hS (by omega)
  have i3 := takeS_in (S := S) 8 i2
  have c4 := fun W h1 => perms_any S kr (takeS S 8 (takeS S 8 (takeS S 8 σ))) W h1 i3 hS
  have i4 := takeS_in (S := S) 1 i3
  have c5 := fun W h1 => count_any S kr 1 (takeS S 1 (takeS S 8 (takeS S 8 (takeS S 8 σ)))) W h1 i4 hS (by omega)
  have i5 := takeS_in (S := S) 1 i4
  unfold capS
  generalize numV S 8 σ = y1 at *
  generalize takeS S 8 σ = σ1 at *
  generalize numV S 8 σ1 = y2 at *
  generalize takeS S 8 σ1 = σ2 at *
  generalize numV S 8 σ2 = y3 at *
  generalize takeS S 8 σ2 = σ3 at *
  generalize numV S 1 σ3 = y4 at *
  generalize takeS S 1 σ3 = σ4 at *
  generalize numV S 1 σ4 = y5 at *
  generalize takeS S 1 σ4 = σ5 at *
  clear i1 i2 i3 i4 i5 hi hS
  have hne : w.heap.size ≠ kr := by have := h.lt; omega
  go_enter Tryd.func75, Tryd.ntmps75
  go_wp2_with fail
  have X := Box.new w #[.int .u64 0, .int .u64 0, .int .u64 0, .int .u8 0, .int .i64 0] 39
  have hg := grown_of ((Gr.refl w).alloc (.cells #[.int .u64 0, .int .u64 0, .int .u64 0, .int .u8 0, .int .i64 0] 39)).below (some kr)
  replace h : RIn (w.alloc (.cells #[.int .u64 0, .int .u64 0, .int .u64 0, .int .u8 0, .int .i64 0] 39)) kr S σ := h.alloc _
  refine (c1 _ h).mono ?_
  rintro x w1 ⟨rfl, h', hg2⟩
  replace X := X.kept hg2 hne
  replace hg := hg.trans hg2
  replace h := h'
  clear hg2 h' c1
  replace X := Hid.mk X
  replace hg := Hid.mk hg
  replace h := Hid.mk h
  go_wp2_with fail
  replace X := X.out
  replace hg := hg.out
  replace h := h.out
  refine (c2 _ h).mono ?_
  rintro x w2 ⟨rfl, h', hg2⟩
  replace X := X.kept hg2 hne
  replace hg := hg.trans hg2
  replace h := h'
  clear hg2 h' c2
  replace X := Hid.mk X
  replace hg := Hid.mk hg
  replace h := Hid.mk h
  go_wp2_with fail
  replace X := X.out
  replace hg := hg.out
  replace h := h.out
  refine (c3 _ h).mono ?_
  rintro x w3 ⟨rfl, h', hg2⟩
  replace X := X.kept hg2 hne
  replace hg := hg.trans hg2
  replace h := h'
  clear hg2 h' c3
  replace X := Hid.mk X
  replace hg := Hid.mk hg
  replace h := Hid.mk h
  go_wp2_with fail
  replace X := X.out
  replace hg := hg.out
  replace h := h.out
  refine (c4 _ h).mono ?_
  rintro x w4 ⟨rfl, h', hg2⟩
  replace X := X.kept hg2 hne
  replace hg := hg.trans hg2
  replace h := h'
  clear hg2 h' c4
  replace X := Hid.mk X
  replace hg := Hid.mk hg
  replace h := Hid.mk h
  go_wp2_with fail
  replace X := X.out
  replace hg := hg.out
  replace h := h.out
  refine (c5 _ h).mono ?_
  rintro x w5 ⟨rfl, h', hg2⟩
  replace X := X.kept hg2 hne
  replace hg := hg.trans hg2
  replace h := h'
  clear hg2 h' c5
  have ⟨z0, p0, f0⟩ := X.at
  replace X := Hid.mk X
  replace hg := Hid.mk hg
  replace h := Hid.mk h
  go_wp2_with fail
  have b4 : Box ((((((w5).setCell ⟨w.heap.size, 0, none⟩ (.int .u64 y1)).setCell ⟨w.heap.size, 1, none⟩ (.int .u64 y2)).setCell ⟨w.heap.size, 2, none⟩ (.int .u64 y3)).setCell ⟨w.heap.size, 3, none⟩ (.int .u8 y4)).setCell ⟨w.heap.size, 4, none⟩ (.int .i64 y5)) w.heap.size #[.int .u64 y1, .int .u64 y2, .int .u64 y3, .int .u8 y4, .int .i64 y5] 39 := Box.setRow X.out [.int .u64 y1, .int .u64 y2, .int .u64 y3, .int .u8 y4, .int .i64 y5] rfl
  have h4 : RIn ((((((w5).setCell ⟨w.heap.size, 0, none⟩ (.int .u64 y1)).setCell ⟨w.heap.size, 1, none⟩ (.int .u64 y2)).setCell ⟨w.heap.size, 2, none⟩ (.int .u64 y3)).setCell ⟨w.heap.size, 3, none⟩ (.int .u8 y4)).setCell ⟨w.heap.size, 4, none⟩ (.int .i64 y5)) kr S σ5 := Box.setRow_other (cs := [.int .u64 y1, .int .u64 y2, .int .u64 y3, .int .u8 y4, .int .i64 y5]) h.out hne
  have hg4 : w.grownBy ((((((w5).setCell ⟨w.heap.size, 0, none⟩ (.int .u64 y1)).setCell ⟨w.heap.size, 1, none⟩ (.int .u64 y2)).setCell ⟨w.heap.size, 2, none⟩ (.int .u64 y3)).setCell ⟨w.heap.size, 3, none⟩ (.int .u8 y4)).setCell ⟨w.heap.size, 4, none⟩ (.int .i64 y5)) (some kr) := grown_row [.int .u64 y1, .int .u64 y2, .int .u64 y3, .int .u8 y4, .int .i64 y5] hg.out (Nat.le_refl _)
  have ⟨_, q4, _⟩ := b4.at
  clear z0 p0 f0 X hg h b4
  generalize (((((w5).setCell ⟨w.heap.size, 0, none⟩ (.int .u64 y1)).setCell ⟨w.heap.size, 1, none⟩ (.int .u64 y2)).setCell ⟨w.heap.size, 2, none⟩ (.int .u64 y3)).setCell ⟨w.heap.size, 3, none⟩ (.int .u8 y4)).setCell ⟨w.heap.size, 4, none⟩ (.int .i64 y5) = W4 at *
  simp [bodyPost, results, Tryd.results75, go_sem, q4]
  exact ⟨h4, hg4⟩
set_option maxRecDepth 10000 in
set_option maxHeartbeats 2000000 in
theorem rroot_any (S : List UInt8) (kr : Nat) (σ : RS) (w : World) (h : RIn w kr S σ) (hi : σ.In S) (hS : S.length ≤ 140737488355328) :
    Calls Tryd.prog 57 #[.pointer (some ⟨kr, 0, none⟩)] w fun x w' => x = .returned (.agg #[.int .i64 (numV S 1 σ), .int .u64 (numV S 8 (takeS S 1 σ)), .int .u64 (numV S 8 (takeS S 8 (takeS S 1 σ))), .int .u64 (numV S 8 (takeS S 8 (takeS S 8 (takeS S 1 σ)))), .int .u8 (numV S 1 (takeS S 8 (takeS S 8 (takeS S 8 (takeS S 1 σ))))), .int .i64 (numV S 1 (takeS S 1 (takeS S 8 (takeS S 8 (takeS S 8 (takeS S 1 σ))))))]) ∧ RIn w' kr S (capS S (takeS S 1 σ)) ∧ w.grownBy w' (some kr) := by
  have c1 := fun W h1 => count_any S kr 1 (σ) W h1 hi hS (by omega)
  have i1 := takeS_in (S := S) 1 hi
  have c2 := fun W h1 => rcapability_any S kr (takeS S 1 σ) W h1 i1 hS
  have i2 := capS_in (S := S) i1
  generalize numV S 1 σ = y1 at *
  generalize takeS S 1 σ = σ1 at *
  generalize numV S 8 σ1 = y2 at *
  generalize numV S 8 (takeS S 8 σ1) = y3 at *
  generalize numV S 8 (takeS S 8 (takeS S 8 σ1)) = y4 at *
  generalize numV S 1 (takeS S 8 (takeS S 8 (takeS S 8 σ1))) = y5 at *
  generalize numV S 1 (takeS S 1 (takeS S 8 (takeS S 8 (takeS S 8 σ1)))) = y6 at *
  generalize capS S σ1 = σ2 at *
  clear i1 i2 hi hS
  have hne : w.heap.size ≠ kr := by have := h.lt; omega
  go_enter Tryd.func57, Tryd.ntmps57
  go_wp2_with fail
  have X := Box.new w #[.int .i64 0, .int .u64 0, .int .u64 0, .int .u64 0, .int .u8 0, .int .i64 0] 93
  have hg := grown_of ((Gr.refl w).alloc (.cells #[.int .i64 0, .int .u64 0, .int .u64 0, .int .u64 0, .int .u8 0, .int .i64 0] 93)).below (some kr)
  replace h : RIn (w.alloc (.cells #[.int .i64 0, .int .u64 0, .int .u64 0, .int .u64 0, .int .u8 0, .int .i64 0] 93)) kr S σ := h.alloc _
  refine (c1 _ h).mono ?_
  rintro x w1 ⟨rfl, h', hg2⟩
  replace X := X.kept hg2 hne
  replace hg := hg.trans hg2
  replace h := h'
  clear hg2 h' c1
  replace X := Hid.mk X
  replace hg := Hid.mk hg
  replace h := Hid.mk h
  go_wp2_with fail
  replace X := X.out
  replace hg := hg.out
  replace h := h.out
  refine (c2 _ h).mono ?_
  rintro x w2 ⟨rfl, h', hg2⟩
  replace X := X.kept hg2 hne
  replace hg := hg.trans hg2
  replace h := h'
  clear hg2 h' c2
  have ⟨z0, p0, f0⟩ := X.at
  replace X := Hid.mk X
  replace hg := Hid.mk hg
  replace h := Hid.mk h
  go_wp2_with fail
  have b4 : Box (((((((w2).setCell ⟨w.heap.size, 0, none⟩ (.int .i64 y1)).setCell ⟨w.heap.size, 1, none⟩ (.int .u64 y2)).setCell ⟨w.heap.size, 2, none⟩ (.int .u64 y3)).setCell ⟨w.heap.size, 3, none⟩ (.int .u64 y4)).setCell ⟨w.heap.size, 4, none⟩ (.int .u8 y5)).setCell ⟨w.heap.size, 5, none⟩ (.int .i64 y6)) w.heap.size #[.int .i64 y1, .int .u64 y2, .int .u64 y3, .int .u64 y4, .int .u8 y5, .int .i64 y6] 93 := Box.setRow X.out [.int .i64 y1, .int .u64 y2, .int .u64 y3, .int .u64 y4, .int .u8 y5, .int .i64 y6] rfl
  have h4 : RIn (((((((w2).setCell ⟨w.heap.size, 0, none⟩ (.int .i64 y1)).setCell ⟨w.heap.size, 1, none⟩ (.int .u64 y2)).setCell ⟨w.heap.size, 2, none⟩ (.int .u64 y3)).setCell ⟨w.heap.size, 3, none⟩ (.int .u64 y4)).setCell ⟨w.heap.size, 4, none⟩ (.int .u8 y5)).setCell ⟨w.heap.size, 5, none⟩ (.int .i64 y6)) kr S σ2 := Box.setRow_other (cs := [.int .i64 y1, .int .u64 y2, .int .u64 y3, .int .u64 y4, .int .u8 y5, .int .i64 y6]) h.out hne
  have hg4 : w.grownBy (((((((w2).setCell ⟨w.heap.size, 0, none⟩ (.int .i64 y1)).setCell ⟨w.heap.size, 1, none⟩ (.int .u64 y2)).setCell ⟨w.heap.size, 2, none⟩ (.int .u64 y3)).setCell ⟨w.heap.size, 3, none⟩ (.int .u64 y4)).setCell ⟨w.heap.size, 4, none⟩ (.int .u8 y5)).setCell ⟨w.heap.size, 5, none⟩ (.int .i64 y6)) (some kr) := grown_row [.int .i64 y1, .int .u64 y2, .int .u64 y3, .int .u64 y4, .int .u8 y5, .int .i64 y6] hg.out (Nat.le_refl _)
  have ⟨_, q4, _⟩ := b4.at
  clear z0 p0 f0 X hg h b4
  generalize ((((((w2).setCell ⟨w.heap.size, 0, none⟩ (.int .i64 y1)).setCell ⟨w.heap.size, 1, none⟩ (.int .u64 y2)).setCell ⟨w.heap.size, 2, none⟩ (.int .u64 y3)).setCell ⟨w.heap.size, 3, none⟩ (.int .u64 y4)).setCell ⟨w.heap.size, 4, none⟩ (.int .u8 y5)).setCell ⟨w.heap.size, 5, none⟩ (.int .i64 y6) = W4 at *
  simp [bodyPost, results, Tryd.results57, go_sem, q4]
  exact ⟨h4, hg4⟩
set_option maxRecDepth 10000 in
set_option maxHeartbeats 2000000 in
theorem rkind_any (S : List UInt8) (kr : Nat) (σ : RS) (w : World) (h : RIn w kr S σ) (hi : σ.In S) (hS : S.length ≤ 140737488355328) :
    Calls Tryd.prog 60 #[.pointer (some ⟨kr, 0, none⟩)] w fun x w' => x = .returned (.agg #[.bool (kindP S σ).1.cap, .int .u64 (kindP S σ).1.b, .int .u64 (kindP S σ).1.e, .int .u64 (kindP S σ).1.lo, .int .u64 (kindP S σ).1.hi, .int .u8 (kindP S σ).1.p, .int .i64 (kindP S σ).1.s]) ∧ RIn w' kr S (kindP S σ).2 ∧ w.grownBy w' (some kr) := by
  have hne : w.heap.size ≠ kr := by have := h.lt; omega
  have c0 := fun W h1 => number_any S kr 1 σ W h1 hi hS (by omega)
  have j0 := takeS_in (S := S) 1 hi
  have hF := fun W h1 => fail_any S kr (takeS S 1 σ) 44 σ.i W h1
  have ⟨z0, p0, f0⟩ := (h.alloc (.cells #[.bool false, .int .u64 0, .int .u64 0, .int .u64 0, .int .u64 0, .int .u8 0, .int .i64 0] 88)).at
  by_cases k0 : numV S 1 σ = 0
  · have r1 : kindP S σ = (zTyp, takeS S 1 σ) := by unfold kindP; rw [if_pos k0]
    rw [r1]
    rw [k0] at c0
    unfold zTyp
    simp only
    generalize takeS S 1 σ = σ1 at *
    clear r1 k0 hF j0
    replace h := Hid.mk h
    go_enter Tryd.func60, Tryd.ntmps60
    go_wp2_with fail
    have X := Box.new w #[.bool false, .int .u64 0, .int .u64 0, .int .u64 0, .int .u64 0, .int .u8 0, .int .i64 0] 88
    have hg := grown_of ((Gr.refl w).alloc (.cells #[.bool false, .int .u64 0, .int .u64 0, .int .u64 0, .int .u64 0, .int .u8 0, .int .i64 0] 88)).below (some kr)
    have h2 : RIn (w.alloc (.cells #[.bool false, .int .u64 0, .int .u64 0, .int .u64 0, .int .u64 0, .int .u8 0, .int .i64 0] 88)) kr S σ := h.out.alloc _
    clear z0 p0 f0 h
    refine (c0 _ h2).mono ?_
    rintro x w1 ⟨rfl, h', hg2⟩
    replace X := X.kept hg2 hne
    replace hg := hg.trans hg2
    clear hg2 h2 c0
    have ⟨z0, p0, f0⟩ := X.at
    replace X := Hid.mk X
    replace hg := Hid.mk hg
    replace h' := Hid.mk h'
    go_wp2_with fail
    have b4 : Box ((((((((w1).setCell ⟨w.heap.size, 0, none⟩ (.bool false)).setCell ⟨w.heap.size, 1, none⟩ (.int .u64 0)).setCell ⟨w.heap.size, 2, none⟩ (.int .u64 0)).setCell ⟨w.heap.size, 3, none⟩ (.int .u64 0)).setCell ⟨w.heap.size, 4, none⟩ (.int .u64 0)).setCell ⟨w.heap.size, 5, none⟩ (.int .u8 0)).setCell ⟨w.heap.size, 6, none⟩ (.int .i64 0)) w.heap.size #[.bool false, .int .u64 0, .int .u64 0, .int .u64 0, .int .u64 0, .int .u8 0, .int .i64 0] 88 := Box.setRow X.out [.bool false, .int .u64 0, .int .u64 0, .int .u64 0, .int .u64 0, .int .u8 0, .int .i64 0] rfl
    have h4 : RIn ((((((((w1).setCell ⟨w.heap.size, 0, none⟩ (.bool false)).setCell ⟨w.heap.size, 1, none⟩ (.int .u64 0)).setCell ⟨w.heap.size, 2, none⟩ (.int .u64 0)).setCell ⟨w.heap.size, 3, none⟩ (.int .u64 0)).setCell ⟨w.heap.size, 4, none⟩ (.int .u64 0)).setCell ⟨w.heap.size, 5, none⟩ (.int .u8 0)).setCell ⟨w.heap.size, 6, none⟩ (.int .i64 0)) kr S σ1 := Box.setRow_other (cs := [.bool false, .int .u64 0, .int .u64 0, .int .u64 0, .int .u64 0, .int .u8 0, .int .i64 0]) h'.out hne
    have hg4 : w.grownBy ((((((((w1).setCell ⟨w.heap.size, 0, none⟩ (.bool false)).setCell ⟨w.heap.size, 1, none⟩ (.int .u64 0)).setCell ⟨w.heap.size, 2, none⟩ (.int .u64 0)).setCell ⟨w.heap.size, 3, none⟩ (.int .u64 0)).setCell ⟨w.heap.size, 4, none⟩ (.int .u64 0)).setCell ⟨w.heap.size, 5, none⟩ (.int .u8 0)).setCell ⟨w.heap.size, 6, none⟩ (.int .i64 0)) (some kr) := grown_row [.bool false, .int .u64 0, .int .u64 0, .int .u64 0, .int .u64 0, .int .u8 0, .int .i64 0] hg.out (Nat.le_refl _)
    have ⟨_, q4, _⟩ := b4.at
    clear z0 p0 f0 X hg h' b4
    generalize (((((((w1).setCell ⟨w.heap.size, 0, none⟩ (.bool false)).setCell ⟨w.heap.size, 1, none⟩ (.int .u64 0)).setCell ⟨w.heap.size, 2, none⟩ (.int .u64 0)).setCell ⟨w.heap.size, 3, none⟩ (.int .u64 0)).setCell ⟨w.heap.size, 4, none⟩ (.int .u64 0)).setCell ⟨w.heap.size, 5, none⟩ (.int .u8 0)).setCell ⟨w.heap.size, 6, none⟩ (.int .i64 0) = W4 at *
    simp [bodyPost, results, Tryd.results60, go_sem, q4]
    exact ⟨h4, hg4⟩
  have k0' : (numV S 1 σ == 0) = false := by simpa using k0
  by_cases k1 : numV S 1 σ = 1
  · have r1 : kindP S σ = (typV S (takeS S 1 σ), typS S (takeS S 1 σ)) := by unfold kindP; rw [if_neg k0, if_pos k1]
    rw [r1]
    rw [k1] at c0
    unfold typV typS
    simp only
    clear k0 k0' r1 k1
    generalize takeS S 1 σ = σ1 at *
    have c1 := fun W h1 => number_any S kr 8 σ1 W h1 j0 hS (by omega)
    have j1 := takeS_in (S := S) 8 j0
    have c2 := fun W h1 => number_any S kr 8 (takeS S 8 σ1) W h1 j1 hS (by omega)
    have j2 := takeS_in (S := S) 8 j1
    have c3 := fun W h1 => number_any S kr 8 (takeS S 8 (takeS S 8 σ1)) W h1 j2 hS (by omega)
    have j3 := takeS_in (S := S) 8 j2
    have c4 := fun W h1 => number_any S kr 8 (takeS S 8 (takeS S 8 (takeS S 8 σ1))) W h1 j3 hS (by omega)
    have j4 := takeS_in (S := S) 8 j3
    have c5 := fun W h1 => perms_any S kr (takeS S 8 (takeS S 8 (takeS S 8 (takeS S 8 σ1)))) W h1 j4 hS
    have j5 := takeS_in (S := S) 1 j4
    have c6 := fun W h1 => count_any S kr 1 (takeS S 1 (takeS S 8 (takeS S 8 (takeS S 8 (takeS S 8 σ1))))) W h1 j5 hS (by omega)
    clear j0 j1 j2 j3 j4 j5
    generalize numV S 8 σ1 = y1 at *
    generalize takeS S 8 σ1 = σ2 at *
    generalize numV S 8 σ2 = y2 at *
    generalize takeS S 8 σ2 = σ3 at *
    generalize numV S 8 σ3 = y3 at *
    generalize takeS S 8 σ3 = σ4 at *
    generalize numV S 8 σ4 = y4 at *
    generalize takeS S 8 σ4 = σ5 at *
    generalize numV S 1 σ5 = y5 at *
    generalize takeS S 1 σ5 = σ6 at *
    generalize numV S 1 σ6 = y6 at *
    generalize takeS S 1 σ6 = σ7 at *
    clear hF
    replace h := Hid.mk h
    go_enter Tryd.func60, Tryd.ntmps60
    go_wp2_with fail
    have X := Box.new w #[.bool false, .int .u64 0, .int .u64 0, .int .u64 0, .int .u64 0, .int .u8 0, .int .i64 0] 88
    have hg := grown_of ((Gr.refl w).alloc (.cells #[.bool false, .int .u64 0, .int .u64 0, .int .u64 0, .int .u64 0, .int .u8 0, .int .i64 0] 88)).below (some kr)
    have h2 : RIn (w.alloc (.cells #[.bool false, .int .u64 0, .int .u64 0, .int .u64 0, .int .u64 0, .int .u8 0, .int .i64 0] 88)) kr S σ := h.out.alloc _
    clear z0 p0 f0 h
    refine (c0 _ h2).mono ?_
    rintro x w1 ⟨rfl, h', hg2⟩
    replace X := Hid.mk (X.kept hg2 hne)
    replace hg := Hid.mk (hg.trans hg2)
    replace h' := Hid.mk h'
    clear hg2 h2 c0
    go_wp2_with fail
    refine (c1 _ h'.out).mono ?_
    clear h'
    rintro x w2 ⟨rfl, h', hg2⟩
    replace X := Hid.mk (X.out.kept hg2 hne)
    replace hg := Hid.mk (hg.out.trans hg2)
    replace h' := Hid.mk h'
    clear hg2 c1
    go_wp2_with fail
    refine (c2 _ h'.out).mono ?_
    clear h'
    rintro x w3 ⟨rfl, h', hg2⟩
    replace X := Hid.mk (X.out.kept hg2 hne)
    replace hg := Hid.mk (hg.out.trans hg2)
    replace h' := Hid.mk h'
    clear hg2 c2
    go_wp2_with fail
    refine (c3 _ h'.out).mono ?_
    clear h'
    rintro x w4 ⟨rfl, h', hg2⟩
    replace X := Hid.mk (X.out.kept hg2 hne)
    replace hg := Hid.mk (hg.out.trans hg2)
    replace h' := Hid.mk h'
    clear hg2 c3
    go_wp2_with fail
    refine (c4 _ h'.out).mono ?_
    clear h'
    rintro x w5 ⟨rfl, h', hg2⟩
    replace X := Hid.mk (X.out.kept hg2 hne)
    replace hg := Hid.mk (hg.out.trans hg2)
    replace h' := Hid.mk h'
    clear hg2 c4
    go_wp2_with fail
    refine (c5 _ h'.out).mono ?_
    clear h'
    rintro x w6 ⟨rfl, h', hg2⟩
    replace X := Hid.mk (X.out.kept hg2 hne)
    replace hg := Hid.mk (hg.out.trans hg2)
    replace h' := Hid.mk h'
    clear hg2 c5
    go_wp2_with fail
    refine (c6 _ h'.out).mono ?_
    clear h'
    rintro x w7 ⟨rfl, h', hg2⟩
    replace X := Hid.mk (X.out.kept hg2 hne)
    replace hg := Hid.mk (hg.out.trans hg2)
    replace h' := Hid.mk h'
    clear hg2 c6
    have ⟨z0, p0, f0⟩ := X.out.at
    go_wp2_with fail
    have b4 : Box ((((((((w7).setCell ⟨w.heap.size, 0, none⟩ (.bool true)).setCell ⟨w.heap.size, 1, none⟩ (.int .u64 y1)).setCell ⟨w.heap.size, 2, none⟩ (.int .u64 y2)).setCell ⟨w.heap.size, 3, none⟩ (.int .u64 y3)).setCell ⟨w.heap.size, 4, none⟩ (.int .u64 y4)).setCell ⟨w.heap.size, 5, none⟩ (.int .u8 y5)).setCell ⟨w.heap.size, 6, none⟩ (.int .i64 y6)) w.heap.size #[.bool true, .int .u64 y1, .int .u64 y2, .int .u64 y3, .int .u64 y4, .int .u8 y5, .int .i64 y6] 88 := Box.setRow X.out [.bool true, .int .u64 y1, .int .u64 y2, .int .u64 y3, .int .u64 y4, .int .u8 y5, .int .i64 y6] rfl
    have h4 : RIn ((((((((w7).setCell ⟨w.heap.size, 0, none⟩ (.bool true)).setCell ⟨w.heap.size, 1, none⟩ (.int .u64 y1)).setCell ⟨w.heap.size, 2, none⟩ (.int .u64 y2)).setCell ⟨w.heap.size, 3, none⟩ (.int .u64 y3)).setCell ⟨w.heap.size, 4, none⟩ (.int .u64 y4)).setCell ⟨w.heap.size, 5, none⟩ (.int .u8 y5)).setCell ⟨w.heap.size, 6, none⟩ (.int .i64 y6)) kr S σ7 := Box.setRow_other (cs := [.bool true, .int .u64 y1, .int .u64 y2, .int .u64 y3, .int .u64 y4, .int .u8 y5, .int .i64 y6]) h'.out hne
    have hg4 : w.grownBy ((((((((w7).setCell ⟨w.heap.size, 0, none⟩ (.bool true)).setCell ⟨w.heap.size, 1, none⟩ (.int .u64 y1)).setCell ⟨w.heap.size, 2, none⟩ (.int .u64 y2)).setCell ⟨w.heap.size, 3, none⟩ (.int .u64 y3)).setCell ⟨w.heap.size, 4, none⟩ (.int .u64 y4)).setCell ⟨w.heap.size, 5, none⟩ (.int .u8 y5)).setCell ⟨w.heap.size, 6, none⟩ (.int .i64 y6)) (some kr) := grown_row [.bool true, .int .u64 y1, .int .u64 y2, .int .u64 y3, .int .u64 y4, .int .u8 y5, .int .i64 y6] hg.out (Nat.le_refl _)
    have ⟨_, q4, _⟩ := b4.at
    clear z0 p0 f0 X hg h' b4
    generalize (((((((w7).setCell ⟨w.heap.size, 0, none⟩ (.bool true)).setCell ⟨w.heap.size, 1, none⟩ (.int .u64 y1)).setCell ⟨w.heap.size, 2, none⟩ (.int .u64 y2)).setCell ⟨w.heap.size, 3, none⟩ (.int .u64 y3)).setCell ⟨w.heap.size, 4, none⟩ (.int .u64 y4)).setCell ⟨w.heap.size, 5, none⟩ (.int .u8 y5)).setCell ⟨w.heap.size, 6, none⟩ (.int .i64 y6) = W4 at *
    simp [bodyPost, results, Tryd.results60, go_sem, q4]
    exact ⟨h4, hg4⟩
  have k1' : (numV S 1 σ == 1) = false := by simpa using k1
  have r1 : kindP S σ = (zTyp, failS 44 σ.i (takeS S 1 σ)) := by unfold kindP; rw [if_neg k0, if_neg k1]
  rw [r1]
  unfold zTyp
  simp only
  clear k0 k1 r1 j0
  generalize takeS S 1 σ = σ1 at *
  generalize numV S 1 σ = y0 at *
  generalize failS 44 σ.i σ1 = σ2 at *
  replace h := Hid.mk h
  go_enter Tryd.func60, Tryd.ntmps60
  go_wp2_with fail
  have X := Box.new w #[.bool false, .int .u64 0, .int .u64 0, .int .u64 0, .int .u64 0, .int .u8 0, .int .i64 0] 88
  have hg := grown_of ((Gr.refl w).alloc (.cells #[.bool false, .int .u64 0, .int .u64 0, .int .u64 0, .int .u64 0, .int .u8 0, .int .i64 0] 88)).below (some kr)
  have h2 : RIn (w.alloc (.cells #[.bool false, .int .u64 0, .int .u64 0, .int .u64 0, .int .u64 0, .int .u8 0, .int .i64 0] 88)) kr S σ := h.out.alloc _
  clear z0 p0 f0 h
  refine (c0 _ h2).mono ?_
  rintro x w1 ⟨rfl, h', hg2⟩
  replace X := Hid.mk (X.kept hg2 hne)
  replace hg := Hid.mk (hg.trans hg2)
  replace h' := Hid.mk h'
  clear hg2 h2 c0
  go_wp2_with fail
  refine (hF _ h'.out).mono ?_
  clear h'
  rintro x w2 ⟨rfl, h', hg2⟩
  replace X := X.out.kept hg2 hne
  replace hg := Hid.mk (hg.out.trans hg2)
  replace h' := Hid.mk h'
  clear hg2 hF
  have ⟨z0, p0, f0⟩ := X.at
  replace X := Hid.mk X
  go_wp2_with fail
  have b4 : Box ((((((((w2).setCell ⟨w.heap.size, 0, none⟩ (.bool false)).setCell ⟨w.heap.size, 1, none⟩ (.int .u64 0)).setCell ⟨w.heap.size, 2, none⟩ (.int .u64 0)).setCell ⟨w.heap.size, 3, none⟩ (.int .u64 0)).setCell ⟨w.heap.size, 4, none⟩ (.int .u64 0)).setCell ⟨w.heap.size, 5, none⟩ (.int .u8 0)).setCell ⟨w.heap.size, 6, none⟩ (.int .i64 0)) w.heap.size #[.bool false, .int .u64 0, .int .u64 0, .int .u64 0, .int .u64 0, .int .u8 0, .int .i64 0] 88 := Box.setRow X.out [.bool false, .int .u64 0, .int .u64 0, .int .u64 0, .int .u64 0, .int .u8 0, .int .i64 0] rfl
  have h4 : RIn ((((((((w2).setCell ⟨w.heap.size, 0, none⟩ (.bool false)).setCell ⟨w.heap.size, 1, none⟩ (.int .u64 0)).setCell ⟨w.heap.size, 2, none⟩ (.int .u64 0)).setCell ⟨w.heap.size, 3, none⟩ (.int .u64 0)).setCell ⟨w.heap.size, 4, none⟩ (.int .u64 0)).setCell ⟨w.heap.size, 5, none⟩ (.int .u8 0)).setCell ⟨w.heap.size, 6, none⟩ (.int .i64 0)) kr S σ2 := Box.setRow_other (cs := [.bool false, .int .u64 0, .int .u64 0, .int .u64 0, .int .u64 0, .int .u8 0, .int .i64 0]) h'.out hne
  have hg4 : w.grownBy ((((((((w2).setCell ⟨w.heap.size, 0, none⟩ (.bool false)).setCell ⟨w.heap.size, 1, none⟩ (.int .u64 0)).setCell ⟨w.heap.size, 2, none⟩ (.int .u64 0)).setCell ⟨w.heap.size, 3, none⟩ (.int .u64 0)).setCell ⟨w.heap.size, 4, none⟩ (.int .u64 0)).setCell ⟨w.heap.size, 5, none⟩ (.int .u8 0)).setCell ⟨w.heap.size, 6, none⟩ (.int .i64 0)) (some kr) := grown_row [.bool false, .int .u64 0, .int .u64 0, .int .u64 0, .int .u64 0, .int .u8 0, .int .i64 0] hg.out (Nat.le_refl _)
  have ⟨_, q4, _⟩ := b4.at
  clear z0 p0 f0 X hg h' b4
  generalize (((((((w2).setCell ⟨w.heap.size, 0, none⟩ (.bool false)).setCell ⟨w.heap.size, 1, none⟩ (.int .u64 0)).setCell ⟨w.heap.size, 2, none⟩ (.int .u64 0)).setCell ⟨w.heap.size, 3, none⟩ (.int .u64 0)).setCell ⟨w.heap.size, 4, none⟩ (.int .u64 0)).setCell ⟨w.heap.size, 5, none⟩ (.int .u8 0)).setCell ⟨w.heap.size, 6, none⟩ (.int .i64 0) = W4 at *
  simp [bodyPost, results, Tryd.results60, go_sem, q4]
  exact ⟨h4, hg4⟩
set_option maxRecDepth 10000 in
set_option maxHeartbeats 2000000 in
theorem rslot_any (S : List UInt8) (kr : Nat) (σ : RS) (w : World) (h : RIn w kr S σ) (hi : σ.In S) (hS : S.length ≤ 140737488355328) :
    Calls Tryd.prog 53 #[.pointer (some ⟨kr, 0, none⟩)] w fun x w' => x = .returned (.agg #[.bool (kindP S σ).1.cap, .int .u64 (kindP S σ).1.b, .int .u64 (kindP S σ).1.e, .int .u64 (kindP S σ).1.lo, .int .u64 (kindP S σ).1.hi, .int .u8 (kindP S σ).1.p, .int .i64 (kindP S σ).1.s, .int .u64 (numV S 8 (kindP S σ).2)]) ∧ RIn w' kr S (takeS S 8 (kindP S σ).2) ∧ w.grownBy w' (some kr) := by
  have c1 := fun W h1 => rkind_any S kr (σ) W h1 hi hS
  have i1 := kindP_in (S := S) hi
  have c2 := fun W h1 => number_any S kr 8 ((kindP S σ).2) W h1 i1 hS (by omega)
  have i2 := takeS_in (S := S) 8 i1
  generalize (kindP S σ).1 = t at *
  generalize (kindP S σ).2 = σ1 at *
  generalize numV S 8 σ1 = y at *
  generalize takeS S 8 σ1 = σ2 at *
  clear i1 i2 hi hS
  have hne : w.heap.size ≠ kr := by have := h.lt; omega
  go_enter Tryd.func53, Tryd.ntmps53
  go_wp2_with fail
  have X := Box.new w #[.bool false, .int .u64 0, .int .u64 0, .int .u64 0, .int .u64 0, .int .u8 0, .int .i64 0, .int .u64 0] 91
  have hg := grown_of ((Gr.refl w).alloc (.cells #[.bool false, .int .u64 0, .int .u64 0, .int .u64 0, .int .u64 0, .int .u8 0, .int .i64 0, .int .u64 0] 91)).below (some kr)
  replace h : RIn (w.alloc (.cells #[.bool false, .int .u64 0, .int .u64 0, .int .u64 0, .int .u64 0, .int .u8 0, .int .i64 0, .int .u64 0] 91)) kr S σ := h.alloc _
  refine (c1 _ h).mono ?_
  rintro x w1 ⟨rfl, h', hg2⟩
  replace X := X.kept hg2 hne
  replace hg := hg.trans hg2
  replace h := h'
  clear hg2 h' c1
  replace X := Hid.mk X
  replace hg := Hid.mk hg
  replace h := Hid.mk h
  go_wp2_with fail
  replace X := X.out
  replace hg := hg.out
  replace h := h.out
  refine (c2 _ h).mono ?_
  rintro x w2 ⟨rfl, h', hg2⟩
  replace X := X.kept hg2 hne
  replace hg := hg.trans hg2
  replace h := h'
  clear hg2 h' c2
  have ⟨z0, p0, f0⟩ := X.at
  replace X := Hid.mk X
  replace hg := Hid.mk hg
  replace h := Hid.mk h
  go_wp2_with fail
  have b4 : Box (((((((((w2).setCell ⟨w.heap.size, 0, none⟩ (.bool t.cap)).setCell ⟨w.heap.size, 1, none⟩ (.int .u64 t.b)).setCell ⟨w.heap.size, 2, none⟩ (.int .u64 t.e)).setCell ⟨w.heap.size, 3, none⟩ (.int .u64 t.lo)).setCell ⟨w.heap.size, 4, none⟩ (.int .u64 t.hi)).setCell ⟨w.heap.size, 5, none⟩ (.int .u8 t.p)).setCell ⟨w.heap.size, 6, none⟩ (.int .i64 t.s)).setCell ⟨w.heap.size, 7, none⟩ (.int .u64 y)) w.heap.size #[.bool t.cap, .int .u64 t.b, .int .u64 t.e, .int .u64 t.lo, .int .u64 t.hi, .int .u8 t.p, .int .i64 t.s, .int .u64 y] 91 := Box.setRow X.out [.bool t.cap, .int .u64 t.b, .int .u64 t.e, .int .u64 t.lo, .int .u64 t.hi, .int .u8 t.p, .int .i64 t.s, .int .u64 y] rfl
  have h4 : RIn (((((((((w2).setCell ⟨w.heap.size, 0, none⟩ (.bool t.cap)).setCell ⟨w.heap.size, 1, none⟩ (.int .u64 t.b)).setCell ⟨w.heap.size, 2, none⟩ (.int .u64 t.e)).setCell ⟨w.heap.size, 3, none⟩ (.int .u64 t.lo)).setCell ⟨w.heap.size, 4, none⟩ (.int .u64 t.hi)).setCell ⟨w.heap.size, 5, none⟩ (.int .u8 t.p)).setCell ⟨w.heap.size, 6, none⟩ (.int .i64 t.s)).setCell ⟨w.heap.size, 7, none⟩ (.int .u64 y)) kr S σ2 := Box.setRow_other (cs := [.bool t.cap, .int .u64 t.b, .int .u64 t.e, .int .u64 t.lo, .int .u64 t.hi, .int .u8 t.p, .int .i64 t.s, .int .u64 y]) h.out hne
  have hg4 : w.grownBy (((((((((w2).setCell ⟨w.heap.size, 0, none⟩ (.bool t.cap)).setCell ⟨w.heap.size, 1, none⟩ (.int .u64 t.b)).setCell ⟨w.heap.size, 2, none⟩ (.int .u64 t.e)).setCell ⟨w.heap.size, 3, none⟩ (.int .u64 t.lo)).setCell ⟨w.heap.size, 4, none⟩ (.int .u64 t.hi)).setCell ⟨w.heap.size, 5, none⟩ (.int .u8 t.p)).setCell ⟨w.heap.size, 6, none⟩ (.int .i64 t.s)).setCell ⟨w.heap.size, 7, none⟩ (.int .u64 y)) (some kr) := grown_row [.bool t.cap, .int .u64 t.b, .int .u64 t.e, .int .u64 t.lo, .int .u64 t.hi, .int .u8 t.p, .int .i64 t.s, .int .u64 y] hg.out (Nat.le_refl _)
  have ⟨_, q4, _⟩ := b4.at
  clear z0 p0 f0 X hg h b4
  generalize ((((((((w2).setCell ⟨w.heap.size, 0, none⟩ (.bool t.cap)).setCell ⟨w.heap.size, 1, none⟩ (.int .u64 t.b)).setCell ⟨w.heap.size, 2, none⟩ (.int .u64 t.e)).setCell ⟨w.heap.size, 3, none⟩ (.int .u64 t.lo)).setCell ⟨w.heap.size, 4, none⟩ (.int .u64 t.hi)).setCell ⟨w.heap.size, 5, none⟩ (.int .u8 t.p)).setCell ⟨w.heap.size, 6, none⟩ (.int .i64 t.s)).setCell ⟨w.heap.size, 7, none⟩ (.int .u64 y) = W4 at *
  simp [bodyPost, results, Tryd.results53, go_sem, q4]
  exact ⟨h4, hg4⟩
end Go.Proofs.YtdmkedpnkejpbaaDoor
