/-
  Stage 4, image: typesRight, rootsRight.
-/
import Derived.Test.YthmfaafpdogpdaaDoorMLeaf
namespace Go.Proofs.YthmfaafpdogpdaaDoor
open Go.RowKit

theorem typ_cells {w : World} {b o : Nat} {t : PTyp} (h : ∀ j, j < 7 → w.cell? ⟨b, o + j, none⟩ = t.vals[j]?) :
    w.cell? ⟨b, o, none⟩ = some (.bool t.cap) ∧ w.cell? ⟨b, o + 1, none⟩ = some (.int .u64 t.b) ∧ w.cell? ⟨b, o + 1 + 1, none⟩ = some (.int .u64 t.e) ∧ w.cell? ⟨b, o + 1 + 1 + 1, none⟩ = some (.int .u64 t.lo) ∧ w.cell? ⟨b, o + 1 + 1 + 1 + 1, none⟩ = some (.int .u64 t.hi) ∧ w.cell? ⟨b, o + 1 + 1 + 1 + 1 + 1, none⟩ = some (.int .u8 t.p) ∧ w.cell? ⟨b, o + 1 + 1 + 1 + 1 + 1 + 1, none⟩ = some (.int .i64 t.s) :=
  ⟨h 0 (by omega), h 1 (by omega), h 2 (by omega), h 3 (by omega), h 4 (by omega), h 5 (by omega), h 6 (by omega)⟩
theorem root_cells {w : World} {b o : Nat} {t : PRoot} (h : ∀ j, j < 6 → w.cell? ⟨b, o + j, none⟩ = t.vals[j]?) :
    w.cell? ⟨b, o, none⟩ = some (.int .i64 t.r) ∧ w.cell? ⟨b, o + 1, none⟩ = some (.int .u64 t.b) ∧ w.cell? ⟨b, o + 1 + 1, none⟩ = some (.int .u64 t.e) ∧ w.cell? ⟨b, o + 1 + 1 + 1, none⟩ = some (.int .u64 t.c) ∧ w.cell? ⟨b, o + 1 + 1 + 1 + 1, none⟩ = some (.int .u8 t.p) ∧ w.cell? ⟨b, o + 1 + 1 + 1 + 1 + 1, none⟩ = some (.int .i64 t.s) :=
  ⟨h 0 (by omega), h 1 (by omega), h 2 (by omega), h 3 (by omega), h 4 (by omega), h 5 (by omega)⟩
theorem slot_cells {w : World} {b o : Nat} {t : PSlot} (h : ∀ j, j < 8 → w.cell? ⟨b, o + j, none⟩ = t.vals[j]?) :
    w.cell? ⟨b, o, none⟩ = some (.bool t.t.cap) ∧ w.cell? ⟨b, o + 1, none⟩ = some (.int .u64 t.t.b) ∧ w.cell? ⟨b, o + 1 + 1, none⟩ = some (.int .u64 t.t.e) ∧ w.cell? ⟨b, o + 1 + 1 + 1, none⟩ = some (.int .u64 t.t.lo) ∧ w.cell? ⟨b, o + 1 + 1 + 1 + 1, none⟩ = some (.int .u64 t.t.hi) ∧ w.cell? ⟨b, o + 1 + 1 + 1 + 1 + 1, none⟩ = some (.int .u8 t.t.p) ∧ w.cell? ⟨b, o + 1 + 1 + 1 + 1 + 1 + 1, none⟩ = some (.int .i64 t.t.s) ∧ w.cell? ⟨b, o + 1 + 1 + 1 + 1 + 1 + 1 + 1, none⟩ = some (.int .u64 t.c) :=
  ⟨h 0 (by omega), h 1 (by omega), h 2 (by omega), h 3 (by omega), h 4 (by omega), h 5 (by omega), h 6 (by omega), h 7 (by omega)⟩
theorem typesR_at {L : List PTyp} {j : Nat} (h : j < L.length) : typesR (L.drop j) = (L[j].right && typesR (L.drop (j + 1))) := by
  rw [List.drop_eq_getElem_cons h, typesR]
theorem drop_end {α : Type} {L : List α} {j : Nat} (h : ¬ j < L.length) : L.drop j = [] := by rw [List.drop_eq_nil_iff]; omega
set_option maxHeartbeats 1000000 in
theorem typesRight_any (L : List PTyp) (c : Nat) (a : Option Addr) (w : World) (hL : FIn 7 PTyp.vals w.heap.size w a L) (hl : L.length ≤ 140737488355328) :
    Calls Tryd.prog 58 #[.slice a L.length c] w fun x w' => x = .returned (.bool (typesR L)) ∧ Gr w w' := by
  replace hL := Hid.mk hL
  go_enter Tryd.func58, Tryd.ntmps58
  go_wp2_with fail
  go_loopw [7] (fun i wr => ∃ j : Nat, i = .int .i64 j ∧ j ≤ L.length ∧ Hid (typesR (L.drop j) = typesR L ∧ Gr w wr)) (fun i _ => L.length - (intOf i).toNat)
  case atStart => exact ⟨0, rfl, by omega, ⟨rfl, Gr.refl w⟩⟩
  case round =>
    obtain ⟨j, rfl, hj, ⟨hf, hG⟩⟩ := hrel
    by_cases hlt : j < L.length
    · have jl : (j : Int) < L.length := by omega
      obtain ⟨b, off, rfl, hb, hb2, hc⟩ := hL.out.below hG.below j hlt
      obtain ⟨c0, c1, c2, c3, c4, c5, c6⟩ := typ_cells hc
      clear hc
      rw [typesR_at hlt] at hf
      have ht := typeRight_any L[j]
      generalize L[j] = t at *
      generalize t.right = q at hf ht
      replace hf := Hid.mk hf
      replace hG := Hid.mk hG
      cases q
      all_goals
        go_wp2_with fail
        refine (ht _).mono ?_
        rintro x w2 ⟨rfl, hG2⟩
        replace hG := hG.out.trans hG2.of_alloc
        clear hG2
        replace hG := Hid.mk hG
        go_wp2_with fail
      · go_ret
        exact ⟨ret_bool (by rw [← hf.out]; simp), hG.out⟩
      · go_roundw
        case rel => exact ⟨j + 1, by simp, by omega, ⟨by rw [← hf.out]; simp, hG.out⟩⟩
        case measure => simp [intOf]; omega
    · have jl : ¬ (j : Int) < L.length := by omega
      rw [drop_end hlt] at hf
      replace hf := Hid.mk hf
      replace hG := Hid.mk hG
      go_wp2_with fail
      go_ret
      exact ⟨ret_bool hf.out, hG.out⟩
theorem rootsR_yes {L : List PRoot} {j : Nat} {f : Int} (h : j < L.length) (h1 : f < L[j].r) (h2 : L[j].r < 16) (h3 : dataB L[j].b L[j].e L[j].p L[j].s = true) : rootsR (L.drop j) f = rootsR (L.drop (j + 1)) L[j].r := by
  rw [List.drop_eq_getElem_cons h, rootsR, if_pos ⟨h1, h2, h3⟩]
theorem rootsR_no {L : List PRoot} {j : Nat} {f : Int} (h : j < L.length) (h1 : ¬ (f < L[j].r ∧ L[j].r < 16 ∧ dataB L[j].b L[j].e L[j].p L[j].s = true)) : rootsR (L.drop j) f = false := by
  rw [List.drop_eq_getElem_cons h, rootsR, if_neg h1]
set_option maxHeartbeats 1000000 in
theorem rootsRight_any (L : List PRoot) (c : Nat) (a : Option Addr) (w : World) (hL : FIn 6 PRoot.vals w.heap.size w a L) (hl : L.length ≤ 140737488355328) :
    Calls Tryd.prog 56 #[.slice a L.length c] w fun x w' => x = .returned (.bool (rootsR L 7)) ∧ Gr w w' := by
  replace hL := Hid.mk hL
  go_enter Tryd.func56, Tryd.ntmps56
  go_wp2_with fail
  go_loopw [3, 8] (fun v i wr => ∃ (j : Nat) (f : Int), v = .int .i64 f ∧ i = .int .i64 j ∧ j ≤ L.length ∧ Hid (rootsR (L.drop j) f = rootsR L 7 ∧ Gr w wr)) (fun _ i _ => L.length - (intOf i).toNat)
  case atStart => exact ⟨0, 7, rfl, rfl, by omega, ⟨rfl, Gr.refl w⟩⟩
  case round =>
    obtain ⟨j, f, rfl, rfl, hj, ⟨hf, hG⟩⟩ := hrel
    by_cases hlt : j < L.length
    · have jl : (j : Int) < L.length := by omega
      obtain ⟨b, off, rfl, hb, hb2, hc⟩ := hL.out.below hG.below j hlt
      obtain ⟨c0, c1, c2, c3, c4, c5⟩ := root_cells hc
      clear hc
      have hy := rootsR_yes (f := f) hlt
      have hn := rootsR_no (f := f) hlt
      rw [hf] at hy hn
      clear hf
      have ht := dataCap_any L[j].b L[j].e L[j].c L[j].p L[j].s
      generalize L[j] = t at *
      generalize dataB t.b t.e t.p t.s = q at *
      replace hG := Hid.mk hG
      by_cases k1 : t.r ≤ f
      · replace hn := Hid.mk (hn (fun h => by omega))
        clear hy
        go_wp2_with fail
        go_ret
        exact ⟨ret_bool hn.out.symm, hG.out.alloc _⟩
      by_cases k2 : 16 ≤ t.r
      · replace hn := Hid.mk (hn (fun h => by omega))
        clear hy
        go_wp2_with fail
        go_ret
        exact ⟨ret_bool hn.out.symm, hG.out.alloc _⟩
      have k1' : ¬ t.r ≤ f := k1
      have k2' : ¬ 16 ≤ t.r := k2
      cases q
      · replace hn := Hid.mk (hn (fun h => by simp at h))
        clear hy
        have L1 := grow_cell; have L2 := grow_frozen; have L3 := grow_set; have L4 := grow_lt; have L5 := glt1; have L6 := glt2; have L7 := glt3; have L8 := glt4; have L9 := glt5; have L10 := glt6; have L11 := lt1; have L12 := lt2; have L13 := lt3; have L14 := lt4; have L15 := lt5; have L16 := lt6; have L17 := lt7; have L18 := lt8
        go_wp2_with (go_at_call 79; refine (ht _).mono ?_; rintro x w' ⟨rfl, hG⟩; (repeat (replace hG := Gr.of_grow hG)); obtain ⟨l, rfl⟩ := hG)
        go_ret
        exact ⟨ret_bool hn.out.symm, (hG.out.alloc _).grow _⟩
      · replace hy := Hid.mk (hy (by omega) (by omega) rfl)
        clear hn
        have L1 := grow_cell; have L2 := grow_frozen; have L3 := grow_set; have L4 := grow_lt; have L5 := glt1; have L6 := glt2; have L7 := glt3; have L8 := glt4; have L9 := glt5; have L10 := glt6; have L11 := lt1; have L12 := lt2; have L13 := lt3; have L14 := lt4; have L15 := lt5; have L16 := lt6; have L17 := lt7; have L18 := lt8
        go_wp2_with (go_at_call 79; refine (ht _).mono ?_; rintro x w' ⟨rfl, hG⟩; (repeat (replace hG := Gr.of_grow hG)); obtain ⟨l, rfl⟩ := hG)
        go_roundw
        case rel => exact ⟨j + 1, t.r, rfl, by simp, by omega, ⟨hy.out.symm, (hG.out.alloc _).grow _⟩⟩
        case measure => simp [intOf]; omega
    · have jl : ¬ (j : Int) < L.length := by omega
      rw [drop_end hlt] at hf
      replace hf := Hid.mk hf
      replace hG := Hid.mk hG
      go_wp2_with fail
      go_ret
      exact ⟨ret_bool hf.out, hG.out⟩
end Go.Proofs.YthmfaafpdogpdaaDoor
