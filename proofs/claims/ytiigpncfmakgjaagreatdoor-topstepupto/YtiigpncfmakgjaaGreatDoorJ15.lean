import Derived.Test.YtiigpncfmakgjaaGreatDoorJ04
import Derived.RegionTactic
import Derived.BigRegion
import Derived.Deep.RegionHeld3
import Derived.StillTactics
import Derived.Test.YtiigpncfmakgjaaGreatDoorJ14
namespace Go.Proofs.YtiigpncfmakgjaaGreatDoor
set_option maxRecDepth 100000
set_option maxHeartbeats 40000000
open Go.RowKit

theorem hasAll_any (h p : Int) (w : World) :
   Calls Tryz.prog 64 #[.int .u8 h, .int .u8 p] w fun x w' => x = .returned (.bool (hasB h p)) ∧ w = w' := by
 go_enter Tryz.func64, Tryz.ntmps64
 go_wp2
 go_ret
 exact ⟨rfl, rfl⟩
theorem capRight_any (b e c p s : Int) (w : World) :
   Calls Tryz.prog 109 #[.agg #[.int .u64 b, .int .u64 e, .int .u64 c, .int .u8 p, .int .i64 s]] w fun x w' => x = .returned (.bool (rightB b e p s)) ∧ w.alloc (.cells #[.int .u64 b, .int .u64 e, .int .u64 c, .int .u8 p, .int .i64 s] 35) = w' := by
 go_enter Tryz.func109, Tryz.ntmps109
 go_wp2_with (go_at_call 64; refine (hasAll_any _ _ _).mono ?_; rintro x w' ⟨rfl, rfl⟩)
 all_goals
   go_ret
   refine ⟨ret_bool ?_, rfl⟩
   first | (refine right_last ?_ ?_ ?_ ?_ <;> assumption) | (refine right_false ?_; rintro ⟨h1, h2, h3, h4, h5⟩; first | omega | contradiction)
theorem dataCap_any (b e c p s : Int) (w : World) :
   Calls Tryz.prog 79 #[.agg #[.int .u64 b, .int .u64 e, .int .u64 c, .int .u8 p, .int .i64 s]] w fun x w' => x = .returned (.bool (dataB b e p s)) ∧ Gr w w' := by
 unfold dataB
 generalize hr : rightB b e p s = r
 have hc := capRight_any b e c p s
 rw [hr] at hc
 clear hr
 cases r
 all_goals
   go_enter Tryz.func79, Tryz.ntmps79
   go_wp2_with (go_at_call 109; refine (hc _).mono ?_; rintro x w' ⟨rfl, rfl⟩)
   go_ret
   refine ⟨ret_bool (by simp), ?_⟩
   repeat (first | exact Gr.refl _ | refine Gr.alloc ?_ _)
theorem CapOf_any (t : PTyp) (c : Int) (w : World) :
   Calls Tryz.prog 107 #[.agg #[.bool t.cap, .int .u64 t.b, .int .u64 t.e, .int .u64 t.lo, .int .u64 t.hi, .int .u8 t.p, .int .i64 t.s], .int .u64 c] w fun x w' => x = .returned (.agg #[.int .u64 t.b, .int .u64 t.e, .int .u64 c, .int .u8 t.p, .int .i64 t.s]) ∧ Gr w w' := by
 go_enter Tryz.func107, Tryz.ntmps107
 go_wp2
 all_goals
   simp [bodyPost, results, Tryz.results107, go_sem]
   repeat (first | exact Gr.refl _ | refine Gr.alloc ?_ _)
theorem pointsWithin_any (t : PTyp) (c : Int) (w : World) :
   Calls Tryz.prog 78 #[.agg #[.bool t.cap, .int .u64 t.b, .int .u64 t.e, .int .u64 t.lo, .int .u64 t.hi, .int .u8 t.p, .int .i64 t.s], .int .u64 c] w fun x w' => x = .returned (.bool (inLH t.lo t.hi c)) ∧ Gr w w' := by
 go_enter Tryz.func78, Tryz.ntmps78
 go_wp2
 all_goals
   go_ret
   refine ⟨ret_bool (by unfold inLH; simp_all <;> omega), ?_⟩
   repeat (first | exact Gr.refl _ | refine Gr.alloc ?_ _)
theorem typeRight_any (t : PTyp) (w : World) :
   Calls Tryz.prog 77 #[.agg #[.bool t.cap, .int .u64 t.b, .int .u64 t.e, .int .u64 t.lo, .int .u64 t.hi, .int .u8 t.p, .int .i64 t.s]] w fun x w' => x = .returned (.bool t.right) ∧ Gr w w' := by
 have hc := CapOf_any t 0
 cases ht : t.cap with
 | false =>
   go_enter Tryz.func77, Tryz.ntmps77
   go_wp2
   all_goals
     go_ret
     refine ⟨ret_bool (by simp_all [PTyp.right]), ?_⟩
     (with_reducible repeat (first | exact Gr.refl _ | refine Gr.alloc ?_ _ | refine Gr.grow ?_ _ | refine Gr.drew ?_ | refine Gr.setCell ?_ _ _ _ (gr_size ?_)))
 | true =>
   rw [ht] at hc
   have hd := dataCap_any t.b t.e 0 t.p t.s
   have e : t.right = (dataB t.b t.e t.p t.s && decide (t.lo ≤ t.hi)) := by simp [PTyp.right, ht]
   rw [e]
   clear e ht
   generalize dataB t.b t.e t.p t.s = q at hd ⊢
   have L1 := grow_cell; have L2 := grow_frozen; have L3 := grow_set; have L4 := grow_lt; have L5 := glt1; have L6 := glt2; have L7 := glt3; have L8 := glt4; have L9 := glt5; have L10 := glt6; have L11 := lt1; have L12 := lt2; have L13 := lt3; have L14 := lt4; have L15 := lt5; have L16 := lt6; have L17 := lt7; have L18 := lt8
   cases q
   all_goals
     go_enter Tryz.func77, Tryz.ntmps77
     go_wp2_with (first | (go_at_call 107; refine (hc _).mono ?_; rintro x w' ⟨rfl, hG⟩; (repeat (replace hG := Gr.of_grow hG)); obtain ⟨l, rfl⟩ := hG) | (go_at_call 79; refine (hd _).mono ?_; rintro x w' ⟨rfl, hG⟩; (repeat (replace hG := Gr.of_grow hG)); obtain ⟨l, rfl⟩ := hG))
     go_ret
     refine ⟨ret_bool (by simp), ?_⟩
     (with_reducible repeat (first | exact Gr.refl _ | refine Gr.alloc ?_ _ | refine Gr.grow ?_ _ | refine Gr.drew ?_ | refine Gr.setCell ?_ _ _ _ (gr_size ?_)))
theorem targetThere_any (k : Ins) (code gates : Int) (w : World) (h0 : 0 ≤ k.op) (h1 : k.op < 256) :
   Calls Tryz.prog 81 #[.agg #[.int .u8 k.op, .int .i64 k.a, .int .i64 k.b, .int .i64 k.c, .int .i64 k.m], .int .i64 code, .int .i64 gates] w fun x w' => x = .returned (.bool (tgtB k.op k.m code gates)) ∧ Gr w w' := by
 go_enter Tryz.func81, Tryz.ntmps81
 go_wp2
 all_goals
   go_ret
   refine ⟨ret_bool (by unfold tgtB; simp_all <;> omega), ?_⟩
   (with_reducible repeat (first | exact Gr.refl _ | refine Gr.alloc ?_ _ | refine Gr.grow ?_ _ | refine Gr.drew ?_ | refine Gr.setCell ?_ _ _ _ (gr_size ?_)))
theorem placeRight_any (b n f : Int) (d : ByteArray) (a : Option Addr) (k c : Nat) (w : World) (hb : W64 b) (hn : W64 n) :
   Calls Tryz.prog 49 #[.agg #[.int .u64 b, .int .u64 n, .string d, .slice a k c], .int .u64 f] w fun x w' => x = .returned (.bool (placeB b n f)) ∧ Gr w w' := by
 obtain ⟨b0, b1⟩ := hb
 obtain ⟨n0, n1⟩ := hn
 have m1 : b.tmod 16 = b % 16 := Int.tmod_eq_emod_of_nonneg b0
 have m2 : n.tmod 16 = n % 16 := Int.tmod_eq_emod_of_nonneg n0
 by_cases h6 : b < 65536
 · have m3 : IntKind.u64.wrap (65536 - b) = 65536 - b := by rw [IntKind.wrap_u64]; omega
   go_enter Tryz.func49, Tryz.ntmps49
   go_wp2
   all_goals
     go_ret
     refine ⟨ret_bool (by unfold placeB; simp_all <;> first | rfl | omega), ?_⟩
     (with_reducible repeat (first | exact Gr.refl _ | refine Gr.alloc ?_ _ | refine Gr.grow ?_ _ | refine Gr.drew ?_ | refine Gr.setCell ?_ _ _ _ (gr_size ?_)))
 · go_enter Tryz.func49, Tryz.ntmps49
   go_wp2
   all_goals
     go_ret
     refine ⟨ret_bool (by unfold placeB; simp_all <;> first | rfl | omega), ?_⟩
     (with_reducible repeat (first | exact Gr.refl _ | refine Gr.alloc ?_ _ | refine Gr.grow ?_ _ | refine Gr.drew ?_ | refine Gr.setCell ?_ _ _ _ (gr_size ?_)))
theorem slotRight_any (k : PSlot) (w : World) :
   Calls Tryz.prog 51 #[.agg #[.bool k.t.cap, .int .u64 k.t.b, .int .u64 k.t.e, .int .u64 k.t.lo, .int .u64 k.t.hi, .int .u8 k.t.p, .int .i64 k.t.s, .int .u64 k.c]] w fun x w' => x = .returned (.bool k.right) ∧ Gr w w' := by
 have ht := typeRight_any k.t
 have hp := pointsWithin_any k.t k.c
 unfold PSlot.right
 generalize k.t.right = q1 at ht ⊢
 generalize inLH k.t.lo k.t.hi k.c = q2 at hp ⊢
 generalize k.t.cap = q0 at ht hp ⊢
 have L1 := grow_cell; have L2 := grow_frozen; have L3 := grow_set; have L4 := grow_lt; have L5 := glt1; have L6 := glt2; have L7 := glt3; have L8 := glt4; have L9 := glt5; have L10 := glt6; have L11 := lt1; have L12 := lt2; have L13 := lt3; have L14 := lt4; have L15 := lt5; have L16 := lt6; have L17 := lt7; have L18 := lt8
 cases q0
 · go_enter Tryz.func51, Tryz.ntmps51
   go_wp2
   go_ret
   refine ⟨ret_bool (by simp), ?_⟩
   (with_reducible repeat (first | exact Gr.refl _ | refine Gr.alloc ?_ _ | refine Gr.grow ?_ _ | refine Gr.drew ?_ | refine Gr.setCell ?_ _ _ _ (gr_size ?_)))
 · cases q1
   all_goals
     go_enter Tryz.func51, Tryz.ntmps51
     go_wp2_with (first | (go_at_call 77; refine (ht _).mono ?_; rintro x w' ⟨rfl, hG⟩; (repeat (replace hG := Gr.of_grow hG)); obtain ⟨l, rfl⟩ := hG) | (go_at_call 78; refine (hp _).mono ?_; rintro x w' ⟨rfl, hG⟩; (repeat (replace hG := Gr.of_grow hG)); obtain ⟨l, rfl⟩ := hG))
     go_ret
     refine ⟨ret_bool (by simp), ?_⟩
     (with_reducible repeat (first | exact Gr.refl _ | refine Gr.alloc ?_ _ | refine Gr.grow ?_ _ | refine Gr.drew ?_ | refine Gr.setCell ?_ _ _ _ (gr_size ?_)))
end Go.Proofs.YtiigpncfmakgjaaGreatDoor


namespace Go.Proofs.YtiigpncfmakgjaaGreatDoor
set_option maxRecDepth 100000
set_option maxHeartbeats 40000000
open Go.RowKit

theorem typ_cells {w : World} {b o : Nat} {t : PTyp} (h : ∀ j, j < 7 → w.cell? ⟨b, o + j, none⟩ = t.vals[j]?) :
   w.cell? ⟨b, o, none⟩ = some (.bool t.cap) ∧ w.cell? ⟨b, o + 1, none⟩ = some (.int .u64 t.b) ∧ w.cell? ⟨b, o + 1 + 1, none⟩ = some (.int .u64 t.e) ∧ w.cell? ⟨b, o + 1 + 1 + 1, none⟩ = some (.int .u64 t.lo) ∧ w.cell? ⟨b, o + 1 + 1 + 1 + 1, none⟩ = some (.int .u64 t.hi) ∧ w.cell? ⟨b, o + 1 + 1 + 1 + 1 + 1, none⟩ = some (.int .u8 t.p) ∧ w.cell? ⟨b, o + 1 + 1 + 1 + 1 + 1 + 1, none⟩ = some (.int .i64 t.s) :=
 ⟨h 0 (by omega), h 1 (by omega), h 2 (by omega), h 3 (by omega), h 4 (by omega), h 5 (by omega), h 6 (by omega)⟩
theorem root_cells {w : World} {b o : Nat} {t : PRoot} (h : ∀ j, j < 6 → w.cell? ⟨b, o + j, none⟩ = t.vals[j]?) :
   w.cell? ⟨b, o, none⟩ = some (.int .i64 t.r) ∧ w.cell? ⟨b, o + 1, none⟩ = some (.int .u64 t.b) ∧ w.cell? ⟨b, o + 1 + 1, none⟩ = some (.int .u64 t.e) ∧ w.cell? ⟨b, o + 1 + 1 + 1, none⟩ = some (.int .u64 t.c) ∧ w.cell? ⟨b, o + 1 + 1 + 1 + 1, none⟩ = some (.int .u8 t.p) ∧ w.cell? ⟨b, o + 1 + 1 + 1 + 1 + 1, none⟩ = some (.int .i64 t.s) :=
 ⟨h 0 (by omega), h 1 (by omega), h 2 (by omega), h 3 (by omega), h 4 (by omega), h 5 (by omega)⟩
theorem slot_cells {w : World} {b o : Nat} {t : PSlot} (h : ∀ j, j < 8 → w.cell? ⟨b, o + j, none⟩ = t.vals[j]?) :
   w.cell? ⟨b, o, none⟩ = some (.bool t.t.cap) ∧ w.cell? ⟨b, o + 1, none⟩ = some (.int .u64 t.t.b) ∧ w.cell? ⟨b, o + 1 + 1, none⟩ = some (.int .u64 t.t.e) ∧ w.cell? ⟨b, o + 1 + 1 + 1, none⟩ = some (.int .u64 t.t.lo) ∧ w.cell? ⟨b, o + 1 + 1 + 1 + 1, none⟩ = some (.int .u64 t.t.hi) ∧ w.cell? ⟨b, o + 1 + 1 + 1 + 1 + 1, none⟩ = some (.int .u8 t.t.p) ∧ w.cell? ⟨b, o + 1 + 1 + 1 + 1 + 1 + 1, none⟩ = some (.int .i64 t.t.s) ∧ w.cell? ⟨b, o + 1 + 1 + 1 + 1 + 1 + 1 + 1, none⟩ = some (.int .u64 t.c) :=
 ⟨h 0 (by omega), h 1 (by omega), h 2 (by omega), h 3 (by omega), h 4 (by omega), h 5 (by omega), h 6 (by omega), h 7 (by omega)⟩
theorem typesR_at {L : List PTyp} {j : Nat} (h : j < L.length) : typesR (L.drop j) = (L[j].right && typesR (L.drop (j + 1))) := by
 rw [List.drop_eq_getElem_cons h, typesR]
theorem drop_end {α : Type} {L : List α} {j : Nat} (h : ¬ j < L.length) : L.drop j = [] := by rw [List.drop_eq_nil_iff]; omega
theorem typesRight_any (L : List PTyp) (c : Nat) (a : Option Addr) (w : World) (hL : FIn 7 PTyp.vals w.heap.size w a L) (hl : L.length ≤ 140737488355328) :
   Calls Tryz.prog 54 #[.slice a L.length c] w fun x w' => x = .returned (.bool (typesR L)) ∧ Gr w w' := by
 replace hL := Hid.mk hL
 go_enter Tryz.func54, Tryz.ntmps54
 go_wp2_with fail
 go_loopw [7] (fun i wr => ∃ j : Nat, i = .int .i64 j ∧ j ≤ L.length ∧ Hid (typesR (L.drop j) = typesR L ∧ Gr w wr)) (fun i _ => L.length - (intOf i).toNat)
 case atStart => exact ⟨0, rfl, by omega, ⟨rfl, Gr.refl w⟩⟩
 case round =>
   obtain ⟨j, rfl, hj, ⟨hf, hG⟩⟩ := hrel
   by_cases hlt : j < L.length
   · have jl : (j : Int) < L.length := by omega
     obtain ⟨b, off, rfl, hb, hb2, hc⟩ := hL.out.below hG.below j hlt
     obtain ⟨c0, c1, c2, c3, c4, c5, c6⟩ := typ_cells hc
     clear hc
     rw [typesR_at hlt] at hf
     have ht := typeRight_any L[j]
     generalize L[j] = t at *
     generalize t.right = q at hf ht
     replace hf := Hid.mk hf
     replace hG := Hid.mk hG
     cases q
     all_goals
       go_wp2_with fail
       refine (ht _).mono ?_
       rintro x w2 ⟨rfl, hG2⟩
       replace hG := hG.out.trans hG2.of_alloc
       clear hG2
       replace hG := Hid.mk hG
       go_wp2_with fail
     · go_ret
       exact ⟨ret_bool (by rw [← hf.out]; simp), hG.out⟩
     · go_roundw
       case rel => exact ⟨j + 1, by simp, by omega, ⟨by rw [← hf.out]; simp, hG.out⟩⟩
       case measure => simp [intOf]; omega
   · have jl : ¬ (j : Int) < L.length := by omega
     rw [drop_end hlt] at hf
     replace hf := Hid.mk hf
     replace hG := Hid.mk hG
     go_wp2_with fail
     go_ret
     exact ⟨ret_bool hf.out, hG.out⟩
theorem rootsR_yes {L : List PRoot} {j : Nat} {f : Int} (h : j < L.length) (h1 : f < L[j].r) (h2 : L[j].r < 16) (h3 : dataB L[j].b L[j].e L[j].p L[j].s = true) : rootsR (L.drop j) f = rootsR (L.drop (j + 1)) L[j].r := by
 rw [List.drop_eq_getElem_cons h, rootsR, if_pos ⟨h1, h2, h3⟩]
theorem rootsR_no {L : List PRoot} {j : Nat} {f : Int} (h : j < L.length) (h1 : ¬ (f < L[j].r ∧ L[j].r < 16 ∧ dataB L[j].b L[j].e L[j].p L[j].s = true)) : rootsR (L.drop j) f = false := by
 rw [List.drop_eq_getElem_cons h, rootsR, if_neg h1]
theorem rootsRight_any (L : List PRoot) (c : Nat) (a : Option Addr) (w : World) (hL : FIn 6 PRoot.vals w.heap.size w a L) (hl : L.length ≤ 140737488355328) :
   Calls Tryz.prog 52 #[.slice a L.length c] w fun x w' => x = .returned (.bool (rootsR L 7)) ∧ Gr w w' := by
 replace hL := Hid.mk hL
 go_enter Tryz.func52, Tryz.ntmps52
 go_wp2_with fail
 go_loopw [3, 8] (fun v i wr => ∃ (j : Nat) (f : Int), v = .int .i64 f ∧ i = .int .i64 j ∧ j ≤ L.length ∧ Hid (rootsR (L.drop j) f = rootsR L 7 ∧ Gr w wr)) (fun _ i _ => L.length - (intOf i).toNat)
 case atStart => exact ⟨0, 7, rfl, rfl, by omega, ⟨rfl, Gr.refl w⟩⟩
 case round =>
   obtain ⟨j, f, rfl, rfl, hj, ⟨hf, hG⟩⟩ := hrel
   by_cases hlt : j < L.length
   · have jl : (j : Int) < L.length := by omega
     obtain ⟨b, off, rfl, hb, hb2, hc⟩ := hL.out.below hG.below j hlt
     obtain ⟨c0, c1, c2, c3, c4, c5⟩ := root_cells hc
     clear hc
     have hy := rootsR_yes (f := f) hlt
     have hn := rootsR_no (f := f) hlt
     rw [hf] at hy hn
     clear hf
     have ht := dataCap_any L[j].b L[j].e L[j].c L[j].p L[j].s
     generalize L[j] = t at *
     generalize dataB t.b t.e t.p t.s = q at *
     replace hG := Hid.mk hG
     by_cases k1 : t.r ≤ f
     · replace hn := Hid.mk (hn (fun h => by omega))
       clear hy
       go_wp2_with fail
       go_ret
       exact ⟨ret_bool hn.out.symm, hG.out.alloc _⟩
     by_cases k2 : 16 ≤ t.r
     · replace hn := Hid.mk (hn (fun h => by omega))
       clear hy
       go_wp2_with fail
       go_ret
       exact ⟨ret_bool hn.out.symm, hG.out.alloc _⟩
     have k1' : ¬ t.r ≤ f := k1
     have k2' : ¬ 16 ≤ t.r := k2
     cases q
     · replace hn := Hid.mk (hn (fun h => by simp at h))
       clear hy
       have L1 := grow_cell; have L2 := grow_frozen; have L3 := grow_set; have L4 := grow_lt; have L5 := glt1; have L6 := glt2; have L7 := glt3; have L8 := glt4; have L9 := glt5; have L10 := glt6; have L11 := lt1; have L12 := lt2; have L13 := lt3; have L14 := lt4; have L15 := lt5; have L16 := lt6; have L17 := lt7; have L18 := lt8
       go_wp2_with (go_at_call 79; refine (ht _).mono ?_; rintro x w' ⟨rfl, hG⟩; (repeat (replace hG := Gr.of_grow hG)); obtain ⟨l, rfl⟩ := hG)
       go_ret
       exact ⟨ret_bool hn.out.symm, (hG.out.alloc _).grow _⟩
     · replace hy := Hid.mk (hy (by omega) (by omega) rfl)
       clear hn
       have L1 := grow_cell; have L2 := grow_frozen; have L3 := grow_set; have L4 := grow_lt; have L5 := glt1; have L6 := glt2; have L7 := glt3; have L8 := glt4; have L9 := glt5; have L10 := glt6; have L11 := lt1; have L12 := lt2; have L13 := lt3; have L14 := lt4; have L15 := lt5; have L16 := lt6; have L17 := lt7; have L18 := lt8
       go_wp2_with (go_at_call 79; refine (ht _).mono ?_; rintro x w' ⟨rfl, hG⟩; (repeat (replace hG := Gr.of_grow hG)); obtain ⟨l, rfl⟩ := hG)
       go_roundw
       case rel => exact ⟨j + 1, t.r, rfl, by simp, by omega, ⟨hy.out.symm, (hG.out.alloc _).grow _⟩⟩
       case measure => simp [intOf]; omega
   · have jl : ¬ (j : Int) < L.length := by omega
     rw [drop_end hlt] at hf
     replace hf := Hid.mk hf
     replace hG := Hid.mk hG
     go_wp2_with fail
     go_ret
     exact ⟨ret_bool hf.out, hG.out⟩
end Go.Proofs.YtiigpncfmakgjaaGreatDoor


namespace Go.Proofs.YtiigpncfmakgjaaGreatDoor
open Go.RowKit

def Box (w : World) (k : Nat) (cs : Array Value) (t : TypeId) : Prop := w.heap[k]? = some (.cells cs t (0, 0))
theorem Box.new (w : World) (cs : Array Value) (t : TypeId) : Box (w.alloc (.cells cs t)) w.heap.size cs t := (MapKept.heap_alloc w _).1
theorem Box.lt {w : World} {k : Nat} {cs : Array Value} {t : TypeId} (h : Box w k cs t) : k < w.heap.size := (Array.getElem?_eq_some_iff.1 h).1
theorem Box.below {w w1 : World} {k B : Nat} {cs : Array Value} {t : TypeId} (h : Box w k cs t) (hb : Below B w w1) (hk : k < B) : Box w1 k cs t := (hb.block k hk).trans h
theorem Box.gr {w w1 : World} {k : Nat} {cs : Array Value} {t : TypeId} (h : Box w k cs t) (hb : Gr w w1) : Box w1 k cs t := h.below hb.below h.lt
theorem Box.alloc {w : World} {k : Nat} {cs : Array Value} {t : TypeId} (h : Box w k cs t) (o : Obj) : Box (w.alloc o) k cs t := h.gr ((Gr.refl w).alloc o)
theorem Box.at {w : World} {k : Nat} {cs : Array Value} {t : TypeId} (h : Box w k cs t) : At w k cs := one_at h
end Go.Proofs.YtiigpncfmakgjaaGreatDoor


namespace Go.Proofs.YtiigpncfmakgjaaGreatDoor
set_option maxRecDepth 100000
set_option maxHeartbeats 40000000
open Go.RowKit
theorem extract_any (S : List UInt8) (i j : Nat) : (str S).extract i j = str ((S.take j).drop i) := by
 apply ByteArray.ext
 simp [str, ByteArray.data_extract]
 rw [List.drop_take]
theorem ends_last (d : List UInt8) (h : 0 < d.length) : (((str d).extract (d.length - 1) d.length).toList == (str [0]).toList) = endsNought d := by
 rw [extract_any, str_list, str_list, List.take_length]
 have e : d.drop (d.length - 1) = [d[d.length - 1]] := by
   rw [List.drop_eq_getElem_cons (by omega)]
   have : d.drop (d.length - 1 + 1) = [] := by rw [List.drop_eq_nil_iff]; omega
   rw [this]
 rw [e]
 unfold endsNought
 rw [List.getLast?_eq_getElem?, List.getElem?_eq_getElem (by omega)]
 simp
theorem liteSuffix_any (d : List UInt8) (w : World) (hd : d.length ≤ 9223372036854775807) :
   Calls Tryz.prog 108 #[.string (str d), .string (str [0])] w fun x w' => x = .returned (.bool (endsNought d)) ∧ w = w' := by
 have ss := str_size d
 have s1 : (str [0]).size = 1 := rfl
 by_cases h : 0 < d.length
 · have e := ends_last d h
   have h1 : (1 : Int) ≤ d.length := by omega
   generalize endsNought d = q at e ⊢
   go_enter Tryz.func108, Tryz.ntmps108
   go_wp2
   go_ret
   exact ⟨ret_bool rfl, rfl⟩
 · have e : d = [] := List.eq_nil_of_length_eq_zero (by omega)
   subst e
   go_enter Tryz.func108, Tryz.ntmps108
   go_wp2
   go_ret
   exact ⟨rfl, rfl⟩
theorem HasSuffix_any (d : List UInt8) (w : World) (hd : d.length ≤ 9223372036854775807) :
   Calls Tryz.prog 76 #[.string (str d), .string (str [0])] w fun x w' => x = .returned (.bool (endsNought d)) ∧ w = w' := by
 have hl := fun w => liteSuffix_any d w hd
 generalize endsNought d = q at hl ⊢
 go_enter Tryz.func76, Tryz.ntmps76
 go_wp2_with (go_at_call 108; refine (hl _).mono ?_; rintro x w' ⟨rfl, rfl⟩)
 go_ret
 exact ⟨rfl, rfl⟩
theorem contentRight_any (b n : Int) (d : List UInt8) (a : Option Addr) (k c : Nat) (w : World) (hd : d.length ≤ 9223372036854775807) (hk : k ≤ 140737488355328) :
   Calls Tryz.prog 50 #[.agg #[.int .u64 b, .int .u64 n, .string (str d), .slice a k c]] w fun x w' => x = .returned (.bool (contentB n d k)) ∧ Gr w w' := by
 have hl := fun w => HasSuffix_any d w hd
 have ss := str_size d
 have sl := str_list d
 have z0 : (⟨#[0]⟩ : ByteArray) = str [0] := rfl
 by_cases h : 0 < k
 · have e1 : IntKind.u64.wrap (16 * (k : Int)) = 16 * k := by rw [IntKind.wrap_u64]; omega
   have e2 : IntKind.u64.wrap (k : Int) = k := by rw [IntKind.wrap_u64]; omega
   rw [show contentB n d k = (d.isEmpty && (n == 16 * (k : Int))) by simp [contentB, h]]
   have h' : (0 : Int) < k := by omega
   go_enter Tryz.func50, Tryz.ntmps50
   go_wp2
   all_goals
     go_ret
     refine ⟨ret_bool (by simp_all <;> (intros; omega)), ?_⟩
     (with_reducible repeat (first | exact Gr.refl _ | refine Gr.alloc ?_ _ | refine Gr.grow ?_ _ | refine Gr.drew ?_ | refine Gr.setCell ?_ _ _ _ (gr_size ?_)))
 · have e2 : IntKind.u64.wrap (d.length : Int) = d.length := by rw [IntKind.wrap_u64]; omega
   rw [show contentB n d k = (decide ((d.length : Int) ≤ n) && !endsNought d) by simp [contentB, h]]
   generalize endsNought d = q at hl ⊢
   obtain rfl : k = 0 := by omega
   go_enter Tryz.func50, Tryz.ntmps50
   go_wp2_with (go_at_call 76; refine (hl _).mono ?_; rintro x w' ⟨rfl, rfl⟩)
   all_goals
     go_ret
     refine ⟨ret_bool (by simp_all <;> (intros; omega)), ?_⟩
     (with_reducible repeat (first | exact Gr.refl _ | refine Gr.alloc ?_ _ | refine Gr.grow ?_ _ | refine Gr.drew ?_ | refine Gr.setCell ?_ _ _ _ (gr_size ?_)))
end Go.Proofs.YtiigpncfmakgjaaGreatDoor
