/-
  Stage 4, image: the small calls: capabilities, types, places.
-/
import Derived.Test.YthmfaafpdogpdaaDoorMMath
import Derived.RegionTactic
import Derived.BigRegion
import Derived.Deep.RegionHeld3
import Derived.StillTactics
namespace Go.Proofs.YthmfaafpdogpdaaDoor
open Go.RowKit

set_option maxHeartbeats 400000 in
theorem hasAll_any (h p : Int) (w : World) :
    Calls Tryd.prog 93 #[.int .u8 h, .int .u8 p] w fun x w' => x = .returned (.bool (hasB h p)) ∧ w = w' := by
  go_enter Tryd.func93, Tryd.ntmps93
  go_wp2
  go_ret
  exact ⟨rfl, rfl⟩
set_option maxHeartbeats 400000 in
theorem capRight_any (b e c p s : Int) (w : World) :
    Calls Tryd.prog 91 #[.agg #[.int .u64 b, .int .u64 e, .int .u64 c, .int .u8 p, .int .i64 s]] w fun x w' => x = .returned (.bool (rightB b e p s)) ∧ w.alloc (.cells #[.int .u64 b, .int .u64 e, .int .u64 c, .int .u8 p, .int .i64 s] 58) = w' := by
  go_enter Tryd.func91, Tryd.ntmps91
  go_wp2_with (go_at_call 93; refine (hasAll_any _ _ _).mono ?_; rintro x w' ⟨rfl, rfl⟩)
  all_goals
    go_ret
    refine ⟨ret_bool ?_, rfl⟩
    first | (refine right_last ?_ ?_ ?_ ?_ <;> assumption) | (refine right_false ?_; rintro ⟨h1, h2, h3, h4, h5⟩; first | omega | contradiction)
set_option maxHeartbeats 400000 in
theorem dataCap_any (b e c p s : Int) (w : World) :
    Calls Tryd.prog 79 #[.agg #[.int .u64 b, .int .u64 e, .int .u64 c, .int .u8 p, .int .i64 s]] w fun x w' => x = .returned (.bool (dataB b e p s)) ∧ Gr w w' := by
  unfold dataB
  generalize hr : rightB b e p s = r
  have hc := capRight_any b e c p s
  rw [hr] at hc
  clear hr
  cases r
  all_goals
    go_enter Tryd.func79, Tryd.ntmps79
    go_wp2_with (go_at_call 91; refine (hc _).mono ?_; rintro x w' ⟨rfl, rfl⟩)
    go_ret
    refine ⟨ret_bool (by simp), ?_⟩
    repeat (first | exact Gr.refl _ | refine Gr.alloc ?_ _)
set_option maxHeartbeats 400000 in
theorem CapOf_any (t : PTyp) (c : Int) (w : World) :
    Calls Tryd.prog 18 #[.agg #[.bool t.cap, .int .u64 t.b, .int .u64 t.e, .int .u64 t.lo, .int .u64 t.hi, .int .u8 t.p, .int .i64 t.s], .int .u64 c] w fun x w' => x = .returned (.agg #[.int .u64 t.b, .int .u64 t.e, .int .u64 c, .int .u8 t.p, .int .i64 t.s]) ∧ Gr w w' := by
  go_enter Tryd.func18, Tryd.ntmps18
  go_wp2
  all_goals
    simp [bodyPost, results, Tryd.results18, go_sem]
    repeat (first | exact Gr.refl _ | refine Gr.alloc ?_ _)
set_option maxHeartbeats 400000 in
theorem pointsWithin_any (t : PTyp) (c : Int) (w : World) :
    Calls Tryd.prog 35 #[.agg #[.bool t.cap, .int .u64 t.b, .int .u64 t.e, .int .u64 t.lo, .int .u64 t.hi, .int .u8 t.p, .int .i64 t.s], .int .u64 c] w fun x w' => x = .returned (.bool (inLH t.lo t.hi c)) ∧ Gr w w' := by
  go_enter Tryd.func35, Tryd.ntmps35
  go_wp2
  all_goals
    go_ret
    refine ⟨ret_bool (by unfold inLH; simp_all <;> omega), ?_⟩
    repeat (first | exact Gr.refl _ | refine Gr.alloc ?_ _)
set_option maxHeartbeats 400000 in
theorem typeRight_any (t : PTyp) (w : World) :
    Calls Tryd.prog 78 #[.agg #[.bool t.cap, .int .u64 t.b, .int .u64 t.e, .int .u64 t.lo, .int .u64 t.hi, .int .u8 t.p, .int .i64 t.s]] w fun x w' => x = .returned (.bool t.right) ∧ Gr w w' := by
  have hc := CapOf_any t 0
  cases ht : t.cap with
  | false =>
    go_enter Tryd.func78, Tryd.ntmps78
    go_wp2
    all_goals
      go_ret
      refine ⟨ret_bool (by simp_all [PTyp.right]), ?_⟩
      (with_reducible repeat (first | exact Gr.refl _ | refine Gr.alloc ?_ _ | refine Gr.grow ?_ _ | refine Gr.drew ?_ | refine Gr.setCell ?_ _ _ _ (gr_size ?_)))
  | true =>
    rw [ht] at hc
    have hd := dataCap_any t.b t.e 0 t.p t.s
    have e : t.right = (dataB t.b t.e t.p t.s && decide (t.lo ≤ t.hi)) := by simp [PTyp.right, ht]
    rw [e]
    clear e ht
    generalize dataB t.b t.e t.p t.s = q at hd ⊢
    have L1 := grow_cell; have L2 := grow_frozen; have L3 := grow_set; have L4 := grow_lt; have L5 := glt1; have L6 := glt2; have L7 := glt3; have L8 := glt4; have L9 := glt5; have L10 := glt6; have L11 := lt1; have L12 := lt2; have L13 := lt3; have L14 := lt4; have L15 := lt5; have L16 := lt6; have L17 := lt7; have L18 := lt8
    cases q
    all_goals
      go_enter Tryd.func78, Tryd.ntmps78
      go_wp2_with (first | (go_at_call 18; refine (hc _).mono ?_; rintro x w' ⟨rfl, hG⟩; (repeat (replace hG := Gr.of_grow hG)); obtain ⟨l, rfl⟩ := hG) | (go_at_call 79; refine (hd _).mono ?_; rintro x w' ⟨rfl, hG⟩; (repeat (replace hG := Gr.of_grow hG)); obtain ⟨l, rfl⟩ := hG))
      go_ret
      refine ⟨ret_bool (by simp), ?_⟩
      (with_reducible repeat (first | exact Gr.refl _ | refine Gr.alloc ?_ _ | refine Gr.grow ?_ _ | refine Gr.drew ?_ | refine Gr.setCell ?_ _ _ _ (gr_size ?_)))
set_option maxHeartbeats 400000 in
theorem targetThere_any (k : Ins) (code gates : Int) (w : World) (h0 : 0 ≤ k.op) (h1 : k.op < 256) :
    Calls Tryd.prog 80 #[.agg #[.int .u8 k.op, .int .i64 k.a, .int .i64 k.b, .int .i64 k.c, .int .i64 k.m], .int .i64 code, .int .i64 gates] w fun x w' => x = .returned (.bool (tgtB k.op k.m code gates)) ∧ Gr w w' := by
  go_enter Tryd.func80, Tryd.ntmps80
  go_wp2
  all_goals
    go_ret
    refine ⟨ret_bool (by unfold tgtB; simp_all <;> omega), ?_⟩
    (with_reducible repeat (first | exact Gr.refl _ | refine Gr.alloc ?_ _ | refine Gr.grow ?_ _ | refine Gr.drew ?_ | refine Gr.setCell ?_ _ _ _ (gr_size ?_)))
set_option maxHeartbeats 1000000 in
theorem placeRight_any (b n f : Int) (d : ByteArray) (a : Option Addr) (k c : Nat) (w : World) (hb : W64 b) (hn : W64 n) :
    Calls Tryd.prog 53 #[.agg #[.int .u64 b, .int .u64 n, .string d, .slice a k c], .int .u64 f] w fun x w' => x = .returned (.bool (placeB b n f)) ∧ Gr w w' := by
  obtain ⟨b0, b1⟩ := hb
  obtain ⟨n0, n1⟩ := hn
  have m1 : b.tmod 16 = b % 16 := Int.tmod_eq_emod_of_nonneg b0
  have m2 : n.tmod 16 = n % 16 := Int.tmod_eq_emod_of_nonneg n0
  by_cases h6 : b < 65536
  · have m3 : IntKind.u64.wrap (65536 - b) = 65536 - b := by rw [IntKind.wrap_u64]; omega
    go_enter Tryd.func53, Tryd.ntmps53
    go_wp2
    all_goals
      go_ret
      refine ⟨ret_bool (by unfold placeB; simp_all <;> first | rfl | omega), ?_⟩
      (with_reducible repeat (first | exact Gr.refl _ | refine Gr.alloc ?_ _ | refine Gr.grow ?_ _ | refine Gr.drew ?_ | refine Gr.setCell ?_ _ _ _ (gr_size ?_)))
  · go_enter Tryd.func53, Tryd.ntmps53
    go_wp2
    all_goals
      go_ret
      refine ⟨ret_bool (by unfold placeB; simp_all <;> first | rfl | omega), ?_⟩
      (with_reducible repeat (first | exact Gr.refl _ | refine Gr.alloc ?_ _ | refine Gr.grow ?_ _ | refine Gr.drew ?_ | refine Gr.setCell ?_ _ _ _ (gr_size ?_)))
set_option maxHeartbeats 1000000 in
theorem slotRight_any (k : PSlot) (w : World) :
    Calls Tryd.prog 55 #[.agg #[.bool k.t.cap, .int .u64 k.t.b, .int .u64 k.t.e, .int .u64 k.t.lo, .int .u64 k.t.hi, .int .u8 k.t.p, .int .i64 k.t.s, .int .u64 k.c]] w fun x w' => x = .returned (.bool k.right) ∧ Gr w w' := by
  have ht := typeRight_any k.t
  have hp := pointsWithin_any k.t k.c
  unfold PSlot.right
  generalize k.t.right = q1 at ht ⊢
  generalize inLH k.t.lo k.t.hi k.c = q2 at hp ⊢
  generalize k.t.cap = q0 at ht hp ⊢
  have L1 := grow_cell; have L2 := grow_frozen; have L3 := grow_set; have L4 := grow_lt; have L5 := glt1; have L6 := glt2; have L7 := glt3; have L8 := glt4; have L9 := glt5; have L10 := glt6; have L11 := lt1; have L12 := lt2; have L13 := lt3; have L14 := lt4; have L15 := lt5; have L16 := lt6; have L17 := lt7; have L18 := lt8
  cases q0
  · go_enter Tryd.func55, Tryd.ntmps55
    go_wp2
    go_ret
    refine ⟨ret_bool (by simp), ?_⟩
    (with_reducible repeat (first | exact Gr.refl _ | refine Gr.alloc ?_ _ | refine Gr.grow ?_ _ | refine Gr.drew ?_ | refine Gr.setCell ?_ _ _ _ (gr_size ?_)))
  · cases q1
    all_goals
      go_enter Tryd.func55, Tryd.ntmps55
      go_wp2_with (first | (go_at_call 78; refine (ht _).mono ?_; rintro x w' ⟨rfl, hG⟩; (repeat (replace hG := Gr.of_grow hG)); obtain ⟨l, rfl⟩ := hG) | (go_at_call 35; refine (hp _).mono ?_; rintro x w' ⟨rfl, hG⟩; (repeat (replace hG := Gr.of_grow hG)); obtain ⟨l, rfl⟩ := hG))
      go_ret
      refine ⟨ret_bool (by simp), ?_⟩
      (with_reducible repeat (first | exact Gr.refl _ | refine Gr.alloc ?_ _ | refine Gr.grow ?_ _ | refine Gr.drew ?_ | refine Gr.setCell ?_ _ _ _ (gr_size ?_)))
end Go.Proofs.YthmfaafpdogpdaaDoor
