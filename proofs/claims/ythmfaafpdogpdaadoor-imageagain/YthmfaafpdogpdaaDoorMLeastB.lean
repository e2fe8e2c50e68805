/-
  Stage 4, image: the chapter's first example: lists of one element, the gate.
-/
import Derived.Test.YthmfaafpdogpdaaDoorMLeast
import Derived.Maps.RangeWalk
namespace Go.Proofs.YthmfaafpdogpdaaDoor
open Go.RowKit

theorem grown_below {w w' : World} (h : w.grownBy w' none) : Below w.heap.size w w' := ⟨h.os, h.tape, h.output, h.size, fun k hk => h.block k hk (by simp)⟩
set_option maxRecDepth 10000 in
set_option maxHeartbeats 1000000 in
theorem listComp_least (kr : Nat) (w : World) (ht : TabIn w) (h : RBox w kr leastS 10 0 0) (hk : 2 ≤ kr) :
    Calls Tryd.prog 49 #[.pointer (some ⟨kr, 0, none⟩), .int .i64 1, .func (.func 50) #[.pointer (some ⟨kr, 0, none⟩)] #[]] w fun x w' => ∃ g c va vc, x = .returned (.slice (some ⟨g, 0, none⟩) 1 c) ∧ w'.ownsRow w.heap.size 65 2 (.slice (some ⟨g, 0, none⟩) 1 c) 1 [.slice none 0 0, .slice va 1 vc] ∧ LOwn w' w.heap.size (.slice va 1 vc) [retI1] ∧ RBox w' kr leastS 21 0 0 ∧ w.grownBy w' (some kr) := by
  have hc := comp_least kr w ht h hk
  have hkl := h.lt
  replace h := Hid.mk h
  generalize leastS = S at *
  go_enter Tryd.func49, Tryd.ntmps49
  go_wp2_with fail
  go_loopw [7, 10] (fun l i wr => (l = .slice none 0 0 ∧ i = .int .i64 0 ∧ wr = w) ∨ (∃ g c va vc, l = .slice (some ⟨g, 0, none⟩) 1 c ∧ i = .int .i64 1 ∧ Hid (wr.ownsRow w.heap.size 65 2 (.slice (some ⟨g, 0, none⟩) 1 c) 1 [.slice none 0 0, .slice va 1 vc] ∧ LOwn wr w.heap.size (.slice va 1 vc) [retI1] ∧ RBox wr kr S 21 0 0 ∧ w.grownBy wr (some kr)))) (fun _ i _ => 1 - (intOf i).toNat)
  case atStart => exact .inl ⟨rfl, rfl, rfl⟩
  case round =>
    rcases hrel with ⟨rfl, rfl, rfl⟩ | ⟨g, c, va, vc, rfl, rfl, hF⟩
    · go_wp2_with fail
      refine hc.mono ?_
      rintro x w1 ⟨v, rfl, hO, h1, hg⟩
      obtain ⟨va, vc, rfl, _⟩ := LOwn.form hO
      have ⟨z0, p0, f0⟩ := (h1.alloc (.cells #[.slice none 0 0, .slice va 1 vc] 65)).at
      have hA : At ((w1.alloc (.cells #[.slice none 0 0, .slice va 1 vc] 65)).alloc (.cells #[.slice none 0 0, .slice va 1 vc] 65)) (w1.heap.size + 1) [Value.slice none 0 0, .slice va 1 vc].toArray := At.next _ _ _ _
      have hG : Gr w1 ((w1.alloc (.cells #[.slice none 0 0, .slice va 1 vc] 65)).alloc (.cells #[.slice none 0 0, .slice va 1 vc] 65)) := ((Gr.refl w1).alloc _).alloc _
      have hs : wr.heap.size ≤ ((w1.alloc (.cells #[.slice none 0 0, .slice va 1 vc] 65)).alloc (.cells #[.slice none 0 0, .slice va 1 vc] 65)).heap.size := Nat.le_trans hg.size (gr_size hG)
      replace hO := Hid.mk (own_below hO hG.below)
      replace h1 := Hid.mk (h1.gr hG)
      replace hg := Hid.mk (hg.trans (grown_of hG.below _))
      replace hA := Hid.mk hA
      replace hs := Hid.mk hs
      clear hc hG h
      go_wp2_with (at_builtin; refine wpList_append_el rfl (.tmp 19) (.tmp 21) 38 65 _ 2 48 rfl Tryd.underlying38 infoComp rfl (by decide) (by decide) wr.heap.size (.slice none 0 0) 0 [] [Value.slice none 0 0, .slice va 1 vc] rfl ⟨rfl, .inl ⟨rfl, rfl⟩⟩ (w1.heap.size + 1) rfl hA.out rfl (by simp [Value.oneCell']) (by decide) hs.out ?_)
      intro g c w5 hrow hgr
      have hgr0 : ∀ row, World.grownBy _ w5 row := fun row => hgr.but row
      replace h1 := Hid.mk (h1.out.below (grown_below hgr) h1.out.lt)
      replace hO := Hid.mk (own_below hO.out (grown_below hgr))
      replace hg := Hid.mk (hg.out.trans (hgr0 _))
      replace hrow := Hid.mk hrow
      clear hgr hgr0 z0 p0 f0
      go_wp2_with fail
      go_roundw
      case rel => exact .inr ⟨g, c, va, vc, rfl, rfl, ⟨hrow.out, hO.out, h1.out, hg.out⟩⟩
      case measure => simp [intOf]
    · go_wp2_with fail
      go_ret
      exact ⟨g, c, va, vc, rfl, hF.out⟩
set_option maxRecDepth 10000 in
set_option maxHeartbeats 1000000 in
theorem gate_least (kr : Nat) (w : World) (h : RBox w kr leastS 21 0 0) :
    Calls Tryd.prog 52 #[.pointer (some ⟨kr, 0, none⟩)] w fun x w' => x = .returned (.agg #[.int .i64 0, .int .i64 0, .slice none 0 0, .slice none 0 0]) ∧ RBox w' kr leastS 26 0 0 ∧ w.grownBy w' (some kr) := by
  have n1 : leN (sub leastS 21 1) = 0 := by decide
  have n2 : leN (sub leastS 22 2) = 0 := by decide
  have n3 : leN (sub leastS 24 1) = 0 := by decide
  have n4 : leN (sub leastS 25 1) = 0 := by decide
  have c1 := fun W h1 => count_ok leastS kr 21 1 0 W h1 (by decide) (by decide) (by omega)
  have c2 := fun W h1 => count_ok leastS kr 22 2 0 W h1 (by decide) (by decide) (by omega)
  have c3 := fun W h1 => count_ok leastS kr 24 1 0 W h1 (by decide) (by decide) (by omega)
  have c4 := fun W h1 => count_ok leastS kr 25 1 0 W h1 (by decide) (by decide) (by omega)
  rw [n1] at c1
  rw [n2] at c2
  rw [n3] at c3
  rw [n4] at c4
  generalize leastS = S at *
  have hne : w.heap.size ≠ kr := by have := h.lt; omega
  go_enter Tryd.func52, Tryd.ntmps52
  go_wp2_with fail
  refine (c1 _ (h.alloc _)).mono ?_
  rintro x w1 ⟨rfl, h1, hg⟩
  have X := (Box.new w #[.int .i64 0, .int .i64 0, .slice none 0 0, .slice none 0 0] 92).kept hg hne
  replace hg := (grown_of ((Gr.refl w).alloc _).below (some kr)).trans hg
  replace h1 := Hid.mk h1
  replace hg := Hid.mk hg
  replace X := Hid.mk X
  clear c1 n1 n2 n3 n4 h
  go_wp2_with fail
  refine (c2 _ h1.out).mono ?_
  rintro x w2 ⟨rfl, h2, hg2⟩
  replace X := Hid.mk (X.out.kept hg2 hne)
  replace hg := Hid.mk (hg.out.trans hg2)
  replace h2 := Hid.mk h2
  clear hg2 h1 c2
  go_wp2_with fail
  refine (c3 _ h2.out).mono ?_
  rintro x w3 ⟨rfl, h3, hg2⟩
  replace X := Hid.mk (X.out.kept hg2 hne)
  replace hg := Hid.mk (hg.out.trans hg2)
  replace h3 := Hid.mk h3
  clear hg2 h2 c3
  go_wp2_with (go_at_call 75; refine (listType_nil _ _ _).mono ?_; rintro x w' ⟨rfl, rfl⟩)
  refine (c4 _ h3.out).mono ?_
  rintro x w4 ⟨rfl, h4, hg2⟩
  replace X := Hid.mk (X.out.kept hg2 hne)
  replace hg := Hid.mk (hg.out.trans hg2)
  replace h4 := Hid.mk h4
  have ⟨z0, p0, f0⟩ := X.out.at
  clear hg2 h3 c4
  go_wp2_with (go_at_call 75; refine (listType_nil _ _ _).mono ?_; rintro x w' ⟨rfl, rfl⟩)
  have b4 := (((X.out.set 0 (.int .i64 0)).set 1 (.int .i64 0)).set 2 (.slice none 0 0)).set 3 (.slice none 0 0)
  have h5 := (((h4.out.kept (grown_set _ w.heap.size 0 (.int .i64 0)) (Ne.symm hne)).kept (grown_set _ w.heap.size 1 (.int .i64 0)) (Ne.symm hne)).kept (grown_set _ w.heap.size 2 (.slice none 0 0)) (Ne.symm hne)).kept (grown_set _ w.heap.size 3 (.slice none 0 0)) (Ne.symm hne)
  have hg4 := grown_box (o := 3) (v := .slice none 0 0) (grown_box (o := 2) (v := .slice none 0 0) (grown_box (o := 1) (v := .int .i64 0) (grown_box (o := 0) (v := .int .i64 0) hg.out (Nat.le_refl _)) (Nat.le_refl _)) (Nat.le_refl _)) (Nat.le_refl _)
  have ⟨_, q4, _⟩ := b4.at
  clear z0 p0 f0 X hg h4 b4
  generalize (((w4.setCell ⟨w.heap.size, 0, none⟩ (.int .i64 0)).setCell ⟨w.heap.size, 1, none⟩ (.int .i64 0)).setCell ⟨w.heap.size, 2, none⟩ (.slice none 0 0)).setCell ⟨w.heap.size, 3, none⟩ (.slice none 0 0) = W4 at *
  simp [bodyPost, results, Tryd.results52, go_sem, q4]
  exact ⟨h5, hg4⟩
set_option maxRecDepth 10000 in
set_option maxHeartbeats 1000000 in
theorem listGate_least (kr : Nat) (w : World) (h : RBox w kr leastS 21 0 0) :
    Calls Tryd.prog 51 #[.pointer (some ⟨kr, 0, none⟩), .int .i64 1, .func (.func 52) #[.pointer (some ⟨kr, 0, none⟩)] #[]] w fun x w' => ∃ g c, x = .returned (.slice (some ⟨g, 0, none⟩) 1 c) ∧ w'.ownsRow w.heap.size 92 4 (.slice (some ⟨g, 0, none⟩) 1 c) 1 [.int .i64 0, .int .i64 0, .slice none 0 0, .slice none 0 0] ∧ RBox w' kr leastS 26 0 0 ∧ w.grownBy w' (some kr) := by
  have hc := gate_least kr w h
  have hkl := h.lt
  replace h := Hid.mk h
  generalize leastS = S at *
  go_enter Tryd.func51, Tryd.ntmps51
  go_wp2_with fail
  go_loopw [7, 10] (fun l i wr => (l = .slice none 0 0 ∧ i = .int .i64 0 ∧ wr = w) ∨ (∃ g c, l = .slice (some ⟨g, 0, none⟩) 1 c ∧ i = .int .i64 1 ∧ Hid (wr.ownsRow w.heap.size 92 4 (.slice (some ⟨g, 0, none⟩) 1 c) 1 [.int .i64 0, .int .i64 0, .slice none 0 0, .slice none 0 0] ∧ RBox wr kr S 26 0 0 ∧ w.grownBy wr (some kr)))) (fun _ i _ => 1 - (intOf i).toNat)
  case atStart => exact .inl ⟨rfl, rfl, rfl⟩
  case round =>
    rcases hrel with ⟨rfl, rfl, rfl⟩ | ⟨g, c, rfl, rfl, hF⟩
    · go_wp2_with fail
      refine hc.mono ?_
      rintro x w1 ⟨rfl, h1, hg⟩
      have ⟨z0, p0, f0⟩ := (h1.alloc (.cells #[.int .i64 0, .int .i64 0, .slice none 0 0, .slice none 0 0] 92)).at
      have hA : At ((w1.alloc (.cells #[.int .i64 0, .int .i64 0, .slice none 0 0, .slice none 0 0] 92)).alloc (.cells #[.int .i64 0, .int .i64 0, .slice none 0 0, .slice none 0 0] 92)) (w1.heap.size + 1) [Value.int .i64 0, .int .i64 0, .slice none 0 0, .slice none 0 0].toArray := At.next _ _ _ _
      have hG : Gr w1 ((w1.alloc (.cells #[.int .i64 0, .int .i64 0, .slice none 0 0, .slice none 0 0] 92)).alloc (.cells #[.int .i64 0, .int .i64 0, .slice none 0 0, .slice none 0 0] 92)) := ((Gr.refl w1).alloc _).alloc _
      have hs : wr.heap.size ≤ ((w1.alloc (.cells #[.int .i64 0, .int .i64 0, .slice none 0 0, .slice none 0 0] 92)).alloc (.cells #[.int .i64 0, .int .i64 0, .slice none 0 0, .slice none 0 0] 92)).heap.size := Nat.le_trans hg.size (gr_size hG)
      replace h1 := Hid.mk (h1.gr hG)
      replace hg := Hid.mk (hg.trans (grown_of hG.below _))
      replace hA := Hid.mk hA
      replace hs := Hid.mk hs
      clear hc hG h
      go_wp2_with (at_builtin; refine wpList_append_el rfl (.tmp 19) (.tmp 21) 39 92 _ 4 64 rfl Tryd.underlying39 infoGate rfl (by decide) (by decide) wr.heap.size (.slice none 0 0) 0 [] [Value.int .i64 0, .int .i64 0, .slice none 0 0, .slice none 0 0] rfl ⟨rfl, .inl ⟨rfl, rfl⟩⟩ (w1.heap.size + 1) rfl hA.out rfl (by simp [Value.oneCell']) (by decide) hs.out ?_)
      intro g c w5 hrow hgr
      have hgr0 : ∀ row, World.grownBy _ w5 row := fun row => hgr.but row
      replace h1 := Hid.mk (h1.out.below (grown_below hgr) h1.out.lt)
      replace hg := Hid.mk (hg.out.trans (hgr0 _))
      replace hrow := Hid.mk hrow
      clear hgr hgr0 z0 p0 f0
      go_wp2_with fail
      go_roundw
      case rel => exact .inr ⟨g, c, rfl, rfl, ⟨hrow.out, h1.out, hg.out⟩⟩
      case measure => simp [intOf]
    · go_wp2_with fail
      go_ret
      exact ⟨g, c, rfl, hF.out⟩
end Go.Proofs.YthmfaafpdogpdaaDoor
