import Derived.Test.YtcljibdikhpnlaaDoorP22
/-
  Stage 4, image: the chapter's first example: the reader's image, Decode.
-/
namespace Go.Proofs.YtcljibdikhpnlaaDoor
open Go.RowKit

theorem least_pre : ((str leastS).extract 0 6).toList = (str magicB).toList := by rw [extract_any, str_list, str_list]; decide
set_option maxHeartbeats 400000 in
theorem litePrefix_least (w : World) :
    Calls Tryd.prog 65 #[.string (str leastS), .string (str magicB)] w fun x w' => x = .returned (.bool true) ∧ w = w' := by
  have s1 : (str leastS).size = 26 := rfl
  have s2 : (str magicB).size = 6 := rfl
  have e := least_pre
  generalize str leastS = S at *
  generalize str magicB = M at *
  go_enter Tryd.func65, Tryd.ntmps65
  go_wp2_with fail
  go_ret
  exact ⟨rfl, rfl⟩
set_option maxHeartbeats 400000 in
theorem HasPrefix_least (w : World) :
    Calls Tryd.prog 46 #[.string (str leastS), .string (str magicB)] w fun x w' => x = .returned (.bool true) ∧ w = w' := by
  have hl := litePrefix_least
  generalize str leastS = S at *
  generalize str magicB = M at *
  go_enter Tryd.func46, Tryd.ntmps46
  go_wp2_with (go_at_call 65; refine (hl _).mono ?_; rintro x w' ⟨rfl, rfl⟩)
  go_ret
  exact ⟨rfl, rfl⟩
set_option maxRecDepth 10000 in
set_option maxHeartbeats 2000000 in
theorem image_least (kr : Nat) (w : World) (ht : TabIn w) (h : RBox w kr leastS 0 0 0) (hk : 2 ≤ kr) :
    Calls Tryd.prog 30 #[.pointer (some ⟨kr, 0, none⟩)] w fun x w' => ∃ g c va vc g2 c2, x = .returned (.agg #[.slice none 0 0, .slice (some ⟨g, 0, none⟩) 1 c, .slice (some ⟨g2, 0, none⟩) 1 c2, .int .i64 1]) ∧ w'.ownsRow w.heap.size 52 2 (.slice (some ⟨g, 0, none⟩) 1 c) 1 [.slice none 0 0, .slice va 1 vc] ∧ LOwn w' w.heap.size (.slice va 1 vc) [retI1] ∧ w'.ownsRow w.heap.size 55 4 (.slice (some ⟨g2, 0, none⟩) 1 c2) 1 [.int .i64 0, .int .i64 0, .slice none 0 0, .slice none 0 0] ∧ RBox w' kr leastS 26 0 0 ∧ w.grownBy w' (some kr) := by
  have n1 : leN (sub leastS 6 1) = 1 := by decide
  have n2 : leN (sub leastS 7 1) = 0 := by decide
  have n3 : leN (sub leastS 8 1) = 1 := by decide
  have n4 : leN (sub leastS 9 1) = 1 := by decide
  have c1 := fun W h1 => count_ok leastS kr 6 1 0 W h1 (by decide) (by decide) (by omega)
  have c2 := fun W h1 => count_ok leastS kr 7 1 0 W h1 (by decide) (by decide) (by omega)
  have c3 := fun W h1 => count_ok leastS kr 8 1 0 W h1 (by decide) (by decide) (by omega)
  have c4 := fun W h1 => count_ok leastS kr 9 1 0 W h1 (by decide) (by decide) (by omega)
  rw [n1] at c1
  rw [n2] at c2
  rw [n3] at c3
  rw [n4] at c4
  have hp := HasPrefix_least
  have l1 := fun W h0 h1 => listComp_least kr W h0 h1 hk
  have l2 := fun W h1 => listGate_least kr W h1
  have ss : (str leastS).size = 26 := rfl
  generalize leastS = S at *
  have hne : w.heap.size ≠ kr := by have := h.lt; omega
  have hT : ∀ W, w.grownBy W (some kr) → TabIn W := fun W hg => ht.below (n := kr) (Below.of_grown hg (Nat.le_of_lt h.lt) (fun g e => by cases e; omega)) hk
  have ⟨z0, p0, f0⟩ := (h.alloc (.cells #[.slice none 0 0, .slice none 0 0, .slice none 0 0, .int .i64 0] 26)).at
  replace hT := Hid.mk hT
  clear n1 n2 n3 n4
  replace h := Hid.mk h
  go_enter Tryd.func30, Tryd.ntmps30
  go_wp2_with fail
  refine (hp _).mono ?_
  rintro x w1 ⟨rfl, rfl⟩
  go_wp2_with fail
  have h6 : RBox ((w.alloc (.cells #[.slice none 0 0, .slice none 0 0, .slice none 0 0, .int .i64 0] 26)).setCell ⟨kr, 1, none⟩ (.int .i64 6)) kr S 6 0 0 := (h.out.alloc _).set 1 (.int .i64 6)
  have hg := (grown_of ((Gr.refl w).alloc (.cells #[.slice none 0 0, .slice none 0 0, .slice none 0 0, .int .i64 0] 26)).below (some kr)).trans (grown_set _ kr 1 (.int .i64 6))
  have X := (Box.new w #[.slice none 0 0, .slice none 0 0, .slice none 0 0, .int .i64 0] 26).kept (grown_set _ kr 1 (.int .i64 6)) hne
  clear z0 p0 f0 h
  refine (c1 _ h6).mono ?_
  rintro x w1 ⟨rfl, h1, hg2⟩
  replace X := Hid.mk (X.kept hg2 hne)
  replace hg := Hid.mk (hg.trans hg2)
  replace h1 := Hid.mk h1
  clear hg2 h6 c1
  go_wp2_with fail
  refine (c2 _ h1.out).mono ?_
  rintro x w2 ⟨rfl, h2, hg2⟩
  replace X := Hid.mk (X.out.kept hg2 hne)
  replace hg := Hid.mk (hg.out.trans hg2)
  replace h2 := Hid.mk h2
  clear hg2 h1 c2
  go_wp2_with fail
  refine (c3 _ h2.out).mono ?_
  rintro x w3 ⟨rfl, h3, hg2⟩
  replace X := Hid.mk (X.out.kept hg2 hne)
  replace hg := Hid.mk (hg.out.trans hg2)
  replace h3 := Hid.mk h3
  clear hg2 h2 c3
  go_wp2_with fail
  refine (c4 _ h3.out).mono ?_
  rintro x w4 ⟨rfl, h4, hg2⟩
  replace X := Hid.mk (X.out.kept hg2 hne)
  replace hg := Hid.mk (hg.out.trans hg2)
  replace h4 := Hid.mk h4
  clear hg2 h3 c4
  go_wp2_with (go_at_call 49; refine (listRegion_nil _ _ _).mono ?_; rintro x w' ⟨rfl, rfl⟩)
  refine (l1 _ (hT.out _ hg.out) h4.out).mono ?_
  rintro x w5 ⟨g, c, va, vc, rfl, ho1, ho2, h5, hg2⟩
  replace X := Hid.mk (X.out.kept hg2 hne)
  replace ho1 := Hid.mk (own_base ho1 hg.out.size)
  replace ho2 := Hid.mk (own_base ho2 hg.out.size)
  replace hg := Hid.mk (hg.out.trans hg2)
  replace h5 := Hid.mk h5
  clear hg2 h4 l1
  go_wp2_with fail
  refine (l2 _ h5.out).mono ?_
  rintro x w6 ⟨g2, c2, rfl, ho3, h6, hg2⟩
  replace X := Hid.mk (X.out.kept hg2 hne)
  replace ho1 := Hid.mk (own_kept ho1.out hg2 (own_ne ho1.out h5.out (by decide)))
  replace ho2 := Hid.mk (own_kept ho2.out hg2 (own_ne ho2.out h5.out (by decide)))
  replace ho3 := Hid.mk (own_base ho3 hg.out.size)
  replace hg := Hid.mk (hg.out.trans hg2)
  replace h6 := Hid.mk h6
  clear hg2 h5 l2
  have ⟨z0, p0, f0⟩ := h6.out.at
  have ⟨z1, p1, f1⟩ := X.out.at
  have hws := hg.out.size
  go_wp2_with fail
  have hG6 : Gr w6 (w6.alloc (.cells #[.slice none 0 0, .slice (some ⟨g, 0, none⟩) 1 c, .slice (some ⟨g2, 0, none⟩) 1 c2, .int .i64 1] 26)) := (Gr.refl w6).alloc _
  refine wp_world (fun W => RBox W kr S 26 0 0 ∧ Box W w.heap.size #[.slice none 0 0, .slice none 0 0, .slice none 0 0, .int .i64 0] 26 ∧ Box W w6.heap.size #[.slice none 0 0, .slice (some ⟨g, 0, none⟩) 1 c, .slice (some ⟨g2, 0, none⟩) 1 c2, .int .i64 1] 26 ∧ (W.ownsRow w.heap.size 52 2 (.slice (some ⟨g, 0, none⟩) 1 c) 1 [.slice none 0 0, .slice va 1 vc] ∧ LOwn W w.heap.size (.slice va 1 vc) [retI1] ∧ W.ownsRow w.heap.size 55 4 (.slice (some ⟨g2, 0, none⟩) 1 c2) 1 [.int .i64 0, .int .i64 0, .slice none 0 0, .slice none 0 0]) ∧ w.grownBy W (some kr)) ⟨h6.out.gr hG6, X.out.gr hG6, Box.new _ _ _, ⟨own_below ho1.out hG6.below, own_below ho2.out hG6.below, own_below ho3.out hG6.below⟩, hg.out.trans (grown_of hG6.below _)⟩ ?_
  clear z0 p0 f0 z1 p1 f1 h6 X ho1 ho2 ho3 hg hG6
  rintro W ⟨h6, X, M, hO, hg⟩
  have ⟨z0, p0, f0⟩ := h6.at
  have ⟨z1, p1, f1⟩ := X.at
  have ⟨z2, p2, f2⟩ := M.at
  replace h6 := Hid.mk h6
  replace X := Hid.mk X
  replace M := Hid.mk M
  replace hO := Hid.mk hO
  replace hg := Hid.mk hg
  go_quiet (fail)
  go_wp2_with fail
  have hGn := (Gr.refl W).drewN nq
  have X' := X.out.gr hGn
  have b4 := (((X'.set 0 (.slice none 0 0)).set 1 (.slice (some ⟨g, 0, none⟩) 1 c)).set 2 (.slice (some ⟨g2, 0, none⟩) 1 c2)).set 3 (.int .i64 1)
  have h7 := ((((h6.out.gr hGn).kept (grown_set _ w.heap.size 0 (.slice none 0 0)) (Ne.symm hne)).kept (grown_set _ w.heap.size 1 (.slice (some ⟨g, 0, none⟩) 1 c)) (Ne.symm hne)).kept (grown_set _ w.heap.size 2 (.slice (some ⟨g2, 0, none⟩) 1 c2)) (Ne.symm hne)).kept (grown_set _ w.heap.size 3 (.int .i64 1)) (Ne.symm hne)
  have hg4 := grown_box (o := 3) (v := .int .i64 1) (grown_box (o := 2) (v := .slice (some ⟨g2, 0, none⟩) 1 c2) (grown_box (o := 1) (v := .slice (some ⟨g, 0, none⟩) 1 c) (grown_box (o := 0) (v := .slice none 0 0) (hg.out.trans (grown_of hGn.below _)) (Nat.le_refl _)) (Nat.le_refl _)) (Nat.le_refl _)) (Nat.le_refl _)
  have o1 := own_setBox (o := 3) (u := .int .i64 1) (own_setBox (o := 2) (u := .slice (some ⟨g2, 0, none⟩) 1 c2) (own_setBox (o := 1) (u := .slice (some ⟨g, 0, none⟩) 1 c) (own_setBox (o := 0) (u := .slice none 0 0) (own_below hO.out.1 hGn.below) X' (by decide)) (X'.set 0 _) (by decide)) ((X'.set 0 _).set 1 _) (by decide)) (((X'.set 0 _).set 1 _).set 2 _) (by decide)
  have o2 := own_setBox (o := 3) (u := .int .i64 1) (own_setBox (o := 2) (u := .slice (some ⟨g2, 0, none⟩) 1 c2) (own_setBox (o := 1) (u := .slice (some ⟨g, 0, none⟩) 1 c) (own_setBox (o := 0) (u := .slice none 0 0) (own_below hO.out.2.1 hGn.below) X' (by decide)) (X'.set 0 _) (by decide)) ((X'.set 0 _).set 1 _) (by decide)) (((X'.set 0 _).set 1 _).set 2 _) (by decide)
  have o3 := own_setBox (o := 3) (u := .int .i64 1) (own_setBox (o := 2) (u := .slice (some ⟨g2, 0, none⟩) 1 c2) (own_setBox (o := 1) (u := .slice (some ⟨g, 0, none⟩) 1 c) (own_setBox (o := 0) (u := .slice none 0 0) (own_below hO.out.2.2 hGn.below) X' (by decide)) (X'.set 0 _) (by decide)) ((X'.set 0 _).set 1 _) (by decide)) (((X'.set 0 _).set 1 _).set 2 _) (by decide)
  have ⟨_, q4, _⟩ := b4.at
  clear z0 p0 f0 z1 p1 f1 z2 p2 f2 X X' M hg h6 hO hGn b4
  generalize ((((W.drewN nq).setCell ⟨w.heap.size, 0, none⟩ (.slice none 0 0)).setCell ⟨w.heap.size, 1, none⟩ (.slice (some ⟨g, 0, none⟩) 1 c)).setCell ⟨w.heap.size, 2, none⟩ (.slice (some ⟨g2, 0, none⟩) 1 c2)).setCell ⟨w.heap.size, 3, none⟩ (.int .i64 1) = W4 at *
  simp [bodyPost, results, Tryd.results30, go_sem, q4]
  exact ⟨g, c, va, vc, g2, c2, ⟨⟨rfl, rfl⟩, rfl, rfl⟩, o1, o2, o3, h7, hg4⟩
end Go.Proofs.YtcljibdikhpnlaaDoor


/-
  Stage 4, image: the chapter's first example: Decode.
-/
namespace Go.Proofs.YtcljibdikhpnlaaDoor
open Go.RowKit

theorem least_rng : leastP.Rng := by
  refine ⟨⟨by simp [leastP, maxG], by simp [leastP]⟩, ⟨by simp [leastP, maxG], ?_⟩, ⟨by simp [leastP, maxG], ?_⟩, by simp [leastP, J64]⟩
  · intro c hc
    simp only [leastP, List.mem_singleton] at hc
    subst hc
    exact ⟨by simp [maxG], by simp [maxI], by intro k hk; simp only [List.mem_singleton] at hk; subst hk; simp [retI1], by simp⟩
  · intro g hg
    simp only [leastP, List.mem_singleton] at hg
    subst hg
    exact ⟨by simp [J64], by simp [J64], by simp [maxG], by simp [maxG], by simp, by simp⟩
theorem row_cell {w : World} {base e size g c n : Nat} {xs : List Value} (h : w.ownsRow base e size (.slice (some ⟨g, 0, none⟩) n c) n xs) (j : Nat) (v : Value) (hj : xs[j]? = some v) : w.cell? ⟨g, j, none⟩ = some v := by
  have hc := World.ownsRow.cells h (g := g) rfl j v hj
  have ea : (⟨g, 0, none⟩ : Addr).add j = ⟨g, j, none⟩ := by by_cases h0 : j = 0 <;> simp [Addr.add, h0]
  rwa [ea] at hc
theorem row_lt {w : World} {base e size g c n : Nat} {xs : List Value} (h : w.ownsRow base e size (.slice (some ⟨g, 0, none⟩) n c) n xs) : g < w.heap.size := (own_block h g rfl).2
theorem least_in {w : World} {base g c vc g2 c2 : Nat} {va : Option Addr} (h1 : w.ownsRow base 52 2 (.slice (some ⟨g, 0, none⟩) 1 c) 1 [.slice none 0 0, .slice va 1 vc]) (h2 : LOwn w base (.slice va 1 vc) [retI1])
    (h3 : w.ownsRow base 55 4 (.slice (some ⟨g2, 0, none⟩) 1 c2) 1 [.int .i64 0, .int .i64 0, .slice none 0 0, .slice none 0 0]) : ImgIn w.heap.size w none (some ⟨g, 0, none⟩) (some ⟨g2, 0, none⟩) leastP := by
  refine ⟨fun i hi => absurd hi (by simp [leastP]), fun i hi => ?_, fun i hi => ?_⟩
  · obtain rfl : i = 0 := by simp [leastP] at hi; omega
    obtain ⟨va', vc', hv, hL⟩ := LOwn.form h2
    simp at hv
    obtain ⟨rfl, rfl⟩ := hv
    exact ⟨g, 0, none, 0, va, vc, rfl, row_lt h1, row_lt h1, row_cell h1 0 _ rfl, row_cell h1 1 _ rfl, FIn.nil _ _ _ _ _, hL⟩
  · obtain rfl : i = 0 := by simp [leastP] at hi; omega
    exact ⟨g2, 0, none, 0, none, 0, rfl, row_lt h3, row_lt h3, row_cell h3 0 _ rfl, row_cell h3 1 _ rfl, row_cell h3 2 _ rfl, row_cell h3 3 _ rfl, FIn.nil _ _ _ _ _, FIn.nil _ _ _ _ _⟩
set_option maxRecDepth 10000 in
set_option maxHeartbeats 2000000 in
theorem Decode_least (w : World) (ht : TabIn w) :
    Calls Tryd.prog 13 #[.string (str leastS)] w fun x w' => ∃ ca cc ga gc, x = .returned (.tuple #[.agg #[.slice none 0 0, .slice ca 1 cc, .slice ga 1 gc, .int .i64 1], .int .i64 0, .int .i64 0]) ∧ Below w.heap.size w w' := by
  have ss : (str leastS).size = 26 := rfl
  have hi := fun kr W h0 h1 h2 => image_least kr W h0 h1 h2
  have h2 := ht.size
  generalize leastS = S at *
  go_enter Tryd.func13, Tryd.ntmps13
  go_wp2_with fail
  have hG0 : Gr w ((w.alloc (.cells #[.slice none 0 0, .slice none 0 0, .slice none 0 0, .int .i64 0] 26)).alloc (.cells #[.string (str S), .int .i64 0, .int .i64 0, .int .i64 0] 81)) := ((Gr.refl w).alloc _).alloc _
  have X : Box ((w.alloc (.cells #[.slice none 0 0, .slice none 0 0, .slice none 0 0, .int .i64 0] 26)).alloc (.cells #[.string (str S), .int .i64 0, .int .i64 0, .int .i64 0] 81)) w.heap.size #[.slice none 0 0, .slice none 0 0, .slice none 0 0, .int .i64 0] 26 := (Box.new w _ _).alloc _
  refine (hi (w.heap.size + 1) _ (ht.gr hG0) (Box.next _ _ _ _) (by omega)).mono ?_
  rintro x w1 ⟨g, c, va, vc, g2, c2, rfl, o1, o2, o3, h1, hg⟩
  replace X := X.kept hg (by omega)
  have hBe : Below w.heap.size w w1 := hG0.below.trans (Below.of_grown hg (gr_size hG0) (fun q e => by cases e; omega))
  have hI := least_in o1 o2 o3
  have hT : TabIn w1 := ht.below hBe h2
  have hR := imgRight_any leastP none (some ⟨g, 0, none⟩) (some ⟨g2, 0, none⟩) 0 c c2 (w1.alloc (.cells #[.slice none 0 0, .slice (some ⟨g, 0, none⟩) 1 c, .slice (some ⟨g2, 0, none⟩) 1 c2, .int .i64 1] 26)) (hT.gr ((Gr.refl w1).alloc _)) ((hI.below ((Gr.refl w1).alloc _).below).mono (by simp)) least_rng
  rw [least_right] at hR
  have ⟨z0, p0, f0⟩ := h1.at
  clear hG0 hg o1 o2 o3 hi
  replace h1 := Hid.mk h1
  replace X := Hid.mk X
  replace hBe := Hid.mk hBe
  replace hI := Hid.mk hI
  go_wp2_with fail
  refine hR.mono ?_
  rintro x w2 ⟨rfl, hG2⟩
  have M : Box w2 w1.heap.size #[.slice none 0 0, .slice (some ⟨g, 0, none⟩) 1 c, .slice (some ⟨g2, 0, none⟩) 1 c2, .int .i64 1] 26 := (Box.new w1 _ _).gr hG2
  replace X := Hid.mk ((X.out.alloc _).gr hG2)
  replace hG2 := hG2.of_alloc
  replace hI := Hid.mk ((hI.out.below hG2.below).mono (gr_size hG2))
  replace hBe := Hid.mk (hBe.out.trans (hG2.below.mono hBe.out.size))
  have ⟨z1, p1, f1⟩ := X.out.at
  have ⟨z2, p2, f2⟩ := M.at
  clear z0 p0 f0 h1 hG2 hR
  replace M := Hid.mk M
  go_wp2_with fail
  have b4 := (((X.out.set 0 (.slice none 0 0)).set 1 (.slice (some ⟨g, 0, none⟩) 1 c)).set 2 (.slice (some ⟨g2, 0, none⟩) 1 c2)).set 3 (.int .i64 1)
  have hB4 := (((hBe.out.setCell (p := ⟨w.heap.size, 0, none⟩) (Nat.le_refl _) (.slice none 0 0)).setCell (p := ⟨w.heap.size, 1, none⟩) (Nat.le_refl _) (.slice (some ⟨g, 0, none⟩) 1 c)).setCell (p := ⟨w.heap.size, 2, none⟩) (Nat.le_refl _) (.slice (some ⟨g2, 0, none⟩) 1 c2)).setCell (p := ⟨w.heap.size, 3, none⟩) (Nat.le_refl _) (.int .i64 1)
  have ⟨_, q4, _⟩ := b4.at
  clear z1 p1 f1 z2 p2 f2 X M hBe hI b4
  generalize (((w2.setCell ⟨w.heap.size, 0, none⟩ (.slice none 0 0)).setCell ⟨w.heap.size, 1, none⟩ (.slice (some ⟨g, 0, none⟩) 1 c)).setCell ⟨w.heap.size, 2, none⟩ (.slice (some ⟨g2, 0, none⟩) 1 c2)).setCell ⟨w.heap.size, 3, none⟩ (.int .i64 1) = W4 at *
  simp [bodyPost, results, Tryd.results13, go_sem, q4]
  exact hB4
theorem least_box {w : World} {k1 k2 k3 : Nat} (b1 : Box w k1 #[.int .u8 32, .int .i64 0, .int .i64 0, .int .i64 0, .int .i64 0] 74) (b2 : Box w k2 #[.slice none 0 0, .slice (some ⟨k1, 0, none⟩) 1 1] 52)
    (b3 : Box w k3 #[.int .i64 0, .int .i64 0, .slice none 0 0, .slice none 0 0] 55) : ImgIn w.heap.size w none (some ⟨k2, 0, none⟩) (some ⟨k3, 0, none⟩) leastP := by
  have c1 := b1.at.2.1
  have c2 := b2.at.2.1
  have c3 := b3.at.2.1
  refine ⟨fun i hi => absurd hi (by simp [leastP]), fun i hi => ?_, fun i hi => ?_⟩
  · obtain rfl : i = 0 := by simp [leastP] at hi; omega
    refine ⟨k2, 0, none, 0, some ⟨k1, 0, none⟩, 1, rfl, b2.lt, b2.lt, c2 0, c2 1, FIn.nil _ _ _ _ _, fun j hj => ?_⟩
    obtain rfl : j = 0 := by simp [leastP] at hj; omega
    exact ⟨k1, 0, rfl, b1.lt, b1.lt, c1 0, c1 1, c1 2, c1 3, c1 4⟩
  · obtain rfl : i = 0 := by simp [leastP] at hi; omega
    exact ⟨k3, 0, none, 0, none, 0, rfl, b3.lt, b3.lt, c3 0, c3 1, c3 2, c3 3, FIn.nil _ _ _ _ _, FIn.nil _ _ _ _ _⟩
set_option maxRecDepth 10000 in
set_option maxHeartbeats 2000000 in
theorem least_any (w : World) :
    Calls Tryd.prog 12 #[] w fun x w' => ∃ g g2, x = .returned (.agg #[.slice none 0 0, .slice (some ⟨g, 0, none⟩) 1 1, .slice (some ⟨g2, 0, none⟩) 1 1, .int .i64 1]) ∧ ImgIn w'.heap.size w' none (some ⟨g, 0, none⟩) (some ⟨g2, 0, none⟩) leastP ∧ Gr w w' := by
  go_enter Tryd.func12, Tryd.ntmps12
  go_wp2_with fail
  have b1 := ((Box.next w (.cells #[.slice none 0 0, .slice (some ⟨w.heap.size + 1 + 1, 0, none⟩) 1 1, .slice (some ⟨w.heap.size + 1 + 1 + 1, 0, none⟩) 1 1, .int .i64 1] 26) #[.int .u8 32, .int .i64 0, .int .i64 0, .int .i64 0, .int .i64 0] 74).alloc (.cells #[.slice none 0 0, .slice (some ⟨w.heap.size + 1, 0, none⟩) 1 1] 52)).alloc (.cells #[.int .i64 0, .int .i64 0, .slice none 0 0, .slice none 0 0] 55)
  have b2 := (Box.new ((w.alloc (.cells #[.slice none 0 0, .slice (some ⟨w.heap.size + 1 + 1, 0, none⟩) 1 1, .slice (some ⟨w.heap.size + 1 + 1 + 1, 0, none⟩) 1 1, .int .i64 1] 26)).alloc (.cells #[.int .u8 32, .int .i64 0, .int .i64 0, .int .i64 0, .int .i64 0] 74)) #[.slice none 0 0, .slice (some ⟨w.heap.size + 1, 0, none⟩) 1 1] 52).alloc (.cells #[.int .i64 0, .int .i64 0, .slice none 0 0, .slice none 0 0] 55)
  have b3 := Box.new (((w.alloc (.cells #[.slice none 0 0, .slice (some ⟨w.heap.size + 1 + 1, 0, none⟩) 1 1, .slice (some ⟨w.heap.size + 1 + 1 + 1, 0, none⟩) 1 1, .int .i64 1] 26)).alloc (.cells #[.int .u8 32, .int .i64 0, .int .i64 0, .int .i64 0, .int .i64 0] 74)).alloc (.cells #[.slice none 0 0, .slice (some ⟨w.heap.size + 1, 0, none⟩) 1 1] 52)) #[.int .i64 0, .int .i64 0, .slice none 0 0, .slice none 0 0] 55
  simp only [World.size_alloc] at b2 b3
  have hG := ((((Gr.refl w).alloc (.cells #[.slice none 0 0, .slice (some ⟨w.heap.size + 1 + 1, 0, none⟩) 1 1, .slice (some ⟨w.heap.size + 1 + 1 + 1, 0, none⟩) 1 1, .int .i64 1] 26)).alloc (.cells #[.int .u8 32, .int .i64 0, .int .i64 0, .int .i64 0, .int .i64 0] 74)).alloc (.cells #[.slice none 0 0, .slice (some ⟨w.heap.size + 1, 0, none⟩) 1 1] 52)).alloc (.cells #[.int .i64 0, .int .i64 0, .slice none 0 0, .slice none 0 0] 55)
  have hI := least_box b1 b2 b3
  simp only [World.size_alloc] at hI
  simp [bodyPost, results, Tryd.results12, go_sem]
  exact ⟨_, _, ⟨rfl, rfl⟩, hI, hG⟩
end Go.Proofs.YtcljibdikhpnlaaDoor
