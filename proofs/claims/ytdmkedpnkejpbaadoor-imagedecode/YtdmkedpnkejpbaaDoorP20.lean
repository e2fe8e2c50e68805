import Derived.Test.YtdmkedpnkejpbaaDoorP19
import Derived.Test.YtdmkedpnkejpbaaDoorP14
/-
  Stage 4, image: the chapter's first example: Decode.
-/
namespace Go.Proofs.YtdmkedpnkejpbaaDoor
open Go.RowKit

theorem least_rng : leastP.Rng := by
  refine ⟨⟨by simp [leastP, maxG], by simp [leastP]⟩, ⟨by simp [leastP, maxG], ?_⟩, ⟨by simp [leastP, maxG], ?_⟩, by simp [leastP, J64]⟩
  · intro c hc
    simp only [leastP, List.mem_singleton] at hc
    subst hc
    exact ⟨by simp [maxG], by simp [maxI], by intro k hk; simp only [List.mem_singleton] at hk; subst hk; simp [retI1], by simp⟩
  · intro g hg
    simp only [leastP, List.mem_singleton] at hg
    subst hg
    exact ⟨by simp [J64], by simp [J64], by simp [maxG], by simp [maxG], by simp, by simp⟩
theorem row_lt {w : World} {base e size g c n : Nat} {xs : List Value} (h : w.ownsRow base e size (.slice (some ⟨g, 0, none⟩) n c) n xs) : g < w.heap.size := (own_block h g rfl).2
theorem least_in {w : World} {base g c vc g2 c2 : Nat} {va : Option Addr} (h1 : w.ownsRow base 57 2 (.slice (some ⟨g, 0, none⟩) 1 c) 1 [.slice none 0 0, .slice va 1 vc]) (h2 : LOwn w base (.slice va 1 vc) [retI1])
    (h3 : w.ownsRow base 61 4 (.slice (some ⟨g2, 0, none⟩) 1 c2) 1 [.int .i64 0, .int .i64 0, .slice none 0 0, .slice none 0 0]) : ImgIn w.heap.size w none (some ⟨g, 0, none⟩) (some ⟨g2, 0, none⟩) leastP := by
  refine ⟨fun i hi => absurd hi (by simp [leastP]), fun i hi => ?_, fun i hi => ?_⟩
  · obtain rfl : i = 0 := by simp [leastP] at hi; omega
    obtain ⟨va', vc', hv, hL⟩ := LOwn.form h2
    simp at hv
    obtain ⟨rfl, rfl⟩ := hv
    exact ⟨g, 0, none, 0, va, vc, rfl, row_lt h1, row_lt h1, row_cell h1 0 _ rfl, row_cell h1 1 _ rfl, FIn.nil _ _ _ _ _, hL⟩
  · obtain rfl : i = 0 := by simp [leastP] at hi; omega
    exact ⟨g2, 0, none, 0, none, 0, rfl, row_lt h3, row_lt h3, row_cell h3 0 _ rfl, row_cell h3 1 _ rfl, row_cell h3 2 _ rfl, row_cell h3 3 _ rfl, FIn.nil _ _ _ _ _, FIn.nil _ _ _ _ _⟩
set_option maxRecDepth 10000 in
set_option maxHeartbeats 2000000 in
theorem Decode_least (w : World) (ht : TabIn w) :
    Calls Tryd.prog 5 #[.string (str leastS)] w fun x w' => ∃ ca cc ga gc, x = .returned (.tuple #[.agg #[.slice none 0 0, .slice ca 1 cc, .slice ga 1 gc, .int .i64 1], .int .i64 0, .int .i64 0]) ∧ Below w.heap.size w w' := by
  have ss : (str leastS).size = 26 := rfl
  have hi := fun kr W h0 h1 h2 => image_least kr W h0 h1 h2
  have h2 := ht.size
  generalize leastS = S at *
  go_enter Tryd.func5, Tryd.ntmps5
  go_wp2_with fail
  have hG0 : Gr w ((w.alloc (.cells #[.slice none 0 0, .slice none 0 0, .slice none 0 0, .int .i64 0] 27)).alloc (.cells #[.string (str S), .int .i64 0, .int .i64 0, .int .i64 0] 44)) := ((Gr.refl w).alloc _).alloc _
  have X : Box ((w.alloc (.cells #[.slice none 0 0, .slice none 0 0, .slice none 0 0, .int .i64 0] 27)).alloc (.cells #[.string (str S), .int .i64 0, .int .i64 0, .int .i64 0] 44)) w.heap.size #[.slice none 0 0, .slice none 0 0, .slice none 0 0, .int .i64 0] 27 := (Box.new w _ _).alloc _
  refine (hi (w.heap.size + 1) _ (ht.gr hG0) (Box.next _ _ _ _) (by omega)).mono ?_
  rintro x w1 ⟨g, c, va, vc, g2, c2, rfl, o1, o2, o3, h1, hg⟩
  replace X := X.kept hg (by omega)
  have hBe : Below w.heap.size w w1 := hG0.below.trans (Below.of_grown hg (gr_size hG0) (fun q e => by cases e; omega))
  have hI := least_in o1 o2 o3
  have hT : TabIn w1 := ht.below hBe h2
  have hR := imgRight_any leastP none (some ⟨g, 0, none⟩) (some ⟨g2, 0, none⟩) 0 c c2 (w1.alloc (.cells #[.slice none 0 0, .slice (some ⟨g, 0, none⟩) 1 c, .slice (some ⟨g2, 0, none⟩) 1 c2, .int .i64 1] 27)) (hT.gr ((Gr.refl w1).alloc _)) ((hI.below ((Gr.refl w1).alloc _).below).mono (by simp)) least_rng
  rw [least_right] at hR
  have ⟨z0, p0, f0⟩ := h1.at
  clear hG0 hg o1 o2 o3 hi
  replace h1 := Hid.mk h1
  replace X := Hid.mk X
  replace hBe := Hid.mk hBe
  replace hI := Hid.mk hI
  go_wp2_with fail
  refine hR.mono ?_
  rintro x w2 ⟨rfl, hG2⟩
  have M : Box w2 w1.heap.size #[.slice none 0 0, .slice (some ⟨g, 0, none⟩) 1 c, .slice (some ⟨g2, 0, none⟩) 1 c2, .int .i64 1] 27 := (Box.new w1 _ _).gr hG2
  replace X := Hid.mk ((X.out.alloc _).gr hG2)
  replace hG2 := hG2.of_alloc
  replace hI := Hid.mk ((hI.out.below hG2.below).mono (gr_size hG2))
  replace hBe := Hid.mk (hBe.out.trans (hG2.below.mono hBe.out.size))
  have ⟨z1, p1, f1⟩ := X.out.at
  have ⟨z2, p2, f2⟩ := M.at
  clear z0 p0 f0 h1 hG2 hR
  replace M := Hid.mk M
  go_wp2_with fail
  have b4 := (((X.out.set 0 (.slice none 0 0)).set 1 (.slice (some ⟨g, 0, none⟩) 1 c)).set 2 (.slice (some ⟨g2, 0, none⟩) 1 c2)).set 3 (.int .i64 1)
  have hB4 := (((hBe.out.setCell (p := ⟨w.heap.size, 0, none⟩) (Nat.le_refl _) (.slice none 0 0)).setCell (p := ⟨w.heap.size, 1, none⟩) (Nat.le_refl _) (.slice (some ⟨g, 0, none⟩) 1 c)).setCell (p := ⟨w.heap.size, 2, none⟩) (Nat.le_refl _) (.slice (some ⟨g2, 0, none⟩) 1 c2)).setCell (p := ⟨w.heap.size, 3, none⟩) (Nat.le_refl _) (.int .i64 1)
  have ⟨_, q4, _⟩ := b4.at
  clear z1 p1 f1 z2 p2 f2 X M hBe hI b4
  generalize (((w2.setCell ⟨w.heap.size, 0, none⟩ (.slice none 0 0)).setCell ⟨w.heap.size, 1, none⟩ (.slice (some ⟨g, 0, none⟩) 1 c)).setCell ⟨w.heap.size, 2, none⟩ (.slice (some ⟨g2, 0, none⟩) 1 c2)).setCell ⟨w.heap.size, 3, none⟩ (.int .i64 1) = W4 at *
  simp [bodyPost, results, Tryd.results5, go_sem, q4]
  exact hB4
theorem least_box {w : World} {k1 k2 k3 : Nat} (b1 : Box w k1 #[.int .u8 32, .int .i64 0, .int .i64 0, .int .i64 0, .int .i64 0] 74) (b2 : Box w k2 #[.slice none 0 0, .slice (some ⟨k1, 0, none⟩) 1 1] 57)
    (b3 : Box w k3 #[.int .i64 0, .int .i64 0, .slice none 0 0, .slice none 0 0] 61) : ImgIn w.heap.size w none (some ⟨k2, 0, none⟩) (some ⟨k3, 0, none⟩) leastP := by
  have c1 := b1.at.2.1
  have c2 := b2.at.2.1
  have c3 := b3.at.2.1
  refine ⟨fun i hi => absurd hi (by simp [leastP]), fun i hi => ?_, fun i hi => ?_⟩
  · obtain rfl : i = 0 := by simp [leastP] at hi; omega
    refine ⟨k2, 0, none, 0, some ⟨k1, 0, none⟩, 1, rfl, b2.lt, b2.lt, c2 0, c2 1, FIn.nil _ _ _ _ _, fun j hj => ?_⟩
    obtain rfl : j = 0 := by simp [leastP] at hj; omega
    exact ⟨k1, 0, rfl, b1.lt, b1.lt, c1 0, c1 1, c1 2, c1 3, c1 4⟩
  · obtain rfl : i = 0 := by simp [leastP] at hi; omega
    exact ⟨k3, 0, none, 0, none, 0, rfl, b3.lt, b3.lt, c3 0, c3 1, c3 2, c3 3, FIn.nil _ _ _ _ _, FIn.nil _ _ _ _ _⟩
set_option maxRecDepth 10000 in
set_option maxHeartbeats 2000000 in
theorem least_any (w : World) :
    Calls Tryd.prog 9 #[] w fun x w' => ∃ g g2, x = .returned (.agg #[.slice none 0 0, .slice (some ⟨g, 0, none⟩) 1 1, .slice (some ⟨g2, 0, none⟩) 1 1, .int .i64 1]) ∧ ImgIn w'.heap.size w' none (some ⟨g, 0, none⟩) (some ⟨g2, 0, none⟩) leastP ∧ Gr w w' := by
  go_enter Tryd.func9, Tryd.ntmps9
  go_wp2_with fail
  have b1 := ((Box.next w (.cells #[.slice none 0 0, .slice (some ⟨w.heap.size + 1 + 1, 0, none⟩) 1 1, .slice (some ⟨w.heap.size + 1 + 1 + 1, 0, none⟩) 1 1, .int .i64 1] 27) #[.int .u8 32, .int .i64 0, .int .i64 0, .int .i64 0, .int .i64 0] 74).alloc (.cells #[.slice none 0 0, .slice (some ⟨w.heap.size + 1, 0, none⟩) 1 1] 57)).alloc (.cells #[.int .i64 0, .int .i64 0, .slice none 0 0, .slice none 0 0] 61)
  have b2 := (Box.new ((w.alloc (.cells #[.slice none 0 0, .slice (some ⟨w.heap.size + 1 + 1, 0, none⟩) 1 1, .slice (some ⟨w.heap.size + 1 + 1 + 1, 0, none⟩) 1 1, .int .i64 1] 27)).alloc (.cells #[.int .u8 32, .int .i64 0, .int .i64 0, .int .i64 0, .int .i64 0] 74)) #[.slice none 0 0, .slice (some ⟨w.heap.size + 1, 0, none⟩) 1 1] 57).alloc (.cells #[.int .i64 0, .int .i64 0, .slice none 0 0, .slice none 0 0] 61)
  have b3 := Box.new (((w.alloc (.cells #[.slice none 0 0, .slice (some ⟨w.heap.size + 1 + 1, 0, none⟩) 1 1, .slice (some ⟨w.heap.size + 1 + 1 + 1, 0, none⟩) 1 1, .int .i64 1] 27)).alloc (.cells #[.int .u8 32, .int .i64 0, .int .i64 0, .int .i64 0, .int .i64 0] 74)).alloc (.cells #[.slice none 0 0, .slice (some ⟨w.heap.size + 1, 0, none⟩) 1 1] 57)) #[.int .i64 0, .int .i64 0, .slice none 0 0, .slice none 0 0] 61
  simp only [World.size_alloc] at b2 b3
  have hG := ((((Gr.refl w).alloc (.cells #[.slice none 0 0, .slice (some ⟨w.heap.size + 1 + 1, 0, none⟩) 1 1, .slice (some ⟨w.heap.size + 1 + 1 + 1, 0, none⟩) 1 1, .int .i64 1] 27)).alloc (.cells #[.int .u8 32, .int .i64 0, .int .i64 0, .int .i64 0, .int .i64 0] 74)).alloc (.cells #[.slice none 0 0, .slice (some ⟨w.heap.size + 1, 0, none⟩) 1 1] 57)).alloc (.cells #[.int .i64 0, .int .i64 0, .slice none 0 0, .slice none 0 0] 61)
  have hI := least_box b1 b2 b3
  simp only [World.size_alloc] at hI
  simp [bodyPost, results, Tryd.results9, go_sem]
  exact ⟨_, _, ⟨rfl, rfl⟩, hI, hG⟩
end Go.Proofs.YtdmkedpnkejpbaaDoor


/-
  Stage 4, image: the examples at the head of each statement.
-/
namespace Go.Proofs.YtdmkedpnkejpbaaDoor
open Go.RowKit

theorem least_has : hasI leastP.comps 0 0 = true := by decide
set_option maxRecDepth 10000 in
set_option maxHeartbeats 1000000 in
theorem CodeCap_least (g g2 c c2 : Nat) (w : World) (hI : ImgIn w.heap.size w none (some ⟨g, 0, none⟩) (some ⟨g2, 0, none⟩) leastP) :
    Calls Tryd.prog 10 #[.agg #[.slice none 0 0, .slice (some ⟨g, 0, none⟩) 1 c, .slice (some ⟨g2, 0, none⟩) 1 c2, .int .i64 1], .int .i64 0, .int .i64 0] w fun x w' => x = .returned (.tuple #[.agg #[.int .u64 1048576, .int .u64 1048584, .int .u64 1048576, .int .u8 16, .int .i64 0], .bool true]) ∧ Gr w w' := by
  have hh := fun W (h : CompIn W.heap.size W (some ⟨g, 0, none⟩) leastP.comps) => hasInst_any leastP 0 0 none (some ⟨g, 0, none⟩) (some ⟨g2, 0, none⟩) 0 0 c 1 c2 W h
  rw [least_has] at hh
  have hg : ∀ W, Gr w W → CompIn W.heap.size W (some ⟨g, 0, none⟩) leastP.comps := fun W h => (hI.comps.below h.below).mono (gr_size h)
  obtain ⟨b, off, ra, rc, ka, kc, e, _, hb, _, c1, _, _⟩ := hI.comps 0 (by decide)
  cases e
  clear hI
  go_enter Tryd.func10, Tryd.ntmps10
  go_wp2_with fail
  have hG0 : Gr w ((w.alloc (.cells #[.slice none 0 0, .slice (some ⟨g, 0, none⟩) 1 c, .slice (some ⟨g2, 0, none⟩) 1 c2, .int .i64 1] 27)).alloc (.cells #[.int .u64 0, .int .u64 0, .int .u64 0, .int .u8 0, .int .i64 0] 39)) := ((Gr.refl w).alloc _).alloc _
  have M : Box ((w.alloc (.cells #[.slice none 0 0, .slice (some ⟨g, 0, none⟩) 1 c, .slice (some ⟨g2, 0, none⟩) 1 c2, .int .i64 1] 27)).alloc (.cells #[.int .u64 0, .int .u64 0, .int .u64 0, .int .u8 0, .int .i64 0] 39)) w.heap.size #[.slice none 0 0, .slice (some ⟨g, 0, none⟩) 1 c, .slice (some ⟨g2, 0, none⟩) 1 c2, .int .i64 1] 27 := (Box.new w _ _).alloc _
  have X : Box ((w.alloc (.cells #[.slice none 0 0, .slice (some ⟨g, 0, none⟩) 1 c, .slice (some ⟨g2, 0, none⟩) 1 c2, .int .i64 1] 27)).alloc (.cells #[.int .u64 0, .int .u64 0, .int .u64 0, .int .u8 0, .int .i64 0] 39)) (w.heap.size + 1) #[.int .u64 0, .int .u64 0, .int .u64 0, .int .u8 0, .int .i64 0] 39 := Box.next _ _ _ _
  refine (hh _ (hg _ hG0)).mono ?_
  rintro x w1 ⟨rfl, hG⟩
  replace M := M.gr hG
  replace X := X.gr hG
  replace hG := hG0.trans hG
  replace c1 := (hG.cell hb _).trans c1
  have ⟨z0, p0, f0⟩ := M.at
  have ⟨z1, p1, f1⟩ := X.at
  have hln : (0 : Int) < 1 := by omega
  clear hh hg hG0
  replace M := Hid.mk M
  replace X := Hid.mk X
  replace hG := Hid.mk hG
  have c1' : w1.cell? ⟨g, 1, none⟩ = some (.slice ka 1 kc) := c1
  clear c1
  go_wp2_with fail
  have b4 := (((((X.out.set 0 (.int .u64 1048576)).set 1 (.int .u64 1048584)).set 2 (.int .u64 1048576)).set 3 (.int .u8 16)).set 4 (.int .i64 0))
  have hG4 := (((((hG.out.setCell (w.heap.size + 1) 0 (.int .u64 1048576) (by omega)).setCell (w.heap.size + 1) 1 (.int .u64 1048584) (by omega)).setCell (w.heap.size + 1) 2 (.int .u64 1048576) (by omega)).setCell (w.heap.size + 1) 3 (.int .u8 16) (by omega)).setCell (w.heap.size + 1) 4 (.int .i64 0) (by omega))
  have ⟨_, q4, _⟩ := b4.at
  clear z0 p0 f0 z1 p1 f1 X M hG b4 c1' hb
  generalize (((((w1.setCell ⟨w.heap.size + 1, 0, none⟩ (.int .u64 1048576)).setCell ⟨w.heap.size + 1, 1, none⟩ (.int .u64 1048584)).setCell ⟨w.heap.size + 1, 2, none⟩ (.int .u64 1048576)).setCell ⟨w.heap.size + 1, 3, none⟩ (.int .u8 16)).setCell ⟨w.heap.size + 1, 4, none⟩ (.int .i64 0)) = W4 at *
  simp [bodyPost, results, Tryd.results10, go_sem, q4]
  exact hG4
set_option maxHeartbeats 400000 in
theorem num_any (e : Int) (w : World) : Calls Tryd.prog 11 #[.int .i64 e] w fun x w' => x = .returned (.int .i64 e) ∧ w = w' := by
  go_enter Tryd.func11, Tryd.ntmps11
  go_wp2_with fail
  go_ret
  exact ⟨rfl, rfl⟩
set_option maxRecDepth 10000 in
set_option maxHeartbeats 2000000 in
theorem examples_any (w : World) (ht : TabIn w) :
    Calls Tryd.prog 4 #[] w fun x w' => x = .returned (.bool true) ∧ Below w.heap.size w w' := by
  have hE := fun g g2 W h0 (h1 : ImgIn W.heap.size W none (some ⟨g, 0, none⟩) (some ⟨g2, 0, none⟩) leastP) => imgEncode_any leastP none (some ⟨g, 0, none⟩) (some ⟨g2, 0, none⟩) 0 1 1 W h0 h1 least_rng
  rw [least_enc] at hE
  have hD := Decode_least
  have ss : (str leastS).size = 26 := rfl
  have h2 := ht.size
  have hT : ∀ W, Below w.heap.size w W → TabIn W := fun W h => ht.below h h2
  go_enter Tryd.func4, Tryd.ntmps4
  go_wp2_with fail
  refine (least_any _).mono ?_
  rintro x w1 ⟨g, g2, rfl, hI, hG⟩
  go_wp2_with fail
  refine (hE g g2 _ (hT _ hG.below) hI).mono ?_
  rintro x w2 ⟨rfl, hB2⟩
  have hB : Below w.heap.size w w2 := hG.below.trans (hB2.mono (gr_size hG))
  clear hI hG hB2 hE
  go_wp2_with fail
  refine (hD _ (hT _ hB)).mono ?_
  rintro x w3 ⟨ca, cc, ga, gc, rfl, hB3⟩
  replace hB := hB.trans (hB3.mono hB.size)
  clear hB3 hD
  go_wp2_with fail
  have M : Box (w3.alloc (.cells #[.slice none 0 0, .slice ca 1 cc, .slice ga 1 gc, .int .i64 1] 27)) w3.heap.size #[.slice none 0 0, .slice ca 1 cc, .slice ga 1 gc, .int .i64 1] 27 := Box.new _ _ _
  refine (least_any _).mono ?_
  rintro x w4 ⟨k, k2, rfl, hI, hG⟩
  replace M := M.gr hG
  replace hB := hB.trans (hG.of_alloc.below.mono hB.size)
  clear hG
  go_wp2_with fail
  refine (CodeCap_least k k2 1 1 _ hI).mono ?_
  rintro x w5 ⟨rfl, hG⟩
  replace M := M.gr hG
  replace hB := hB.trans (hG.below.mono hB.size)
  clear hG hI
  have ⟨z0, p0, f0⟩ := (M.alloc (.cells #[.int .u64 1048576, .int .u64 1048584, .int .u64 1048576, .int .u8 16, .int .i64 0] 39)).at
  generalize leastS = S at *
  replace hB := Hid.mk (hB.alloc hB.size (.cells #[.int .u64 1048576, .int .u64 1048584, .int .u64 1048576, .int .u8 16, .int .i64 0] 39))
  replace hT := Hid.mk hT
  clear M
  go_wp2_with (go_at_call 11; refine (num_any _ _).mono ?_; rintro x w' ⟨rfl, rfl⟩)
  go_ret
  exact ⟨rfl, hB.out⟩
end Go.Proofs.YtdmkedpnkejpbaaDoor
