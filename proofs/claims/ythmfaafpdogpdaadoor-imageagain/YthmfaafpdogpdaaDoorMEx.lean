/-
  Stage 4, image: the examples at the head of each statement.
-/
import Derived.Test.YthmfaafpdogpdaaDoorMLeastD
import Derived.Test.YthmfaafpdogpdaaDoorMHas
namespace Go.Proofs.YthmfaafpdogpdaaDoor
open Go.RowKit

theorem least_has : hasI leastP.comps 0 0 = true := by decide
set_option maxRecDepth 10000 in
set_option maxHeartbeats 1000000 in
theorem CodeCap_least (g g2 c c2 : Nat) (w : World) (hI : ImgIn w.heap.size w none (some ⟨g, 0, none⟩) (some ⟨g2, 0, none⟩) leastP) :
    Calls Tryd.prog 20 #[.agg #[.slice none 0 0, .slice (some ⟨g, 0, none⟩) 1 c, .slice (some ⟨g2, 0, none⟩) 1 c2, .int .i64 1], .int .i64 0, .int .i64 0] w fun x w' => x = .returned (.tuple #[.agg #[.int .u64 1048576, .int .u64 1048584, .int .u64 1048576, .int .u8 16, .int .i64 0], .bool true]) ∧ Gr w w' := by
  have hh := fun W (h : CompIn W.heap.size W (some ⟨g, 0, none⟩) leastP.comps) => hasInst_any leastP 0 0 none (some ⟨g, 0, none⟩) (some ⟨g2, 0, none⟩) 0 0 c 1 c2 W h
  rw [least_has] at hh
  have hg : ∀ W, Gr w W → CompIn W.heap.size W (some ⟨g, 0, none⟩) leastP.comps := fun W h => (hI.comps.below h.below).mono (gr_size h)
  obtain ⟨b, off, ra, rc, ka, kc, e, _, hb, _, c1, _, _⟩ := hI.comps 0 (by decide)
  cases e
  clear hI
  go_enter Tryd.func20, Tryd.ntmps20
  go_wp2_with fail
  have hG0 : Gr w ((w.alloc (.cells #[.slice none 0 0, .slice (some ⟨g, 0, none⟩) 1 c, .slice (some ⟨g2, 0, none⟩) 1 c2, .int .i64 1] 41)).alloc (.cells #[.int .u64 0, .int .u64 0, .int .u64 0, .int .u8 0, .int .i64 0] 58)) := ((Gr.refl w).alloc _).alloc _
  have M : Box ((w.alloc (.cells #[.slice none 0 0, .slice (some ⟨g, 0, none⟩) 1 c, .slice (some ⟨g2, 0, none⟩) 1 c2, .int .i64 1] 41)).alloc (.cells #[.int .u64 0, .int .u64 0, .int .u64 0, .int .u8 0, .int .i64 0] 58)) w.heap.size #[.slice none 0 0, .slice (some ⟨g, 0, none⟩) 1 c, .slice (some ⟨g2, 0, none⟩) 1 c2, .int .i64 1] 41 := (Box.new w _ _).alloc _
  have X : Box ((w.alloc (.cells #[.slice none 0 0, .slice (some ⟨g, 0, none⟩) 1 c, .slice (some ⟨g2, 0, none⟩) 1 c2, .int .i64 1] 41)).alloc (.cells #[.int .u64 0, .int .u64 0, .int .u64 0, .int .u8 0, .int .i64 0] 58)) (w.heap.size + 1) #[.int .u64 0, .int .u64 0, .int .u64 0, .int .u8 0, .int .i64 0] 58 := Box.next _ _ _ _
  refine (hh _ (hg _ hG0)).mono ?_
  rintro x w1 ⟨rfl, hG⟩
  replace M := M.gr hG
  replace X := X.gr hG
  replace hG := hG0.trans hG
  replace c1 := (hG.cell hb _).trans c1
  have ⟨z0, p0, f0⟩ := M.at
  have ⟨z1, p1, f1⟩ := X.at
  have hln : (0 : Int) < 1 := by omega
  clear hh hg hG0
  replace M := Hid.mk M
  replace X := Hid.mk X
  replace hG := Hid.mk hG
  have c1' : w1.cell? ⟨g, 1, none⟩ = some (.slice ka 1 kc) := c1
  clear c1
  go_wp2_with fail
  have b4 := (((((X.out.set 0 (.int .u64 1048576)).set 1 (.int .u64 1048584)).set 2 (.int .u64 1048576)).set 3 (.int .u8 16)).set 4 (.int .i64 0))
  have hG4 := (((((hG.out.setCell (w.heap.size + 1) 0 (.int .u64 1048576) (by omega)).setCell (w.heap.size + 1) 1 (.int .u64 1048584) (by omega)).setCell (w.heap.size + 1) 2 (.int .u64 1048576) (by omega)).setCell (w.heap.size + 1) 3 (.int .u8 16) (by omega)).setCell (w.heap.size + 1) 4 (.int .i64 0) (by omega))
  have ⟨_, q4, _⟩ := b4.at
  clear z0 p0 f0 z1 p1 f1 X M hG b4 c1' hb
  generalize (((((w1.setCell ⟨w.heap.size + 1, 0, none⟩ (.int .u64 1048576)).setCell ⟨w.heap.size + 1, 1, none⟩ (.int .u64 1048584)).setCell ⟨w.heap.size + 1, 2, none⟩ (.int .u64 1048576)).setCell ⟨w.heap.size + 1, 3, none⟩ (.int .u8 16)).setCell ⟨w.heap.size + 1, 4, none⟩ (.int .i64 0)) = W4 at *
  simp [bodyPost, results, Tryd.results20, go_sem, q4]
  exact hG4
set_option maxHeartbeats 400000 in
theorem num_any (e : Int) (w : World) : Calls Tryd.prog 28 #[.int .i64 e] w fun x w' => x = .returned (.int .i64 e) ∧ w = w' := by
  go_enter Tryd.func28, Tryd.ntmps28
  go_wp2_with fail
  go_ret
  exact ⟨rfl, rfl⟩
set_option maxRecDepth 10000 in
set_option maxHeartbeats 2000000 in
theorem examples_any (w : World) (ht : TabIn w) :
    Calls Tryd.prog 14 #[] w fun x w' => x = .returned (.bool true) ∧ Below w.heap.size w w' := by
  have hE := fun g g2 W h0 (h1 : ImgIn W.heap.size W none (some ⟨g, 0, none⟩) (some ⟨g2, 0, none⟩) leastP) => imgEncode_any leastP none (some ⟨g, 0, none⟩) (some ⟨g2, 0, none⟩) 0 1 1 W h0 h1 least_rng
  rw [least_enc] at hE
  have hD := Decode_least
  have ss : (str leastS).size = 26 := rfl
  have h2 := ht.size
  have hT : ∀ W, Below w.heap.size w W → TabIn W := fun W h => ht.below h h2
  go_enter Tryd.func14, Tryd.ntmps14
  go_wp2_with fail
  refine (least_any _).mono ?_
  rintro x w1 ⟨g, g2, rfl, hI, hG⟩
  go_wp2_with fail
  refine (hE g g2 _ (hT _ hG.below) hI).mono ?_
  rintro x w2 ⟨rfl, hB2⟩
  have hB : Below w.heap.size w w2 := hG.below.trans (hB2.mono (gr_size hG))
  clear hI hG hB2 hE
  go_wp2_with fail
  refine (hD _ (hT _ hB)).mono ?_
  rintro x w3 ⟨ca, cc, ga, gc, rfl, hB3⟩
  replace hB := hB.trans (hB3.mono hB.size)
  clear hB3 hD
  go_wp2_with fail
  have M : Box (w3.alloc (.cells #[.slice none 0 0, .slice ca 1 cc, .slice ga 1 gc, .int .i64 1] 41)) w3.heap.size #[.slice none 0 0, .slice ca 1 cc, .slice ga 1 gc, .int .i64 1] 41 := Box.new _ _ _
  refine (least_any _).mono ?_
  rintro x w4 ⟨k, k2, rfl, hI, hG⟩
  replace M := M.gr hG
  replace hB := hB.trans (hG.of_alloc.below.mono hB.size)
  clear hG
  go_wp2_with fail
  refine (CodeCap_least k k2 1 1 _ hI).mono ?_
  rintro x w5 ⟨rfl, hG⟩
  replace M := M.gr hG
  replace hB := hB.trans (hG.below.mono hB.size)
  clear hG hI
  have ⟨z0, p0, f0⟩ := (M.alloc (.cells #[.int .u64 1048576, .int .u64 1048584, .int .u64 1048576, .int .u8 16, .int .i64 0] 58)).at
  generalize leastS = S at *
  replace hB := Hid.mk (hB.alloc hB.size (.cells #[.int .u64 1048576, .int .u64 1048584, .int .u64 1048576, .int .u8 16, .int .i64 0] 58))
  replace hT := Hid.mk hT
  clear M
  go_wp2_with (go_at_call 28; refine (num_any _ _).mono ?_; rintro x w' ⟨rfl, rfl⟩)
  go_ret
  exact ⟨rfl, hB.out⟩
end Go.Proofs.YthmfaafpdogpdaaDoor
