/-
  Stage 4, image: the walk of the statement on CapOf and Fits.
-/
import Derived.Test.YthmfaafpdogpdaaDoorMEx
import Derived.Test.YthmfaafpdogpdaaDoorMFitsH
import Derived.Test.YthmfaafpdogpdaaDoorMFitsR
import Derived.Deep.RegionHeld3
import Derived.StillTactics
namespace Go.Proofs.YthmfaafpdogpdaaDoor
open Go.RowKit

theorem fits_same (a b : Bool) (h : a = b) : (a == b) = true := by rw [h]; simp
set_option maxRecDepth 10000 in
set_option maxHeartbeats 4000000 in
theorem walk_ImageFits (tag : Bool) (n b e c p s : Int) (t : PTyp) (m : Int) (w : World) (ht : TabIn w) (_hv : W64 n ∧ W64 b ∧ W64 e ∧ W64 c ∧ B8 p ∧ J64 s) (_hr : t.Rng) (_hm : W64 m) :
    Calls Tryd.prog 7 #[.agg #[.bool tag, .int .u64 n, .int .u64 b, .int .u64 e, .int .u64 c, .int .u8 p, .int .i64 s], .agg #[.bool t.cap, .int .u64 t.b, .int .u64 t.e, .int .u64 t.lo, .int .u64 t.hi, .int .u8 t.p, .int .i64 t.s], .int .u64 m] w fun x w' => x = .returned (.bool true) ∧ Below w.heap.size w w' := by
  have hF := Fits_any tag n b e c p s t
  have hR := refFits_any tag n b e c p s t
  have hc := CapOf_any t m
  have hd := refCapOf_any t m
  generalize fitsB tag b e c p s t = q at hF hR
  go_enter Tryd.func7, Tryd.ntmps7
  go_wp2_with fail
  have hG0 : Gr w ((w.alloc (.cells #[.bool tag, .int .u64 n, .int .u64 b, .int .u64 e, .int .u64 c, .int .u8 p, .int .i64 s] 62)).alloc (.cells #[.bool t.cap, .int .u64 t.b, .int .u64 t.e, .int .u64 t.lo, .int .u64 t.hi, .int .u8 t.p, .int .i64 t.s] 54)) := ((Gr.refl w).alloc _).alloc _
  have XV : Box ((w.alloc (.cells #[.bool tag, .int .u64 n, .int .u64 b, .int .u64 e, .int .u64 c, .int .u8 p, .int .i64 s] 62)).alloc (.cells #[.bool t.cap, .int .u64 t.b, .int .u64 t.e, .int .u64 t.lo, .int .u64 t.hi, .int .u8 t.p, .int .i64 t.s] 54)) w.heap.size #[.bool tag, .int .u64 n, .int .u64 b, .int .u64 e, .int .u64 c, .int .u8 p, .int .i64 s] 62 := (Box.new w _ _).alloc _
  have XT : Box ((w.alloc (.cells #[.bool tag, .int .u64 n, .int .u64 b, .int .u64 e, .int .u64 c, .int .u8 p, .int .i64 s] 62)).alloc (.cells #[.bool t.cap, .int .u64 t.b, .int .u64 t.e, .int .u64 t.lo, .int .u64 t.hi, .int .u8 t.p, .int .i64 t.s] 54)) (w.heap.size + 1) #[.bool t.cap, .int .u64 t.b, .int .u64 t.e, .int .u64 t.lo, .int .u64 t.hi, .int .u8 t.p, .int .i64 t.s] 54 := Box.next _ _ _ _
  refine (examples_any _ (ht.gr hG0)).mono ?_
  rintro x w1 ⟨rfl, hB1⟩
  replace XV := XV.below hB1 XV.lt
  replace XT := XT.below hB1 XT.lt
  have hB : Below w.heap.size w w1 := hG0.below.trans (hB1.mono (gr_size hG0))
  clear hB1 hG0 ht
  have ⟨z1, p1, _⟩ := XV.at
  have ⟨z2, p2, _⟩ := XT.at
  go_wp2_with fail
  refine (hc _).mono ?_
  rintro x w2 ⟨rfl, hG⟩
  replace XV := XV.gr hG
  replace XT := XT.gr hG
  replace hB := hB.trans (hG.below.mono hB.size)
  clear hG z1 p1 z2 p2
  have XC : Box (w2.alloc (.cells #[.int .u64 t.b, .int .u64 t.e, .int .u64 m, .int .u8 t.p, .int .i64 t.s] 58)) w2.heap.size #[.int .u64 t.b, .int .u64 t.e, .int .u64 m, .int .u8 t.p, .int .i64 t.s] 58 := Box.new _ _ _
  have ⟨z1, p1, _⟩ := (XV.alloc (.cells #[.int .u64 t.b, .int .u64 t.e, .int .u64 m, .int .u8 t.p, .int .i64 t.s] 58)).at
  have ⟨z2, p2, _⟩ := (XT.alloc (.cells #[.int .u64 t.b, .int .u64 t.e, .int .u64 m, .int .u8 t.p, .int .i64 t.s] 58)).at
  go_wp2_with fail
  refine (hF _).mono ?_
  rintro x w3 ⟨rfl, hG⟩
  replace XV := (XV.alloc _).gr hG
  replace XT := (XT.alloc _).gr hG
  replace XC := XC.gr hG
  replace hB := hB.trans (hG.of_alloc.below.mono hB.size)
  clear hG z1 p1 z2 p2
  have ⟨z1, p1, _⟩ := XV.at
  have ⟨z2, p2, _⟩ := XT.at
  have ⟨z3, p3, _⟩ := XC.at
  go_wp2_with fail
  have KS : ∀ W, Gr w3 W → W.cell? ⟨w.heap.size, 0, none⟩ = some (.bool tag) ∧ W.cell? ⟨w.heap.size, 1, none⟩ = some (.int .u64 n) ∧ W.cell? ⟨w.heap.size, 2, none⟩ = some (.int .u64 b) ∧ W.cell? ⟨w.heap.size, 3, none⟩ = some (.int .u64 e) ∧ W.cell? ⟨w.heap.size, 4, none⟩ = some (.int .u64 c) ∧ W.cell? ⟨w.heap.size, 5, none⟩ = some (.int .u8 p) ∧ W.cell? ⟨w.heap.size, 6, none⟩ = some (.int .i64 s) ∧ W.cell? ⟨w.heap.size + 1, 0, none⟩ = some (.bool t.cap) ∧ W.cell? ⟨w.heap.size + 1, 1, none⟩ = some (.int .u64 t.b) ∧ W.cell? ⟨w.heap.size + 1, 2, none⟩ = some (.int .u64 t.e) ∧ W.cell? ⟨w.heap.size + 1, 3, none⟩ = some (.int .u64 t.lo) ∧ W.cell? ⟨w.heap.size + 1, 4, none⟩ = some (.int .u64 t.hi) ∧ W.cell? ⟨w.heap.size + 1, 5, none⟩ = some (.int .u8 t.p) ∧ W.cell? ⟨w.heap.size + 1, 6, none⟩ = some (.int .i64 t.s) ∧ W.cell? ⟨w2.heap.size, 0, none⟩ = some (.int .u64 t.b) ∧ W.cell? ⟨w2.heap.size, 1, none⟩ = some (.int .u64 t.e) ∧ W.cell? ⟨w2.heap.size, 2, none⟩ = some (.int .u64 m) ∧ W.cell? ⟨w2.heap.size, 3, none⟩ = some (.int .u8 t.p) ∧ W.cell? ⟨w2.heap.size, 4, none⟩ = some (.int .i64 t.s) := fun W hG => ⟨(hG.cell z1 _).trans (p1 0), (hG.cell z1 _).trans (p1 1), (hG.cell z1 _).trans (p1 2), (hG.cell z1 _).trans (p1 3), (hG.cell z1 _).trans (p1 4), (hG.cell z1 _).trans (p1 5), (hG.cell z1 _).trans (p1 6), (hG.cell z2 _).trans (p2 0), (hG.cell z2 _).trans (p2 1), (hG.cell z2 _).trans (p2 2), (hG.cell z2 _).trans (p2 3), (hG.cell z2 _).trans (p2 4), (hG.cell z2 _).trans (p2 5), (hG.cell z2 _).trans (p2 6), (hG.cell z3 _).trans (p3 0), (hG.cell z3 _).trans (p3 1), (hG.cell z3 _).trans (p3 2), (hG.cell z3 _).trans (p3 3), (hG.cell z3 _).trans (p3 4)⟩
  replace KS := Hid.mk KS
  clear z1 p1 z2 p2 z3 p3 XV XT XC
  replace hB := Hid.mk hB
  cases q
  all_goals
    first | (go_region_held3 (fun W => W.cell? ⟨w.heap.size, 0, none⟩ = some (.bool tag) ∧ W.cell? ⟨w.heap.size, 1, none⟩ = some (.int .u64 n) ∧ W.cell? ⟨w.heap.size, 2, none⟩ = some (.int .u64 b) ∧ W.cell? ⟨w.heap.size, 3, none⟩ = some (.int .u64 e) ∧ W.cell? ⟨w.heap.size, 4, none⟩ = some (.int .u64 c) ∧ W.cell? ⟨w.heap.size, 5, none⟩ = some (.int .u8 p) ∧ W.cell? ⟨w.heap.size, 6, none⟩ = some (.int .i64 s) ∧ W.cell? ⟨w.heap.size + 1, 0, none⟩ = some (.bool t.cap) ∧ W.cell? ⟨w.heap.size + 1, 1, none⟩ = some (.int .u64 t.b) ∧ W.cell? ⟨w.heap.size + 1, 2, none⟩ = some (.int .u64 t.e) ∧ W.cell? ⟨w.heap.size + 1, 3, none⟩ = some (.int .u64 t.lo) ∧ W.cell? ⟨w.heap.size + 1, 4, none⟩ = some (.int .u64 t.hi) ∧ W.cell? ⟨w.heap.size + 1, 5, none⟩ = some (.int .u8 t.p) ∧ W.cell? ⟨w.heap.size + 1, 6, none⟩ = some (.int .i64 t.s) ∧ W.cell? ⟨w2.heap.size, 0, none⟩ = some (.int .u64 t.b) ∧ W.cell? ⟨w2.heap.size, 1, none⟩ = some (.int .u64 t.e) ∧ W.cell? ⟨w2.heap.size, 2, none⟩ = some (.int .u64 m) ∧ W.cell? ⟨w2.heap.size, 3, none⟩ = some (.int .u8 t.p) ∧ W.cell? ⟨w2.heap.size, 4, none⟩ = some (.int .i64 t.s)) ((refine KS.out _ ?_; (with_reducible repeat (first | exact Gr.refl _ | refine Gr.alloc ?_ _ | refine Gr.grow ?_ _ | refine Gr.drew ?_ | refine Gr.setCell ?_ _ _ _ (gr_size ?_))))) (first | (go_at_call 21; refine (hd _).mono ?_; rintro x w' ⟨rfl, hG⟩; (repeat (replace hG := Gr.of_grow hG)); obtain ⟨l, rfl⟩ := hG) | (go_at_call 22; refine (hR _).mono ?_; rintro x w' ⟨rfl, hG⟩; (repeat (replace hG := Gr.of_grow hG)); obtain ⟨l, rfl⟩ := hG))) | fail
    go_wp2_with fail
    go_ret
    exact ⟨by simp, hB.out.trans (((Gr.refl w3).drew.grow _).below.mono hB.out.size)⟩
end Go.Proofs.YthmfaafpdogpdaaDoor
