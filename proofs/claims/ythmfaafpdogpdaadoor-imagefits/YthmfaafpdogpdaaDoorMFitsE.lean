/-
  Stage 4, image: Fits, where all is equal; the document's own CapOf.
-/
import Derived.Test.YthmfaafpdogpdaaDoorMLeaf
import Derived.Test.YthmfaafpdogpdaaDoorIRead
namespace Go.Proofs.YthmfaafpdogpdaaDoor
open Go.RowKit

theorem atNew (w : World) (cs : Array Value) (t : TypeId) : At (w.alloc (.cells cs t)) w.heap.size cs := At.new w cs t
def fitsB (tag : Bool) (b e c p s : Int) (t : PTyp) : Bool := if t.cap then tag && (b == t.b && e == t.e && p == t.p && s == t.s) && inLH t.lo t.hi c else !tag
set_option maxHeartbeats 400000 in
theorem refCapOf_any (t : PTyp) (c : Int) (w : World) :
    Calls Tryd.prog 21 #[.agg #[.bool t.cap, .int .u64 t.b, .int .u64 t.e, .int .u64 t.lo, .int .u64 t.hi, .int .u8 t.p, .int .i64 t.s], .int .u64 c] w fun x w' => x = .returned (.agg #[.int .u64 t.b, .int .u64 t.e, .int .u64 c, .int .u8 t.p, .int .i64 t.s]) ∧ Gr w w' := by
  go_enter Tryd.func21, Tryd.ntmps21
  go_wp2
  all_goals
    simp [bodyPost, results, Tryd.results21, go_sem]
    (with_reducible repeat (first | exact Gr.refl _ | refine Gr.alloc ?_ _ | refine Gr.grow ?_ _ | refine Gr.drew ?_ | refine Gr.setCell ?_ _ _ _ (gr_size ?_)))
set_option maxHeartbeats 4000000 in
/-- Fits of a capability with just the type's bounds, permissions and seal. -/
theorem Fits_eq (n b e c p s lo hi : Int) (w : World) :
    Calls Tryd.prog 19 #[.agg #[.bool true, .int .u64 n, .int .u64 b, .int .u64 e, .int .u64 c, .int .u8 p, .int .i64 s], .agg #[.bool true, .int .u64 b, .int .u64 e, .int .u64 lo, .int .u64 hi, .int .u8 p, .int .i64 s]] w fun x w' => x = .returned (.bool (inLH lo hi c)) ∧ Gr w w' := by
  have hc := CapOf_any ⟨true, b, e, lo, hi, p, s⟩ c
  have hp := pointsWithin_any ⟨true, b, e, lo, hi, p, s⟩ c
  simp only at hc hp
  generalize inLH lo hi c = q at hp ⊢
  cases q
  all_goals
    go_enter Tryd.func19, Tryd.ntmps19
    go_upto_region 3 with fail
    have ⟨z1, p1, _⟩ := ((atNew w #[.bool true, .int .u64 n, .int .u64 b, .int .u64 e, .int .u64 c, .int .u8 p, .int .i64 s] 62).alloc (.cells #[.bool true, .int .u64 b, .int .u64 e, .int .u64 lo, .int .u64 hi, .int .u8 p, .int .i64 s] 54))
    have ⟨z2, p2, _⟩ := At.next w (.cells #[.bool true, .int .u64 n, .int .u64 b, .int .u64 e, .int .u64 c, .int .u8 p, .int .i64 s] 62) #[.bool true, .int .u64 b, .int .u64 e, .int .u64 lo, .int .u64 hi, .int .u8 p, .int .i64 s] 54
    have KS : ∀ W, Gr ((w.alloc (.cells #[.bool true, .int .u64 n, .int .u64 b, .int .u64 e, .int .u64 c, .int .u8 p, .int .i64 s] 62)).alloc (.cells #[.bool true, .int .u64 b, .int .u64 e, .int .u64 lo, .int .u64 hi, .int .u8 p, .int .i64 s] 54)) W → W.cell? ⟨w.heap.size, 0, none⟩ = some (.bool true) ∧ W.cell? ⟨w.heap.size, 1, none⟩ = some (.int .u64 n) ∧ W.cell? ⟨w.heap.size, 2, none⟩ = some (.int .u64 b) ∧ W.cell? ⟨w.heap.size, 3, none⟩ = some (.int .u64 e) ∧ W.cell? ⟨w.heap.size, 4, none⟩ = some (.int .u64 c) ∧ W.cell? ⟨w.heap.size, 5, none⟩ = some (.int .u8 p) ∧ W.cell? ⟨w.heap.size, 6, none⟩ = some (.int .i64 s) ∧ W.cell? ⟨w.heap.size + 1, 0, none⟩ = some (.bool true) ∧ W.cell? ⟨w.heap.size + 1, 1, none⟩ = some (.int .u64 b) ∧ W.cell? ⟨w.heap.size + 1, 2, none⟩ = some (.int .u64 e) ∧ W.cell? ⟨w.heap.size + 1, 3, none⟩ = some (.int .u64 lo) ∧ W.cell? ⟨w.heap.size + 1, 4, none⟩ = some (.int .u64 hi) ∧ W.cell? ⟨w.heap.size + 1, 5, none⟩ = some (.int .u8 p) ∧ W.cell? ⟨w.heap.size + 1, 6, none⟩ = some (.int .i64 s) := fun W hG => ⟨(hG.cell z1 _).trans (p1 0), (hG.cell z1 _).trans (p1 1), (hG.cell z1 _).trans (p1 2), (hG.cell z1 _).trans (p1 3), (hG.cell z1 _).trans (p1 4), (hG.cell z1 _).trans (p1 5), (hG.cell z1 _).trans (p1 6), (hG.cell z2 _).trans (p2 0), (hG.cell z2 _).trans (p2 1), (hG.cell z2 _).trans (p2 2), (hG.cell z2 _).trans (p2 3), (hG.cell z2 _).trans (p2 4), (hG.cell z2 _).trans (p2 5), (hG.cell z2 _).trans (p2 6)⟩
    replace KS := Hid.mk KS
    clear z1 p1 z2 p2
    first | (go_region_held3 (fun W => W.cell? ⟨w.heap.size, 0, none⟩ = some (.bool true) ∧ W.cell? ⟨w.heap.size, 1, none⟩ = some (.int .u64 n) ∧ W.cell? ⟨w.heap.size, 2, none⟩ = some (.int .u64 b) ∧ W.cell? ⟨w.heap.size, 3, none⟩ = some (.int .u64 e) ∧ W.cell? ⟨w.heap.size, 4, none⟩ = some (.int .u64 c) ∧ W.cell? ⟨w.heap.size, 5, none⟩ = some (.int .u8 p) ∧ W.cell? ⟨w.heap.size, 6, none⟩ = some (.int .i64 s) ∧ W.cell? ⟨w.heap.size + 1, 0, none⟩ = some (.bool true) ∧ W.cell? ⟨w.heap.size + 1, 1, none⟩ = some (.int .u64 b) ∧ W.cell? ⟨w.heap.size + 1, 2, none⟩ = some (.int .u64 e) ∧ W.cell? ⟨w.heap.size + 1, 3, none⟩ = some (.int .u64 lo) ∧ W.cell? ⟨w.heap.size + 1, 4, none⟩ = some (.int .u64 hi) ∧ W.cell? ⟨w.heap.size + 1, 5, none⟩ = some (.int .u8 p) ∧ W.cell? ⟨w.heap.size + 1, 6, none⟩ = some (.int .i64 s)) ((refine KS.out _ ?_; (with_reducible repeat (first | exact Gr.refl _ | refine Gr.alloc ?_ _ | refine Gr.grow ?_ _ | refine Gr.drew ?_ | refine Gr.setCell ?_ _ _ _ (gr_size ?_))))) (first | (go_at_call 18; refine (hc _).mono ?_; rintro x w' ⟨rfl, hG⟩; (repeat (replace hG := Gr.of_grow hG)); obtain ⟨l, rfl⟩ := hG) | (go_at_call 35; refine (hp _).mono ?_; rintro x w' ⟨rfl, hG⟩; (repeat (replace hG := Gr.of_grow hG)); obtain ⟨l, rfl⟩ := hG))) | fail
    all_goals
      clear KS
      go_wp2_with fail
      go_ret
      refine ⟨ret_bool (by simp_all), ?_⟩
      (with_reducible repeat (first | exact Gr.refl _ | refine Gr.alloc ?_ _ | refine Gr.grow ?_ _ | refine Gr.drew ?_ | refine Gr.drewN ?_ _))
end Go.Proofs.YthmfaafpdogpdaaDoor
