/-
  Stage 4, image: Fits.
-/
import Derived.Test.YtkmdglnplekbaaaDoorMFitsE
import Derived.Test.YtkmdglnplekbaaaDoorMFitsN0
import Derived.Test.YtkmdglnplekbaaaDoorMFitsN1
import Derived.Test.YtkmdglnplekbaaaDoorMFitsN2
import Derived.Test.YtkmdglnplekbaaaDoorMFitsN3
namespace Go.Proofs.YtkmdglnplekbaaaDoor
open Go.RowKit

set_option maxHeartbeats 1000000 in
theorem Fits_any (tag : Bool) (n b e c p s : Int) (t : PTyp) (w : World) :
    Calls Tryd.prog 19 #[.agg #[.bool tag, .int .u64 n, .int .u64 b, .int .u64 e, .int .u64 c, .int .u8 p, .int .i64 s], .agg #[.bool t.cap, .int .u64 t.b, .int .u64 t.e, .int .u64 t.lo, .int .u64 t.hi, .int .u8 t.p, .int .i64 t.s]] w fun x w' => x = .returned (.bool (fitsB tag b e c p s t)) ∧ Gr w w' := by
  unfold fitsB
  rcases t with ⟨tc, tb, te, lo, hi, tp, ts⟩
  simp only
  cases tc
  · go_enter Tryd.func19, Tryd.ntmps19
    go_wp2
    all_goals
      go_ret
      refine ⟨ret_bool (by simp), ?_⟩
      (with_reducible repeat (first | exact Gr.refl _ | refine Gr.alloc ?_ _ | refine Gr.grow ?_ _ | refine Gr.drew ?_ | refine Gr.setCell ?_ _ _ _ (gr_size ?_)))
  cases tag
  · go_enter Tryd.func19, Tryd.ntmps19
    go_wp2_with fail
    go_quiet (fail)
    go_wp2_with fail
    go_ret
    refine ⟨ret_bool (by simp), ?_⟩
    exact (((Gr.refl w).alloc _).alloc _).drewN _
  by_cases h0 : b = tb
  case neg =>
    have g0 : (b == tb) = false := by simpa using h0
    have hn := Fits_n0 n b e c p s lo hi tb te tp ts w h0
    simpa [g0] using hn
  obtain rfl := h0
  by_cases h1 : e = te
  case neg =>
    have g1 : (e == te) = false := by simpa using h1
    have hn := Fits_n1 n b e c p s lo hi te tp ts w h1
    simpa [g1] using hn
  obtain rfl := h1
  by_cases h2 : p = tp
  case neg =>
    have g2 : (p == tp) = false := by simpa using h2
    have hn := Fits_n2 n b e c p s lo hi tp ts w h2
    simpa [g2] using hn
  obtain rfl := h2
  by_cases h3 : s = ts
  case neg =>
    have g3 : (s == ts) = false := by simpa using h3
    have hn := Fits_n3 n b e c p s lo hi ts w h3
    simpa [g3] using hn
  obtain rfl := h3
  have he := Fits_eq n b e c p s lo hi w
  simpa using he
end Go.Proofs.YtkmdglnplekbaaaDoor
