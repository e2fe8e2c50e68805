/-
  Stage 9, regtype: the program's Exact.
-/
import Derived.Test.YtihminokipepcabRLaw
import Derived.Test.YtihminokipepcabRProO
import Derived.Test.YtihminokipepcabRProM
import Derived.Test.YtihminokipepcabRProH
import Derived.Test.YtihminokipepcabRNum
import Derived.Test.YtihminokipepcabSSet
namespace Go.Proofs.Ytihminokipepcab
namespace R
open Go.RowKit

set_option maxHeartbeats 2000000 in
theorem pExact_any (c : Kc) (w : World) (hc : c.Rng) : Calls Try.prog 11 #[c.agg'] w fun x w' => x = .returned (exK c).rt.agg ∧ Gr w w' := by
  have hO := T.Hid.mk (fun W => pOf_any ⟨true, c.b, c.e, c.c, c.c, c.pm, c.s⟩ W ⟨hc.1, hc.2.1, hc.2.2.1, hc.2.2.1, hc.2.2.2⟩)
  rw [show ofT ⟨true, c.b, c.e, c.c, c.c, c.pm, c.s⟩ = exK c from rfl] at hO
  clear hc
  generalize (exK c).rt = r at *
  obtain ⟨k0, ⟨n10, n20⟩, ⟨b10, b20⟩, ⟨e10, e20⟩, ⟨p10, p20⟩, mu0, ma0, s0⟩ := r
  obtain ⟨vb, ve, vc, vp, vs⟩ := c
  simp only [RT.agg, Tt.agg, Kc.agg'] at hO ⊢
  have L1 := grow_cell; have L2 := grow_frozen; have L3 := grow_set; have L4 := grow_lt; have L5 := glt1; have L6 := glt2; have L7 := glt3; have L8 := glt4; have L9 := glt5; have L10 := glt6; have L11 := lt1; have L12 := lt2; have L13 := lt3; have L14 := lt4; have L15 := lt5; have L16 := lt6; have L17 := lt7; have L18 := lt8
  go_enter Try.func11, Try.ntmps11
  go_wp2_with (go_at_call 13; refine (hO.out _).mono ?_; rintro x w' ⟨rfl, l, rfl⟩)
  clear hO
  simp [bodyPost, results, Try.results11, go_sem, *]
  repeat (first | exact Gr.refl _ | refine Gr.alloc ?_ _ | refine Gr.grow ?_ _ | refine Gr.drew ?_)
end R
end Go.Proofs.Ytihminokipepcab
