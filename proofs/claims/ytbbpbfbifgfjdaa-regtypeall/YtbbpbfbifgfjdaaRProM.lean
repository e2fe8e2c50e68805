/-
  Stage 9, regtype: the program's Join.
-/
import Derived.Test.YtbbpbfbifgfjdaaRProJ
namespace Go.Proofs.Ytbbpbfbifgfjdaa
namespace R
open Go.RowKit

set_option maxHeartbeats 2000000 in
theorem pJoin_any (a b : RT) (w : World) (ha : a.Rng) (hb : b.Rng) : Calls Try.prog 9 #[a.agg, b.agg] w fun x w' => x = .returned (a.nm.jn b.nm).rt.agg ∧ Gr w w' := by
  have hM := T.Hid.mk (fun W => pMerge_jn a b W ha hb)
  clear ha hb
  generalize (a.nm.jn b.nm).rt = r at *
  obtain ⟨k0, ⟨n10, n20⟩, ⟨b10, b20⟩, ⟨e10, e20⟩, ⟨p10, p20⟩, mu0, ma0, s0⟩ := r
  obtain ⟨k, ⟨n1, n2⟩, ⟨b1, b2⟩, ⟨e1, e2⟩, ⟨p1, p2⟩, mu, ma, s⟩ := a
  obtain ⟨k', ⟨n1', n2'⟩, ⟨b1', b2'⟩, ⟨e1', e2'⟩, ⟨p1', p2'⟩, mu', ma', s'⟩ := b
  simp only [RT.agg] at hM ⊢
  have L1 := grow_cell
  have L2 := grow_frozen
  have L3 := grow_set
  have L4 := grow_lt
  have L5 := glt1
  have L6 := glt2
  have L7 := glt3
  have L8 := lt1
  have L9 := lt2
  have L10 := lt3
  have L11 := lt4
  go_enter Try.func9, Try.ntmps9
  go_wp2_with (go_at_call 28; refine (hM.out _).mono ?_; rintro x w' ⟨rfl, l, rfl⟩)
  clear hM
  simp [bodyPost, results, Try.results9, go_sem, *]
  repeat (first | exact Gr.refl _ | refine Gr.alloc ?_ _ | refine Gr.grow ?_ _ | refine Gr.drew ?_)
end R
end Go.Proofs.Ytbbpbfbifgfjdaa
