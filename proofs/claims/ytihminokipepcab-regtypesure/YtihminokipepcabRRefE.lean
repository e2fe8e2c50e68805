/-
  Stage 9, regtype: the document's Int, Exact, Of.
-/
import Derived.Test.YtihminokipepcabRRef
import Derived.Test.YtihminokipepcabSSet
import Derived.Deep.RegionHeld3
namespace Go.Proofs.Ytihminokipepcab
namespace R
open Go.RowKit

set_option maxHeartbeats 400000 in
theorem one_any (n : Int) (w : World) : Calls Try.prog 25 #[.int .u64 n] w fun x w' => x = .returned (.agg #[.int .u64 n, .int .u64 n]) ∧ Gr w w' := by
  have L1 := grow_cell
  have L2 := grow_frozen
  have L3 := grow_set
  have L4 := grow_lt
  have L5 := glt1
  have L6 := glt2
  have L7 := lt1
  have L8 := lt2
  go_enter Try.func25, Try.ntmps25
  go_wp2_with fail
  simp [bodyPost, results, Try.results25, go_sem, *]
  repeat (first | exact Gr.refl _ | refine Gr.alloc ?_ _ | refine Gr.grow ?_ _ | refine Gr.drew ?_)
set_option maxHeartbeats 400000 in
theorem known_any (n : Int) (w : World) : Calls Try.prog 26 #[.int .i64 n] w fun x w' => x = .returned (.int .i64 (kn n)) ∧ w = w' := by
  by_cases h : n < 0
  all_goals
    go_enter Try.func26, Try.ntmps26
    go_wp2_with fail
    go_ret
    exact ⟨by unfold kn; first | (rw [if_pos h]; rfl) | (rw [if_neg (by omega)]; rfl), rfl⟩
theorem nm_int (s : Sp) : (RT.mk 1 s Sp.no Sp.no Sp.no 0 0 0).nm = mkInt s := by
  unfold RT.nm
  exact if_pos ⟨rfl, rfl, rfl, rfl, rfl, rfl, rfl⟩
theorem nm_cap (b e p : Sp) (mu ma : Nat) (s : Int) : (RT.mk 2 Sp.no b e p mu ma s).nm = mkCap b e p mu ma s := by
  unfold RT.nm
  rw [if_neg (fun q => by have := q.1; simp at this)]
  exact if_pos ⟨rfl, rfl⟩
theorem no_u64 : Sp.no.u64 := by unfold Sp.no Sp.u64; decide
set_option maxHeartbeats 2000000 in
theorem dInt_any (s : Sp) (w : World) (h : s.u64) : Calls Try.prog 10 #[.agg #[.int .u64 s.lo, .int .u64 s.hi]] w fun x w' => x = .returned (mkInt s).rt.agg ∧ Gr w w' := by
  have hN := T.Hid.mk (fun W => Norm_any ⟨1, s, Sp.no, Sp.no, Sp.no, 0, 0, 0⟩ W ⟨h, no_u64, no_u64, no_u64, show (0 : Nat) < 256 by decide, show (0 : Nat) < 256 by decide⟩)
  rw [nm_int] at hN
  clear h
  generalize (mkInt s).rt = r at *
  obtain ⟨k0, ⟨n10, n20⟩, ⟨b10, b20⟩, ⟨e10, e20⟩, ⟨p10, p20⟩, mu0, ma0, s0⟩ := r
  simp only [RT.agg, Sp.no, Int.cast_ofNat_Int] at hN ⊢
  have L1 := grow_cell
  have L2 := grow_frozen
  have L3 := grow_set
  have L4 := grow_lt
  have L5 := glt1
  have L6 := glt2
  have L7 := glt3
  have L8 := lt1
  have L9 := lt2
  have L10 := lt3
  have L11 := lt4
  go_enter Try.func10, Try.ntmps10
  go_wp2_with (go_at_call 24; refine (hN.out _).mono ?_; rintro x w' ⟨rfl, l, rfl⟩)
  clear hN
  simp [bodyPost, results, Try.results10, go_sem, *]
  repeat (first | exact Gr.refl _ | refine Gr.alloc ?_ _ | refine Gr.grow ?_ _ | refine Gr.drew ?_)
end R
end Go.Proofs.Ytihminokipepcab
