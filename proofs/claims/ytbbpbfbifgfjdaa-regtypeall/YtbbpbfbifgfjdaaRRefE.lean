/-
  Stage 9, regtype: the document's Int, Exact, Of.
-/
import Derived.Test.YtbbpbfbifgfjdaaRRef
import Derived.Test.YtbbpbfbifgfjdaaSSet
import Derived.Deep.RegionHeld3
namespace Go.Proofs.Ytbbpbfbifgfjdaa
namespace R
open Go.RowKit

theorem nm_int (s : Sp) : (RT.mk 1 s Sp.no Sp.no Sp.no 0 0 0).nm = mkInt s := by
  unfold RT.nm
  exact if_pos ⟨rfl, rfl, rfl, rfl, rfl, rfl, rfl⟩
theorem nm_cap (b e p : Sp) (mu ma : Nat) (s : Int) : (RT.mk 2 Sp.no b e p mu ma s).nm = mkCap b e p mu ma s := by
  unfold RT.nm
  rw [if_neg (fun q => by have := q.1; simp at this)]
  exact if_pos ⟨rfl, rfl⟩
theorem no_u64 : Sp.no.u64 := by unfold Sp.no Sp.u64; decide
end R
end Go.Proofs.Ytbbpbfbifgfjdaa
