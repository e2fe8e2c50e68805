/-
  Books of lists that came out: mark.
-/
import Derived.Test.YtknefcpfmggonaaDoorBSt
namespace Go.Proofs.YtknefcpfmggonaaDoor
namespace B
open Go.RowKit

def mkV (i : Nat) : Value := .agg #[.int .u8 201, .int .i64 (-1 - (i : Int)), .int .i64 0, .int .i64 0, .int .i64 0]
theorem mk_wrap {i : Nat} (h : i ≤ 1048576) : IntKind.i64.wrap (-1 - (i : Int)) = -1 - (i : Int) := by
  rw [IntKind.wrap_i64]; omega
theorem mark_any (i : Nat) (hi : i ≤ 1048576) (w : World) : Calls Tryd.prog 11 #[.int .i64 i] w fun x w' => x = .returned (mkV i) ∧ Gr w w' := by
  have e1 := mk_wrap hi
  go_enter Tryd.func11, Tryd.ntmps11
  go_wp2_with fail
  refine bodyPost_ret (v := mkV i) (by simp [results, Tryd.results11, go_sem, mkV]) rfl ?_
  exact ⟨rfl, (Gr.refl w).alloc _⟩
end B
end Go.Proofs.YtknefcpfmggonaaDoor
