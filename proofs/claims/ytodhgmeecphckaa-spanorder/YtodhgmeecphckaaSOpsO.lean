/-
  Stage 2, span: the operations and the branches, in their order.
-/
import Derived.Test.YtodhgmeecphckaaSHead
namespace Go.Proofs.Ytodhgmeecphckaa
open Go.RowKit

/-- The operations, in their order. -/
def opsA : Array Value := #[.int .u8 3, .int .u8 4, .int .u8 5, .int .u8 6, .int .u8 7, .int .u8 8, .int .u8 9, .int .u8 10, .int .u8 12, .int .u8 13]
set_option maxHeartbeats 400000 in
theorem ops_any  (w : World) :
    Calls Try.prog 11 #[] w fun x w' => x = .returned (.slice (some ⟨w.heap.size, 0, none⟩) 10 10) ∧ At w' w.heap.size opsA ∧ Gr w w' := by
  go_enter Try.func11, Try.ntmps11
  go_wp2
  go_ret
  refine ⟨rfl, At.new _ _ _, ?_⟩
  repeat (first | exact Gr.refl _ | refine Gr.alloc ?_ _ | refine Gr.grow ?_ _ | refine Gr.drew ?_)
theorem ops_at (i : Nat) (h : i < 10) : ∃ op : Int, opsA[i]? = some (.int .u8 op) ∧ isOp op = true ∧ 0 ≤ op ∧ op < 256 := by
  have t : i = 0 ∨ i = 1 ∨ i = 2 ∨ i = 3 ∨ i = 4 ∨ i = 5 ∨ i = 6 ∨ i = 7 ∨ i = 8 ∨ i = 9 := by omega
  rcases t with rfl | rfl | rfl | rfl | rfl | rfl | rfl | rfl | rfl | rfl
  · exact ⟨3, rfl, rfl, by decide, by decide⟩
  · exact ⟨4, rfl, rfl, by decide, by decide⟩
  · exact ⟨5, rfl, rfl, by decide, by decide⟩
  · exact ⟨6, rfl, rfl, by decide, by decide⟩
  · exact ⟨7, rfl, rfl, by decide, by decide⟩
  · exact ⟨8, rfl, rfl, by decide, by decide⟩
  · exact ⟨9, rfl, rfl, by decide, by decide⟩
  · exact ⟨10, rfl, rfl, by decide, by decide⟩
  · exact ⟨12, rfl, rfl, by decide, by decide⟩
  · exact ⟨13, rfl, rfl, by decide, by decide⟩
/-- The branches, in their order. -/
theorem br_at (i : Nat) (h : i < 4) : ∃ op : Int, (∀ h', ([.int .u8 21, .int .u8 22, .int .u8 23, .int .u8 24] : List Value)[i]'h' = .int .u8 op) ∧ 21 ≤ op ∧ op ≤ 24 := by
  have t : i = 0 ∨ i = 1 ∨ i = 2 ∨ i = 3 := by omega
  rcases t with rfl | rfl | rfl | rfl
  · exact ⟨21, fun _ => rfl, by decide, by decide⟩
  · exact ⟨22, fun _ => rfl, by decide, by decide⟩
  · exact ⟨23, fun _ => rfl, by decide, by decide⟩
  · exact ⟨24, fun _ => rfl, by decide, by decide⟩
end Go.Proofs.Ytodhgmeecphckaa
