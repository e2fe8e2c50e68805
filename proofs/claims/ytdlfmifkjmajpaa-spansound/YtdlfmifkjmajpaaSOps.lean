/-
  Stage 2, span: the walk of the statement that nothing is lost by an operation.
-/
import Derived.Test.YtdlfmifkjmajpaaSHead
import Derived.Test.YtdlfmifkjmajpaaSNum
import Derived.Test.YtdlfmifkjmajpaaSPick
import Derived.Test.YtdlfmifkjmajpaaSSndM
namespace Go.Proofs.Ytdlfmifkjmajpaa
open Go.RowKit

/-- The operations, in their order. -/
def opsA : Array Value := #[.int .u8 3, .int .u8 4, .int .u8 5, .int .u8 6, .int .u8 7, .int .u8 8, .int .u8 9, .int .u8 10, .int .u8 12, .int .u8 13]
set_option maxHeartbeats 400000 in
theorem ops_any  (w : World) :
    Calls Try.prog 15 #[] w fun x w' => x = .returned (.slice (some ⟨w.heap.size, 0, none⟩) 10 10) ∧ At w' w.heap.size opsA ∧ Gr w w' := by
  go_enter Try.func15, Try.ntmps15
  go_wp2
  go_ret
  refine ⟨rfl, At.new _ _ _, ?_⟩
  repeat (first | exact Gr.refl _ | refine Gr.alloc ?_ _ | refine Gr.grow ?_ _ | refine Gr.drew ?_)

set_option maxHeartbeats 400000 in
theorem number_any (op p q : Int) (w : World) (ho : isOp op = true) (hq : 0 ≤ q) :
    Calls Try.prog 17 #[.int .u8 op, .int .u64 p, .int .u64 q] w fun x w' => x = .returned (.int .u64 (one op p q)) ∧ Gr w w' := by
  have hn := fun w => refNum_any op p q w ho hq
  generalize one op p q = z at hn ⊢
  go_enter Try.func17, Try.ntmps17
  go_wp2_with (go_at_call 34; refine (hn _).mono ?_; rintro x w' ⟨rfl, rfl⟩)
  go_ret
  exact ⟨rfl, Gr.refl _⟩

theorem ops_at (i : Nat) (h : i < 10) : ∃ op : Int, opsA[i]? = some (.int .u8 op) ∧ isOp op = true ∧ 0 ≤ op ∧ op < 256 := by
  have t : i = 0 ∨ i = 1 ∨ i = 2 ∨ i = 3 ∨ i = 4 ∨ i = 5 ∨ i = 6 ∨ i = 7 ∨ i = 8 ∨ i = 9 := by omega
  rcases t with rfl | rfl | rfl | rfl | rfl | rfl | rfl | rfl | rfl | rfl
  · exact ⟨3, rfl, rfl, by decide, by decide⟩
  · exact ⟨4, rfl, rfl, by decide, by decide⟩
  · exact ⟨5, rfl, rfl, by decide, by decide⟩
  · exact ⟨6, rfl, rfl, by decide, by decide⟩
  · exact ⟨7, rfl, rfl, by decide, by decide⟩
  · exact ⟨8, rfl, rfl, by decide, by decide⟩
  · exact ⟨9, rfl, rfl, by decide, by decide⟩
  · exact ⟨10, rfl, rfl, by decide, by decide⟩
  · exact ⟨12, rfl, rfl, by decide, by decide⟩
  · exact ⟨13, rfl, rfl, by decide, by decide⟩
end Go.Proofs.Ytdlfmifkjmajpaa
