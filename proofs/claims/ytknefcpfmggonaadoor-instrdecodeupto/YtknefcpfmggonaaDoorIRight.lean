/-
  Stage 3, instr: Right.
-/
import Derived.Test.YtknefcpfmggonaaDoorIField
namespace Go.Proofs.YtknefcpfmggonaaDoor
open Go.RowKit

theorem str_list (l : List UInt8) : (str l).toList = l := by
  rw [ByteArray.toList_eq]; rfl
set_option maxHeartbeats 400000 in
theorem Right_any (op a b c m : Int) (w : World) (ht : TabIn w) (h0 : 0 ≤ op) (h1 : op < 256) :
    Calls Tryd.prog 12 #[.agg #[.int .u8 op, .int .i64 a, .int .i64 b, .int .i64 c, .int .i64 m]] w fun x w' => x = .returned (.int .i64 (rightF op a b c m)) ∧ Gr w w' := by
  have hn := Name_any op (w.alloc (.cells #[.int .u8 op, .int .i64 a, .int .i64 b, .int .i64 c, .int .i64 m] 35)) (ht.gr ((Gr.refl w).alloc _)) h0 h1
  have hf := fieldsRight_any op a b c m (w.alloc (.cells #[.int .u8 op, .int .i64 a, .int .i64 b, .int .i64 c, .int .i64 m] 35)) (ht.gr ((Gr.refl w).alloc _)) h0 h1
  unfold rightF
  generalize fR op (shapeOf op) 0 a b c m = ok at *
  generalize nameOf op = nm at *
  have sl := str_list
  by_cases hm : nm = []
  · subst hm
    rw [if_pos rfl]
    go_enter Tryd.func12, Tryd.ntmps12
    go_wp2_with (go_at_call 16; refine hn.mono ?_; rintro x w' ⟨rfl, rfl⟩)
    go_ret
    exact ⟨rfl, (Gr.refl w).alloc _⟩
  · rw [if_neg hm]
    have hq : nm.isEmpty = false := by simpa using hm
    cases ok with
    | true =>
      go_enter Tryd.func12, Tryd.ntmps12
      go_wp2_with (first | (go_at_call 16; refine hn.mono ?_; rintro x w' ⟨rfl, rfl⟩) | (go_at_call 17; refine hf.mono ?_; rintro x w' ⟨rfl, hG⟩))
      go_ret
      exact ⟨rfl, hG.of_alloc⟩
    | false =>
      go_enter Tryd.func12, Tryd.ntmps12
      go_wp2_with (first | (go_at_call 16; refine hn.mono ?_; rintro x w' ⟨rfl, rfl⟩) | (go_at_call 17; refine hf.mono ?_; rintro x w' ⟨rfl, hG⟩))
      go_ret
      exact ⟨rfl, hG.of_alloc⟩
end Go.Proofs.YtknefcpfmggonaaDoor
