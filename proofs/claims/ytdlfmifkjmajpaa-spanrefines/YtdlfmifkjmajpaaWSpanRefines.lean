/-
  Stage 2, span: the walk of the statement on Refine.
-/
import Derived.Test.YtdlfmifkjmajpaaSHead
import Derived.Test.YtdlfmifkjmajpaaSRefRA
namespace Go.Proofs.Ytdlfmifkjmajpaa
open Go.RowKit

set_option maxHeartbeats 4000000 in
theorem walk_SpanRefines (op a b c d : Int) (hop : 0 ≤ op ∧ op < 256) (hab : W64 a ∧ W64 b) (hcd : W64 c ∧ W64 d) (w : World) :
    Calls Try.prog 6 #[.int .u8 op, .agg #[.int .u64 a, .int .u64 b], .agg #[.int .u64 c, .int .u64 d]] w fun x w' => x = .returned (.bool true) ∧ Below w.heap.size w w' := by
  have hB := Gr.refl w
  have hr := fun w => Refine_any op a b c d w hop.1 hop.2 hab.1 hab.2 hcd.1 hcd.2
  have hf := fun w => refRefine_any op a b c d w hab.1 hab.2 hcd.1 hcd.2
  have t1 := told_r1 op a b c d
  have t2 := told_r2 op a b c d
  clear hop hab hcd
  generalize fA op a b c d = p1 at hr hf t1
  generalize fB op a b c d = p2 at hr hf t1
  generalize fC op a b c d = p3 at hr hf t2
  generalize fD op a b c d = p4 at hr hf t2
  generalize rOk op a b c d = p5 at hr hf
  have hs1 := fun w => same_any p1 p2 w t1
  have hs2 := fun w => same_any p3 p4 w t2
  clear t1 t2
  go_enter Try.func6, Try.ntmps6
  go_wp2_with fail
  refine (head_any _).mono ?_
  rintro x w1 ⟨rfl, hG⟩
  have A_a : At w1 (w.heap.size) #[.int .u64 a, .int .u64 b] := At.gr (by repeat (first | exact At.new _ _ _ | exact At.next _ _ _ _ | refine At.alloc ?_ _)) hG
  have A_c : At w1 (w.heap.size + 1) #[.int .u64 c, .int .u64 d] := At.gr (by repeat (first | exact At.new _ _ _ | exact At.next _ _ _ _ | refine At.alloc ?_ _)) hG
  replace hB : Gr w w1 := Gr.trans (by repeat (first | exact hB | refine Gr.alloc ?_ _)) hG
  clear hG
  have ⟨z_a, q_a, _⟩ := A_a
  have ⟨z_c, q_c, _⟩ := A_c
  go_wp2_with fail
  refine (hr _).mono ?_
  rintro x w2 ⟨rfl, hG⟩
  clear z_a q_a z_c q_c
  replace A_a : At w2 (w.heap.size) #[.int .u64 a, .int .u64 b] := At.gr (by repeat (first | exact A_a | refine At.alloc ?_ _)) hG
  replace A_c : At w2 (w.heap.size + 1) #[.int .u64 c, .int .u64 d] := At.gr (by repeat (first | exact A_c | refine At.alloc ?_ _)) hG
  replace hB : Gr w w2 := Gr.trans (by repeat (first | exact hB | refine Gr.alloc ?_ _)) hG
  clear hG
  have ⟨z_a, q_a, _⟩ := A_a
  have ⟨z_c, q_c, _⟩ := A_c
  go_wp2_with fail
  refine (hf _).mono ?_
  rintro x w3 ⟨rfl, hG⟩
  clear z_a q_a z_c q_c
  replace A_a : At w3 (w.heap.size) #[.int .u64 a, .int .u64 b] := At.gr (by repeat (first | exact A_a | refine At.alloc ?_ _)) hG
  replace A_c : At w3 (w.heap.size + 1) #[.int .u64 c, .int .u64 d] := At.gr (by repeat (first | exact A_c | refine At.alloc ?_ _)) hG
  have A_p : At w3 (w2.heap.size) #[.int .u64 p1, .int .u64 p2] := At.gr (by repeat (first | exact At.new _ _ _ | exact At.next _ _ _ _ | refine At.alloc ?_ _)) hG
  have A_r : At w3 (w2.heap.size + 1) #[.int .u64 p3, .int .u64 p4] := At.gr (by repeat (first | exact At.new _ _ _ | exact At.next _ _ _ _ | refine At.alloc ?_ _)) hG
  replace hB : Gr w w3 := Gr.trans (by repeat (first | exact hB | refine Gr.alloc ?_ _)) hG
  clear hG
  have ⟨z_a, q_a, _⟩ := A_a
  have ⟨z_c, q_c, _⟩ := A_c
  have ⟨z_p, q_p, _⟩ := A_p
  have ⟨z_r, q_r, _⟩ := A_r
  go_wp2_with fail
  refine (hs1 _).mono ?_
  rintro x w4 ⟨rfl, hG⟩
  clear z_a q_a z_c q_c z_p q_p z_r q_r
  replace A_a : At w4 (w.heap.size) #[.int .u64 a, .int .u64 b] := At.gr (by repeat (first | exact A_a | refine At.alloc ?_ _)) hG
  replace A_c : At w4 (w.heap.size + 1) #[.int .u64 c, .int .u64 d] := At.gr (by repeat (first | exact A_c | refine At.alloc ?_ _)) hG
  replace A_p : At w4 (w2.heap.size) #[.int .u64 p1, .int .u64 p2] := At.gr (by repeat (first | exact A_p | refine At.alloc ?_ _)) hG
  replace A_r : At w4 (w2.heap.size + 1) #[.int .u64 p3, .int .u64 p4] := At.gr (by repeat (first | exact A_r | refine At.alloc ?_ _)) hG
  have A_x : At w4 (w3.heap.size) #[.int .u64 p1, .int .u64 p2] := At.gr (by repeat (first | exact At.new _ _ _ | exact At.next _ _ _ _ | refine At.alloc ?_ _)) hG
  have A_y : At w4 (w3.heap.size + 1) #[.int .u64 p3, .int .u64 p4] := At.gr (by repeat (first | exact At.new _ _ _ | exact At.next _ _ _ _ | refine At.alloc ?_ _)) hG
  replace hB : Gr w w4 := Gr.trans (by repeat (first | exact hB | refine Gr.alloc ?_ _)) hG
  clear hG
  have ⟨z_a, q_a, _⟩ := A_a
  have ⟨z_c, q_c, _⟩ := A_c
  have ⟨z_p, q_p, _⟩ := A_p
  have ⟨z_r, q_r, _⟩ := A_r
  have ⟨z_x, q_x, _⟩ := A_x
  have ⟨z_y, q_y, _⟩ := A_y
  go_wp2_with fail
  refine (hs2 _).mono ?_
  rintro x w5 ⟨rfl, hG⟩
  clear z_a q_a z_c q_c z_p q_p z_r q_r z_x q_x z_y q_y
  replace A_a : At w5 (w.heap.size) #[.int .u64 a, .int .u64 b] := At.gr (by repeat (first | exact A_a | refine At.alloc ?_ _)) hG
  replace A_c : At w5 (w.heap.size + 1) #[.int .u64 c, .int .u64 d] := At.gr (by repeat (first | exact A_c | refine At.alloc ?_ _)) hG
  replace A_p : At w5 (w2.heap.size) #[.int .u64 p1, .int .u64 p2] := At.gr (by repeat (first | exact A_p | refine At.alloc ?_ _)) hG
  replace A_r : At w5 (w2.heap.size + 1) #[.int .u64 p3, .int .u64 p4] := At.gr (by repeat (first | exact A_r | refine At.alloc ?_ _)) hG
  replace A_x : At w5 (w3.heap.size) #[.int .u64 p1, .int .u64 p2] := At.gr (by repeat (first | exact A_x | refine At.alloc ?_ _)) hG
  replace A_y : At w5 (w3.heap.size + 1) #[.int .u64 p3, .int .u64 p4] := At.gr (by repeat (first | exact A_y | refine At.alloc ?_ _)) hG
  replace hB : Gr w w5 := Gr.trans (by repeat (first | exact hB | refine Gr.alloc ?_ _)) hG
  clear hG
  have ⟨z_a, q_a, _⟩ := A_a
  have ⟨z_c, q_c, _⟩ := A_c
  have ⟨z_p, q_p, _⟩ := A_p
  have ⟨z_r, q_r, _⟩ := A_r
  have ⟨z_x, q_x, _⟩ := A_x
  have ⟨z_y, q_y, _⟩ := A_y
  go_wp2_with fail
  go_ret
  exact ⟨by simp, hB.below⟩
end Go.Proofs.Ytdlfmifkjmajpaa
