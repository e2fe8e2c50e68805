/-
  Stage 2, span: the walk of the statement on Apply.
-/
import Derived.Test.YtdlfmifkjmajpabSHead
import Derived.Test.YtdlfmifkjmajpabSRefAA
import Derived.Deep.RegionHeld3
import Derived.StillTactics
namespace Go.Proofs.Ytdlfmifkjmajpab
open Go.RowKit

theorem told_a (op a b c d : Int) (ha : W64 a) (hb : W64 b) (hc : W64 c) (hd : W64 d) : apHi op a b c d < apLo op a b c d → apLo op a b c d = 1 ∧ apHi op a b c d = 0 := by
  by_cases e : b < a ∨ d < c
  · intro _; unfold apLo apHi; rw [if_pos e, if_pos e]; exact ⟨rfl, rfl⟩
  · cases ho : isOp op with
    | false => intro h; exfalso; unfold apLo apHi at h; rw [if_neg e, if_neg e, ho] at h; simp at h
    | true =>
      have := apply_sound (op := op) (x := a) (y := c) (a := a) (b := b) (c := c) (d := d) ho ⟨by omega, by omega⟩ ⟨by omega, by omega⟩ ha hb hc hd
      omega
set_option maxHeartbeats 4000000 in
theorem walk_SpanApplies (op a b c d : Int) (hop : 0 ≤ op ∧ op < 256) (hab : W64 a ∧ W64 b) (hcd : W64 c ∧ W64 d) (w : World) :
    Calls Try.prog 4 #[.int .u8 op, .agg #[.int .u64 a, .int .u64 b], .agg #[.int .u64 c, .int .u64 d]] w fun x w' => x = .returned (.bool true) ∧ Below w.heap.size w w' := by
  have hB := Gr.refl w
  have hr := fun w => refApply_any op a b c d w hab.1 hab.2 hcd.1 hcd.2
  have hw := fun w => Apply_any op a b c d w hop.1 hop.2 hab.1 hab.2 hcd.1 hcd.2
  have ht := told_a op a b c d hab.1 hab.2 hcd.1 hcd.2
  clear hab hcd hop
  generalize apLo op a b c d = p at hr hw ht
  generalize apHi op a b c d = q at hr hw ht
  have hs := fun w => same_any p q w ht
  clear ht
  go_enter Try.func4, Try.ntmps4
  go_wp2_with fail
  refine (head_any _).mono ?_
  rintro x w1 ⟨rfl, hG⟩
  have A_a : At w1 (w.heap.size) #[.int .u64 a, .int .u64 b] := At.gr (by repeat (first | exact At.new _ _ _ | exact At.next _ _ _ _ | refine At.alloc ?_ _)) hG
  have A_c : At w1 (w.heap.size + 1) #[.int .u64 c, .int .u64 d] := At.gr (by repeat (first | exact At.new _ _ _ | exact At.next _ _ _ _ | refine At.alloc ?_ _)) hG
  replace hB : Gr w w1 := Gr.trans (by repeat (first | exact hB | refine Gr.alloc ?_ _)) hG
  clear hG
  have ⟨z_a, q_a, _⟩ := A_a
  have ⟨z_c, q_c, _⟩ := A_c
  go_wp2_with fail
  refine (hw _).mono ?_
  rintro x w2 ⟨rfl, hG⟩
  clear z_a q_a z_c q_c
  replace A_a : At w2 (w.heap.size) #[.int .u64 a, .int .u64 b] := At.gr (by repeat (first | exact A_a | refine At.alloc ?_ _)) hG
  replace A_c : At w2 (w.heap.size + 1) #[.int .u64 c, .int .u64 d] := At.gr (by repeat (first | exact A_c | refine At.alloc ?_ _)) hG
  replace hB : Gr w w2 := Gr.trans (by repeat (first | exact hB | refine Gr.alloc ?_ _)) hG
  clear hG
  have ⟨z_a, q_a, _⟩ := A_a
  have ⟨z_c, q_c, _⟩ := A_c
  go_upto_region 3 with fail
  clear z_a q_a z_c q_c
  refine wp_world (fun w3 => At w3 (w.heap.size) #[.int .u64 a, .int .u64 b] ∧ At w3 (w.heap.size + 1) #[.int .u64 c, .int .u64 d] ∧ At w3 (w2.heap.size) #[.int .u64 p, .int .u64 q] ∧ Gr w w3) ⟨?_, ?_, ?_, ?_⟩ ?_
  · repeat (first | exact A_a | refine At.alloc ?_ _)
  · repeat (first | exact A_c | refine At.alloc ?_ _)
  · repeat (first | exact At.new _ _ _ | exact At.next _ _ _ _ | refine At.alloc ?_ _)
  · repeat (first | exact hB | refine Gr.alloc ?_ _)
  clear A_a A_c hB
  rintro w3 ⟨A_a, A_c, A_p, hB⟩
  have M_a := A_a.grown
  have M_c := A_c.grown
  have M_p := A_p.grown
  have ⟨z_a, q_a, _⟩ := A_a
  have ⟨z_c, q_c, _⟩ := A_c
  have ⟨z_p, q_p, _⟩ := A_p
  go_region_held3 (fun w' => w'.cell? ⟨w2.heap.size, 0, none⟩ = some (.int .u64 p) ∧ w'.cell? ⟨w2.heap.size, 1, none⟩ = some (.int .u64 q) ∧ w'.cell? ⟨w.heap.size, 0, none⟩ = some (.int .u64 a) ∧ w'.cell? ⟨w.heap.size, 1, none⟩ = some (.int .u64 b) ∧ w'.cell? ⟨w.heap.size + 1, 0, none⟩ = some (.int .u64 c) ∧ w'.cell? ⟨w.heap.size + 1, 1, none⟩ = some (.int .u64 d)) (simp [go_sem, *]) (first | (go_at_call 17; refine (hr _).mono ?_; rintro x w' ⟨rfl, hG⟩; (try replace hG := Gr.of_grow hG); obtain ⟨l, rfl⟩ := hG) | (go_at_call 14; refine (hs _).mono ?_; rintro x w' ⟨rfl, hG⟩; (try replace hG := Gr.of_grow hG); obtain ⟨l, rfl⟩ := hG))
  all_goals
    go_wp2
    go_ret
    refine ⟨rfl, Gr.below ?_⟩
    repeat (first | assumption | refine Gr.alloc ?_ _ | refine Gr.grow ?_ _ | refine Gr.drew ?_)
end Go.Proofs.Ytdlfmifkjmajpab
