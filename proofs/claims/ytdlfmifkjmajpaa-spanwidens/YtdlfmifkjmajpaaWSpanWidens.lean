/-
  Stage 2, span: the walk of the statement on Widen.
-/
import Derived.Test.YtdlfmifkjmajpaaSHead
import Derived.Test.YtdlfmifkjmajpaaSRefW
import Derived.Deep.RegionHeld3
import Derived.StillTactics
namespace Go.Proofs.Ytdlfmifkjmajpaa
open Go.RowKit

set_option maxHeartbeats 2000000 in
theorem walk_SpanWidens (a b c d : Int) (hab : W64 a ∧ W64 b) (hcd : W64 c ∧ W64 d) (w : World) :
    Calls Try.prog 4 #[.agg #[.int .u64 a, .int .u64 b], .agg #[.int .u64 c, .int .u64 d]] w fun x w' => x = .returned (.bool true) ∧ Below w.heap.size w w' := by
  have hr := fun w => refWiden_any a b c d w hab.1 hab.2 hcd.1 hcd.2
  have hw := Widen_any a b c d
  have ht := told_w a b c d
  clear hab hcd
  generalize wLo a b c d = p at hr hw ht
  generalize wHi a b c d = q at hr hw ht
  have hs := fun w => same_any p q w ht
  clear ht
  go_enter Try.func4, Try.ntmps4
  go_wp2_with fail
  refine (head_any _).mono ?_
  rintro x w1 ⟨rfl, hG⟩
  have AA : At w1 w.heap.size #[.int .u64 a, .int .u64 b] := ((At.new _ _ _).alloc _).gr hG
  have AC : At w1 (w.heap.size + 1) #[.int .u64 c, .int .u64 d] := (At.next _ _ _ _).gr hG
  have hB : Gr w w1 := (((Gr.refl w).alloc _).alloc _).trans hG
  clear hG
  have ⟨z1, q1, _⟩ := AA
  have ⟨z2, q2, _⟩ := AC
  go_wp2_with fail
  refine (hw _).mono ?_
  rintro x w2 ⟨rfl, hG⟩
  clear z1 q1 z2 q2
  replace AA := AA.gr hG
  replace AC := AC.gr hG
  replace hB := hB.trans hG
  clear hG
  go_upto_region 3 with fail
  refine wp_world (fun w3 => At w3 w.heap.size #[.int .u64 a, .int .u64 b] ∧ At w3 (w.heap.size + 1) #[.int .u64 c, .int .u64 d] ∧ At w3 w2.heap.size #[.int .u64 p, .int .u64 q] ∧ Gr w w3) ⟨AA.alloc _, AC.alloc _, At.new _ _ _, hB.alloc _⟩ ?_
  clear AA AC hB
  rintro w3 ⟨AA, AC, AW, hB⟩
  have M1 := AA.grown
  have M2 := AC.grown
  have M3 := AW.grown
  obtain ⟨z1, q1, _⟩ := AA
  obtain ⟨z2, q2, _⟩ := AC
  obtain ⟨z3, q3, _⟩ := AW
  go_region_held3 (fun w' => w'.cell? ⟨w.heap.size, 0, none⟩ = some (.int .u64 a) ∧ w'.cell? ⟨w.heap.size, 1, none⟩ = some (.int .u64 b) ∧ w'.cell? ⟨w.heap.size + 1, 0, none⟩ = some (.int .u64 c) ∧ w'.cell? ⟨w.heap.size + 1, 1, none⟩ = some (.int .u64 d) ∧ w'.cell? ⟨w2.heap.size, 0, none⟩ = some (.int .u64 p) ∧ w'.cell? ⟨w2.heap.size, 1, none⟩ = some (.int .u64 q)) (simp [go_sem, *]) (first | (go_at_call 14; refine (hr _).mono ?_; rintro x w' ⟨rfl, hG⟩; (try replace hG := Gr.of_grow hG); obtain ⟨l, rfl⟩ := hG) | (go_at_call 13; refine (hs _).mono ?_; rintro x w' ⟨rfl, hG⟩; (try replace hG := Gr.of_grow hG); obtain ⟨l, rfl⟩ := hG))
  all_goals
    go_wp2
    go_ret
    refine ⟨rfl, Gr.below ?_⟩
    repeat (first | assumption | refine Gr.alloc ?_ _ | refine Gr.grow ?_ _ | refine Gr.drew ?_)
end Go.Proofs.Ytdlfmifkjmajpaa
