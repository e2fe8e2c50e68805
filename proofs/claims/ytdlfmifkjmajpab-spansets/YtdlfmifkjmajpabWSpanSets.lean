/-
  Stage 2, span: the walk of the statement on the sets.
-/
import Derived.Test.YtdlfmifkjmajpabSRefH
import Derived.Deep.RegionHeld3
import Derived.StillTactics
namespace Go.Proofs.Ytdlfmifkjmajpab
open Go.RowKit

set_option maxHeartbeats 4000000 in
theorem walk_SpanSets (a b c d n : Int) (_hab : W64 a ∧ W64 b) (_hcd : W64 c ∧ W64 d) (_hn : W64 n) (w : World) :
    Calls Try.prog 3 #[.agg #[.int .u64 a, .int .u64 b], .agg #[.int .u64 c, .int .u64 d], .int .u64 n] w fun x w' => x = .returned (.bool true) ∧ Below w.heap.size w w' := by
  have hB := Gr.refl w
  have hj := Join_any a b c d
  have hrj := refJoin_any a b c d
  have tj := told_j a b c d
  have hm := Meet_any a b c d
  have hrm := refMeet_any a b c d
  have tm := told_m a b c d
  have hu := Under_any a b c d
  have hru := refUnder_any a b c d
  have hh := Has_gr a b n
  have hrh := refHas_gr a b n
  generalize jLo a b c d = j1 at hj hrj tj
  generalize jHi a b c d = j2 at hj hrj tj
  generalize mLo a b c d = m1 at hm hrm tm
  generalize mHi a b c d = m2 at hm hrm tm
  generalize mOk a b c d = m3 at hm hrm
  generalize inB a b c d = u1 at hu hru
  generalize hasN a b n = u2 at hh hrh
  have hs1 := fun w => same_any j1 j2 w tj
  have hs2 := fun w => same_any m1 m2 w tm
  clear tj tm
  go_enter Try.func3, Try.ntmps3
  go_wp2_with fail
  refine (head_any _).mono ?_
  rintro x w1 ⟨rfl, hG⟩
  have A_a : At w1 (w.heap.size) #[.int .u64 a, .int .u64 b] := At.gr (by repeat (first | exact At.new _ _ _ | exact At.next _ _ _ _ | refine At.alloc ?_ _)) hG
  have A_c : At w1 (w.heap.size + 1) #[.int .u64 c, .int .u64 d] := At.gr (by repeat (first | exact At.new _ _ _ | exact At.next _ _ _ _ | refine At.alloc ?_ _)) hG
  replace hB : Gr w w1 := Gr.trans (by repeat (first | exact hB | refine Gr.alloc ?_ _)) hG
  clear hG
  have ⟨z_a, q_a, _⟩ := A_a
  have ⟨z_c, q_c, _⟩ := A_c
  go_wp2_with fail
  refine (Of_gr n _).mono ?_
  rintro x w2 ⟨rfl, hG⟩
  clear z_a q_a z_c q_c
  replace A_a : At w2 (w.heap.size) #[.int .u64 a, .int .u64 b] := At.gr (by repeat (first | exact A_a | refine At.alloc ?_ _)) hG
  replace A_c : At w2 (w.heap.size + 1) #[.int .u64 c, .int .u64 d] := At.gr (by repeat (first | exact A_c | refine At.alloc ?_ _)) hG
  replace hB : Gr w w2 := Gr.trans (by repeat (first | exact hB | refine Gr.alloc ?_ _)) hG
  clear hG
  have ⟨z_a, q_a, _⟩ := A_a
  have ⟨z_c, q_c, _⟩ := A_c
  go_wp2_with fail
  refine (hh _).mono ?_
  rintro x w3 ⟨rfl, hG⟩
  clear z_a q_a z_c q_c
  replace A_a : At w3 (w.heap.size) #[.int .u64 a, .int .u64 b] := At.gr (by repeat (first | exact A_a | refine At.alloc ?_ _)) hG
  replace A_c : At w3 (w.heap.size + 1) #[.int .u64 c, .int .u64 d] := At.gr (by repeat (first | exact A_c | refine At.alloc ?_ _)) hG
  have A_o : At w3 (w2.heap.size) #[.int .u64 n, .int .u64 n] := At.gr (by repeat (first | exact At.new _ _ _ | exact At.next _ _ _ _ | refine At.alloc ?_ _)) hG
  replace hB : Gr w w3 := Gr.trans (by repeat (first | exact hB | refine Gr.alloc ?_ _)) hG
  clear hG
  have ⟨z_a, q_a, _⟩ := A_a
  have ⟨z_c, q_c, _⟩ := A_c
  have ⟨z_o, q_o, _⟩ := A_o
  go_wp2_with fail
  refine (hj _).mono ?_
  rintro x w4 ⟨rfl, hG⟩
  clear z_a q_a z_c q_c z_o q_o
  replace A_a : At w4 (w.heap.size) #[.int .u64 a, .int .u64 b] := At.gr (by repeat (first | exact A_a | refine At.alloc ?_ _)) hG
  replace A_c : At w4 (w.heap.size + 1) #[.int .u64 c, .int .u64 d] := At.gr (by repeat (first | exact A_c | refine At.alloc ?_ _)) hG
  replace A_o : At w4 (w2.heap.size) #[.int .u64 n, .int .u64 n] := At.gr (by repeat (first | exact A_o | refine At.alloc ?_ _)) hG
  replace hB : Gr w w4 := Gr.trans (by repeat (first | exact hB | refine Gr.alloc ?_ _)) hG
  clear hG
  have ⟨z_a, q_a, _⟩ := A_a
  have ⟨z_c, q_c, _⟩ := A_c
  have ⟨z_o, q_o, _⟩ := A_o
  go_wp2_with fail
  refine (hm _).mono ?_
  rintro x w5 ⟨rfl, hG⟩
  clear z_a q_a z_c q_c z_o q_o
  replace A_a : At w5 (w.heap.size) #[.int .u64 a, .int .u64 b] := At.gr (by repeat (first | exact A_a | refine At.alloc ?_ _)) hG
  replace A_c : At w5 (w.heap.size + 1) #[.int .u64 c, .int .u64 d] := At.gr (by repeat (first | exact A_c | refine At.alloc ?_ _)) hG
  replace A_o : At w5 (w2.heap.size) #[.int .u64 n, .int .u64 n] := At.gr (by repeat (first | exact A_o | refine At.alloc ?_ _)) hG
  have A_j : At w5 (w4.heap.size) #[.int .u64 j1, .int .u64 j2] := At.gr (by repeat (first | exact At.new _ _ _ | exact At.next _ _ _ _ | refine At.alloc ?_ _)) hG
  replace hB : Gr w w5 := Gr.trans (by repeat (first | exact hB | refine Gr.alloc ?_ _)) hG
  clear hG
  have ⟨z_a, q_a, _⟩ := A_a
  have ⟨z_c, q_c, _⟩ := A_c
  have ⟨z_o, q_o, _⟩ := A_o
  have ⟨z_j, q_j, _⟩ := A_j
  go_wp2_with fail
  refine (hu _).mono ?_
  rintro x w6 ⟨rfl, hG⟩
  clear z_a q_a z_c q_c z_o q_o z_j q_j
  replace A_a : At w6 (w.heap.size) #[.int .u64 a, .int .u64 b] := At.gr (by repeat (first | exact A_a | refine At.alloc ?_ _)) hG
  replace A_c : At w6 (w.heap.size + 1) #[.int .u64 c, .int .u64 d] := At.gr (by repeat (first | exact A_c | refine At.alloc ?_ _)) hG
  replace A_o : At w6 (w2.heap.size) #[.int .u64 n, .int .u64 n] := At.gr (by repeat (first | exact A_o | refine At.alloc ?_ _)) hG
  replace A_j : At w6 (w4.heap.size) #[.int .u64 j1, .int .u64 j2] := At.gr (by repeat (first | exact A_j | refine At.alloc ?_ _)) hG
  have A_m : At w6 (w5.heap.size) #[.int .u64 m1, .int .u64 m2] := At.gr (by repeat (first | exact At.new _ _ _ | exact At.next _ _ _ _ | refine At.alloc ?_ _)) hG
  replace hB : Gr w w6 := Gr.trans (by repeat (first | exact hB | refine Gr.alloc ?_ _)) hG
  clear hG
  have ⟨z_a, q_a, _⟩ := A_a
  have ⟨z_c, q_c, _⟩ := A_c
  have ⟨z_o, q_o, _⟩ := A_o
  have ⟨z_j, q_j, _⟩ := A_j
  have ⟨z_m, q_m, _⟩ := A_m
  go_wp2_with fail
  refine (hrh _).mono ?_
  rintro x w7 ⟨rfl, hG⟩
  clear z_a q_a z_c q_c z_o q_o z_j q_j z_m q_m
  replace A_a : At w7 (w.heap.size) #[.int .u64 a, .int .u64 b] := At.gr (by repeat (first | exact A_a | refine At.alloc ?_ _)) hG
  replace A_c : At w7 (w.heap.size + 1) #[.int .u64 c, .int .u64 d] := At.gr (by repeat (first | exact A_c | refine At.alloc ?_ _)) hG
  replace A_o : At w7 (w2.heap.size) #[.int .u64 n, .int .u64 n] := At.gr (by repeat (first | exact A_o | refine At.alloc ?_ _)) hG
  replace A_j : At w7 (w4.heap.size) #[.int .u64 j1, .int .u64 j2] := At.gr (by repeat (first | exact A_j | refine At.alloc ?_ _)) hG
  replace A_m : At w7 (w5.heap.size) #[.int .u64 m1, .int .u64 m2] := At.gr (by repeat (first | exact A_m | refine At.alloc ?_ _)) hG
  replace hB : Gr w w7 := Gr.trans (by repeat (first | exact hB | refine Gr.alloc ?_ _)) hG
  clear hG
  have ⟨z_a, q_a, _⟩ := A_a
  have ⟨z_c, q_c, _⟩ := A_c
  have ⟨z_o, q_o, _⟩ := A_o
  have ⟨z_j, q_j, _⟩ := A_j
  have ⟨z_m, q_m, _⟩ := A_m
  go_wp2_with fail
  refine (hrm _).mono ?_
  rintro x w8 ⟨rfl, hG⟩
  clear z_a q_a z_c q_c z_o q_o z_j q_j z_m q_m
  replace A_a : At w8 (w.heap.size) #[.int .u64 a, .int .u64 b] := At.gr (by repeat (first | exact A_a | refine At.alloc ?_ _)) hG
  replace A_c : At w8 (w.heap.size + 1) #[.int .u64 c, .int .u64 d] := At.gr (by repeat (first | exact A_c | refine At.alloc ?_ _)) hG
  replace A_o : At w8 (w2.heap.size) #[.int .u64 n, .int .u64 n] := At.gr (by repeat (first | exact A_o | refine At.alloc ?_ _)) hG
  replace A_j : At w8 (w4.heap.size) #[.int .u64 j1, .int .u64 j2] := At.gr (by repeat (first | exact A_j | refine At.alloc ?_ _)) hG
  replace A_m : At w8 (w5.heap.size) #[.int .u64 m1, .int .u64 m2] := At.gr (by repeat (first | exact A_m | refine At.alloc ?_ _)) hG
  replace hB : Gr w w8 := Gr.trans (by repeat (first | exact hB | refine Gr.alloc ?_ _)) hG
  clear hG
  have ⟨z_a, q_a, _⟩ := A_a
  have ⟨z_c, q_c, _⟩ := A_c
  have ⟨z_o, q_o, _⟩ := A_o
  have ⟨z_j, q_j, _⟩ := A_j
  have ⟨z_m, q_m, _⟩ := A_m
  go_wp2_with fail
  refine (hru _).mono ?_
  rintro x w9 ⟨rfl, hG⟩
  clear z_a q_a z_c q_c z_o q_o z_j q_j z_m q_m
  replace A_a : At w9 (w.heap.size) #[.int .u64 a, .int .u64 b] := At.gr (by repeat (first | exact A_a | refine At.alloc ?_ _)) hG
  replace A_c : At w9 (w.heap.size + 1) #[.int .u64 c, .int .u64 d] := At.gr (by repeat (first | exact A_c | refine At.alloc ?_ _)) hG
  replace A_o : At w9 (w2.heap.size) #[.int .u64 n, .int .u64 n] := At.gr (by repeat (first | exact A_o | refine At.alloc ?_ _)) hG
  replace A_j : At w9 (w4.heap.size) #[.int .u64 j1, .int .u64 j2] := At.gr (by repeat (first | exact A_j | refine At.alloc ?_ _)) hG
  replace A_m : At w9 (w5.heap.size) #[.int .u64 m1, .int .u64 m2] := At.gr (by repeat (first | exact A_m | refine At.alloc ?_ _)) hG
  have A_k : At w9 (w8.heap.size) #[.int .u64 m1, .int .u64 m2] := At.gr (by repeat (first | exact At.new _ _ _ | exact At.next _ _ _ _ | refine At.alloc ?_ _)) hG
  replace hB : Gr w w9 := Gr.trans (by repeat (first | exact hB | refine Gr.alloc ?_ _)) hG
  clear hG
  have ⟨z_a, q_a, _⟩ := A_a
  have ⟨z_c, q_c, _⟩ := A_c
  have ⟨z_o, q_o, _⟩ := A_o
  have ⟨z_j, q_j, _⟩ := A_j
  have ⟨z_m, q_m, _⟩ := A_m
  have ⟨z_k, q_k, _⟩ := A_k
  go_upto_region 10 with fail
  clear z_a q_a z_c q_c z_o q_o z_j q_j z_m q_m z_k q_k
  refine wp_world (fun w10 => At w10 (w.heap.size) #[.int .u64 a, .int .u64 b] ∧ At w10 (w.heap.size + 1) #[.int .u64 c, .int .u64 d] ∧ At w10 (w2.heap.size) #[.int .u64 n, .int .u64 n] ∧ At w10 (w4.heap.size) #[.int .u64 j1, .int .u64 j2] ∧ At w10 (w5.heap.size) #[.int .u64 m1, .int .u64 m2] ∧ At w10 (w8.heap.size) #[.int .u64 m1, .int .u64 m2] ∧ Gr w w10) ⟨?_, ?_, ?_, ?_, ?_, ?_, ?_⟩ ?_
  · repeat (first | exact A_a | refine At.alloc ?_ _)
  · repeat (first | exact A_c | refine At.alloc ?_ _)
  · repeat (first | exact A_o | refine At.alloc ?_ _)
  · repeat (first | exact A_j | refine At.alloc ?_ _)
  · repeat (first | exact A_m | refine At.alloc ?_ _)
  · repeat (first | exact A_k | refine At.alloc ?_ _)
  · repeat (first | exact hB | refine Gr.alloc ?_ _)
  clear A_a A_c A_o A_j A_m A_k hB
  rintro w10 ⟨A_a, A_c, A_o, A_j, A_m, A_k, hB⟩
  have M_a := A_a.grown
  have M_c := A_c.grown
  have M_o := A_o.grown
  have M_j := A_j.grown
  have M_m := A_m.grown
  have M_k := A_k.grown
  have ⟨z_a, q_a, _⟩ := A_a
  have ⟨z_c, q_c, _⟩ := A_c
  have ⟨z_o, q_o, _⟩ := A_o
  have ⟨z_j, q_j, _⟩ := A_j
  have ⟨z_m, q_m, _⟩ := A_m
  have ⟨z_k, q_k, _⟩ := A_k
  go_region_held3 (fun w' => w'.cell? ⟨w4.heap.size, 0, none⟩ = some (.int .u64 j1) ∧ w'.cell? ⟨w4.heap.size, 1, none⟩ = some (.int .u64 j2) ∧ w'.cell? ⟨w.heap.size, 0, none⟩ = some (.int .u64 a) ∧ w'.cell? ⟨w.heap.size, 1, none⟩ = some (.int .u64 b) ∧ w'.cell? ⟨w.heap.size + 1, 0, none⟩ = some (.int .u64 c) ∧ w'.cell? ⟨w.heap.size + 1, 1, none⟩ = some (.int .u64 d)) (simp [go_sem, *]) (first | (go_at_call 15; refine (hrj _).mono ?_; rintro x w' ⟨rfl, hG⟩; (try replace hG := Gr.of_grow hG); obtain ⟨l, rfl⟩ := hG) | (go_at_call 14; refine (hs1 _).mono ?_; rintro x w' ⟨rfl, hG⟩; (try replace hG := Gr.of_grow hG); obtain ⟨l, rfl⟩ := hG))
  all_goals
    go_upto_region 11 with fail
    clear z_a q_a M_a z_c q_c M_c z_o q_o M_o z_j q_j M_j z_m q_m M_m z_k q_k M_k
    refine wp_world (fun w11 => At w11 (w.heap.size) #[.int .u64 a, .int .u64 b] ∧ At w11 (w.heap.size + 1) #[.int .u64 c, .int .u64 d] ∧ At w11 (w2.heap.size) #[.int .u64 n, .int .u64 n] ∧ At w11 (w4.heap.size) #[.int .u64 j1, .int .u64 j2] ∧ At w11 (w5.heap.size) #[.int .u64 m1, .int .u64 m2] ∧ At w11 (w8.heap.size) #[.int .u64 m1, .int .u64 m2] ∧ Gr w w11) ⟨?_, ?_, ?_, ?_, ?_, ?_, ?_⟩ ?_
    · exact A_a.drew.gr ⟨_, rfl⟩
    · exact A_c.drew.gr ⟨_, rfl⟩
    · exact A_o.drew.gr ⟨_, rfl⟩
    · exact A_j.drew.gr ⟨_, rfl⟩
    · exact A_m.drew.gr ⟨_, rfl⟩
    · exact A_k.drew.gr ⟨_, rfl⟩
    · exact (hB.drew).grow _
    clear A_a A_c A_o A_j A_m A_k hB
    rintro w11 ⟨A_a, A_c, A_o, A_j, A_m, A_k, hB⟩
    have ⟨z_a, q_a, _⟩ := A_a
    have ⟨z_c, q_c, _⟩ := A_c
    have ⟨z_o, q_o, _⟩ := A_o
    have ⟨z_j, q_j, _⟩ := A_j
    have ⟨z_m, q_m, _⟩ := A_m
    have ⟨z_k, q_k, _⟩ := A_k
    go_wp2_with fail
    refine (hs2 _).mono ?_
    rintro x w12 ⟨rfl, hG⟩
    clear z_a q_a z_c q_c z_o q_o z_j q_j z_m q_m z_k q_k
    replace A_a : At w12 (w.heap.size) #[.int .u64 a, .int .u64 b] := At.gr (by repeat (first | exact A_a | refine At.alloc ?_ _)) hG
    replace A_c : At w12 (w.heap.size + 1) #[.int .u64 c, .int .u64 d] := At.gr (by repeat (first | exact A_c | refine At.alloc ?_ _)) hG
    replace A_o : At w12 (w2.heap.size) #[.int .u64 n, .int .u64 n] := At.gr (by repeat (first | exact A_o | refine At.alloc ?_ _)) hG
    replace A_j : At w12 (w4.heap.size) #[.int .u64 j1, .int .u64 j2] := At.gr (by repeat (first | exact A_j | refine At.alloc ?_ _)) hG
    replace A_m : At w12 (w5.heap.size) #[.int .u64 m1, .int .u64 m2] := At.gr (by repeat (first | exact A_m | refine At.alloc ?_ _)) hG
    replace A_k : At w12 (w8.heap.size) #[.int .u64 m1, .int .u64 m2] := At.gr (by repeat (first | exact A_k | refine At.alloc ?_ _)) hG
    replace hB : Gr w w12 := Gr.trans (by repeat (first | exact hB | refine Gr.alloc ?_ _)) hG
    clear hG
    have ⟨z_a, q_a, _⟩ := A_a
    have ⟨z_c, q_c, _⟩ := A_c
    have ⟨z_o, q_o, _⟩ := A_o
    have ⟨z_j, q_j, _⟩ := A_j
    have ⟨z_m, q_m, _⟩ := A_m
    have ⟨z_k, q_k, _⟩ := A_k
    go_wp2_with fail
    go_ret
    exact ⟨by simp, hB.below⟩
end Go.Proofs.Ytdlfmifkjmajpab
