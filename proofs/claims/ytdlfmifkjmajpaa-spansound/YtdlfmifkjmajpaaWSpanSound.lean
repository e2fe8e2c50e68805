/-
  Stage 2, span: the walk of the statement that nothing is lost by an operation.
-/
import Derived.Test.YtdlfmifkjmajpaaSOps
namespace Go.Proofs.Ytdlfmifkjmajpaa
open Go.RowKit

theorem Has_gr' (a b n : Int) (w : World) : Calls Try.prog 19 #[.agg #[.int .u64 a, .int .u64 b], .int .u64 n] w fun x w' => x = .returned (.bool (hasN a b n)) ∧ Gr w w' :=
  (Has_any a b n w).mono fun x w' h => ⟨h.1, by rw [← h.2]; exact ((Gr.refl w).alloc _).alloc _⟩
theorem Of_gr' (n : Int) (w : World) : Calls Try.prog 20 #[.int .u64 n] w fun x w' => x = .returned (.agg #[.int .u64 n, .int .u64 n]) ∧ Gr w w' :=
  (Of_any n w).mono fun x w' h => ⟨h.1, by rw [← h.2]; exact (Gr.refl w).alloc _⟩
set_option maxHeartbeats 4000000 in
theorem walk_SpanSound (k p q u v n m : Int) (hk : -9223372036854775808 ≤ k ∧ k < 9223372036854775808) (hp : W64 p) (hq : W64 q) (hu : W64 u) (hv : W64 v) (hn : W64 n) (hm : W64 m) (w : World) :
    Calls Try.prog 5 #[.int .i64 k, .int .u64 p, .int .u64 q, .int .u64 u, .int .u64 v, .int .u64 n, .int .u64 m] w fun x w' => x = .returned (.bool true) ∧ Below w.heap.size w w' := by
  have hB := Gr.refl w
  have ⟨kk, k0, k1, kp, kn⟩ : ∃ kk : Int, 0 ≤ kk ∧ kk < 9223372036854775808 ∧ (0 ≤ k → kk = k) ∧ (k < 0 → kk = -(k + 1)) := by
    by_cases h : k < 0
    · exact ⟨-(k + 1), by omega, by omega, by omega, by omega⟩
    · exact ⟨k, by omega, by omega, by omega, by omega⟩
  obtain ⟨op, ho1, ho2, ho3, ho4⟩ := ops_at (kk % 10).toNat (by omega)
  have i1 : 0 ≤ kk % 10 := by omega
  have i2 : kk % 10 < 10 := by omega
  have i3 : kk.tmod 10 = kk % 10 := Int.tmod_eq_emod_of_nonneg k0
  have ha : W64 (minI p q) := by unfold W64 minI at *; split <;> omega
  have hb : W64 (maxI p q) := by unfold W64 maxI at *; split <;> omega
  have hc : W64 (minI u v) := by unfold W64 minI at *; split <;> omega
  have hd : W64 (maxI u v) := by unfold W64 maxI at *; split <;> omega
  have hab : minI p q ≤ maxI p q := by unfold minI maxI; (repeat' split) <;> omega
  have hcd : minI u v ≤ maxI u v := by unfold minI maxI; (repeat' split) <;> omega
  have f1 := fit_any p q
  have f2 := fit_any u v
  generalize minI p q = a at ha hab f1
  generalize maxI p q = b at hb hab f1
  generalize minI u v = c at hc hcd f2
  generalize maxI u v = d at hd hcd f2
  have x1 := wiN_in a b n ha hb hab hn
  have y1 := wiN_in c d m hc hd hcd hm
  have px := fun w => pick_any a b n w ha hb hab hn
  have py := fun w => pick_any c d m w hc hd hcd hm
  generalize wiN a b n = x0 at x1 px
  generalize wiN c d m = y0 at y1 py
  have hx : W64 x0 := by unfold W64 at *; omega
  have hy : W64 y0 := by unfold W64 at *; omega
  have snd := apply_sound ho2 x1 y1 ha hb hc hd
  have az := fun w => Apply_any op x0 x0 y0 y0 w ho3 ho4 hx hx hy hy
  have e0 : apLo op x0 x0 y0 y0 = one op x0 y0 ∧ apHi op x0 x0 y0 y0 = one op x0 y0 := by unfold apLo apHi; simp [ho2]
  rw [e0.1, e0.2] at az
  have nz := fun w => number_any op x0 y0 w ho2 hy.1
  have asp := fun w => Apply_any op a b c d w ho3 ho4 ha hb hc hd
  generalize one op x0 y0 = z at snd az nz
  generalize apLo op a b c d = s1 at snd asp
  generalize apHi op a b c d = s2 at snd asp
  have h1 : hasN s1 s2 z = true := by unfold hasN; simp; omega
  have hs := Has_gr' s1 s2 z
  rw [h1] at hs
  have ol := Of_gr' x0
  have ol2 := Of_gr' y0
  have h3 : s1 ≤ s2 := by omega
  clear e0 ho2 ho3 ho4 ha hb hc hd hab hcd x1 y1 hx hy snd h1 hp hq hu hv hn hm
  by_cases h : k < 0
  · have g1 : IntKind.i64.wrap (k + 1) = k + 1 := by rw [IntKind.wrap_i64]; omega
    have g2 : IntKind.i64.wrap (-(k + 1)) = kk := by rw [IntKind.wrap_i64, kn h]; omega
    clear kp kn hk
    go_enter Try.func5, Try.ntmps5
    go_wp2_with fail
    refine (head_any _).mono ?_
    rintro x w1 ⟨rfl, hG⟩
    replace hB : Gr w w1 := Gr.trans (by repeat (first | exact hB | refine Gr.alloc ?_ _)) hG
    clear hG
    go_wp2_with fail
    refine (ops_any _).mono ?_
    rintro x w2 ⟨rfl, A_l, hG⟩
    replace hB : Gr w w2 := hB.trans hG
    clear hG
    have ⟨z_l, q_l, _⟩ := A_l
    go_wp2_with fail
    refine (f1 _).mono ?_
    rintro x w3 ⟨rfl, hG⟩
    clear z_l q_l
    replace A_l : At w3 (w1.heap.size) opsA := At.gr (by repeat (first | exact A_l | refine At.alloc ?_ _)) hG
    replace hB : Gr w w3 := Gr.trans (by repeat (first | exact hB | refine Gr.alloc ?_ _)) hG
    clear hG
    clear A_l
    go_wp2_with fail
    refine (f2 _).mono ?_
    rintro x w4 ⟨rfl, hG⟩
    have A_a : At w4 (w3.heap.size) #[.int .u64 a, .int .u64 b] := At.gr (by repeat (first | exact At.new _ _ _ | exact At.next _ _ _ _ | refine At.alloc ?_ _)) hG
    replace hB : Gr w w4 := Gr.trans (by repeat (first | exact hB | refine Gr.alloc ?_ _)) hG
    clear hG
    have ⟨z_a, q_a, _⟩ := A_a
    go_wp2_with fail
    refine (px _).mono ?_
    rintro x w5 ⟨rfl, hG⟩
    clear z_a q_a
    replace A_a : At w5 (w3.heap.size) #[.int .u64 a, .int .u64 b] := At.gr (by repeat (first | exact A_a | refine At.alloc ?_ _)) hG
    have A_c : At w5 (w4.heap.size) #[.int .u64 c, .int .u64 d] := At.gr (by repeat (first | exact At.new _ _ _ | exact At.next _ _ _ _ | refine At.alloc ?_ _)) hG
    replace hB : Gr w w5 := Gr.trans (by repeat (first | exact hB | refine Gr.alloc ?_ _)) hG
    clear hG
    have ⟨z_a, q_a, _⟩ := A_a
    have ⟨z_c, q_c, _⟩ := A_c
    go_wp2_with fail
    refine (py _).mono ?_
    rintro x w6 ⟨rfl, hG⟩
    clear z_a q_a z_c q_c
    replace A_a : At w6 (w3.heap.size) #[.int .u64 a, .int .u64 b] := At.gr (by repeat (first | exact A_a | refine At.alloc ?_ _)) hG
    replace A_c : At w6 (w4.heap.size) #[.int .u64 c, .int .u64 d] := At.gr (by repeat (first | exact A_c | refine At.alloc ?_ _)) hG
    replace hB : Gr w w6 := Gr.trans (by repeat (first | exact hB | refine Gr.alloc ?_ _)) hG
    clear hG
    have ⟨z_a, q_a, _⟩ := A_a
    have ⟨z_c, q_c, _⟩ := A_c
    go_wp2_with fail
    refine (nz _).mono ?_
    rintro x w7 ⟨rfl, hG⟩
    clear z_a q_a z_c q_c
    replace A_a : At w7 (w3.heap.size) #[.int .u64 a, .int .u64 b] := At.gr (by repeat (first | exact A_a | refine At.alloc ?_ _)) hG
    replace A_c : At w7 (w4.heap.size) #[.int .u64 c, .int .u64 d] := At.gr (by repeat (first | exact A_c | refine At.alloc ?_ _)) hG
    replace hB : Gr w w7 := Gr.trans (by repeat (first | exact hB | refine Gr.alloc ?_ _)) hG
    clear hG
    have ⟨z_a, q_a, _⟩ := A_a
    have ⟨z_c, q_c, _⟩ := A_c
    go_wp2_with fail
    refine (asp _).mono ?_
    rintro x w8 ⟨rfl, hG⟩
    clear z_a q_a z_c q_c
    replace A_a : At w8 (w3.heap.size) #[.int .u64 a, .int .u64 b] := At.gr (by repeat (first | exact A_a | refine At.alloc ?_ _)) hG
    replace A_c : At w8 (w4.heap.size) #[.int .u64 c, .int .u64 d] := At.gr (by repeat (first | exact A_c | refine At.alloc ?_ _)) hG
    replace hB : Gr w w8 := Gr.trans (by repeat (first | exact hB | refine Gr.alloc ?_ _)) hG
    clear hG
    have ⟨z_a, q_a, _⟩ := A_a
    have ⟨z_c, q_c, _⟩ := A_c
    go_wp2_with fail
    refine (hs _).mono ?_
    rintro x w9 ⟨rfl, hG⟩
    clear z_a q_a z_c q_c
    replace A_a : At w9 (w3.heap.size) #[.int .u64 a, .int .u64 b] := At.gr (by repeat (first | exact A_a | refine At.alloc ?_ _)) hG
    replace A_c : At w9 (w4.heap.size) #[.int .u64 c, .int .u64 d] := At.gr (by repeat (first | exact A_c | refine At.alloc ?_ _)) hG
    have A_s : At w9 (w8.heap.size) #[.int .u64 s1, .int .u64 s2] := At.gr (by repeat (first | exact At.new _ _ _ | exact At.next _ _ _ _ | refine At.alloc ?_ _)) hG
    replace hB : Gr w w9 := Gr.trans (by repeat (first | exact hB | refine Gr.alloc ?_ _)) hG
    clear hG
    have ⟨z_a, q_a, _⟩ := A_a
    have ⟨z_c, q_c, _⟩ := A_c
    have ⟨z_s, q_s, _⟩ := A_s
    go_wp2_with fail
    refine (ol _).mono ?_
    rintro x w10 ⟨rfl, hG⟩
    clear z_a q_a z_c q_c z_s q_s
    replace A_a : At w10 (w3.heap.size) #[.int .u64 a, .int .u64 b] := At.gr (by repeat (first | exact A_a | refine At.alloc ?_ _)) hG
    replace A_c : At w10 (w4.heap.size) #[.int .u64 c, .int .u64 d] := At.gr (by repeat (first | exact A_c | refine At.alloc ?_ _)) hG
    replace A_s : At w10 (w8.heap.size) #[.int .u64 s1, .int .u64 s2] := At.gr (by repeat (first | exact A_s | refine At.alloc ?_ _)) hG
    replace hB : Gr w w10 := Gr.trans (by repeat (first | exact hB | refine Gr.alloc ?_ _)) hG
    clear hG
    have ⟨z_a, q_a, _⟩ := A_a
    have ⟨z_c, q_c, _⟩ := A_c
    have ⟨z_s, q_s, _⟩ := A_s
    go_wp2_with fail
    refine (ol2 _).mono ?_
    rintro x w11 ⟨rfl, hG⟩
    clear z_a q_a z_c q_c z_s q_s
    replace A_a : At w11 (w3.heap.size) #[.int .u64 a, .int .u64 b] := At.gr (by repeat (first | exact A_a | refine At.alloc ?_ _)) hG
    replace A_c : At w11 (w4.heap.size) #[.int .u64 c, .int .u64 d] := At.gr (by repeat (first | exact A_c | refine At.alloc ?_ _)) hG
    replace A_s : At w11 (w8.heap.size) #[.int .u64 s1, .int .u64 s2] := At.gr (by repeat (first | exact A_s | refine At.alloc ?_ _)) hG
    replace hB : Gr w w11 := Gr.trans (by repeat (first | exact hB | refine Gr.alloc ?_ _)) hG
    clear hG
    have ⟨z_a, q_a, _⟩ := A_a
    have ⟨z_c, q_c, _⟩ := A_c
    have ⟨z_s, q_s, _⟩ := A_s
    go_wp2_with fail
    refine (az _).mono ?_
    rintro x w12 ⟨rfl, hG⟩
    clear z_a q_a z_c q_c z_s q_s
    replace A_a : At w12 (w3.heap.size) #[.int .u64 a, .int .u64 b] := At.gr (by repeat (first | exact A_a | refine At.alloc ?_ _)) hG
    replace A_c : At w12 (w4.heap.size) #[.int .u64 c, .int .u64 d] := At.gr (by repeat (first | exact A_c | refine At.alloc ?_ _)) hG
    replace A_s : At w12 (w8.heap.size) #[.int .u64 s1, .int .u64 s2] := At.gr (by repeat (first | exact A_s | refine At.alloc ?_ _)) hG
    replace hB : Gr w w12 := Gr.trans (by repeat (first | exact hB | refine Gr.alloc ?_ _)) hG
    clear hG
    have ⟨z_a, q_a, _⟩ := A_a
    have ⟨z_c, q_c, _⟩ := A_c
    have ⟨z_s, q_s, _⟩ := A_s
    go_upto_region 14 with fail
    clear z_a q_a z_c q_c z_s q_s
    refine wp_world (fun w13 => At w13 (w3.heap.size) #[.int .u64 a, .int .u64 b] ∧ At w13 (w4.heap.size) #[.int .u64 c, .int .u64 d] ∧ At w13 (w8.heap.size) #[.int .u64 s1, .int .u64 s2] ∧ At w13 (w12.heap.size) #[.int .u64 z, .int .u64 z] ∧ Gr w w13) ⟨?_, ?_, ?_, ?_, ?_⟩ ?_
    · repeat (first | exact A_a | refine At.alloc ?_ _)
    · repeat (first | exact A_c | refine At.alloc ?_ _)
    · repeat (first | exact A_s | refine At.alloc ?_ _)
    · repeat (first | exact At.new _ _ _ | exact At.next _ _ _ _ | refine At.alloc ?_ _)
    · repeat (first | exact hB | refine Gr.alloc ?_ _)
    clear A_a A_c A_s hB
    rintro w13 ⟨A_a, A_c, A_s, A_t, hB⟩
    have ⟨z_a, q_a, _⟩ := A_a
    have ⟨z_c, q_c, _⟩ := A_c
    have ⟨z_s, q_s, _⟩ := A_s
    have ⟨z_t, q_t, _⟩ := A_t
    go_wp2_with fail
    go_ret
    exact ⟨by simp [*], hB.below⟩
  · obtain rfl : kk = k := kp (by omega)
    have h' : ¬ kk < 0 := h
    clear kp kn hk
    go_enter Try.func5, Try.ntmps5
    go_wp2_with fail
    refine (head_any _).mono ?_
    rintro x w1 ⟨rfl, hG⟩
    replace hB : Gr w w1 := Gr.trans (by repeat (first | exact hB | refine Gr.alloc ?_ _)) hG
    clear hG
    go_wp2_with fail
    refine (ops_any _).mono ?_
    rintro x w2 ⟨rfl, A_l, hG⟩
    replace hB : Gr w w2 := hB.trans hG
    clear hG
    have ⟨z_l, q_l, _⟩ := A_l
    go_wp2_with fail
    refine (f1 _).mono ?_
    rintro x w3 ⟨rfl, hG⟩
    clear z_l q_l
    replace A_l : At w3 (w1.heap.size) opsA := At.gr (by repeat (first | exact A_l | refine At.alloc ?_ _)) hG
    replace hB : Gr w w3 := Gr.trans (by repeat (first | exact hB | refine Gr.alloc ?_ _)) hG
    clear hG
    clear A_l
    go_wp2_with fail
    refine (f2 _).mono ?_
    rintro x w4 ⟨rfl, hG⟩
    have A_a : At w4 (w3.heap.size) #[.int .u64 a, .int .u64 b] := At.gr (by repeat (first | exact At.new _ _ _ | exact At.next _ _ _ _ | refine At.alloc ?_ _)) hG
    replace hB : Gr w w4 := Gr.trans (by repeat (first | exact hB | refine Gr.alloc ?_ _)) hG
    clear hG
    have ⟨z_a, q_a, _⟩ := A_a
    go_wp2_with fail
    refine (px _).mono ?_
    rintro x w5 ⟨rfl, hG⟩
    clear z_a q_a
    replace A_a : At w5 (w3.heap.size) #[.int .u64 a, .int .u64 b] := At.gr (by repeat (first | exact A_a | refine At.alloc ?_ _)) hG
    have A_c : At w5 (w4.heap.size) #[.int .u64 c, .int .u64 d] := At.gr (by repeat (first | exact At.new _ _ _ | exact At.next _ _ _ _ | refine At.alloc ?_ _)) hG
    replace hB : Gr w w5 := Gr.trans (by repeat (first | exact hB | refine Gr.alloc ?_ _)) hG
    clear hG
    have ⟨z_a, q_a, _⟩ := A_a
    have ⟨z_c, q_c, _⟩ := A_c
    go_wp2_with fail
    refine (py _).mono ?_
    rintro x w6 ⟨rfl, hG⟩
    clear z_a q_a z_c q_c
    replace A_a : At w6 (w3.heap.size) #[.int .u64 a, .int .u64 b] := At.gr (by repeat (first | exact A_a | refine At.alloc ?_ _)) hG
    replace A_c : At w6 (w4.heap.size) #[.int .u64 c, .int .u64 d] := At.gr (by repeat (first | exact A_c | refine At.alloc ?_ _)) hG
    replace hB : Gr w w6 := Gr.trans (by repeat (first | exact hB | refine Gr.alloc ?_ _)) hG
    clear hG
    have ⟨z_a, q_a, _⟩ := A_a
    have ⟨z_c, q_c, _⟩ := A_c
    go_wp2_with fail
    refine (nz _).mono ?_
    rintro x w7 ⟨rfl, hG⟩
    clear z_a q_a z_c q_c
    replace A_a : At w7 (w3.heap.size) #[.int .u64 a, .int .u64 b] := At.gr (by repeat (first | exact A_a | refine At.alloc ?_ _)) hG
    replace A_c : At w7 (w4.heap.size) #[.int .u64 c, .int .u64 d] := At.gr (by repeat (first | exact A_c | refine At.alloc ?_ _)) hG
    replace hB : Gr w w7 := Gr.trans (by repeat (first | exact hB | refine Gr.alloc ?_ _)) hG
    clear hG
    have ⟨z_a, q_a, _⟩ := A_a
    have ⟨z_c, q_c, _⟩ := A_c
    go_wp2_with fail
    refine (asp _).mono ?_
    rintro x w8 ⟨rfl, hG⟩
    clear z_a q_a z_c q_c
    replace A_a : At w8 (w3.heap.size) #[.int .u64 a, .int .u64 b] := At.gr (by repeat (first | exact A_a | refine At.alloc ?_ _)) hG
    replace A_c : At w8 (w4.heap.size) #[.int .u64 c, .int .u64 d] := At.gr (by repeat (first | exact A_c | refine At.alloc ?_ _)) hG
    replace hB : Gr w w8 := Gr.trans (by repeat (first | exact hB | refine Gr.alloc ?_ _)) hG
    clear hG
    have ⟨z_a, q_a, _⟩ := A_a
    have ⟨z_c, q_c, _⟩ := A_c
    go_wp2_with fail
    refine (hs _).mono ?_
    rintro x w9 ⟨rfl, hG⟩
    clear z_a q_a z_c q_c
    replace A_a : At w9 (w3.heap.size) #[.int .u64 a, .int .u64 b] := At.gr (by repeat (first | exact A_a | refine At.alloc ?_ _)) hG
    replace A_c : At w9 (w4.heap.size) #[.int .u64 c, .int .u64 d] := At.gr (by repeat (first | exact A_c | refine At.alloc ?_ _)) hG
    have A_s : At w9 (w8.heap.size) #[.int .u64 s1, .int .u64 s2] := At.gr (by repeat (first | exact At.new _ _ _ | exact At.next _ _ _ _ | refine At.alloc ?_ _)) hG
    replace hB : Gr w w9 := Gr.trans (by repeat (first | exact hB | refine Gr.alloc ?_ _)) hG
    clear hG
    have ⟨z_a, q_a, _⟩ := A_a
    have ⟨z_c, q_c, _⟩ := A_c
    have ⟨z_s, q_s, _⟩ := A_s
    go_wp2_with fail
    refine (ol _).mono ?_
    rintro x w10 ⟨rfl, hG⟩
    clear z_a q_a z_c q_c z_s q_s
    replace A_a : At w10 (w3.heap.size) #[.int .u64 a, .int .u64 b] := At.gr (by repeat (first | exact A_a | refine At.alloc ?_ _)) hG
    replace A_c : At w10 (w4.heap.size) #[.int .u64 c, .int .u64 d] := At.gr (by repeat (first | exact A_c | refine At.alloc ?_ _)) hG
    replace A_s : At w10 (w8.heap.size) #[.int .u64 s1, .int .u64 s2] := At.gr (by repeat (first | exact A_s | refine At.alloc ?_ _)) hG
    replace hB : Gr w w10 := Gr.trans (by repeat (first | exact hB | refine Gr.alloc ?_ _)) hG
    clear hG
    have ⟨z_a, q_a, _⟩ := A_a
    have ⟨z_c, q_c, _⟩ := A_c
    have ⟨z_s, q_s, _⟩ := A_s
    go_wp2_with fail
    refine (ol2 _).mono ?_
    rintro x w11 ⟨rfl, hG⟩
    clear z_a q_a z_c q_c z_s q_s
    replace A_a : At w11 (w3.heap.size) #[.int .u64 a, .int .u64 b] := At.gr (by repeat (first | exact A_a | refine At.alloc ?_ _)) hG
    replace A_c : At w11 (w4.heap.size) #[.int .u64 c, .int .u64 d] := At.gr (by repeat (first | exact A_c | refine At.alloc ?_ _)) hG
    replace A_s : At w11 (w8.heap.size) #[.int .u64 s1, .int .u64 s2] := At.gr (by repeat (first | exact A_s | refine At.alloc ?_ _)) hG
    replace hB : Gr w w11 := Gr.trans (by repeat (first | exact hB | refine Gr.alloc ?_ _)) hG
    clear hG
    have ⟨z_a, q_a, _⟩ := A_a
    have ⟨z_c, q_c, _⟩ := A_c
    have ⟨z_s, q_s, _⟩ := A_s
    go_wp2_with fail
    refine (az _).mono ?_
    rintro x w12 ⟨rfl, hG⟩
    clear z_a q_a z_c q_c z_s q_s
    replace A_a : At w12 (w3.heap.size) #[.int .u64 a, .int .u64 b] := At.gr (by repeat (first | exact A_a | refine At.alloc ?_ _)) hG
    replace A_c : At w12 (w4.heap.size) #[.int .u64 c, .int .u64 d] := At.gr (by repeat (first | exact A_c | refine At.alloc ?_ _)) hG
    replace A_s : At w12 (w8.heap.size) #[.int .u64 s1, .int .u64 s2] := At.gr (by repeat (first | exact A_s | refine At.alloc ?_ _)) hG
    replace hB : Gr w w12 := Gr.trans (by repeat (first | exact hB | refine Gr.alloc ?_ _)) hG
    clear hG
    have ⟨z_a, q_a, _⟩ := A_a
    have ⟨z_c, q_c, _⟩ := A_c
    have ⟨z_s, q_s, _⟩ := A_s
    go_upto_region 14 with fail
    clear z_a q_a z_c q_c z_s q_s
    refine wp_world (fun w13 => At w13 (w3.heap.size) #[.int .u64 a, .int .u64 b] ∧ At w13 (w4.heap.size) #[.int .u64 c, .int .u64 d] ∧ At w13 (w8.heap.size) #[.int .u64 s1, .int .u64 s2] ∧ At w13 (w12.heap.size) #[.int .u64 z, .int .u64 z] ∧ Gr w w13) ⟨?_, ?_, ?_, ?_, ?_⟩ ?_
    · repeat (first | exact A_a | refine At.alloc ?_ _)
    · repeat (first | exact A_c | refine At.alloc ?_ _)
    · repeat (first | exact A_s | refine At.alloc ?_ _)
    · repeat (first | exact At.new _ _ _ | exact At.next _ _ _ _ | refine At.alloc ?_ _)
    · repeat (first | exact hB | refine Gr.alloc ?_ _)
    clear A_a A_c A_s hB
    rintro w13 ⟨A_a, A_c, A_s, A_t, hB⟩
    have ⟨z_a, q_a, _⟩ := A_a
    have ⟨z_c, q_c, _⟩ := A_c
    have ⟨z_s, q_s, _⟩ := A_s
    have ⟨z_t, q_t, _⟩ := A_t
    go_wp2_with fail
    go_ret
    exact ⟨by simp [*], hB.below⟩
end Go.Proofs.Ytdlfmifkjmajpaa
