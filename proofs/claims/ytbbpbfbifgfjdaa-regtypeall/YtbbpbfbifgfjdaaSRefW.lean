/-
  Stage 2, span: the document's own Widen.
-/
import Derived.Test.YtbbpbfbifgfjdaaSRefJ
namespace Go.Proofs.Ytbbpbfbifgfjdaa
open Go.RowKit

theorem w_e (a b c d : Int) (e : b < a ∨ d < c) : wLo a b c d = jLo a b c d ∧ wHi a b c d = jHi a b c d := by
  unfold wLo wHi jLo jHi widLo widHi; rw [if_pos e, if_pos e]; exact ⟨rfl, rfl⟩
theorem w_ne (a b c d : Int) (ha : W64 a) (hb : W64 b) (hc : W64 c) (hd : W64 d) (h2 : a ≤ b) (h3 : c ≤ d) : wLo a b c d = (if jLo a b c d = a then a else 0) ∧ wHi a b c d = (if jHi a b c d = b then b else 18446744073709551615) := by
  obtain ⟨a0, a1⟩ := ha; obtain ⟨b0, b1⟩ := hb; obtain ⟨c0, c1⟩ := hc; obtain ⟨d0, d1⟩ := hd
  have e : ¬ (b < a ∨ d < c) := by omega
  have j1 : joinLo a b c d = minI a c := by unfold joinLo minI; (repeat' split) <;> omega
  have j2 : joinHi a b c d = maxI b d := by unfold joinHi maxI; (repeat' split) <;> omega
  unfold wLo wHi jLo jHi widLo widHi
  rw [if_neg e, if_neg e, j1, j2]
  have m1 : minI a c ≤ a := by unfold minI; split <;> omega
  have m2 : b ≤ maxI b d := by unfold maxI; split <;> omega
  have m3 : maxI b d < 18446744073709551616 := by unfold maxI; split <;> omega
  have m4 : 0 ≤ minI a c := by unfold minI; split <;> omega
  generalize minI a c = p at *
  generalize maxI b d = q at *
  unfold tLo tHi
  constructor <;> (repeat' split) <;> omega
set_option maxHeartbeats 2000000 in
theorem refWiden_any (a b c d : Int) (w : World) (ha : W64 a) (hb : W64 b) (hc : W64 c) (hd : W64 d) :
    Calls Try.prog 69 #[.agg #[.int .u64 a, .int .u64 b], .agg #[.int .u64 c, .int .u64 d]] w fun x w' => x = .returned (.agg #[.int .u64 (wLo a b c d), .int .u64 (wHi a b c d)]) ∧ Gr w w' := by
  have L1 := grow_cell
  have L2 := grow_frozen
  have L3 := grow_set
  have L4 := grow_lt
  have L5 := glt1
  have L6 := glt2
  have L7 := glt3
  have L8 := glt4
  have L9 := glt5
  have L10 := glt6
  have L11 := lt1
  have L12 := lt2
  have L13 := lt3
  have L14 := lt4
  have L15 := lt5
  have L16 := lt6
  have L17 := lt7
  have L18 := lt8
  have hj := refJoin_any a b c d
  by_cases e : b < a ∨ d < c
  · rw [(w_e a b c d e).1, (w_e a b c d e).2]
    generalize jLo a b c d = j1 at hj ⊢
    generalize jHi a b c d = j2 at hj ⊢
    by_cases e1 : b < a
    · have d1 : decide (b < a) = true := by simp; omega
      clear ha hb hc hd e
      go_enter Try.func69, Try.ntmps69
      go_wp2_with (first | (go_at_call 70; refine (hj _).mono ?_; rintro x w' ⟨rfl, l, rfl⟩) | (go_at_call 65; refine (refEmpty_any _ _ _).mono ?_; rintro x w' ⟨rfl, rfl⟩))
      simp [bodyPost, results, Try.results69, go_sem, *]
      repeat (first | exact Gr.refl _ | refine Gr.alloc ?_ _ | refine Gr.grow ?_ _ | refine Gr.drew ?_)
    · have d1 : decide (b < a) = false := by simp; omega
      have d2 : decide (d < c) = true := by simp; omega
      clear ha hb hc hd e
      go_enter Try.func69, Try.ntmps69
      go_wp2_with (first | (go_at_call 70; refine (hj _).mono ?_; rintro x w' ⟨rfl, l, rfl⟩) | (go_at_call 65; refine (refEmpty_any _ _ _).mono ?_; rintro x w' ⟨rfl, rfl⟩))
      simp [bodyPost, results, Try.results69, go_sem, *]
      repeat (first | exact Gr.refl _ | refine Gr.alloc ?_ _ | refine Gr.grow ?_ _ | refine Gr.drew ?_)
  · have n := w_ne a b c d ha hb hc hd (by omega) (by omega)
    rw [n.1, n.2]
    clear n
    generalize jLo a b c d = j1 at hj ⊢
    generalize jHi a b c d = j2 at hj ⊢
    have d1 : decide (b < a) = false := by simp; omega
    have d2 : decide (d < c) = false := by simp; omega
    clear ha hb hc hd e
    by_cases e1 : j1 = a
    · subst e1
      by_cases e2 : j2 = b
      · subst e2
        rw [if_pos rfl, if_pos rfl]
        go_enter Try.func69, Try.ntmps69
        go_wp2_with (first | (go_at_call 70; refine (hj _).mono ?_; rintro x w' ⟨rfl, l, rfl⟩) | (go_at_call 65; refine (refEmpty_any _ _ _).mono ?_; rintro x w' ⟨rfl, rfl⟩))
        simp [bodyPost, results, Try.results69, go_sem, *]
        repeat (first | exact Gr.refl _ | refine Gr.alloc ?_ _ | refine Gr.grow ?_ _ | refine Gr.drew ?_)
      · have e2' : (j2 != b) = true := by simpa using e2
        rw [if_pos rfl, if_neg e2]
        clear e2
        go_enter Try.func69, Try.ntmps69
        go_wp2_with (first | (go_at_call 70; refine (hj _).mono ?_; rintro x w' ⟨rfl, l, rfl⟩) | (go_at_call 65; refine (refEmpty_any _ _ _).mono ?_; rintro x w' ⟨rfl, rfl⟩))
        simp [bodyPost, results, Try.results69, go_sem, *]
        repeat (first | exact Gr.refl _ | refine Gr.alloc ?_ _ | refine Gr.grow ?_ _ | refine Gr.drew ?_)
    · have e1' : (j1 != a) = true := by simpa using e1
      rw [if_neg e1]
      clear e1
      by_cases e2 : j2 = b
      · subst e2
        rw [if_pos rfl]
        go_enter Try.func69, Try.ntmps69
        go_wp2_with (first | (go_at_call 70; refine (hj _).mono ?_; rintro x w' ⟨rfl, l, rfl⟩) | (go_at_call 65; refine (refEmpty_any _ _ _).mono ?_; rintro x w' ⟨rfl, rfl⟩))
        simp [bodyPost, results, Try.results69, go_sem, *]
        repeat (first | exact Gr.refl _ | refine Gr.alloc ?_ _ | refine Gr.grow ?_ _ | refine Gr.drew ?_)
      · have e2' : (j2 != b) = true := by simpa using e2
        rw [if_neg e2]
        clear e2
        go_enter Try.func69, Try.ntmps69
        go_wp2_with (first | (go_at_call 70; refine (hj _).mono ?_; rintro x w' ⟨rfl, l, rfl⟩) | (go_at_call 65; refine (refEmpty_any _ _ _).mono ?_; rintro x w' ⟨rfl, rfl⟩))
        simp [bodyPost, results, Try.results69, go_sem, *]
        repeat (first | exact Gr.refl _ | refine Gr.alloc ?_ _ | refine Gr.grow ?_ _ | refine Gr.drew ?_)

end Go.Proofs.Ytbbpbfbifgfjdaa
