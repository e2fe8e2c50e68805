/-
  Stage 2, span: the document's own Apply, of every operation and of what is none.
-/
import Derived.Test.YtdlfmifkjmajpabSRefAa
import Derived.Test.YtdlfmifkjmajpabSRefAb
namespace Go.Proofs.Ytdlfmifkjmajpab
open Go.RowKit

theorem isOp_not {op : Int} (h : isOp op = false) : (op == 3) = false ∧ (op == 4) = false ∧ (op == 5) = false ∧ (op == 6) = false ∧ (op == 7) = false ∧ (op == 8) = false ∧ (op == 9) = false ∧ (op == 10) = false ∧ (op == 12) = false ∧ (op == 13) = false := by
  simp [isOp] at h
  simp
  omega
theorem refApply_any (op a b c d : Int) (w : World) (ha : W64 a) (hb : W64 b) (hc : W64 c) (hd : W64 d) :
    Calls Try.prog 17 #[.int .u8 op, .agg #[.int .u64 a, .int .u64 b], .agg #[.int .u64 c, .int .u64 d]] w fun x w' => x = .returned (.agg #[.int .u64 (apLo op a b c d), .int .u64 (apHi op a b c d)]) ∧ Gr w w' := by
  by_cases e1 : b < a
  · rw [show apLo op a b c d = 1 by simp [apLo, e1], show apHi op a b c d = 0 by simp [apHi, e1]]
    exact refApply_e1 op a b c d w e1
  by_cases e2 : d < c
  · rw [show apLo op a b c d = 1 by simp [apLo, e2], show apHi op a b c d = 0 by simp [apHi, e2]]
    exact refApply_e2 op a b c d w (by omega) e2
  have h2 : a ≤ b := by omega
  have h3 : c ≤ d := by omega
  have e3 : ¬ (b < a ∨ d < c) := by omega
  cases ho : isOp op with
  | false =>
    rw [show apLo op a b c d = 0 by simp [apLo, e3, ho], show apHi op a b c d = 18446744073709551615 by simp [apHi, e3, ho]]
    obtain ⟨n3, n4, n5, n6, n7, n8, n9, n10, n12, n13⟩ := isOp_not ho
    exact refApply_n op a b c d w h2 h3 n3 n4 n5 n6 n7 n8 n9 n10 n12 n13
  | true =>
    unfold apLo apHi
    rw [if_neg e3, if_neg e3, if_pos ho, if_pos ho]
    have t : op = 3 ∨ op = 4 ∨ op = 5 ∨ op = 6 ∨ op = 7 ∨ op = 8 ∨ op = 9 ∨ op = 10 ∨ op = 12 ∨ op = 13 := by simp [isOp] at ho; omega
    by_cases s2 : c = d
    · subst s2
      by_cases s1 : a = b
      · subst s1
        rw [if_pos ⟨rfl, rfl⟩, if_pos ⟨rfl, rfl⟩]
        exact refApply_o op a c w ho hc.1
      · have s : ¬ (a = b ∧ c = c) := fun h => s1 h.1
        rw [if_neg s, if_neg s]
        have q : (a == b) = false := by simp [s1]
        rcases t with rfl | rfl | rfl | rfl | rfl | rfl | rfl | rfl | rfl | rfl
        · exact refApply_3t a b c w ha hb hc h2 q
        · exact refApply_4t a b c w ha hb hc h2 q
        · exact refApply_5t a b c w ha hb hc h2 q
        · exact refApply_6t a b c w ha hb hc h2 q
        · exact refApply_7t a b c w ha hb hc h2 q
        · exact refApply_8t a b c w ha hb hc h2 q
        · exact refApply_9t a b c w ha hb hc h2 q
        · exact refApply_10t a b c w ha hb hc h2 q
        · exact refApply_12t a b c w ha hb hc h2 q
        · exact refApply_13t a b c w ha hb hc h2 q
    · have s : ¬ (a = b ∧ c = d) := fun h => s2 h.2
      rw [if_neg s, if_neg s]
      have q : (c == d) = false := by simp [s2]
      rcases t with rfl | rfl | rfl | rfl | rfl | rfl | rfl | rfl | rfl | rfl
      · exact refApply_3f a b c d w ha hb hc hd h2 h3 q
      · exact refApply_4f a b c d w ha hb hc hd h2 h3 q
      · exact refApply_5f a b c d w ha hb hc hd h2 h3 q
      · exact refApply_6f a b c d w ha hb hc hd h2 h3 q
      · exact refApply_7f a b c d w ha hb hc hd h2 h3 q
      · exact refApply_8f a b c d w ha hb hc hd h2 h3 q
      · exact refApply_9f a b c d w ha hb hc hd h2 h3 q
      · exact refApply_10f a b c d w ha hb hc hd h2 h3 q
      · exact refApply_12f a b c d w ha hb hc hd h2 h3 q
      · exact refApply_13f a b c d w ha hb hc hd h2 h3 q
end Go.Proofs.Ytdlfmifkjmajpab
