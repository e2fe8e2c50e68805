/-
  Stage 2, span: Refine, of every branch and of what is none.
-/
import Derived.Test.YtodhgmeecphckaaSRefineL
import Derived.Test.YtodhgmeecphckaaSLeftB
import Derived.Test.YtodhgmeecphckaaSLeftU
namespace Go.Proofs.Ytodhgmeecphckaa
open Go.RowKit

theorem Refine_op (op a b c d p q r s : Int) (g : Nat) (w : World) (h0 : 0 ≤ op) (h1 : op < 256) (h2 : a ≤ b) (h3 : c ≤ d)
    (q2 : rowV op 2 = .func (.func g) #[] #[]) (e1 : ∀ args w, (callFunc g args).run Try.prog w = .ok (.enter g args) w)
    (k1 : ∀ w, Calls Try.prog g #[.agg #[.int .u64 a, .int .u64 b], .agg #[.int .u64 c, .int .u64 d]] w fun x w' => x = .returned (.tuple #[.agg #[.int .u64 p, .int .u64 q], .agg #[.int .u64 r, .int .u64 s]]) ∧ Gr w w') :
    Calls Try.prog 17 #[.int .u8 op, .agg #[.int .u64 a, .int .u64 b], .agg #[.int .u64 c, .int .u64 d]] w fun x w' => x = .returned (.tuple #[.agg #[.int .u64 (if p ≤ q ∧ r ≤ s then p else 1), .int .u64 (if p ≤ q ∧ r ≤ s then q else 0)], .agg #[.int .u64 (if p ≤ q ∧ r ≤ s then r else 1), .int .u64 (if p ≤ q ∧ r ≤ s then s else 0)], .bool (decide (p ≤ q ∧ r ≤ s))]) ∧ Gr w w' := by
  by_cases s1 : p ≤ q
  · by_cases s2 : r ≤ s
    · rw [if_pos ⟨s1, s2⟩, if_pos ⟨s1, s2⟩, if_pos ⟨s1, s2⟩, if_pos ⟨s1, s2⟩, decide_eq_true (⟨s1, s2⟩ : p ≤ q ∧ r ≤ s)]
      exact Refine_l op a b c d p q r s g w h0 h1 h2 h3 q2 e1 k1 s1 s2
    · have n : ¬ (p ≤ q ∧ r ≤ s) := fun h => s2 h.2
      rw [if_neg n, if_neg n, if_neg n, if_neg n, decide_eq_false n]
      exact Refine_l2 op a b c d p q r s g w h0 h1 h2 h3 q2 e1 k1 s1 (by omega)
  · have n : ¬ (p ≤ q ∧ r ≤ s) := fun h => s1 h.1
    rw [if_neg n, if_neg n, if_neg n, if_neg n, decide_eq_false n]
    exact Refine_l1 op a b c d p q r s g w h0 h1 h2 h3 q2 e1 k1 (by omega)
/-- Of what is no branch. -/
theorem row_noleft (op : Int) (h0 : 0 ≤ op) (h : ¬ (21 ≤ op ∧ op ≤ 24)) : rowV op 2 = .nilFunc := by
  by_cases hp : 25 ≤ op
  · exact row_past op 2 hp
  · have t : op = 0 ∨ op = 1 ∨ op = 2 ∨ op = 3 ∨ op = 4 ∨ op = 5 ∨ op = 6 ∨ op = 7 ∨ op = 8 ∨ op = 9 ∨ op = 10 ∨ op = 11 ∨ op = 12 ∨ op = 13 ∨ op = 14 ∨ op = 15 ∨ op = 16 ∨ op = 17 ∨ op = 18 ∨ op = 19 ∨ op = 20 := by omega
    rcases t with rfl | rfl | rfl | rfl | rfl | rfl | rfl | rfl | rfl | rfl | rfl | rfl | rfl | rfl | rfl | rfl | rfl | rfl | rfl | rfl | rfl
    · exact (by kernel_rfl : rowV 0 2 = .nilFunc)
    · exact (by kernel_rfl : rowV 1 2 = .nilFunc)
    · exact (by kernel_rfl : rowV 2 2 = .nilFunc)
    · exact (by kernel_rfl : rowV 3 2 = .nilFunc)
    · exact (by kernel_rfl : rowV 4 2 = .nilFunc)
    · exact (by kernel_rfl : rowV 5 2 = .nilFunc)
    · exact (by kernel_rfl : rowV 6 2 = .nilFunc)
    · exact (by kernel_rfl : rowV 7 2 = .nilFunc)
    · exact (by kernel_rfl : rowV 8 2 = .nilFunc)
    · exact (by kernel_rfl : rowV 9 2 = .nilFunc)
    · exact (by kernel_rfl : rowV 10 2 = .nilFunc)
    · exact (by kernel_rfl : rowV 11 2 = .nilFunc)
    · exact (by kernel_rfl : rowV 12 2 = .nilFunc)
    · exact (by kernel_rfl : rowV 13 2 = .nilFunc)
    · exact (by kernel_rfl : rowV 14 2 = .nilFunc)
    · exact (by kernel_rfl : rowV 15 2 = .nilFunc)
    · exact (by kernel_rfl : rowV 16 2 = .nilFunc)
    · exact (by kernel_rfl : rowV 17 2 = .nilFunc)
    · exact (by kernel_rfl : rowV 18 2 = .nilFunc)
    · exact (by kernel_rfl : rowV 19 2 = .nilFunc)
    · exact (by kernel_rfl : rowV 20 2 = .nilFunc)
theorem row_left (op : Int) (h : 21 ≤ op ∧ op ≤ 24) : ∃ g, rowV op 2 = .func (.func g) #[] #[] := by
  have t : op = 21 ∨ op = 22 ∨ op = 23 ∨ op = 24 := by omega
  rcases t with rfl | rfl | rfl | rfl
  · exact ⟨57, by kernel_rfl⟩
  · exact ⟨58, by kernel_rfl⟩
  · exact ⟨59, by kernel_rfl⟩
  · exact ⟨60, by kernel_rfl⟩
theorem Refine_21 (a b c d : Int) (w : World) (_ha : W64 a) (_hb : W64 b) (_hc : W64 c) (_hd : W64 d) (h2 : a ≤ b) (h3 : c ≤ d) :
    Calls Try.prog 17 #[.int .u8 21, .agg #[.int .u64 a, .int .u64 b], .agg #[.int .u64 c, .int .u64 d]] w fun x w' => x = .returned (.tuple #[.agg #[.int .u64 (fA 21 a b c d), .int .u64 (fB 21 a b c d)], .agg #[.int .u64 (fC 21 a b c d), .int .u64 (fD 21 a b c d)], .bool (rOk 21 a b c d)]) ∧ Gr w w' := by
  have k := Refine_op 21 a b c d (rA 21 a b c d) (rB 21 a b c d) (rC 21 a b c d) (rD 21 a b c d) 57 w (by omega) (by omega) h2 h3 (by kernel_rfl) (enters_of Try.func57 (by kernel_rfl) rfl) (fun w => whereEqual_any a b c d w)
  have e : rOk 21 a b c d = decide ((rA 21 a b c d) ≤ (rB 21 a b c d) ∧ (rC 21 a b c d) ≤ (rD 21 a b c d)) := by
    unfold rOk; rw [decide_eq_true h2, decide_eq_true h3]; simp
  unfold fA fB fC fD
  rw [e]
  simpa only [decide_eq_true_eq] using k
theorem Refine_22 (a b c d : Int) (w : World) (ha : W64 a) (hb : W64 b) (hc : W64 c) (hd : W64 d) (h2 : a ≤ b) (h3 : c ≤ d) :
    Calls Try.prog 17 #[.int .u8 22, .agg #[.int .u64 a, .int .u64 b], .agg #[.int .u64 c, .int .u64 d]] w fun x w' => x = .returned (.tuple #[.agg #[.int .u64 (fA 22 a b c d), .int .u64 (fB 22 a b c d)], .agg #[.int .u64 (fC 22 a b c d), .int .u64 (fD 22 a b c d)], .bool (rOk 22 a b c d)]) ∧ Gr w w' := by
  have k := Refine_op 22 a b c d (rA 22 a b c d) (rB 22 a b c d) (rC 22 a b c d) (rD 22 a b c d) 58 w (by omega) (by omega) h2 h3 (by kernel_rfl) (enters_of Try.func58 (by kernel_rfl) rfl) (fun w => whereUnlike_any a b c d w ha hb hc hd h2 h3)
  have e : rOk 22 a b c d = decide ((rA 22 a b c d) ≤ (rB 22 a b c d) ∧ (rC 22 a b c d) ≤ (rD 22 a b c d)) := by
    unfold rOk; rw [decide_eq_true h2, decide_eq_true h3]; simp
  unfold fA fB fC fD
  rw [e]
  simpa only [decide_eq_true_eq] using k
theorem Refine_23 (a b c d : Int) (w : World) (ha : W64 a) (_hb : W64 b) (_hc : W64 c) (hd : W64 d) (h2 : a ≤ b) (h3 : c ≤ d) :
    Calls Try.prog 17 #[.int .u8 23, .agg #[.int .u64 a, .int .u64 b], .agg #[.int .u64 c, .int .u64 d]] w fun x w' => x = .returned (.tuple #[.agg #[.int .u64 (fA 23 a b c d), .int .u64 (fB 23 a b c d)], .agg #[.int .u64 (fC 23 a b c d), .int .u64 (fD 23 a b c d)], .bool (rOk 23 a b c d)]) ∧ Gr w w' := by
  have k := Refine_op 23 a b c d (rA 23 a b c d) (rB 23 a b c d) (rC 23 a b c d) (rD 23 a b c d) 59 w (by omega) (by omega) h2 h3 (by kernel_rfl) (enters_of Try.func59 (by kernel_rfl) rfl) (fun w => whereBelow_any a b c d w ha hd)
  have e : rOk 23 a b c d = decide ((rA 23 a b c d) ≤ (rB 23 a b c d) ∧ (rC 23 a b c d) ≤ (rD 23 a b c d)) := by
    unfold rOk; rw [decide_eq_true h2, decide_eq_true h3]; simp
  unfold fA fB fC fD
  rw [e]
  simpa only [decide_eq_true_eq] using k
theorem Refine_24 (a b c d : Int) (w : World) (_ha : W64 a) (_hb : W64 b) (_hc : W64 c) (_hd : W64 d) (h2 : a ≤ b) (h3 : c ≤ d) :
    Calls Try.prog 17 #[.int .u8 24, .agg #[.int .u64 a, .int .u64 b], .agg #[.int .u64 c, .int .u64 d]] w fun x w' => x = .returned (.tuple #[.agg #[.int .u64 (fA 24 a b c d), .int .u64 (fB 24 a b c d)], .agg #[.int .u64 (fC 24 a b c d), .int .u64 (fD 24 a b c d)], .bool (rOk 24 a b c d)]) ∧ Gr w w' := by
  have k := Refine_op 24 a b c d (rA 24 a b c d) (rB 24 a b c d) (rC 24 a b c d) (rD 24 a b c d) 60 w (by omega) (by omega) h2 h3 (by kernel_rfl) (enters_of Try.func60 (by kernel_rfl) rfl) (fun w => whereNotBelow_any a b c d w)
  have e : rOk 24 a b c d = decide ((rA 24 a b c d) ≤ (rB 24 a b c d) ∧ (rC 24 a b c d) ≤ (rD 24 a b c d)) := by
    unfold rOk; rw [decide_eq_true h2, decide_eq_true h3]; simp
  unfold fA fB fC fD
  rw [e]
  simpa only [decide_eq_true_eq] using k

theorem Refine_any (op a b c d : Int) (w : World) (h0 : 0 ≤ op) (h1 : op < 256) (ha : W64 a) (hb : W64 b) (hc : W64 c) (hd : W64 d) :
    Calls Try.prog 17 #[.int .u8 op, .agg #[.int .u64 a, .int .u64 b], .agg #[.int .u64 c, .int .u64 d]] w fun x w' => x = .returned (.tuple #[.agg #[.int .u64 (fA op a b c d), .int .u64 (fB op a b c d)], .agg #[.int .u64 (fC op a b c d), .int .u64 (fD op a b c d)], .bool (rOk op a b c d)]) ∧ Gr w w' := by
  by_cases e1 : b < a ∨ d < c
  · have n : rOk op a b c d = false := by
      unfold rOk
      rcases e1 with e | e
      · rw [decide_eq_false (show ¬ a ≤ b by omega)]; simp
      · rw [decide_eq_false (show ¬ c ≤ d by omega)]; simp
    unfold fA fB fC fD
    rw [n]
    simp only [Bool.false_eq_true, if_false]
    by_cases hl : 21 ≤ op ∧ op ≤ 24
    · obtain ⟨g, q2⟩ := row_left op hl
      by_cases e2 : b < a
      · exact Refine_e1f op a b c d w h0 h1 e2 g q2
      · exact Refine_e2f op a b c d w h0 h1 (by omega) (by omega) g q2
    · have q2 := row_noleft op h0 hl
      by_cases e2 : b < a
      · exact Refine_e1n op a b c d w h0 h1 e2 q2
      · exact Refine_e2n op a b c d w h0 h1 (by omega) (by omega) q2
  have h2 : a ≤ b := by omega
  have h3 : c ≤ d := by omega
  by_cases hl : 21 ≤ op ∧ op ≤ 24
  · have t : op = 21 ∨ op = 22 ∨ op = 23 ∨ op = 24 := by omega
    rcases t with rfl | rfl | rfl | rfl
    · exact Refine_21 a b c d w ha hb hc hd h2 h3
    · exact Refine_22 a b c d w ha hb hc hd h2 h3
    · exact Refine_23 a b c d w ha hb hc hd h2 h3
    · exact Refine_24 a b c d w ha hb hc hd h2 h3
  · have q2 := row_noleft op h0 hl
    have n1 : op ≠ 21 := by omega
    have n2 : op ≠ 22 := by omega
    have n3 : op ≠ 23 := by omega
    have n4 : op ≠ 24 := by omega
    have a1 : rA op a b c d = a := by simp [rA, n1, n2, n3, n4]
    have a2 : rB op a b c d = b := by simp [rB, n1, n2, n3]
    have a3 : rC op a b c d = c := by simp [rC, n1, n2, n3]
    have a4 : rD op a b c d = d := by simp [rD, n1, n2, n3, n4]
    have n : rOk op a b c d = true := by unfold rOk; rw [a1, a2, a3, a4, decide_eq_true h2, decide_eq_true h3]; rfl
    unfold fA fB fC fD
    rw [n, a1, a2, a3, a4]
    simpa using Refine_n op a b c d w h0 h1 h2 h3 q2

end Go.Proofs.Ytodhgmeecphckaa
