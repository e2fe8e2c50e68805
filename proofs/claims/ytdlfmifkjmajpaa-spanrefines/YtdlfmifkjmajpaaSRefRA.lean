/-
  Stage 2, span: the document's own Refine, of every branch and of what is none.
-/
import Derived.Test.YtdlfmifkjmajpaaSRefU
import Derived.Test.YtdlfmifkjmajpaaSRefB
import Derived.Test.YtdlfmifkjmajpaaSRefE
namespace Go.Proofs.Ytdlfmifkjmajpaa
open Go.RowKit

theorem ok_of (op a b c d : Int) (h : rOk op a b c d = true) : fA op a b c d = rA op a b c d ∧ fB op a b c d = rB op a b c d ∧ fC op a b c d = rC op a b c d ∧ fD op a b c d = rD op a b c d := by
  unfold fA fB fC fD; simp [h]
theorem no_of (op a b c d : Int) (h : rOk op a b c d = false) : fA op a b c d = 1 ∧ fB op a b c d = 0 ∧ fC op a b c d = 1 ∧ fD op a b c d = 0 := by
  unfold fA fB fC fD; simp [h]
theorem ok_iff (op a b c d : Int) : rOk op a b c d = true ↔ a ≤ b ∧ c ≤ d ∧ rA op a b c d ≤ rB op a b c d ∧ rC op a b c d ≤ rD op a b c d := by
  unfold rOk; simp [and_assoc]
theorem told_r1 (op a b c d : Int) : fB op a b c d < fA op a b c d → fA op a b c d = 1 ∧ fB op a b c d = 0 := by
  cases h : rOk op a b c d with
  | true => have := (ok_iff op a b c d).mp h; rw [(ok_of op a b c d h).1, (ok_of op a b c d h).2.1]; omega
  | false => intro _; exact ⟨(no_of op a b c d h).1, (no_of op a b c d h).2.1⟩
theorem told_r2 (op a b c d : Int) : fD op a b c d < fC op a b c d → fC op a b c d = 1 ∧ fD op a b c d = 0 := by
  cases h : rOk op a b c d with
  | true => have := (ok_iff op a b c d).mp h; rw [(ok_of op a b c d h).2.2.1, (ok_of op a b c d h).2.2.2]; omega
  | false => intro _; exact ⟨(no_of op a b c d h).2.2.1, (no_of op a b c d h).2.2.2⟩
/-- The answer, of numbers that are the ones that are asked. -/
theorem as_ref {op a b c d p q r s : Int} {t : Bool} {w : World} (h1 : p = fA op a b c d) (h2 : q = fB op a b c d) (h3 : r = fC op a b c d) (h4 : s = fD op a b c d) (h5 : t = rOk op a b c d)
    (k : Calls Try.prog 22 #[.int .u8 op, .agg #[.int .u64 a, .int .u64 b], .agg #[.int .u64 c, .int .u64 d]] w fun x w' => x = .returned (.tuple #[.agg #[.int .u64 p, .int .u64 q], .agg #[.int .u64 r, .int .u64 s], .bool t]) ∧ Gr w w') :
    Calls Try.prog 22 #[.int .u8 op, .agg #[.int .u64 a, .int .u64 b], .agg #[.int .u64 c, .int .u64 d]] w fun x w' => x = .returned (.tuple #[.agg #[.int .u64 (fA op a b c d), .int .u64 (fB op a b c d)], .agg #[.int .u64 (fC op a b c d), .int .u64 (fD op a b c d)], .bool (rOk op a b c d)]) ∧ Gr w w' := by
  subst h1 h2 h3 h4 h5; exact k
theorem no_ref {op a b c d : Int} {w : World} (h : rOk op a b c d = false) (k : Calls Try.prog 22 #[.int .u8 op, .agg #[.int .u64 a, .int .u64 b], .agg #[.int .u64 c, .int .u64 d]] w fun x w' => x = .returned (.tuple #[.agg #[.int .u64 1, .int .u64 0], .agg #[.int .u64 1, .int .u64 0], .bool false]) ∧ Gr w w') :
    Calls Try.prog 22 #[.int .u8 op, .agg #[.int .u64 a, .int .u64 b], .agg #[.int .u64 c, .int .u64 d]] w fun x w' => x = .returned (.tuple #[.agg #[.int .u64 (fA op a b c d), .int .u64 (fB op a b c d)], .agg #[.int .u64 (fC op a b c d), .int .u64 (fD op a b c d)], .bool (rOk op a b c d)]) ∧ Gr w w' :=
  as_ref (no_of op a b c d h).1.symm (no_of op a b c d h).2.1.symm (no_of op a b c d h).2.2.1.symm (no_of op a b c d h).2.2.2.symm h.symm k
theorem yes_ref {op a b c d : Int} {w : World} (h : rOk op a b c d = true) (k : Calls Try.prog 22 #[.int .u8 op, .agg #[.int .u64 a, .int .u64 b], .agg #[.int .u64 c, .int .u64 d]] w fun x w' => x = .returned (.tuple #[.agg #[.int .u64 (rA op a b c d), .int .u64 (rB op a b c d)], .agg #[.int .u64 (rC op a b c d), .int .u64 (rD op a b c d)], .bool true]) ∧ Gr w w') :
    Calls Try.prog 22 #[.int .u8 op, .agg #[.int .u64 a, .int .u64 b], .agg #[.int .u64 c, .int .u64 d]] w fun x w' => x = .returned (.tuple #[.agg #[.int .u64 (fA op a b c d), .int .u64 (fB op a b c d)], .agg #[.int .u64 (fC op a b c d), .int .u64 (fD op a b c d)], .bool (rOk op a b c d)]) ∧ Gr w w' :=
  as_ref (ok_of op a b c d h).1.symm (ok_of op a b c d h).2.1.symm (ok_of op a b c d h).2.2.1.symm (ok_of op a b c d h).2.2.2.symm h.symm k
theorem rOk_false {op a b c d : Int} (h : ¬ (a ≤ b ∧ c ≤ d ∧ rA op a b c d ≤ rB op a b c d ∧ rC op a b c d ≤ rD op a b c d)) : rOk op a b c d = false := by
  rw [Bool.eq_false_iff]; intro h'; exact h ((ok_iff op a b c d).mp h')

theorem refRefine_any (op a b c d : Int) (w : World) (ha : W64 a) (hb : W64 b) (hc : W64 c) (hd : W64 d) :
    Calls Try.prog 22 #[.int .u8 op, .agg #[.int .u64 a, .int .u64 b], .agg #[.int .u64 c, .int .u64 d]] w fun x w' => x = .returned (.tuple #[.agg #[.int .u64 (fA op a b c d), .int .u64 (fB op a b c d)], .agg #[.int .u64 (fC op a b c d), .int .u64 (fD op a b c d)], .bool (rOk op a b c d)]) ∧ Gr w w' := by
  by_cases e1 : b < a
  · exact no_ref (rOk_false (by omega)) (refRefine_e1 op a b c d w e1)
  by_cases e2 : d < c
  · exact no_ref (rOk_false (by omega)) (refRefine_e2 op a b c d w (by omega) e2)
  have h2 : a ≤ b := by omega
  have h3 : c ≤ d := by omega
  by_cases n1 : op = 21
  · subst n1
    have x1 : maxI a c = max a c := by unfold maxI; split <;> omega
    have x2 : minI b d = min b d := by unfold minI; split <;> omega
    by_cases hm : max a c ≤ min b d
    · refine yes_ref ((ok_iff 21 a b c d).mpr ⟨h2, h3, ?_, ?_⟩) ?_
      · show maxI a c ≤ minI b d
        rw [x1, x2]; exact hm
      · show maxI a c ≤ minI b d
        rw [x1, x2]; exact hm
      · show Calls _ _ _ _ fun x w' => x = .returned (.tuple #[.agg #[.int .u64 (maxI a c), .int .u64 (minI b d)], .agg #[.int .u64 (maxI a c), .int .u64 (minI b d)], .bool true]) ∧ Gr w w'
        rw [x1, x2]; exact refRefine_21 a b c d w h2 h3 hm
    · refine no_ref (rOk_false ?_) (refRefine_21n a b c d w h2 h3 (by omega))
      show ¬ (_ ∧ _ ∧ maxI a c ≤ minI b d ∧ _)
      rw [x1, x2]; exact fun h => hm h.2.2.1
  by_cases n2 : op = 22
  · subst n2
    by_cases s1 : a = b
    · subst s1
      by_cases s2 : c = d
      · subst s2
        by_cases s3 : a = c
        · subst s3
          refine no_ref (rOk_false ?_) (refRefine_22n a w)
          show ¬ (_ ∧ _ ∧ woLo a a a a ≤ woHi a a a a ∧ _)
          simp [woLo, woHi]
        · refine yes_ref ((ok_iff 22 a a c c).mpr ⟨h2, h3, ?_, ?_⟩) (refRefine_22tt a c w (by simp [s3]) ⟨ha, ha, h2, fun h => s3 h.1⟩ ⟨hc, hc, h3, fun h => s3 h.1.symm⟩)
          · show woLo a a c c ≤ woHi a a c c
            simp [woLo, woHi, s3]
          · show woLo c c a a ≤ woHi c c a a
            have s4 : ¬ c = a := fun h => s3 h.symm
            simp [woLo, woHi, s4]
      · have e : woLo a a c d = a ∧ woHi a a c d = a := by simp [woLo, woHi, s2]
        have k := refRefine_22tf a c d w h3 (by simp [s2]) ⟨hc, hd, h3, fun h => s2 (by omega)⟩
        refine yes_ref ((ok_iff 22 a a c d).mpr ⟨h2, h3, ?_, ?_⟩) ?_
        · show woLo a a c d ≤ woHi a a c d
          rw [e.1, e.2]; exact h2
        · show woLo c d a a ≤ woHi c d a a
          unfold woLo woHi; (repeat' split) <;> omega
        · show Calls _ _ _ _ fun x w' => x = .returned (.tuple #[.agg #[.int .u64 (woLo a a c d), .int .u64 (woHi a a c d)], .agg #[.int .u64 (woLo c d a a), .int .u64 (woHi c d a a)], .bool true]) ∧ Gr w w'
          rw [e.1, e.2]; exact k
    · by_cases s2 : c = d
      · subst s2
        have e : woLo c c a b = c ∧ woHi c c a b = c := by simp [woLo, woHi, s1]
        have k := refRefine_22ft a b c w h2 (by simp [s1]) ⟨ha, hb, h2, fun h => s1 (by omega)⟩
        refine yes_ref ((ok_iff 22 a b c c).mpr ⟨h2, h3, ?_, ?_⟩) ?_
        · show woLo a b c c ≤ woHi a b c c
          unfold woLo woHi; (repeat' split) <;> omega
        · show woLo c c a b ≤ woHi c c a b
          rw [e.1, e.2]; exact h3
        · show Calls _ _ _ _ fun x w' => x = .returned (.tuple #[.agg #[.int .u64 (woLo a b c c), .int .u64 (woHi a b c c)], .agg #[.int .u64 (woLo c c a b), .int .u64 (woHi c c a b)], .bool true]) ∧ Gr w w'
          rw [e.1, e.2]; exact k
      · have e : woLo a b c d = a ∧ woHi a b c d = b := by simp [woLo, woHi, s2]
        have e' : woLo c d a b = c ∧ woHi c d a b = d := by simp [woLo, woHi, s1]
        refine yes_ref ((ok_iff 22 a b c d).mpr ⟨h2, h3, ?_, ?_⟩) ?_
        · show woLo a b c d ≤ woHi a b c d
          rw [e.1, e.2]; exact h2
        · show woLo c d a b ≤ woHi c d a b
          rw [e'.1, e'.2]; exact h3
        · show Calls _ _ _ _ fun x w' => x = .returned (.tuple #[.agg #[.int .u64 (woLo a b c d), .int .u64 (woHi a b c d)], .agg #[.int .u64 (woLo c d a b), .int .u64 (woHi c d a b)], .bool true]) ∧ Gr w w'
          rw [e.1, e.2, e'.1, e'.2]; exact refRefine_22ff a b c d w h2 h3 (by simp [s1]) (by simp [s2])
  by_cases n3 : op = 23
  · subst n3
    by_cases s1 : d ≤ a
    · refine no_ref (rOk_false ?_) (refRefine_23n a b c d w h2 h3 s1)
      show ¬ (_ ∧ _ ∧ (if d ≤ a then (1 : Int) else a) ≤ (if d ≤ a then (0 : Int) else minI b (d - 1)) ∧ _)
      rw [if_pos s1, if_pos s1]; omega
    · have k := refRefine_23 a b c d w h2 h3 (by omega) ha hd
      have x1 : rA 23 a b c d = a := by show (if d ≤ a then (1 : Int) else a) = a; rw [if_neg s1]
      have x2 : rB 23 a b c d = minI b (d - 1) := by show (if d ≤ a then (0 : Int) else minI b (d - 1)) = _; rw [if_neg s1]
      have x3 : rC 23 a b c d = maxI c (a + 1) := by show (if d ≤ a then (1 : Int) else maxI c (a + 1)) = _; rw [if_neg s1]
      have x4 : rD 23 a b c d = d := by show (if d ≤ a then (0 : Int) else d) = d; rw [if_neg s1]
      refine yes_ref ((ok_iff 23 a b c d).mpr ⟨h2, h3, ?_, ?_⟩) ?_
      · rw [x1, x2]; unfold minI; split <;> omega
      · rw [x3, x4]; unfold maxI; split <;> omega
      · rw [x1, x2, x3, x4]; exact k
  by_cases n4 : op = 24
  · subst n4
    by_cases s1 : b < c
    · refine no_ref (rOk_false ?_) (refRefine_24n a b c d w h2 h3 s1)
      show ¬ (_ ∧ _ ∧ maxI a c ≤ b ∧ _)
      unfold maxI; split <;> omega
    · refine yes_ref ((ok_iff 24 a b c d).mpr ⟨h2, h3, ?_, ?_⟩) (refRefine_24 a b c d w h2 h3 (by omega))
      · show maxI a c ≤ b
        unfold maxI; split <;> omega
      · show c ≤ minI d b
        unfold minI; split <;> omega
  have x1 : rA op a b c d = a := by simp [rA, n1, n2, n3, n4]
  have x2 : rB op a b c d = b := by simp [rB, n1, n2, n3]
  have x3 : rC op a b c d = c := by simp [rC, n1, n2, n3]
  have x4 : rD op a b c d = d := by simp [rD, n1, n2, n3, n4]
  refine yes_ref ((ok_iff op a b c d).mpr ⟨h2, h3, by rw [x1, x2]; exact h2, by rw [x3, x4]; exact h3⟩) ?_
  rw [x1, x2, x3, x4]
  exact refRefine_n op a b c d w h2 h3 (by simp [n1]) (by simp [n2]) (by simp [n3]) (by simp [n4])

end Go.Proofs.Ytdlfmifkjmajpaa
