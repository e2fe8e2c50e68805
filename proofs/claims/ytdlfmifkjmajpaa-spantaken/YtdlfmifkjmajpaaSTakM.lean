/-
  Stage 2, span: what a branch lets through is in what Refine leaves, and its ends are met. No Go in sight.
-/
import Derived.Test.YtdlfmifkjmajpaaSMath
namespace Go.Proofs.Ytdlfmifkjmajpaa
open Go.RowKit

def takenB (op x y : Int) : Bool := if op = 21 then x == y else if op = 22 then x != y else if op = 23 then decide (x < y) else decide (y ≤ x)
def meetsB (op x a b : Int) : Bool := if op = 21 then decide (a ≤ x) && decide (x ≤ b) else if op = 22 then a != x || b != x else if op = 23 then decide (x < b) else decide (a ≤ x)
def metB (op a b y : Int) : Bool := if op = 23 then decide (a < y) else if op = 24 then decide (y ≤ b) else meetsB op y a b

theorem rok_iff (op a b c d : Int) : rOk op a b c d = true ↔ a ≤ b ∧ c ≤ d ∧ rA op a b c d ≤ rB op a b c d ∧ rC op a b c d ≤ rD op a b c d := by
  unfold rOk; simp [and_assoc]
theorem rok_of (op a b c d : Int) (h : rOk op a b c d = true) : fA op a b c d = rA op a b c d ∧ fB op a b c d = rB op a b c d ∧ fC op a b c d = rC op a b c d ∧ fD op a b c d = rD op a b c d := by
  unfold fA fB fC fD; simp [h]
theorem rno_of (op a b c d : Int) (h : rOk op a b c d = false) : fA op a b c d = 1 ∧ fB op a b c d = 0 ∧ fC op a b c d = 1 ∧ fD op a b c d = 0 := by
  unfold fA fB fC fD; simp [h]
/-- What is left, of the four branches. -/
theorem left_21 (a b c d : Int) : rA 21 a b c d = maxI a c ∧ rB 21 a b c d = minI b d ∧ rC 21 a b c d = maxI a c ∧ rD 21 a b c d = minI b d := ⟨rfl, rfl, rfl, rfl⟩
theorem left_22 (a b c d : Int) : rA 22 a b c d = woLo a b c d ∧ rB 22 a b c d = woHi a b c d ∧ rC 22 a b c d = woLo c d a b ∧ rD 22 a b c d = woHi c d a b := ⟨rfl, rfl, rfl, rfl⟩
theorem left_23 (a b c d : Int) : rA 23 a b c d = (if d ≤ a then 1 else a) ∧ rB 23 a b c d = (if d ≤ a then 0 else minI b (d - 1)) ∧ rC 23 a b c d = (if d ≤ a then 1 else maxI c (a + 1)) ∧ rD 23 a b c d = (if d ≤ a then 0 else d) := ⟨rfl, rfl, rfl, rfl⟩
theorem left_24 (a b c d : Int) : rA 24 a b c d = maxI a c ∧ rB 24 a b c d = b ∧ rC 24 a b c d = c ∧ rD 24 a b c d = minI d b := ⟨rfl, rfl, rfl, rfl⟩

theorem taken_in {op x y a b c d : Int} (ho : 21 ≤ op ∧ op ≤ 24) (hx : a ≤ x ∧ x ≤ b) (hy : c ≤ y ∧ y ≤ d) (ht : takenB op x y = true) :
    rOk op a b c d = true ∧ rA op a b c d ≤ x ∧ x ≤ rB op a b c d ∧ rC op a b c d ≤ y ∧ y ≤ rD op a b c d := by
  have key : rA op a b c d ≤ x ∧ x ≤ rB op a b c d ∧ rC op a b c d ≤ y ∧ y ≤ rD op a b c d := by
    have t : op = 21 ∨ op = 22 ∨ op = 23 ∨ op = 24 := by omega
    rcases t with rfl | rfl | rfl | rfl
    · have e : x = y := by simpa [takenB] using ht
      obtain ⟨e1, e2, e3, e4⟩ := left_21 a b c d
      rw [e1, e2, e3, e4]; unfold maxI minI; (repeat' split) <;> omega
    · have e : x ≠ y := by simpa [takenB] using ht
      obtain ⟨e1, e2, e3, e4⟩ := left_22 a b c d
      rw [e1, e2, e3, e4]; unfold woLo woHi; refine ⟨?_, ?_, ?_, ?_⟩ <;> (repeat' split) <;> omega
    · have e : x < y := by simpa [takenB] using ht
      obtain ⟨e1, e2, e3, e4⟩ := left_23 a b c d
      rw [e1, e2, e3, e4]; unfold maxI minI; refine ⟨?_, ?_, ?_, ?_⟩ <;> (repeat' split) <;> omega
    · have e : y ≤ x := by simpa [takenB] using ht
      obtain ⟨e1, e2, e3, e4⟩ := left_24 a b c d
      rw [e1, e2, e3, e4]; unfold maxI minI; refine ⟨?_, ?_, ?_, ?_⟩ <;> (repeat' split) <;> omega
  exact ⟨(rok_iff op a b c d).mpr ⟨by omega, by omega, by omega, by omega⟩, key⟩
theorem maxI_is (a c : Int) : a ≤ maxI a c ∧ c ≤ maxI a c ∧ (maxI a c = a ∨ maxI a c = c) := by unfold maxI; split <;> omega
theorem minI_is (a c : Int) : minI a c ≤ a ∧ minI a c ≤ c ∧ (minI a c = a ∨ minI a c = c) := by unfold minI; split <;> omega
theorem met_21 (p a b : Int) : meetsB 21 p a b = true ↔ a ≤ p ∧ p ≤ b := by simp [meetsB]
theorem met_21' (p a b : Int) : metB 21 a b p = true ↔ a ≤ p ∧ p ≤ b := by simp [metB, meetsB]
theorem met_22 (p a b : Int) : meetsB 22 p a b = true ↔ ¬ (a = p ∧ b = p) := by
  show ((a != p || b != p) = true) ↔ _
  simp; omega
theorem met_22' (p a b : Int) : metB 22 a b p = true ↔ ¬ (a = p ∧ b = p) := by
  exact met_22 p a b
theorem met_23 (p a b : Int) : meetsB 23 p a b = true ↔ p < b := by simp [meetsB]
theorem met_23' (p a b : Int) : metB 23 a b p = true ↔ a < p := by simp [metB]
theorem met_24 (p a b : Int) : meetsB 24 p a b = true ↔ a ≤ p := by simp [meetsB]
theorem met_24' (p a b : Int) : metB 24 a b p = true ↔ p ≤ b := by simp [metB]
theorem wo_is (a b c d : Int) (h : a ≤ b) (h3 : woLo a b c d ≤ woHi a b c d) : a ≤ woLo a b c d ∧ woHi a b c d ≤ b ∧ ¬ (c = woLo a b c d ∧ d = woLo a b c d) ∧ ¬ (c = woHi a b c d ∧ d = woHi a b c d) := by
  unfold woLo woHi at *
  by_cases e1 : c = d
  · by_cases e2 : a = c
    · by_cases e3 : b = d
      · simp [e1, e2, e3] at h3
      · have n : ¬ (a = c ∧ b = d) := fun x => e3 x.2
        simp only [if_pos e1, if_neg n, if_pos e2] at h3 ⊢
        omega
    · have n : ¬ (a = c ∧ b = d) := fun x => e2 x.1
      by_cases e3 : b = c
      · simp only [if_pos e1, if_neg n, if_neg e2, if_pos e3] at h3 ⊢
        omega
      · simp only [if_pos e1, if_neg n, if_neg e2, if_neg e3] at h3 ⊢
        omega
  · simp only [if_neg e1] at h3 ⊢
    omega
theorem ends_met {op a b c d : Int} (ho : 21 ≤ op ∧ op ≤ 24) (h : rOk op a b c d = true) :
    (a ≤ rA op a b c d ∧ rB op a b c d ≤ b ∧ c ≤ rC op a b c d ∧ rD op a b c d ≤ d) ∧ (meetsB op (rA op a b c d) c d = true ∧ meetsB op (rB op a b c d) c d = true ∧ metB op a b (rC op a b c d) = true ∧ metB op a b (rD op a b c d) = true) := by
  obtain ⟨h1, h2, h3, h4⟩ := (rok_iff op a b c d).mp h
  clear h
  have t : op = 21 ∨ op = 22 ∨ op = 23 ∨ op = 24 := by omega
  rcases t with rfl | rfl | rfl | rfl
  · obtain ⟨e1, e2, e3, e4⟩ := left_21 a b c d
    rw [e1, e2] at h3
    rw [e1, e2, e3, e4, met_21, met_21, met_21', met_21']
    have m1 := maxI_is a c
    have m2 := minI_is b d
    omega
  · obtain ⟨e1, e2, e3, e4⟩ := left_22 a b c d
    rw [e1, e2] at h3
    rw [e3, e4] at h4
    rw [e1, e2, e3, e4, met_22, met_22, met_22', met_22']
    have w1 := wo_is a b c d h1 h3
    have w2 := wo_is c d a b h2 h4
    exact ⟨⟨w1.1, w1.2.1, w2.1, w2.2.1⟩, w1.2.2.1, w1.2.2.2, w2.2.2.1, w2.2.2.2⟩
  · obtain ⟨e1, e2, e3, e4⟩ := left_23 a b c d
    rw [e1, e2] at h3
    by_cases hd : d ≤ a
    · rw [if_pos hd, if_pos hd] at h3; omega
    · rw [e1, e2, e3, e4, met_23, met_23, met_23', met_23', if_neg hd, if_neg hd, if_neg hd, if_neg hd]
      have m1 := maxI_is c (a + 1)
      have m2 := minI_is b (d - 1)
      omega
  · obtain ⟨e1, e2, e3, e4⟩ := left_24 a b c d
    rw [e1, e2] at h3
    rw [e3, e4] at h4
    rw [e1, e2, e3, e4, met_24, met_24, met_24', met_24']
    have m1 := maxI_is a c
    have m2 := minI_is d b
    omega
end Go.Proofs.Ytdlfmifkjmajpaa
