/-
  Stage 4, image: how many bytes a right program has, at most. No Go in sight.
-/
import Derived.Test.YthmfaafpdogpdaaDoorMImgW
import Derived.Test.YthmfaafpdogpdaaDoorMRegs
namespace Go.Proofs.YthmfaafpdogpdaaDoor
open Go.RowKit

theorem typB_le (t : PTyp) : (typB t).length ≤ 35 := by
  unfold typB
  split <;> simp [putB_length]
theorem typsB_le (L : List PTyp) : (typsB L).length ≤ 35 * L.length := by
  induction L with
  | nil => simp [typsB]
  | cons t l ih => have := typB_le t; simp only [typsB, List.length_append, List.length_cons]; omega
theorem slotsB_le (L : List PSlot) : (slotsB L).length ≤ 43 * L.length := by
  induction L with
  | nil => simp [slotsB]
  | cons t l ih => have := typB_le t.t; simp only [slotsB, slotB, List.length_append, List.length_cons, putB_length, List.length_nil]; omega
theorem rootsB_le (L : List PRoot) : (rootsB L).length ≤ 27 * L.length := by
  induction L with
  | nil => simp [rootsB]
  | cons t l ih => simp only [rootsB, rootB, List.length_append, List.length_cons, putB_length, List.length_nil]; omega
theorem rootsR_len (L : List PRoot) (f : Int) (h : rootsR L f = true) (hf : f ≤ 15) : (L.length : Int) ≤ 15 - f := by
  induction L generalizing f with
  | nil => simp; omega
  | cons k l ih =>
    rw [rootsR] at h
    by_cases hk : f < k.r ∧ k.r < 16 ∧ dataB k.b k.e k.p k.s = true
    · rw [if_pos hk] at h
      have := ih k.r h (by omega)
      simp only [List.length_cons]
      omega
    · rw [if_neg hk] at h; cases h
theorem encF_le (L : List Ins) (j : Nat) (B : List UInt8) : (encF L j B).1.length ≤ B.length + 8 * L.length := by
  induction L generalizing j B with
  | nil => simp [encF]
  | cons k l ih =>
    rw [encF]
    split
    · have := ih (j + 1) (B ++ bytesOf k)
      rw [List.length_append, bytesOf_length] at this
      simp only [List.length_cons]; omega
    · simp
theorem regB_le {r : PReg} {f : Int} (hb : 0 ≤ r.b) (h : (placeB r.b r.n f && contentB r.n r.data r.slots.length) = true) : (regB r).length ≤ 400000 := by
  rw [Bool.and_eq_true] at h
  have h1 := placeB_in h.1
  have h2 := h.2
  have h3 := slotsB_le r.slots
  unfold regB dataBy
  simp only [List.length_append, putB_length, List.length_cons, List.length_nil]
  unfold contentB at h2
  by_cases hs : 0 < r.slots.length
  · rw [if_pos hs, Bool.and_eq_true, beq_iff_eq] at h2
    rw [if_neg (by omega)]
    simp only [List.length_nil]
    omega
  · rw [if_neg hs, Bool.and_eq_true, decide_eq_true_eq] at h2
    rw [if_pos (by omega)]
    simp only [List.length_append, putB_length, List.length_cons, List.length_nil]
    omega
theorem regsB_le (L : List PReg) (f : Int) (hr : ∀ r ∈ L, r.Rng) (h : regsR L f = 0) : (regsB L).length ≤ 400000 * L.length := by
  induction L generalizing f with
  | nil => simp [regsB]
  | cons r l ih =>
    rw [regsR] at h
    by_cases h1 : (placeB r.b r.n f && contentB r.n r.data r.slots.length) = true
    · rw [if_pos h1] at h
      by_cases h2 : slotsR r.slots = true
      · rw [if_pos h2] at h
        have i1 := ih _ (fun x hx => hr x (by simp [hx])) h
        have i2 := regB_le (hr r (by simp)).1.1 h1
        simp only [regsB, List.length_append, List.length_cons]; omega
      · rw [if_neg h2] at h; omega
    · rw [if_neg h1] at h; omega
theorem compB_le {c : PComp} {g : Int} (h1 : rootsR c.roots 7 = true) (h2 : codeR c.code g = 0) : (compB c).length ≤ 4000 := by
  have i1 := rootsR_len _ _ h1 (by omega)
  have i2 := rootsB_le c.roots
  have i3 := encF_le c.code 0 []
  unfold codeR at h2
  by_cases hl : c.code.length < 1 ∨ 400 < c.code.length
  · rw [if_pos hl] at h2; omega
  · unfold compB codeBy
    simp only [List.length_append, putB_length, List.length_cons, List.length_nil] at *
    omega
theorem compsB_le (g : Int) (L : List PComp) (h : compsR g L = 0) : (compsB L).length ≤ 4000 * L.length := by
  induction L with
  | nil => simp [compsB]
  | cons c l ih =>
    rw [compsR] at h
    by_cases h1 : rootsR c.roots 7 = true
    · rw [if_pos h1] at h
      by_cases h2 : codeR c.code g = 0
      · rw [if_pos h2] at h
        have i1 := ih h
        have i2 := compB_le h1 h2
        simp only [compsB, List.length_append, List.length_cons]; omega
      · rw [if_neg h2] at h; exact absurd h h2
    · rw [if_neg h1] at h; omega
theorem gatesB_le (M : List PComp) (L : List PGate) (h : gatesR M L = 0) : (gatesB L).length ≤ 1000 * L.length := by
  induction L with
  | nil => simp [gatesB]
  | cons c l ih =>
    rw [gatesR] at h
    by_cases h1 : (hasI M c.c c.e && decide (c.args.length ≤ 7) && decide (c.res.length ≤ 7)) = true
    · rw [if_pos h1] at h
      by_cases h2 : (typesR c.args && typesR c.res) = true
      · rw [if_pos h2] at h
        have i1 := ih h
        have i2 := typsB_le c.args
        have i3 := typsB_le c.res
        simp only [Bool.and_eq_true, decide_eq_true_eq] at h1
        simp only [gatesB, gateB, kindsB, List.length_append, List.length_cons, putB_length, List.length_nil]; omega
      · rw [if_neg h2] at h; omega
    · rw [if_neg h1] at h; omega
theorem right_parts {m : PImg} (h : m.right = 0) : countsB m.regs.length m.comps.length m.gates.length m.depth = true ∧ regsR m.regs 0 = 0 ∧ compsR m.gates.length m.comps = 0 ∧ gatesR m.comps m.gates = 0 := by
  unfold PImg.right at h
  by_cases h1 : countsB m.regs.length m.comps.length m.gates.length m.depth = true
  · rw [if_pos h1] at h
    by_cases h2 : regsR m.regs 0 = 0
    · rw [if_pos h2] at h
      by_cases h3 : compsR m.gates.length m.comps = 0
      · rw [if_pos h3] at h
        exact ⟨h1, h2, h3, h⟩
      · rw [if_neg h3] at h; exact absurd h h3
    · rw [if_neg h2] at h; exact absurd h h2
  · rw [if_neg h1] at h; omega
theorem imgB_le {m : PImg} (hr : m.Rng) (h : m.right = 0) : (imgB m).length ≤ 10000000 := by
  obtain ⟨h1, h2, h3, h4⟩ := right_parts h
  have i1 := regsB_le _ _ hr.regs.2 h2
  have i2 := compsB_le _ _ h3
  have i3 := gatesB_le _ _ h4
  unfold countsB at h1
  simp only [Bool.and_eq_true, decide_eq_true_eq] at h1
  unfold imgB magicB
  simp only [List.length_append, putB_length, List.length_cons, List.length_nil]
  omega
/-- What Encode answers. -/
def encI (m : PImg) : List UInt8 × Int := if m.right = 0 then (if (imgB m).length ≤ 40000 then (imgB m, 0) else ([], 42)) else ([], m.right)
end Go.Proofs.YthmfaafpdogpdaaDoor
