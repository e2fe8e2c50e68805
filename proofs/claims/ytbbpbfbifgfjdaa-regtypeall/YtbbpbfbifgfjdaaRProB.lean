/-
  Stage 9, regtype: the program's intBuilt, capBuilt, known.
-/
import Derived.Test.YtbbpbfbifgfjdaaRPro
namespace Go.Proofs.Ytbbpbfbifgfjdaa
namespace R
open Go.RowKit

def RT.intB (r : RT) : Bool := r.eqB ⟨1, r.n, Sp.no, Sp.no, Sp.no, 0, 0, 0⟩ && !decide (r.n.hi < r.n.lo)
def RT.capB (r : RT) : Bool := decide (r.k = 2) && decide (r.n.lo = 0 ∧ r.n.hi = 0) && !decide (r.b.hi < r.b.lo) && !decide (r.e.hi < r.e.lo) && !decide (r.p.hi < r.p.lo) && amg r.mu r.ma && amg r.ma 127 && decide (-1 ≤ r.s) && decide (r.s ≤ 15)
set_option maxHeartbeats 2000000 in
theorem pIntBuilt_any (r : RT) (w : World) : Calls Try.prog 44 #[r.agg] w fun x w' => x = .returned (.bool r.intB) ∧ Gr w w' := by
  have q1 := fun W => eqRT r ⟨1, r.n, Sp.no, Sp.no, Sp.no, 0, 0, 0⟩ W
  have hE := T.Hid.mk (fun W => pEmpty_any r.n.lo r.n.hi W)
  unfold RT.intB
  generalize r.eqB ⟨1, r.n, Sp.no, Sp.no, Sp.no, 0, 0, 0⟩ = u at *
  generalize decide (r.n.hi < r.n.lo) = v at *
  obtain ⟨k, ⟨n1, n2⟩, ⟨b1, b2⟩, ⟨e1, e2⟩, ⟨p1, p2⟩, mu, ma, s⟩ := r
  simp only [RT.agg, Sp.no, Int.cast_ofNat_Int] at q1 hE ⊢
  have L1 := grow_cell
  have L2 := grow_frozen
  have L3 := grow_set
  have L4 := grow_lt
  have L5 := glt1
  have L6 := glt2
  have L7 := glt3
  have L8 := lt1
  have L9 := lt2
  have L10 := lt3
  have L11 := lt4
  cases u
  all_goals
    go_enter Try.func44, Try.ntmps44
    go_wp2_with (go_at_call 59; refine (hE.out _).mono ?_; rintro x w' ⟨rfl, l, rfl⟩; (try (rw [← grow_app]; generalize _ ++ l = lm)))
    all_goals
      go_ret
      refine ⟨ret_bool (by simp_all), ?_⟩
      repeat (first | exact Gr.refl _ | refine Gr.alloc ?_ _ | refine Gr.grow ?_ _ | refine Gr.drew ?_)
set_option maxHeartbeats 8000000 in
theorem pCapBuilt_any (r : RT) (w : World) (hr : r.Rng) : Calls Try.prog 45 #[r.agg] w fun x w' => x = .returned (.bool r.capB) ∧ Gr w w' := by
  have h1 : 0 ≤ (r.mu : Int) ∧ (r.mu : Int) < 256 := by have := hr.2.2.2.2.1; omega
  have h2 : 0 ≤ (r.ma : Int) ∧ (r.ma : Int) < 256 := by have := hr.2.2.2.2.2; omega
  have h3 : 0 ≤ (127 : Int) ∧ (127 : Int) < 256 := by decide
  have u1 := amI_nat r.mu r.ma
  have u2 := amI_127 r.ma
  unfold RT.capB
  rw [← u1, ← u2]
  clear hr u1 u2
  obtain ⟨k, ⟨n1, n2⟩, ⟨b1, b2⟩, ⟨e1, e2⟩, ⟨p1, p2⟩, mu, ma, s⟩ := r
  simp only [RT.agg] at h1 h2 ⊢
  generalize (mu : Int) = mu at *
  generalize (ma : Int) = ma at *
  replace h1 := T.Hid.mk h1
  replace h2 := T.Hid.mk h2
  replace h3 := T.Hid.mk h3
  have L1 := grow_cell
  have L2 := grow_frozen
  have L3 := grow_set
  have L4 := grow_lt
  have L5 := glt1
  have L6 := glt2
  have L7 := glt3
  have L8 := glt4
  have L9 := lt1
  have L10 := lt2
  have L11 := lt3
  have L12 := lt4
  have L13 := lt5
  go_enter Try.func45, Try.ntmps45
  go_wp2_with (first | (go_at_call 59; refine (pEmpty_any _ _ _).mono ?_; rintro x w' ⟨rfl, l, rfl⟩; (try (rw [← grow_app]; generalize _ ++ l = lm))) | (go_at_call 32; refine (pAmong_int _ _ _ (by first | exact h1.out | exact h2.out | exact h3.out) (by first | exact h1.out | exact h2.out | exact h3.out)).mono ?_; rintro x w' ⟨rfl, rfl⟩))
  all_goals
    go_ret
    refine ⟨ret_bool (by simp_all <;> omega), ?_⟩
    repeat (first | exact Gr.refl _ | refine Gr.alloc ?_ _ | refine Gr.grow ?_ _ | refine Gr.drew ?_)
theorem capB_iff (r : RT) : r.capB = true ↔ r.k = 2 ∧ r.ri = true := by
  unfold RT.capB RT.ri
  by_cases h : r.k = 2
  · rw [if_neg (by omega), if_neg (by omega), if_pos h]
    simp only [h, Sp.eq_iff, Sp.no, Bool.and_eq_true, decide_eq_true_eq, Bool.not_eq_true', decide_eq_false_iff_not, true_and]
    constructor
    · rintro ⟨⟨⟨⟨⟨⟨⟨h1, h2⟩, h3⟩, h4⟩, h5⟩, h6⟩, h7⟩, h8⟩
      exact ⟨⟨⟨⟨⟨by omega, by omega, by omega⟩, h5⟩, h6⟩, h1⟩, h7, h8⟩
    · rintro ⟨⟨⟨⟨⟨h1, h2, h3⟩, h5⟩, h6⟩, h4⟩, h7, h8⟩
      exact ⟨⟨⟨⟨⟨⟨⟨h4, by omega⟩, by omega⟩, by omega⟩, h5⟩, h6⟩, h7⟩, h8⟩
  · simp [h]
theorem intB_iff (r : RT) : r.intB = true ↔ r.k = 1 ∧ r.ri = true := by
  unfold RT.intB RT.ri
  by_cases h : r.k = 1
  · rw [if_neg (by omega), if_pos h]
    unfold RT.eqB RT.capAll
    rw [Bool.and_eq_true, decide_eq_true_eq, decide_eq_true_eq, Bool.not_eq_true', decide_eq_false_iff_not]
    constructor
    · rintro ⟨⟨_, _, h1⟩, h2⟩
      exact ⟨h, h1, by omega⟩
    · rintro ⟨_, h1, h2⟩
      exact ⟨⟨h, rfl, h1⟩, by omega⟩
  · simp [RT.eqB, h]
theorem known_ri (r : RT) : r.nm.rt = if (r.intB || r.capB) = true then r else RT.zero := by
  rw [nm_ri]
  by_cases h : (r.intB || r.capB) = true
  · rw [if_pos h, if_pos]
    rw [Bool.or_eq_true, capB_iff, intB_iff] at h
    exact h.elim And.right And.right
  · rw [if_neg h]
    split
    · rename_i hr
      rw [Bool.or_eq_true, capB_iff, intB_iff] at h
      have h0 : r.k = 0 := by
        unfold RT.ri at hr
        by_cases h0 : r.k = 0
        · exact h0
        · exfalso
          by_cases h1 : r.k = 1
          · exact h (.inl ⟨h1, by unfold RT.ri; exact hr⟩)
          · by_cases h2 : r.k = 2
            · exact h (.inr ⟨h2, by unfold RT.ri; exact hr⟩)
            · rw [if_neg h0, if_neg h1, if_neg h2] at hr
              cases hr
      unfold RT.ri at hr
      rw [if_pos h0, decide_eq_true_eq] at hr
      obtain ⟨h1, h2, h3, h4, h5, h6, h7⟩ := hr
      cases r
      simp_all [RT.zero]
    · rfl
set_option maxHeartbeats 4000000 in
theorem pKnown_any (r : RT) (w : World) (hr : r.Rng) : Calls Try.prog 24 #[r.agg] w fun x w' => x = .returned r.nm.rt.agg ∧ Gr w w' := by
  have hI := T.Hid.mk (fun W => pIntBuilt_any r W)
  have hC := T.Hid.mk (fun W => pCapBuilt_any r W hr)
  rw [known_ri r]
  clear hr
  generalize r.intB = u at *
  generalize r.capB = v at *
  obtain ⟨k, ⟨n1, n2⟩, ⟨b1, b2⟩, ⟨e1, e2⟩, ⟨p1, p2⟩, mu, ma, s⟩ := r
  simp only [RT.agg] at hI hC
  have L1 := grow_cell
  have L2 := grow_frozen
  have L3 := grow_set
  have L4 := grow_lt
  have L5 := glt1
  have L6 := glt2
  have L7 := glt3
  have L8 := lt1
  have L9 := lt2
  have L10 := lt3
  have L11 := lt4
  cases u
  · cases v
    · rw [if_neg (by simp)]
      simp only [RT.agg, RT.zero, Sp.no, Int.cast_ofNat_Int]
      go_enter Try.func24, Try.ntmps24
      go_wp2_with (first | (go_at_call 44; refine (hI.out _).mono ?_; rintro x w' ⟨rfl, l, rfl⟩; (try (rw [← grow_app]; generalize _ ++ l = lm))) | (go_at_call 45; refine (hC.out _).mono ?_; rintro x w' ⟨rfl, l, rfl⟩; (try (rw [← grow_app]; generalize _ ++ l = lm))))
      clear hI hC
      simp [bodyPost, results, Try.results24, go_sem, *]
      repeat (first | exact Gr.refl _ | refine Gr.alloc ?_ _ | refine Gr.grow ?_ _ | refine Gr.drew ?_)
    · rw [if_pos (by simp)]
      simp only [RT.agg]
      go_enter Try.func24, Try.ntmps24
      go_wp2_with (first | (go_at_call 44; refine (hI.out _).mono ?_; rintro x w' ⟨rfl, l, rfl⟩; (try (rw [← grow_app]; generalize _ ++ l = lm))) | (go_at_call 45; refine (hC.out _).mono ?_; rintro x w' ⟨rfl, l, rfl⟩; (try (rw [← grow_app]; generalize _ ++ l = lm))))
      clear hI hC
      simp [bodyPost, results, Try.results24, go_sem, *]
      repeat (first | exact Gr.refl _ | refine Gr.alloc ?_ _ | refine Gr.grow ?_ _ | refine Gr.drew ?_)
  · rw [if_pos (by simp)]
    simp only [RT.agg]
    go_enter Try.func24, Try.ntmps24
    go_wp2_with (first | (go_at_call 44; refine (hI.out _).mono ?_; rintro x w' ⟨rfl, l, rfl⟩; (try (rw [← grow_app]; generalize _ ++ l = lm))) | (go_at_call 45; refine (hC.out _).mono ?_; rintro x w' ⟨rfl, l, rfl⟩; (try (rw [← grow_app]; generalize _ ++ l = lm))))
    clear hI hC
    simp [bodyPost, results, Try.results24, go_sem, *]
    repeat (first | exact Gr.refl _ | refine Gr.alloc ?_ _ | refine Gr.grow ?_ _ | refine Gr.drew ?_)
end R
end Go.Proofs.Ytbbpbfbifgfjdaa
