/-
  Stage 9, regtype: the document's right, Norm.
-/
import Derived.Test.YtbbpbfbifgfjdaaREq
namespace Go.Proofs.Ytbbpbfbifgfjdaa
namespace R
open Go.RowKit

set_option maxHeartbeats 4000000 in
theorem right_any (r : RT) (w : World) (hr : r.Rng) : Calls Try.prog 64 #[r.agg] w fun x w' => x = .returned (.bool r.ri) ∧ Gr w w' := by
  have q0 := fun W => eqRT r RT.zero W
  have q1 := fun W => eqRT r ⟨1, r.n, Sp.no, Sp.no, Sp.no, 0, 0, 0⟩ W
  have hA1 := T.Hid.mk (fun W => among_any r.mu r.ma W hr.2.2.2.2.1 hr.2.2.2.2.2)
  have hA2 : T.Hid (∀ W, Calls Try.prog 55 #[.int .u8 r.ma, .int .u8 127] W fun x w' => x = .returned (.bool (amg r.ma 127)) ∧ W = w') := T.Hid.mk (fun W => among_any r.ma 127 W hr.2.2.2.2.2 (by decide))
  clear hr
  by_cases h0 : r.k = 0
  · have e : r.ri = r.eqB RT.zero := by
      unfold RT.ri RT.eqB
      rw [if_pos h0]
      congr 1
      unfold RT.capAll
      simp [h0, RT.zero]
    rw [e]
    generalize r.eqB RT.zero = u at *
    clear q1 hA1 hA2 e
    obtain ⟨k, ⟨n1, n2⟩, ⟨b1, b2⟩, ⟨e1, e2⟩, ⟨p1, p2⟩, mu, ma, s⟩ := r
    simp only [RT.agg, RT.zero, Sp.no, Int.cast_ofNat_Int] at q0 ⊢
    simp only at h0
    subst h0
    go_enter Try.func64, Try.ntmps64
    go_wp2_with fail
    go_ret
    exact ⟨rfl, ((Gr.refl _).alloc _).alloc _⟩
  · clear q0
    by_cases h1 : r.k = 1
    · have e : r.ri = (r.eqB ⟨1, r.n, Sp.no, Sp.no, Sp.no, 0, 0, 0⟩ && decide (r.n.lo ≤ r.n.hi)) := by
        unfold RT.ri RT.eqB
        rw [if_neg h0, if_pos h1, ← Bool.decide_and]
        congr 1
        unfold RT.capAll
        simp [h1]
      rw [e]
      generalize r.eqB ⟨1, r.n, Sp.no, Sp.no, Sp.no, 0, 0, 0⟩ = u at *
      clear hA1 hA2 e
      obtain ⟨k, ⟨n1, n2⟩, ⟨b1, b2⟩, ⟨e1, e2⟩, ⟨p1, p2⟩, mu, ma, s⟩ := r
      simp only [RT.agg, Sp.no, Int.cast_ofNat_Int] at q1 ⊢
      simp only at h1
      subst h1
      cases u
      all_goals
        go_enter Try.func64, Try.ntmps64
        go_wp2_with fail
        all_goals
          go_ret
          refine ⟨ret_bool (by simp_all), ?_⟩
          repeat (first | exact Gr.refl _ | refine Gr.alloc ?_ _ | refine Gr.grow ?_ _ | refine Gr.drew ?_)
    · clear q1
      have e : r.ri = if r.k = 2 then decide (r.b.lo ≤ r.b.hi ∧ r.e.lo ≤ r.e.hi ∧ r.p.lo ≤ r.p.hi) && amg r.mu r.ma && amg r.ma 127 && decide (r.n.lo = 0 ∧ r.n.hi = 0) && decide (-1 ≤ r.s ∧ r.s ≤ 15) else false := by
        unfold RT.ri
        rw [if_neg h0, if_neg h1]
        simp only [Sp.eq_iff, Sp.no]
      rw [e]
      clear e
      generalize amg r.mu r.ma = u1 at *
      generalize amg r.ma 127 = u2 at *
      obtain ⟨k, ⟨n1, n2⟩, ⟨b1, b2⟩, ⟨e1, e2⟩, ⟨p1, p2⟩, mu, ma, s⟩ := r
      simp only [RT.agg] at *
      by_cases h2 : k = 2
      · subst h2
        clear h0 h1
        go_enter Try.func64, Try.ntmps64
        go_upto_region 11 with (go_at_call 55; refine (hA1.out _).mono ?_; rintro x w' ⟨rfl, rfl⟩)
        all_goals
          cases u1
          all_goals
            cases u2
            all_goals
              go_wp2_with (go_at_call 55; refine (hA2.out _).mono ?_; rintro x w' ⟨rfl, rfl⟩)
              all_goals
                go_ret
                refine ⟨ret_bool (by simp_all <;> omega), ?_⟩
                repeat (first | exact Gr.refl _ | refine Gr.alloc ?_ _ | refine Gr.grow ?_ _ | refine Gr.drew ?_)
      · go_enter Try.func64, Try.ntmps64
        go_wp2_with fail
        go_ret
        exact ⟨ret_bool (by simp), ((Gr.refl _).alloc _).alloc _⟩
theorem nm_ri (r : RT) : r.nm.rt = if r.ri = true then r else RT.zero := by
  unfold RT.nm RT.ri
  by_cases h0 : r.k = 0
  · rw [if_pos h0, if_neg (by omega), if_neg (by omega)]
    split
    · rename_i h
      rw [decide_eq_true_eq] at h
      obtain ⟨h1, h2, h3, h4, h5, h6, h7⟩ := h
      cases r
      simp_all [RV.rt]
    · rfl
  · rw [if_neg h0]
    by_cases h1 : r.k = 1
    · rw [if_pos h1]
      by_cases hc : r.capAll
      · rw [if_pos ⟨h1, hc⟩]
        unfold mkInt
        by_cases hn : r.n.lo ≤ r.n.hi
        · rw [if_pos hn, if_pos (by simp [hc, hn])]
          obtain ⟨h2, h3, h4, h5, h6, h7⟩ := hc
          cases r
          simp_all [RV.rt]
        · rw [if_neg hn, if_neg (by simp [hn])]
          rfl
      · rw [if_neg (fun q => hc q.2), if_neg (by omega), if_neg (by simp [hc])]
        rfl
    · rw [if_neg h1, if_neg (fun q => h1 q.1)]
      by_cases h2 : r.k = 2
      · rw [if_pos h2]
        by_cases hn : r.n = Sp.no
        · rw [if_pos ⟨h2, hn⟩]
          unfold mkCap
          by_cases hc : r.b.lo ≤ r.b.hi ∧ r.e.lo ≤ r.e.hi ∧ r.p.lo ≤ r.p.hi ∧ amg r.mu r.ma = true ∧ amg r.ma 127 = true ∧ -1 ≤ r.s ∧ r.s ≤ 15
          · rw [if_pos hc, if_pos (by simp [hc, hn])]
            cases r
            simp_all [RV.rt]
          · rw [if_neg hc, if_neg (fun q => hc ?_)]
            · rfl
            · simp only [Bool.and_eq_true, decide_eq_true_eq] at q
              obtain ⟨⟨⟨⟨⟨q1, q2, q3⟩, q4⟩, q5⟩, _⟩, q7, q8⟩ := q
              exact ⟨q1, q2, q3, q4, q5, q7, q8⟩
        · rw [if_neg (fun q => hn q.2), if_neg (by simp [hn])]
          rfl
      · rw [if_neg h2, if_neg (fun q => h2 q.1), if_neg (by simp)]
        rfl
set_option maxHeartbeats 4000000 in
theorem Norm_any (r : RT) (w : World) (hr : r.Rng) : Calls Try.prog 53 #[r.agg] w fun x w' => x = .returned r.nm.rt.agg ∧ Gr w w' := by
  have hR := T.Hid.mk (fun W => right_any r W hr)
  rw [nm_ri r]
  clear hr
  generalize r.ri = u at *
  obtain ⟨k, ⟨n1, n2⟩, ⟨b1, b2⟩, ⟨e1, e2⟩, ⟨p1, p2⟩, mu, ma, s⟩ := r
  simp only [RT.agg] at hR
  cases u
  · rw [if_neg (by simp)]
    simp only [RT.agg, RT.zero, Sp.no, Int.cast_ofNat_Int]
    have L1 := grow_cell
    have L2 := grow_frozen
    have L3 := grow_set
    have L4 := grow_lt
    have L5 := glt1
    have L6 := glt2
    have L7 := glt3
    have L8 := lt1
    have L9 := lt2
    have L10 := lt3
    have L11 := lt4
    go_enter Try.func53, Try.ntmps53
    go_wp2_with (go_at_call 64; refine (hR.out _).mono ?_; rintro x w' ⟨rfl, l, rfl⟩)
    simp [bodyPost, results, Try.results53, go_sem, grow_cell]
    repeat (first | exact Gr.refl _ | refine Gr.alloc ?_ _ | refine Gr.grow ?_ _ | refine Gr.drew ?_)
  · rw [if_pos rfl]
    simp only [RT.agg]
    have L1 := grow_cell
    have L2 := grow_frozen
    have L3 := grow_set
    have L4 := grow_lt
    have L5 := glt1
    have L6 := glt2
    have L7 := glt3
    have L8 := lt1
    have L9 := lt2
    have L10 := lt3
    have L11 := lt4
    go_enter Try.func53, Try.ntmps53
    go_wp2_with (go_at_call 64; refine (hR.out _).mono ?_; rintro x w' ⟨rfl, l, rfl⟩)
    simp [bodyPost, results, Try.results53, go_sem, grow_cell]
    repeat (first | exact Gr.refl _ | refine Gr.alloc ?_ _ | refine Gr.grow ?_ _ | refine Gr.drew ?_)
end R
end Go.Proofs.Ytbbpbfbifgfjdaa
