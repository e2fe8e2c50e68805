import Derived.Test.YtoppcikacakjcaaP16
/-
  Stage 8, flow: the chapter's examples.
-/
namespace Go.Proofs.Ytoppcikacakjcaa
namespace F
open Go.RowKit
open T

def smp : List Ins := [⟨1, 0, 0, 0, 0⟩, ⟨21, 0, 0, 0, 4⟩, ⟨11, 0, 0, 0, 0⟩, ⟨20, 0, 0, 0, 1⟩, ⟨27, 0, 0, 0, 0⟩, ⟨32, 0, 0, 0, 0⟩]
theorem smp_n : nxtI smp 1 = [2, 4] := by decide
theorem smp_h1 : (hdF smp 6).1 1 = true := by decide
theorem smp_h0 : (hdF smp 6).1 0 = false := by decide
theorem smp_b : blF (firF smp [0]) 6 = [(0, 0), (1, 1), (2, 3), (4, 4), (5, 5)] := by decide
theorem smp_fol : ∀ p q, p < 6 → folB smp p q = true → (p = 0 ∧ q = 1) ∨ (p = 1 ∧ (q = 2 ∨ q = 4)) ∨ (p = 2 ∧ q = 3) ∨ (p = 3 ∧ q = 1) := by
  intro p q hp h
  have hq := folB_lt h
  have hq : q < 6 := hq
  have : ∀ p : Fin 6, ∀ q : Fin 6, folB smp p.val q.val = true → (p.val = 0 ∧ q.val = 1) ∨ (p.val = 1 ∧ (q.val = 2 ∨ q.val = 4)) ∨ (p.val = 2 ∧ q.val = 3) ∨ (p.val = 3 ∧ q.val = 1) := by decide
  exact this ⟨p, hp⟩ ⟨q, hq⟩ h
theorem smp_R {R : List Bk} (h : R.map Bk.fl = blF (firF smp [0]) 6) : ∃ r0 r1 n r3 r4, R = [r0, r1] ++ ⟨2, 3, n⟩ :: [r3, r4] := by
  rw [smp_b] at h
  have hl : R.length = 5 := by have := congrArg List.length h; simpa using this
  obtain ⟨r0, r1, ⟨f, l, n⟩, r3, r4, rfl⟩ : ∃ r0 r1 r2 r3 r4, R = [r0, r1, r2, r3, r4] := by
    rcases R with _ | ⟨r0, _ | ⟨r1, _ | ⟨r2, _ | ⟨r3, _ | ⟨r4, _ | ⟨r5, R⟩⟩⟩⟩⟩⟩ <;> simp at hl
    exact ⟨r0, r1, r2, r3, r4, rfl⟩
  simp [Bk.fl] at h
  obtain ⟨_, _, ⟨h1, h2⟩, _, _⟩ := h
  subst h1 h2
  exact ⟨r0, r1, n, r3, r4, rfl⟩
theorem smp_l4 : rchB smp [0] (-1) 4 = true := by
  rw [rchB_iff]
  exact Rch.step (p := 1) (Rch.step (p := 0) (Rch.base (by simp) (by decide) (by decide)) (by decide) (by decide)) (by decide) (by decide)
theorem smp_l5 : rchB smp [0] (-1) 5 = false := by
  cases h : rchB smp [0] (-1) 5 with
  | false => rfl
  | true =>
    rw [rchB_iff] at h
    have key : ∀ q, Rch smp [0] (-1) q → q ≠ 5 := by
      intro q hq
      induction hq with
      | base h1 _ _ => simp at h1; omega
      | step h1 h2 h3 ih =>
        have := smp_fol _ _ h1.lt h2
        omega
    exact absurd rfl (key 5 h)
theorem smp_d1 : domB smp [0] 1 4 = true := by
  have h : rchB smp [0] 1 4 = false := by
    cases h : rchB smp [0] 1 4 with
    | false => rfl
    | true =>
      rw [rchB_iff] at h
      have key : ∀ q, Rch smp [0] 1 q → q = 0 := by
        intro q hq
        induction hq with
        | base h1 _ _ => simp at h1; omega
        | step h1 h2 h3 ih =>
          subst ih
          have := smp_fol _ _ (by omega) h2
          omega
      exact absurd (key 4 h) (by omega)
  have e1 : thB smp.length 1 = true := by decide
  have e2 : thB smp.length 4 = true := by decide
  show (thB smp.length 1 && thB smp.length 4 && (decide ((1 : Int) = 4) || !rchB smp [0] (-1) 4 || !rchB smp [0] 1 4)) = true
  rw [e1, e2, h, smp_l4]
  rfl
theorem smp_d2 : domB smp [0] 2 4 = false := by
  have h : rchB smp [0] 2 4 = true := by
    rw [rchB_iff]
    exact Rch.step (p := 1) (Rch.step (p := 0) (Rch.base (by simp) (by decide) (by decide)) (by decide) (by decide)) (by decide) (by decide)
  have e1 : thB smp.length 2 = true := by decide
  have e2 : thB smp.length 4 = true := by decide
  show (thB smp.length 2 && thB smp.length 4 && (decide ((2 : Int) = 4) || !rchB smp [0] (-1) 4 || !rchB smp [0] 2 4)) = false
  rw [e1, e2, h, smp_l4]
  rfl
theorem lin_at {w : World} {k : Nat} {L : List Ins} (h : At w k (flat L).toArray) : LIn (k + 1) w (some ⟨k, 0, none⟩) L := by
  intro i hi
  have hc : ∀ j, j < 5 → w.cell? ⟨k, 0 + i * 5 + j, none⟩ = (L[i]).vals[j]? := fun j hj => by
    rw [h.2.1, List.getElem?_toArray, Nat.zero_add, flat_get L i j hi hj]
  exact ⟨k, 0, rfl, Nat.lt_succ_self _, h.1, hc 0 (by omega), hc 1 (by omega), hc 2 (by omega), hc 3 (by omega), hc 4 (by omega)⟩
theorem boolA_at {w : World} {g n : Nat} {f : Nat → Bool} (h : At w g (boolA n f)) (k : Nat) (hk : k < n) : w.cell? ⟨g, k, none⟩ = some (.bool (f k)) := by
  rw [h.2.1]
  simp [boolA, hk]
set_option maxHeartbeats 1000000 in
theorem sample_any (w : World) : Calls Try.prog 16 #[] w fun e w' => e = .returned (.slice (some ⟨w.heap.size, 0, none⟩) 6 6) ∧ w' = w.alloc (.cells (flat smp).toArray 49) := by
  go_enter Try.func16, Try.ntmps16
  go_wp2_with fail
  go_ret
  exact ⟨rfl, rfl⟩
theorem own_here {w : World} {lo : Nat} {v : Value} {l : List Int} (h : IOwn w lo v l) (hl : l ≠ []) : ∃ g cap, v = .slice (some ⟨g, 0, none⟩) l.length cap ∧ lo ≤ g ∧ g < w.heap.size := by
  rcases h.2 with ⟨_, h0⟩ | ⟨g, cap, cur, hv, hb, hh, _⟩
  · exact absurd (List.length_eq_zero_iff.1 h0) hl
  · exact ⟨g, cap, hv, hb, (Array.getElem?_eq_some_iff.1 hh).1⟩
set_option maxRecDepth 100000 in
set_option maxHeartbeats 4000000 in
theorem head_any (w : World) : Calls Try.prog 4 #[] w fun e w' => e = .returned (.bool true) ∧ Below w.heap.size w w' := by
  have hA := At.new w (flat smp).toArray 49
  have hL0 : LIn (w.heap.size + 1) (w.alloc (.cells (flat smp).toArray 49)) (some ⟨w.heap.size, 0, none⟩) smp := lin_at hA
  have hW0 : Below w.heap.size w (w.alloc (.cells (flat smp).toArray 49)) := by (repeat (first | assumption | with_reducible exact Below.refl _ _ | with_reducible refine Below.alloc ?_ (by simp <;> omega) _ | with_reducible refine Below.setCell ?_ (by simp <;> omega) _ | with_reducible refine Below.drew ?_))
  have hS := sample_any w
  have hs1 : (w.alloc (.cells (flat smp).toArray 49)).heap.size = w.heap.size + 1 := World.size_alloc _ _
  generalize (w.alloc (.cells (flat smp).toArray 49)) = w1 at *
  have hL := fun W (q : Below w1.heap.size w1 W) => (hL0.below (q.mono (by omega))).mono (show w.heap.size + 1 ≤ W.heap.size by have := q.size; omega)
  have hN := fun W (q : Below w1.heap.size w1 W) => Next_any smp (some ⟨w.heap.size, 0, none⟩) 6 1 W (hL W q) (by decide)
  have hR := fun W (q : Below w1.heap.size w1 W) => Reached_any smp [0] 6 1 (some ⟨w.heap.size, 0, none⟩) (some ⟨W.heap.size, 0, none⟩) (W.alloc (.cells #[.int .i64 0] 3)) (hL _ (q.alloc q.size _)) (nin_one W 0) (fun e => by cases e) (by decide) (by decide)
  have hH := fun W (q : Below w1.heap.size w1 W) => Heads_any smp (some ⟨w.heap.size, 0, none⟩) 6 W (hL W q) (by decide)
  have hB := fun W (q : Below w1.heap.size w1 W) => Blocks_any smp [0] (some ⟨w.heap.size, 0, none⟩) (some ⟨W.heap.size, 0, none⟩) 6 1 (W.alloc (.cells #[.int .i64 0] 3)) (hL _ (q.alloc q.size _)) (nin_one W 0) (by decide) (by decide)
  have hD := fun a W (q : Below w1.heap.size w1 W) => Dominates_any smp [0] 6 1 (some ⟨w.heap.size, 0, none⟩) (some ⟨W.heap.size, 0, none⟩) a 4 (W.alloc (.cells #[.int .i64 0] 3)) (hL _ (q.alloc q.size _)) (nin_one W 0) (fun e => by cases e) (by decide) (by decide)
  rw [smp_n] at hN
  have e6 : smp.length = 6 := rfl
  simp only [e6, List.length_cons, List.length_nil, Nat.zero_add] at hN hR hH hB hD
  replace hL0 := Hid.mk hL0
  replace hA := Hid.mk hA
  replace hW0 := Hid.mk hW0
  replace hS := Hid.mk hS
  replace hN := Hid.mk hN
  replace hR := Hid.mk hR
  replace hH := Hid.mk hH
  replace hB := Hid.mk hB
  replace hD := Hid.mk hD
  clear hL e6
  go_enter Try.func4, Try.ntmps4
  go_wp2_with (first | (go_at_call 16; refine hS.out.mono ?_; rintro x w1' ⟨rfl, rfl⟩) | (go_at_call 17; refine (hN.out _ (Below.refl _ _)).mono ?_; rintro x w2 ⟨v, rfl, n1, n2⟩; obtain ⟨gn, cn, rfl, n3, n4⟩ := own_here n1 (by simp); have nc0 := own_cell n1 0 (by simp); have nc1 := own_cell n1 1 (by simp); simp only [List.getElem_cons_zero, List.getElem_cons_succ] at nc0 nc1; clear n1; replace n2 := Hid.mk n2; replace nc0 := Hid.mk nc0; replace nc1 := Hid.mk nc1) | (go_at_call 18; refine (hR.out _ n2.out).mono ?_; rintro x w3 ⟨gl, rfl, l1, l2, l3⟩; have lc4 := (boolA_at l2 4 (by omega)).trans (by rw [smp_l4]); have lc5 := (boolA_at l2 5 (by omega)).trans (by rw [smp_l5]); have lt3 := l2.1; have b3 := ((Below.refl _ w2).alloc (Nat.le_refl _) _).trans (l3.mono (by simp)); have c3 := Hid.mk (n2.out.trans (b3.mono n2.out.size)); clear l1 l2 l3; replace b3 := Hid.mk b3; replace lc4 := Hid.mk lc4; replace lc5 := Hid.mk lc5) | (go_at_call 19; refine (hH.out _ c3.out).mono ?_; rintro x w4 ⟨gh, rfl, h1, h2, h3⟩; have hc1 := (boolA_at h2 1 (by omega)).trans (by rw [smp_h1]); have hc0 := (boolA_at h2 0 (by omega)).trans (by rw [smp_h0]); have lt4 := h2.1; have c4 := Hid.mk (c3.out.trans (h3.mono c3.out.size)); clear h1 h2; have b4 := Hid.mk h3; clear h3; replace hc1 := Hid.mk hc1; replace hc0 := Hid.mk hc0) | (go_at_call 7; refine (hB.out _ c4.out).mono ?_; rintro x w5 ⟨v, R, rfl, k1, k2, k3⟩; obtain ⟨r0, r1, nn, r3, r4, rfl⟩ := smp_R k2; obtain ⟨gb, cb, rfl, k4, k5⟩ := k1.row.here (by simp); have bc0 := BR.cell k1.row 0 (by omega); have bc1 := BR.cell k1.row 1 (by omega); simp only [Bk.vals, List.length_cons, List.length_nil, List.getElem?_cons_zero, List.getElem?_cons_succ] at bc0 bc1; simp only [List.length_append, List.length_cons, List.length_nil]; have b5 := ((Below.refl _ w4).alloc (Nat.le_refl _) _).trans (k3.mono (by simp)); have c5 := Hid.mk (c4.out.trans (b5.mono c4.out.size)); clear k1 k2 k3 k4; replace b5 := Hid.mk b5; replace bc0 := Hid.mk bc0; replace bc1 := Hid.mk bc1) | (go_at_call 20; refine (hD.out _ _ c6.out).mono ?_; rintro x w7 ⟨rfl, d1⟩; rw [smp_d2]; have b7 := ((Below.refl _ w6).alloc (Nat.le_refl _) _).trans (d1.mono (by simp)); have c7 := Hid.mk (c6.out.trans (b7.mono c6.out.size)); have t57 := b6.out.trans (b7.mono b6.out.size); have t47 := b5.out.trans (t57.mono b5.out.size); have t37 := b4.out.trans (t47.mono b4.out.size); have t27 := b3.out.trans (t37.mono b3.out.size); have f0 := (t27.cell (p := ⟨gn, 0, none⟩) n4).trans nc0.out; have f1 := (t27.cell (p := ⟨gn, 1, none⟩) n4).trans nc1.out; have f2 := (t37.cell (p := ⟨gl, 4, none⟩) lt3).trans lc4.out; have f3 := (t37.cell (p := ⟨gl, 5, none⟩) lt3).trans lc5.out; have f4 := (t47.cell (p := ⟨gh, 1, none⟩) lt4).trans hc1.out; have f5 := (t47.cell (p := ⟨gh, 0, none⟩) lt4).trans hc0.out; have f6 : w7.cell? ⟨gb, 6, none⟩ = some (.int .i64 2) := (t57.cell (p := ⟨gb, 6, none⟩) k5).trans bc0.out; have f7 : w7.cell? ⟨gb, 7, none⟩ = some (.int .i64 3) := (t57.cell (p := ⟨gb, 7, none⟩) k5).trans bc1.out; clear t27 t37 t47 t57 d1 b7) | (go_at_call 20; refine (hD.out _ _ c5.out).mono ?_; rintro x w6 ⟨rfl, d1⟩; rw [smp_d1]; have b6 := ((Below.refl _ w5).alloc (Nat.le_refl _) _).trans (d1.mono (by simp)); have c6 := Hid.mk (c5.out.trans (b6.mono c5.out.size)); clear d1; replace b6 := Hid.mk b6))
  go_ret
  exact ⟨rfl, hW0.out.trans (c7.out.mono (by omega))⟩
end F
end Go.Proofs.Ytoppcikacakjcaa


/-
  Stage 8, flow: the rows are all of the code. No Go in sight; and 'at'.
-/
namespace Go.Proofs.Ytoppcikacakjcaa
namespace F
open Go.RowKit
open T

/-- Rows that go from one to another, each begun just at a first. -/
def CutsTo (f : Nat → Bool) : List (Nat × Nat) → Nat → Nat → Prop
  | [], m, n => m = n
  | (a, b) :: P, m, n => a = m ∧ a ≤ b ∧ b < n ∧ f a = true ∧ (∀ p, a < p → p ≤ b → f p = false) ∧ CutsTo f P (b + 1) n
theorem cuts_more {f : Nat → Bool} : ∀ {P : List (Nat × Nat)} {m n : Nat}, CutsTo f P m n → f n = true → CutsTo f (P ++ [(n, n)]) m (n + 1)
  | [], m, n, h, hf => by
    have h : m = n := h
    subst h
    exact ⟨rfl, Nat.le_refl _, by omega, hf, fun p h1 h2 => by omega, rfl⟩
  | (a, b) :: P, m, n, h, hf => by
    obtain ⟨h1, h2, h3, h4, h5, h6⟩ := h
    exact ⟨h1, h2, by omega, h4, h5, cuts_more h6 hf⟩
theorem cuts_up {f : Nat → Bool} : ∀ {P : List (Nat × Nat)} {m n : Nat}, CutsTo f P m n → P ≠ [] → f n = false → CutsTo f (upL n P) m (n + 1)
  | [(a, b)], m, n, h, _, hf => by
    obtain ⟨h1, h2, h3, h4, h5, h6⟩ := h
    have h6 : b + 1 = n := h6
    refine ⟨h1, by omega, by omega, h4, fun p g1 g2 => ?_, rfl⟩
    by_cases e : p = n
    · rw [e]; exact hf
    · exact h5 p g1 (by omega)
  | (a, b) :: y :: P, m, n, h, _, hf => by
    obtain ⟨h1, h2, h3, h4, h5, h6⟩ := h
    exact ⟨h1, h2, by omega, h4, h5, cuts_up h6 (by simp) hf⟩
theorem cuts_bl (f : Nat → Bool) (h0 : f 0 = true) : ∀ j, CutsTo f (blF f j) 0 j
  | 0 => rfl
  | j + 1 => by
    have ih := cuts_bl f h0 j
    rw [blF]
    split
    · rename_i h; exact cuts_more ih h
    · rename_i h
      have hj : 0 < j := by
        rcases Nat.eq_zero_or_pos j with r | r
        · subst r; exact absurd h0 h
        · exact r
      exact cuts_up ih (blF_ne f h0 j hj) (by simpa using h)
theorem cuts_le {f : Nat → Bool} : ∀ {P : List (Nat × Nat)} {m n : Nat}, CutsTo f P m n → m ≤ n
  | [], m, n, h => Nat.le_of_eq h
  | (a, b) :: P, m, n, h => by
    obtain ⟨h1, h2, h3, h4, h5, h6⟩ := h
    omega
theorem adS_of {s : Nat → Bool} {q : Nat} (x : Int) (h : s q = true) : adS s x q = true := by simp [adS, h]
theorem fs3_mono {i : Ins} {s : Nat → Bool} {k q : Nat} (h : s q = true) : fs3 k i s q = true := by
  have g1 : fs1 i s q = true := by unfold fs1; split <;> simp [h]
  have g2 : fs2 i s q = true := by unfold fs2; split <;> simp [adS, g1]
  unfold fs3
  split
  · exact g2
  · exact adS_of _ g2
theorem fsC_mono {L : List Ins} {s : Nat → Bool} {q : Nat} : ∀ {j k : Nat}, j ≤ k → fsC L s j q = true → fsC L s k q = true := by
  intro j k hjk h
  induction k with
  | zero =>
    have : j = 0 := by omega
    subst this; exact h
  | succ k ih =>
    by_cases e : j = k + 1
    · subst e; exact h
    · have := ih (by omega)
      rw [fsC]
      cases L[k]? with
      | none => exact this
      | some i => exact fs3_mono this
theorem fir_entry {L : List Ins} {E : List Int} {q : Nat} (h : (q : Int) ∈ E) : firF L E q = true := by
  refine fsC_mono (Nat.zero_le _) ?_
  show (E.take E.length).foldl adS _ q = true
  rw [List.take_length]
  have key : ∀ (E : List Int) (s : Nat → Bool), (s q = true ∨ (q : Int) ∈ E) → E.foldl adS s q = true := by
    intro E
    induction E with
    | nil => intro s h; simpa using h
    | cons x E ih =>
      intro s h
      refine ih _ ?_
      rcases h with r | r
      · exact .inl (adS_of x r)
      · rcases List.mem_cons.1 r with t | t
        · exact .inl (by simp [adS, t])
        · exact .inr t
  exact key E _ (.inr h)
theorem fir_at {L : List Ins} {E : List Int} {p q : Nat} (hp : p < L.length) (h : ∀ s, fs3 p L[p] s q = true) : firF L E q = true := by
  refine fsC_mono (j := p + 1) (by omega) ?_
  rw [fsC_step L _ p hp]
  exact h _
theorem fir_all {L : List Ins} {E : List Int} {p : Nat} (hp : p < L.length) (hw : wayN L[p].op = 3) (q : Nat) : firF L E q = true := by
  refine fir_at hp (fun s => ?_)
  have g1 : fs1 L[p] s q = true := by simp [fs1, hw]
  have g2 : fs2 L[p] s q = true := by unfold fs2; split <;> simp [adS, g1]
  unfold fs3
  split
  · exact g2
  · exact adS_of _ g2
theorem fir_tgt {L : List Ins} {E : List Int} {p q : Nat} (hp : p < L.length) (hw : wayN L[p].op = 1 ∨ wayN L[p].op = 2) (hm : (q : Int) = L[p].m) : firF L E q = true := by
  refine fir_at hp (fun s => ?_)
  have ht : tgtB (wayN L[p].op) = true := by rcases hw with r | r <;> rw [r] <;> rfl
  have g2 : fs2 L[p] s q = true := by unfold fs2; rw [if_pos ht]; simp [adS, hm]
  unfold fs3
  split
  · exact g2
  · exact adS_of _ g2
theorem fir_next {L : List Ins} {E : List Int} {p : Nat} (hp : p < L.length) (hw : wayN L[p].op ≠ 0) : firF L E (p + 1) = true := by
  refine fir_at hp (fun s => ?_)
  unfold fs3
  rw [if_neg hw]
  simp [adS]
/-- What is no first comes behind the one ahead of it alone. -/
theorem inner_fol {L : List Ins} {E : List Int} {p q : Nat} (hf : folB L p q = true) (hq : firF L E q = false) : q = p + 1 := by
  have hp := folB_lt' hf
  rcases way_cases L[p].op with hy | hy | hy | hy | hy
  · simp [folB, hp, wyF, hy] at hf
  · rw [fir_all hp hy q] at hq; cases hq
  · rw [fol_jump hp hy] at hf
    simp at hf
    rw [fir_tgt hp (.inl hy) hf.2] at hq; cases hq
  · rw [fol_branch hp hy] at hf
    simp at hf
    rcases hf.2 with r | r
    · rw [fir_tgt hp (.inr hy) r] at hq; cases hq
    · exact r
  · rw [fol_next hp hy] at hf
    simp at hf
    exact hf.2
theorem inner_next {L : List Ins} {E : List Int} {p : Nat} (hp : p + 1 < L.length) (hq : firF L E (p + 1) = false) : nxtI L p = [(p : Int) + 1] := by
  have hp' : p < L.length := by omega
  have hw : wayN L[p].op = 0 := by
    by_cases e : wayN L[p].op = 0
    · exact e
    · rw [fir_next hp' e] at hq; cases hq
  refine sorted_ext _ _ (nxt_sorted L p) (pw1 _) (fun x => ?_)
  rw [mem_nxt hp', mem1]
  constructor
  · rintro ⟨q, rfl, h⟩
    rw [fol_next hp' hw] at h
    simp at h
    omega
  · rintro rfl
    exact ⟨p + 1, by simp, by rw [fol_next hp' hw]; simp [hp]⟩
/-- A truth is written. -/
theorem boolA_put {w : World} {g n : Nat} {f f' : Nat → Bool} (h : At w g (boolA n f)) (k : Nat) (b : Bool) (hk : k < n) (hf : ∀ q, q < n → f' q = if q = k then b else f q) : At (w.setCell ⟨g, k, none⟩ (.bool b)) g (boolA n f') := by
  have := h.set k (.bool b) (by simpa [boolA] using hk)
  have e : (boolA n f).setIfInBounds k (.bool b) = boolA n f' := by
    apply Array.ext_getElem?
    intro q
    by_cases hq : q = k
    · subst hq
      simp [boolA, hk, hf q hk]
    · rw [Array.getElem?_setIfInBounds_ne (fun r => hq r.symm)]
      by_cases hl : q < n
      · simp [boolA, hl, hf q hl, hq]
      · simp [boolA, hl]
  rw [e] at this
  exact this
theorem boolA_new (w : World) (n : Nat) (t : TypeId) : At (w.alloc (.cells (Array.replicate n (.bool false)) t)) w.heap.size (boolA n fun _ => false) := by
  have := At.new w (Array.replicate n (.bool false)) t
  have e : Array.replicate n (Value.bool false) = boolA n fun _ => false := by
    apply Array.ext_getElem?
    intro q
    by_cases hl : q < n
    · simp [boolA, hl]
    · simp [boolA, hl]
  rw [← e]
  exact this
end F
end Go.Proofs.Ytoppcikacakjcaa
