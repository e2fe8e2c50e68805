/-
  Stage 8, flow: the rows are all of the code. No Go in sight; and 'at'.
-/
import Derived.Test.YtjmknpkmbghgdaaFHead
namespace Go.Proofs.Ytjmknpkmbghgdaa
namespace F
open Go.RowKit
open T

/-- Rows that go from one to another, each begun just at a first. -/
def CutsTo (f : Nat → Bool) : List (Nat × Nat) → Nat → Nat → Prop
  | [], m, n => m = n
  | (a, b) :: P, m, n => a = m ∧ a ≤ b ∧ b < n ∧ f a = true ∧ (∀ p, a < p → p ≤ b → f p = false) ∧ CutsTo f P (b + 1) n
theorem cuts_more {f : Nat → Bool} : ∀ {P : List (Nat × Nat)} {m n : Nat}, CutsTo f P m n → f n = true → CutsTo f (P ++ [(n, n)]) m (n + 1)
  | [], m, n, h, hf => by
    have h : m = n := h
    subst h
    exact ⟨rfl, Nat.le_refl _, by omega, hf, fun p h1 h2 => by omega, rfl⟩
  | (a, b) :: P, m, n, h, hf => by
    obtain ⟨h1, h2, h3, h4, h5, h6⟩ := h
    exact ⟨h1, h2, by omega, h4, h5, cuts_more h6 hf⟩
theorem cuts_up {f : Nat → Bool} : ∀ {P : List (Nat × Nat)} {m n : Nat}, CutsTo f P m n → P ≠ [] → f n = false → CutsTo f (upL n P) m (n + 1)
  | [(a, b)], m, n, h, _, hf => by
    obtain ⟨h1, h2, h3, h4, h5, h6⟩ := h
    have h6 : b + 1 = n := h6
    refine ⟨h1, by omega, by omega, h4, fun p g1 g2 => ?_, rfl⟩
    by_cases e : p = n
    · rw [e]; exact hf
    · exact h5 p g1 (by omega)
  | (a, b) :: y :: P, m, n, h, _, hf => by
    obtain ⟨h1, h2, h3, h4, h5, h6⟩ := h
    exact ⟨h1, h2, by omega, h4, h5, cuts_up h6 (by simp) hf⟩
theorem cuts_bl (f : Nat → Bool) (h0 : f 0 = true) : ∀ j, CutsTo f (blF f j) 0 j
  | 0 => rfl
  | j + 1 => by
    have ih := cuts_bl f h0 j
    rw [blF]
    split
    · rename_i h; exact cuts_more ih h
    · rename_i h
      have hj : 0 < j := by
        rcases Nat.eq_zero_or_pos j with r | r
        · subst r; exact absurd h0 h
        · exact r
      exact cuts_up ih (blF_ne f h0 j hj) (by simpa using h)
theorem cuts_le {f : Nat → Bool} : ∀ {P : List (Nat × Nat)} {m n : Nat}, CutsTo f P m n → m ≤ n
  | [], m, n, h => Nat.le_of_eq h
  | (a, b) :: P, m, n, h => by
    obtain ⟨h1, h2, h3, h4, h5, h6⟩ := h
    omega
theorem adS_of {s : Nat → Bool} {q : Nat} (x : Int) (h : s q = true) : adS s x q = true := by simp [adS, h]
theorem fs3_mono {i : Ins} {s : Nat → Bool} {k q : Nat} (h : s q = true) : fs3 k i s q = true := by
  have g1 : fs1 i s q = true := by unfold fs1; split <;> simp [h]
  have g2 : fs2 i s q = true := by unfold fs2; split <;> simp [adS, g1]
  unfold fs3
  split
  · exact g2
  · exact adS_of _ g2
theorem fsC_mono {L : List Ins} {s : Nat → Bool} {q : Nat} : ∀ {j k : Nat}, j ≤ k → fsC L s j q = true → fsC L s k q = true := by
  intro j k hjk h
  induction k with
  | zero =>
    have : j = 0 := by omega
    subst this; exact h
  | succ k ih =>
    by_cases e : j = k + 1
    · subst e; exact h
    · have := ih (by omega)
      rw [fsC]
      cases L[k]? with
      | none => exact this
      | some i => exact fs3_mono this
theorem fir_entry {L : List Ins} {E : List Int} {q : Nat} (h : (q : Int) ∈ E) : firF L E q = true := by
  refine fsC_mono (Nat.zero_le _) ?_
  show (E.take E.length).foldl adS _ q = true
  rw [List.take_length]
  have key : ∀ (E : List Int) (s : Nat → Bool), (s q = true ∨ (q : Int) ∈ E) → E.foldl adS s q = true := by
    intro E
    induction E with
    | nil => intro s h; simpa using h
    | cons x E ih =>
      intro s h
      refine ih _ ?_
      rcases h with r | r
      · exact .inl (adS_of x r)
      · rcases List.mem_cons.1 r with t | t
        · exact .inl (by simp [adS, t])
        · exact .inr t
  exact key E _ (.inr h)
theorem fir_at {L : List Ins} {E : List Int} {p q : Nat} (hp : p < L.length) (h : ∀ s, fs3 p L[p] s q = true) : firF L E q = true := by
  refine fsC_mono (j := p + 1) (by omega) ?_
  rw [fsC_step L _ p hp]
  exact h _
theorem fir_all {L : List Ins} {E : List Int} {p : Nat} (hp : p < L.length) (hw : wayN L[p].op = 3) (q : Nat) : firF L E q = true := by
  refine fir_at hp (fun s => ?_)
  have g1 : fs1 L[p] s q = true := by simp [fs1, hw]
  have g2 : fs2 L[p] s q = true := by unfold fs2; split <;> simp [adS, g1]
  unfold fs3
  split
  · exact g2
  · exact adS_of _ g2
theorem fir_tgt {L : List Ins} {E : List Int} {p q : Nat} (hp : p < L.length) (hw : wayN L[p].op = 1 ∨ wayN L[p].op = 2) (hm : (q : Int) = L[p].m) : firF L E q = true := by
  refine fir_at hp (fun s => ?_)
  have ht : tgtB (wayN L[p].op) = true := by rcases hw with r | r <;> rw [r] <;> rfl
  have g2 : fs2 L[p] s q = true := by unfold fs2; rw [if_pos ht]; simp [adS, hm]
  unfold fs3
  split
  · exact g2
  · exact adS_of _ g2
theorem fir_next {L : List Ins} {E : List Int} {p : Nat} (hp : p < L.length) (hw : wayN L[p].op ≠ 0) : firF L E (p + 1) = true := by
  refine fir_at hp (fun s => ?_)
  unfold fs3
  rw [if_neg hw]
  simp [adS]
/-- What is no first comes behind the one ahead of it alone. -/
theorem inner_fol {L : List Ins} {E : List Int} {p q : Nat} (hf : folB L p q = true) (hq : firF L E q = false) : q = p + 1 := by
  have hp := folB_lt' hf
  rcases way_cases L[p].op with hy | hy | hy | hy | hy
  · simp [folB, hp, wyF, hy] at hf
  · rw [fir_all hp hy q] at hq; cases hq
  · rw [fol_jump hp hy] at hf
    simp at hf
    rw [fir_tgt hp (.inl hy) hf.2] at hq; cases hq
  · rw [fol_branch hp hy] at hf
    simp at hf
    rcases hf.2 with r | r
    · rw [fir_tgt hp (.inr hy) r] at hq; cases hq
    · exact r
  · rw [fol_next hp hy] at hf
    simp at hf
    exact hf.2
theorem inner_next {L : List Ins} {E : List Int} {p : Nat} (hp : p + 1 < L.length) (hq : firF L E (p + 1) = false) : nxtI L p = [(p : Int) + 1] := by
  have hp' : p < L.length := by omega
  have hw : wayN L[p].op = 0 := by
    by_cases e : wayN L[p].op = 0
    · exact e
    · rw [fir_next hp' e] at hq; cases hq
  refine sorted_ext _ _ (nxt_sorted L p) (pw1 _) (fun x => ?_)
  rw [mem_nxt hp', mem1]
  constructor
  · rintro ⟨q, rfl, h⟩
    rw [fol_next hp' hw] at h
    simp at h
    omega
  · rintro rfl
    exact ⟨p + 1, by simp, by rw [fol_next hp' hw]; simp [hp]⟩
set_option maxHeartbeats 1000000 in
theorem at_any (g n c : Nat) (f : Nat → Bool) (i : Int) (w : World) (h : At w g (boolA n f)) : Calls Try.prog 12 #[.slice (some ⟨g, 0, none⟩) n c, .int .i64 i] w fun e w' => e = .returned (.bool (thB n i && f i.toNat)) ∧ w' = w := by
  by_cases h1 : 0 ≤ i
  · by_cases h2 : i < n
    · obtain ⟨k, rfl⟩ := Int.eq_ofNat_of_zero_le h1
      have e0 : thB n (k : Int) = true := by simp [thB]; omega
      rw [e0]
      have hc := boolA_at h k (by omega)
      have hl := h.1
      simp only [Bool.true_and, Int.toNat_natCast]
      replace h := Hid.mk h
      replace e0 := Hid.mk e0
      go_enter Try.func12, Try.ntmps12
      go_wp2_with fail
      go_ret
      exact ⟨rfl, rfl⟩
    · have e0 : thB n i = false := by simp [thB, h2]
      rw [e0]
      simp only [Bool.false_and]
      replace h := Hid.mk h
      go_enter Try.func12, Try.ntmps12
      go_wp2_with fail
      go_ret
      exact ⟨rfl, rfl⟩
  · have e0 : thB n i = false := by simp [thB, h1]
    rw [e0]
    simp only [Bool.false_and]
    replace h := Hid.mk h
    go_enter Try.func12, Try.ntmps12
    go_wp2_with fail
    go_ret
    exact ⟨rfl, rfl⟩
/-- A truth is written. -/
theorem boolA_put {w : World} {g n : Nat} {f f' : Nat → Bool} (h : At w g (boolA n f)) (k : Nat) (b : Bool) (hk : k < n) (hf : ∀ q, q < n → f' q = if q = k then b else f q) : At (w.setCell ⟨g, k, none⟩ (.bool b)) g (boolA n f') := by
  have := h.set k (.bool b) (by simpa [boolA] using hk)
  have e : (boolA n f).setIfInBounds k (.bool b) = boolA n f' := by
    apply Array.ext_getElem?
    intro q
    by_cases hq : q = k
    · subst hq
      simp [boolA, hk, hf q hk]
    · rw [Array.getElem?_setIfInBounds_ne (fun r => hq r.symm)]
      by_cases hl : q < n
      · simp [boolA, hl, hf q hl, hq]
      · simp [boolA, hl]
  rw [e] at this
  exact this
theorem boolA_new (w : World) (n : Nat) (t : TypeId) : At (w.alloc (.cells (Array.replicate n (.bool false)) t)) w.heap.size (boolA n fun _ => false) := by
  have := At.new w (Array.replicate n (.bool false)) t
  have e : Array.replicate n (Value.bool false) = boolA n fun _ => false := by
    apply Array.ext_getElem?
    intro q
    by_cases hl : q < n
    · simp [boolA, hl]
    · simp [boolA, hl]
  rw [← e]
  exact this
end F
end Go.Proofs.Ytjmknpkmbghgdaa
