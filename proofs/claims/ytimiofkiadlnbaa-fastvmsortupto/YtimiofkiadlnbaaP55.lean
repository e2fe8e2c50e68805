import Derived.Test.YtimiofkiadlnbaaP54
/-
  Stage 13, fastvm: the sort program sorts. No Go in sight.
-/
namespace Go.Proofs.Ytimiofkiadlnbaa
namespace Z
open Go.RowKit
open T (Sep Ob Kp Mf FlIn boxOb)

/-- At a place of the list. -/
def Sc8 (V : List Int) (i : Nat) (s : Fm) : Prop := ∃ r m, Hld 9 r [] [] m s ∧ r 5 = (i : Int) ∧ r 9 = (V.length : Int) ∧ (0 < V.length → r 3 = 3) ∧ Lst8 m V
theorem inc_w (j : Nat) (h : j ≤ 100) : IntKind.u64.wrap ((j : Int) + 1) = ((j + 1 : Nat) : Int) := by rw [IntKind.wrap_u64]; omega
theorem sc_begin (L : List Int) : Gts L.length 2 (Rd8 L L.length) (Sc8 L 0) := by
  rintro s ⟨r, m, h, h1, h9, h3, hm⟩
  rw [List.drop_length] at h
  have q1 := srt_bge_yes (n := L.length) (p := 2) (a := 1) (b := 9) (c := 0) (v := 8) (r := r) (inp := []) (out := []) (m := m) rfl (by rw [h1, h9]; omega)
  have q2 := srt_li (n := L.length) (p := 8) (a := 5) (b := 0) (c := 0) (v := 0) (r := r) (inp := []) (out := []) (m := m) rfl
  refine ⟨_, _, (q1.trans q2) s h, rfl, ?_, fun q => ?_, fun k hk => hm k hk hk⟩
  · rw [← h9]; rfl
  · rw [← h3 q]; rfl
theorem sc_done (V : List Int) (i : Nat) (hi : V.length ≤ i + 1) (hi2 : i ≤ 100) : Gts V.length 3 (Sc8 V i) (Wr8 V 0) := by
  rintro s ⟨r, m, h, h5, h9, h3, hm⟩
  have q1 := srt_addi (n := V.length) (p := 9) (a := 6) (b := 5) (c := 0) (v := 1) (r := r) (inp := []) (out := []) (m := m) rfl
  rw [h5, inc_w i hi2] at q1
  have q2 := srt_bge_yes (n := V.length) (p := 10) (a := 6) (b := 9) (c := 0) (v := 19) (r := updR r 6 ((i + 1 : Nat) : Int)) (inp := []) (out := []) (m := m) rfl (by
    show r 9 ≤ ((i + 1 : Nat) : Int)
    rw [h9]; omega)
  have q3 := srt_li (n := V.length) (p := 19) (a := 5) (b := 0) (c := 0) (v := 0) (r := updR r 6 ((i + 1 : Nat) : Int)) (inp := []) (out := []) (m := m) rfl
  refine ⟨_, _, _, ((q1.trans q2).trans q3) s h, rfl, ?_, fun q => ?_, hm⟩
  · rw [← h9]; rfl
  · rw [← h3 q]; rfl
/-- Up to where both are at hand. -/
theorem sc_look (V : List Int) (hl : V.length ≤ 10) (i : Nat) (hi : i + 1 < V.length) : Gts V.length 6 (Sc8 V i) (fun s => ∃ r m, Hld 15 r [] [] m s ∧ r 5 = ((i + 1 : Nat) : Int) ∧ r 9 = (V.length : Int) ∧ r 3 = 3 ∧ r 4 = 8 * (i : Int) ∧ r 7 = V[i] ∧ r 8 = V[i + 1] ∧ Lst8 m V) := by
  rintro s ⟨r, m, h, h5, h9, h30, hm⟩
  have h3 := h30 (by omega)
  have q1 := srt_addi (n := V.length) (p := 9) (a := 6) (b := 5) (c := 0) (v := 1) (r := r) (inp := []) (out := []) (m := m) rfl
  rw [h5, inc_w i (by omega)] at q1
  have q2 := srt_bge_no (n := V.length) (p := 10) (a := 6) (b := 9) (c := 0) (v := 19) (r := updR r 6 ((i + 1 : Nat) : Int)) (inp := []) (out := []) (m := m) rfl (by
    show ¬ r 9 ≤ ((i + 1 : Nat) : Int)
    rw [h9]; omega)
  have q3 := srt_shl (n := V.length) (p := 11) (a := 4) (b := 5) (c := 3) (v := 0) (r := updR r 6 ((i + 1 : Nat) : Int)) (inp := []) (out := []) (m := m) rfl
  have e1 : updR r 6 ((i + 1 : Nat) : Int) 5 = (i : Int) := by rw [← h5]; rfl
  have e2 : updR r 6 ((i + 1 : Nat) : Int) 3 = 3 := by rw [← h3]; rfl
  rw [e1, e2, shl3 i (by omega)] at q3
  have q4 := srt_lw (n := V.length) (p := 12) (a := 7) (b := 4) (c := 0) (v := 256) (r := updR (updR r 6 ((i + 1 : Nat) : Int)) 4 (8 * (i : Int))) (inp := []) (out := []) (m := m) (256 + 8 * i) rfl (by
    show IntKind.u64.wrap (8 * (i : Int) + 256) = _
    have := at256 i 256 (by omega) (by omega)
    rw [show ((8 * i + 256 : Nat) : Int) = ((256 + 8 * i : Nat) : Int) by omega] at this
    exact this) (by omega)
  have e3 : ((T.leB m (256 + 8 * i) 8 : Nat) : Int) = V[i] := hm i (by omega)
  rw [e3] at q4
  have q5 := srt_lw (n := V.length) (p := 13) (a := 8) (b := 4) (c := 0) (v := 264) (r := updR (updR (updR r 6 ((i + 1 : Nat) : Int)) 4 (8 * (i : Int))) 7 V[i]) (inp := []) (out := []) (m := m) (256 + 8 * (i + 1)) rfl (by
    show IntKind.u64.wrap (8 * (i : Int) + 264) = _
    have := at256 i 264 (by omega) (by omega)
    rw [show ((8 * i + 264 : Nat) : Int) = ((256 + 8 * (i + 1) : Nat) : Int) by omega] at this
    exact this) (by omega)
  have e4 : ((T.leB m (256 + 8 * (i + 1)) 8 : Nat) : Int) = V[i + 1] := hm (i + 1) (by omega)
  rw [e4] at q5
  have q6 := srt_addi (n := V.length) (p := 14) (a := 5) (b := 5) (c := 0) (v := 1) (r := updR (updR (updR (updR r 6 ((i + 1 : Nat) : Int)) 4 (8 * (i : Int))) 7 V[i]) 8 V[i + 1]) (inp := []) (out := []) (m := m) rfl
  have e5 : updR (updR (updR (updR r 6 ((i + 1 : Nat) : Int)) 4 (8 * (i : Int))) 7 V[i]) 8 V[i + 1] 5 = (i : Int) := by rw [← h5]; rfl
  rw [e5, inc_w i (by omega)] at q6
  refine ⟨_, _, (((((q1.trans q2).trans q3).trans q4).trans q5).trans q6) s h, rfl, ?_, ?_, rfl, rfl, rfl, hm⟩
  · rw [← h9]; rfl
  · rw [← h3]; rfl
/-- Both are in order: one further on. -/
theorem sc_next (V : List Int) (hl : V.length ≤ 10) (i : Nat) (hi : i + 1 < V.length) (ho : V[i] ≤ V[i + 1]) : Gts V.length 7 (Sc8 V i) (Sc8 V (i + 1)) := by
  refine Gts.trans (k := 6) (j := 1) (sc_look V hl i hi) ?_
  rintro s ⟨r, m, h, h5, h9, h3, _, h7, h8, hm⟩
  have q1 := srt_bge_yes (n := V.length) (p := 15) (a := 8) (b := 7) (c := 0) (v := 9) (r := r) (inp := []) (out := []) (m := m) rfl (by rw [h7, h8]; exact ho)
  exact ⟨_, _, q1 s h, h5, h9, fun _ => h3, hm⟩
/-- They are not: they change their places, and all begins anew. -/
def swp (V : List Int) (i : Nat) : List Int := (V.set i (V.getD (i + 1) 0)).set (i + 1) (V.getD i 0)
theorem sc_swap (V : List Int) (hl : V.length ≤ 10) (hw : ∀ x ∈ V, Wd x) (i : Nat) (hi : i + 1 < V.length) (ho : ¬ V[i] ≤ V[i + 1]) : Gts V.length 11 (Sc8 V i) (Sc8 (swp V i) 0) := by
  refine Gts.trans (k := 6) (j := 5) (sc_look V hl i hi) ?_
  rintro s ⟨r, m, h, h5, h9, h3, h4, h7, h8, hm⟩
  have w1 := hw _ (List.getElem_mem (show i < V.length by omega))
  have w2 := hw _ (List.getElem_mem hi)
  have q1 := srt_bge_no (n := V.length) (p := 15) (a := 8) (b := 7) (c := 0) (v := 9) (r := r) (inp := []) (out := []) (m := m) rfl (by rw [h7, h8]; exact ho)
  have q2 := srt_sw (n := V.length) (p := 16) (a := 8) (b := 4) (c := 0) (v := 256) (r := r) (inp := []) (out := []) (m := m) (256 + 8 * i) rfl (by
    rw [h4]
    have := at256 i 256 (by omega) (by omega)
    rw [show ((8 * i + 256 : Nat) : Int) = ((256 + 8 * i : Nat) : Int) by omega] at this
    exact this) (by omega)
  have q3 := srt_sw (n := V.length) (p := 17) (a := 7) (b := 4) (c := 0) (v := 264) (r := r) (inp := []) (out := []) (m := T.putB m (256 + 8 * i) (r 8).toNat 8) (256 + 8 * (i + 1)) rfl (by
    rw [h4]
    have := at256 i 264 (by omega) (by omega)
    rw [show ((8 * i + 264 : Nat) : Int) = ((256 + 8 * (i + 1) : Nat) : Int) by omega] at this
    exact this) (by omega)
  have q4 := srt_jmp (n := V.length) (p := 18) (a := 0) (b := 0) (c := 0) (v := 8) (r := r) (inp := []) (out := []) (m := T.putB (T.putB m (256 + 8 * i) (r 8).toNat 8) (256 + 8 * (i + 1)) (r 7).toNat 8) rfl
  have q5 := srt_li (n := V.length) (p := 8) (a := 5) (b := 0) (c := 0) (v := 0) (r := r) (inp := []) (out := []) (m := T.putB (T.putB m (256 + 8 * i) (r 8).toNat 8) (256 + 8 * (i + 1)) (r 7).toNat 8) rfl
  have hsl : (swp V i).length = V.length := by simp [swp]
  refine ⟨_, _, ((((q1.trans q2).trans q3).trans q4).trans q5) s h, rfl, ?_, fun _ => ?_, fun k hk => ?_⟩
  · rw [hsl, ← h9]; rfl
  · rw [← h3]; rfl
  · rw [hsl] at hk
    rw [wd8_put _ _ _ _ (by rw [h7]; have := w1.1; have := w1.2; omega)]
    by_cases e1 : k = i + 1
    · subst e1
      rw [if_pos rfl, h7]
      have : (swp V i)[i + 1] = V[i] := by simp [swp, show i < V.length by omega]
      rw [this]
      have := w1.1
      omega
    · rw [if_neg e1, wd8_put _ _ _ _ (by rw [h8]; have := w2.1; have := w2.2; omega)]
      by_cases e2 : k = i
      · subst e2
        rw [if_pos rfl, h8]
        have : (swp V k)[k] = V[k + 1] := by simp [swp, hi]
        rw [this]
        have := w2.1
        omega
      · rw [if_neg e2, hm k hk]
        have : (swp V i)[k] = V[k] := by simp [swp, show ¬ i + 1 = k from fun q => e1 q.symm, show ¬ i = k from fun q => e2 q.symm]
        rw [this]
end Z
end Go.Proofs.Ytimiofkiadlnbaa


/-
  Stage 13, fastvm: the sort program ends, and has sorted. No Go in sight.
-/
namespace Go.Proofs.Ytimiofkiadlnbaa
namespace Z
open Go.RowKit
open T (Sep Ob Kp Mf FlIn boxOb)

/-- How many are out of order. -/
def inv8 : List Int → Nat
  | [] => 0
  | x :: l => l.countP (fun y => decide (y < x)) + inv8 l
theorem inv8_le : ∀ V : List Int, inv8 V ≤ V.length * V.length
  | [] => Nat.zero_le _
  | x :: l => by
    have h1 := inv8_le l
    have h2 := List.countP_le_length (p := fun y => decide (y < x)) (l := l)
    show l.countP (fun y => decide (y < x)) + inv8 l ≤ (l.length + 1) * (l.length + 1)
    rw [Nat.add_mul, Nat.mul_add, Nat.one_mul, Nat.mul_one]
    omega
theorem inv8_swap (x y : Int) (h : y < x) (B : List Int) : ∀ A : List Int, inv8 (A ++ y :: x :: B) + 1 = inv8 (A ++ x :: y :: B)
  | [] => by
    show ((x :: B).countP (fun z => decide (z < y)) + (B.countP (fun z => decide (z < x)) + inv8 B)) + 1 = (y :: B).countP (fun z => decide (z < x)) + (B.countP (fun z => decide (z < y)) + inv8 B)
    rw [List.countP_cons, List.countP_cons, if_neg (by simp; omega), if_pos (by simp; omega)]
    omega
  | a :: A => by
    have ih := inv8_swap x y h B A
    show ((A ++ y :: x :: B).countP (fun z => decide (z < a)) + inv8 (A ++ y :: x :: B)) + 1 = (A ++ x :: y :: B).countP (fun z => decide (z < a)) + inv8 (A ++ x :: y :: B)
    have e : (A ++ y :: x :: B).countP (fun z => decide (z < a)) = (A ++ x :: y :: B).countP (fun z => decide (z < a)) := List.Perm.countP_eq _ (List.Perm.append_left A (List.Perm.swap x y B))
    rw [e]
    omega
theorem swp_app (x y : Int) (B : List Int) : ∀ A : List Int, swp (A ++ x :: y :: B) A.length = A ++ y :: x :: B
  | [] => rfl
  | a :: A => by
    have ih := swp_app x y B A
    show a :: swp (A ++ x :: y :: B) A.length = a :: (A ++ y :: x :: B)
    rw [ih]
theorem parts8 (V : List Int) (i : Nat) (hi : i + 1 < V.length) : V = V.take i ++ V[i] :: V[i + 1] :: V.drop (i + 1 + 1) := by
  rw [← List.drop_eq_getElem_cons hi, ← List.drop_eq_getElem_cons (show i < V.length by omega), List.take_append_drop]
theorem swp_parts (V : List Int) (i : Nat) (hi : i + 1 < V.length) : swp V i = V.take i ++ V[i + 1] :: V[i] :: V.drop (i + 1 + 1) := by
  have h := swp_app V[i] V[i + 1] (V.drop (i + 1 + 1)) (V.take i)
  rw [← parts8 V i hi, List.length_take, Nat.min_eq_left (by omega)] at h
  exact h
theorem swp_perm (V : List Int) (i : Nat) (hi : i + 1 < V.length) : (swp V i).Perm V := by
  rw [swp_parts V i hi]
  exact (List.Perm.append_left _ (List.Perm.swap V[i] V[i + 1] _)).trans (List.Perm.of_eq (parts8 V i hi).symm)
theorem swp_inv (V : List Int) (i : Nat) (hi : i + 1 < V.length) (ho : ¬ V[i] ≤ V[i + 1]) : inv8 (swp V i) + 1 = inv8 V := by
  rw [swp_parts V i hi, inv8_swap V[i] V[i + 1] (by omega), ← parts8 V i hi]
/-- In order, each with the next. -/
def Srt8 (V : List Int) : Prop := ∀ k (h : k + 1 < V.length), V[k] ≤ V[k + 1]
theorem sort_from : ∀ (N : Nat) (V : List Int) (i : Nat), inv8 V * 11 + (V.length - i) ≤ N → V.length ≤ 10 → (∀ x ∈ V, Wd x) → i ≤ 10 → (∀ k (h : k + 1 < V.length), k < i → V[k] ≤ V[k + 1]) → ∃ k V', k ≤ inv8 V * 81 + 7 * (V.length - i) + 3 ∧ V'.Perm V ∧ Srt8 V' ∧ Gts V.length k (Sc8 V i) (Wr8 V' 0) := by
  intro N
  induction N with
  | zero =>
    intro V i hN hl _ hi up
    exact ⟨3, V, by omega, List.Perm.refl V, fun k h => up k h (by omega), sc_done V i (by omega) (by omega)⟩
  | succ N ih =>
    intro V i hN hl hw hi up
    by_cases hd : V.length ≤ i + 1
    · exact ⟨3, V, by omega, List.Perm.refl V, fun k h => up k h (by omega), sc_done V i hd (by omega)⟩
    · have hi1 : i + 1 < V.length := by omega
      by_cases ho : V[i] ≤ V[i + 1]
      · obtain ⟨k, V', h1, h2, h3, h4⟩ := ih V (i + 1) (by omega) hl hw (by omega) (fun k h hk => by
          by_cases e : k = i
          · subst e; exact ho
          · exact up k h (by omega))
        exact ⟨7 + k, V', by omega, h2, h3, (sc_next V hl i hi1 ho).trans h4⟩
      · have e1 := swp_inv V i hi1 ho
        have e2 : (swp V i).length = V.length := (swp_perm V i hi1).length_eq
        obtain ⟨k, V', h1, h2, h3, h4⟩ := ih (swp V i) 0 (by rw [e2]; omega) (by rw [e2]; exact hl) (fun x hx => hw x ((swp_perm V i hi1).mem_iff.1 hx)) (by omega) (fun k _ hk => absurd hk (Nat.not_lt_zero k))
        rw [e2] at h1 h4
        exact ⟨11 + k, V', by omega, h2.trans (swp_perm V i hi1), h3, (sc_swap V hl hw i hi1 ho).trans h4⟩
/-- The whole run. -/
theorem sort_all (L : List Int) (hl : L.length ≤ 10) (hw : ∀ x ∈ L, Wd x) : ∃ k V, k ≤ 19000 ∧ V.Perm L ∧ Srt8 V ∧ Gts L.length k (Rd8 L 0) (Ovr8 V) := by
  obtain ⟨k, V, h1, h2, h3, h4⟩ := sort_from _ L 0 (Nat.le_refl _) hl hw (by omega) (fun k _ hk => absurd hk (Nat.not_lt_zero k))
  have e := h2.length_eq
  have b := inv8_le L
  have b2 : L.length * L.length ≤ 10 * 10 := Nat.mul_le_mul hl hl
  have q1 := (rd_all L hl hw L.length (Nat.le_refl _)).trans (sc_begin L)
  have q2 := wr_all V (by omega) V.length (Nat.le_refl _)
  have q3 := wr_end V
  rw [e] at q2 q3
  refine ⟨_, V, ?_, h2, h3, ((q1.trans h4).trans (by rw [← e] at q2 ⊢; exact q2)).trans (by rw [← e] at q3 ⊢; exact q3)⟩
  omega
end Z
end Go.Proofs.Ytimiofkiadlnbaa
