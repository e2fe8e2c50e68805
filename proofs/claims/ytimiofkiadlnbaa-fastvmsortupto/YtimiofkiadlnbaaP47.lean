import Derived.Test.YtimiofkiadlnbaaP46
import Derived.Test.YtimiofkiadlnbaaP41
import Derived.Test.YtimiofkiadlnbaaP36
/-
  Stage 13, fastvm: the sort program ends, and has sorted. No Go in sight.
-/
namespace Go.Proofs.Ytimiofkiadlnbaa
namespace Z
open Go.RowKit
open T (Sep Ob Kp Mf FlIn boxOb)

/-- How many are out of order. -/
def inv8 : List Int → Nat
  | [] => 0
  | x :: l => l.countP (fun y => decide (y < x)) + inv8 l
theorem inv8_le : ∀ V : List Int, inv8 V ≤ V.length * V.length
  | [] => Nat.zero_le _
  | x :: l => by
    have h1 := inv8_le l
    have h2 := List.countP_le_length (p := fun y => decide (y < x)) (l := l)
    show l.countP (fun y => decide (y < x)) + inv8 l ≤ (l.length + 1) * (l.length + 1)
    rw [Nat.add_mul, Nat.mul_add, Nat.one_mul, Nat.mul_one]
    omega
theorem inv8_swap (x y : Int) (h : y < x) (B : List Int) : ∀ A : List Int, inv8 (A ++ y :: x :: B) + 1 = inv8 (A ++ x :: y :: B)
  | [] => by
    show ((x :: B).countP (fun z => decide (z < y)) + (B.countP (fun z => decide (z < x)) + inv8 B)) + 1 = (y :: B).countP (fun z => decide (z < x)) + (B.countP (fun z => decide (z < y)) + inv8 B)
    rw [List.countP_cons, List.countP_cons, if_neg (by simp; omega), if_pos (by simp; omega)]
    omega
  | a :: A => by
    have ih := inv8_swap x y h B A
    show ((A ++ y :: x :: B).countP (fun z => decide (z < a)) + inv8 (A ++ y :: x :: B)) + 1 = (A ++ x :: y :: B).countP (fun z => decide (z < a)) + inv8 (A ++ x :: y :: B)
    have e : (A ++ y :: x :: B).countP (fun z => decide (z < a)) = (A ++ x :: y :: B).countP (fun z => decide (z < a)) := List.Perm.countP_eq _ (List.Perm.append_left A (List.Perm.swap x y B))
    rw [e]
    omega
theorem swp_app (x y : Int) (B : List Int) : ∀ A : List Int, swp (A ++ x :: y :: B) A.length = A ++ y :: x :: B
  | [] => rfl
  | a :: A => by
    have ih := swp_app x y B A
    show a :: swp (A ++ x :: y :: B) A.length = a :: (A ++ y :: x :: B)
    rw [ih]
theorem parts8 (V : List Int) (i : Nat) (hi : i + 1 < V.length) : V = V.take i ++ V[i] :: V[i + 1] :: V.drop (i + 1 + 1) := by
  rw [← List.drop_eq_getElem_cons hi, ← List.drop_eq_getElem_cons (show i < V.length by omega), List.take_append_drop]
theorem swp_parts (V : List Int) (i : Nat) (hi : i + 1 < V.length) : swp V i = V.take i ++ V[i + 1] :: V[i] :: V.drop (i + 1 + 1) := by
  have h := swp_app V[i] V[i + 1] (V.drop (i + 1 + 1)) (V.take i)
  rw [← parts8 V i hi, List.length_take, Nat.min_eq_left (by omega)] at h
  exact h
theorem swp_perm (V : List Int) (i : Nat) (hi : i + 1 < V.length) : (swp V i).Perm V := by
  rw [swp_parts V i hi]
  exact (List.Perm.append_left _ (List.Perm.swap V[i] V[i + 1] _)).trans (List.Perm.of_eq (parts8 V i hi).symm)
theorem swp_inv (V : List Int) (i : Nat) (hi : i + 1 < V.length) (ho : ¬ V[i] ≤ V[i + 1]) : inv8 (swp V i) + 1 = inv8 V := by
  rw [swp_parts V i hi, inv8_swap V[i] V[i + 1] (by omega), ← parts8 V i hi]
/-- In order, each with the next. -/
def Srt8 (V : List Int) : Prop := ∀ k (h : k + 1 < V.length), V[k] ≤ V[k + 1]
theorem sort_from : ∀ (N : Nat) (V : List Int) (i : Nat), inv8 V * 11 + (V.length - i) ≤ N → V.length ≤ 10 → (∀ x ∈ V, Wd x) → i ≤ 10 → (∀ k (h : k + 1 < V.length), k < i → V[k] ≤ V[k + 1]) → ∃ k V', k ≤ inv8 V * 81 + 7 * (V.length - i) + 3 ∧ V'.Perm V ∧ Srt8 V' ∧ Gts V.length k (Sc8 V i) (Wr8 V' 0) := by
  intro N
  induction N with
  | zero =>
    intro V i hN hl _ hi up
    exact ⟨3, V, by omega, List.Perm.refl V, fun k h => up k h (by omega), sc_done V i (by omega) (by omega)⟩
  | succ N ih =>
    intro V i hN hl hw hi up
    by_cases hd : V.length ≤ i + 1
    · exact ⟨3, V, by omega, List.Perm.refl V, fun k h => up k h (by omega), sc_done V i hd (by omega)⟩
    · have hi1 : i + 1 < V.length := by omega
      by_cases ho : V[i] ≤ V[i + 1]
      · obtain ⟨k, V', h1, h2, h3, h4⟩ := ih V (i + 1) (by omega) hl hw (by omega) (fun k h hk => by
          by_cases e : k = i
          · subst e; exact ho
          · exact up k h (by omega))
        exact ⟨7 + k, V', by omega, h2, h3, (sc_next V hl i hi1 ho).trans h4⟩
      · have e1 := swp_inv V i hi1 ho
        have e2 : (swp V i).length = V.length := (swp_perm V i hi1).length_eq
        obtain ⟨k, V', h1, h2, h3, h4⟩ := ih (swp V i) 0 (by rw [e2]; omega) (by rw [e2]; exact hl) (fun x hx => hw x ((swp_perm V i hi1).mem_iff.1 hx)) (by omega) (fun k _ hk => absurd hk (Nat.not_lt_zero k))
        rw [e2] at h1 h4
        exact ⟨11 + k, V', by omega, h2.trans (swp_perm V i hi1), h3, (sc_swap V hl hw i hi1 ho).trans h4⟩
/-- The whole run. -/
theorem sort_all (L : List Int) (hl : L.length ≤ 10) (hw : ∀ x ∈ L, Wd x) : ∃ k V, k ≤ 19000 ∧ V.Perm L ∧ Srt8 V ∧ Gts L.length k (Rd8 L 0) (Ovr8 V) := by
  obtain ⟨k, V, h1, h2, h3, h4⟩ := sort_from _ L 0 (Nat.le_refl _) hl hw (by omega) (fun k _ hk => absurd hk (Nat.not_lt_zero k))
  have e := h2.length_eq
  have b := inv8_le L
  have b2 : L.length * L.length ≤ 10 * 10 := Nat.mul_le_mul hl hl
  have q1 := (rd_all L hl hw L.length (Nat.le_refl _)).trans (sc_begin L)
  have q2 := wr_all V (by omega) V.length (Nat.le_refl _)
  have q3 := wr_end V
  rw [e] at q2 q3
  refine ⟨_, V, ?_, h2, h3, ((q1.trans h4).trans (by rw [← e] at q2 ⊢; exact q2)).trans (by rw [← e] at q3 ⊢; exact q3)⟩
  omega
end Z
end Go.Proofs.Ytimiofkiadlnbaa


/-
  Stage 13, fastvm: the sort program's run, from its beginning on. No Go in sight.
-/
namespace Go.Proofs.Ytimiofkiadlnbaa
namespace Z
open Go.RowKit
open T (Sep Ob Kp Mf FlIn boxOb)

theorem srt_begin (L : List Int) (s : Fm) (hg : s.g = 0) (hp : s.p = 0) (hst : s.st = []) (hi : s.inp = L) (ho : s.out = []) (he : s.e = 0) : Rd8 L 0 (stepsM (srtP L.length) s 2) := by
  have q1 := srt_li (n := L.length) (p := 0) (a := 1) (b := 0) (c := 0) (v := 0) (r := s.r) (inp := L) (out := []) (m := s.m) rfl
  have q2 := srt_li (n := L.length) (p := 1) (a := 9) (b := 0) (c := 0) (v := L.length) (r := updR s.r 1 0) (inp := L) (out := []) (m := s.m) rfl
  exact ⟨_, _, (q1.trans q2) s ⟨hg, hp, rfl, hst, hi, ho, rfl, he⟩, rfl, rfl, fun h => absurd h (Nat.lt_irrefl 0), fun k _ hk => absurd hk (Nat.not_lt_zero k)⟩
/-- Its run with so much fuel is over, and has sorted. -/
theorem srt_run (L : List Int) (hl : L.length ≤ 10) (hw : ∀ x ∈ L, Wd x) (s : Fm) (hg : s.g = 0) (hp : s.p = 0) (hst : s.st = []) (hi : s.inp = L) (ho : s.out = []) (he : s.e = 0) : ∃ V, V.Perm L ∧ Srt8 V ∧ Ovr8 V (runM (srtP L.length) s 20000) := by
  obtain ⟨k, V, h1, h2, h3, h4⟩ := sort_all L hl hw
  have q := h4 _ (srt_begin L s hg hp hst hi ho he)
  rw [← stepsM_add] at q
  have hne : (stepsM (srtP L.length) s (2 + k)).e ≠ 0 := by rw [q.e]; decide
  have e1 : stepsM (srtP L.length) s 20000 = stepsM (srtP L.length) s (2 + k) := by
    rw [show 20000 = (2 + k) + (20000 - (2 + k)) by omega]
    exact stepsM_over _ _ _ _ hne
  refine ⟨V, h2, h3, ?_⟩
  unfold runM
  rw [e1, if_neg hne]
  exact q
end Z
end Go.Proofs.Ytimiofkiadlnbaa


/-
  Stage 13, fastvm: the sort program is in order. No Go in sight.
-/
namespace Go.Proofs.Ytimiofkiadlnbaa
namespace Z
open Go.RowKit
open T (Sep Ob Kp Mf FlIn boxOb)

theorem fi_ok30 (op : Int) (a b c : Nat) (i : Int) (ho : Named op) (ha : a < 16) (hb : b < 16) (hc : c < 16) (hi : 0 ≤ i ∧ i < 18446744073709551616) (hj : 20 ≤ op ∧ op ≤ 24 → i < 30) (hl : op ≠ 31) : Fi.Ok ⟨op, a, b, c, i⟩ 30 1 := ⟨ho, ha, hb, .inl hc, hi, hj, fun q => absurd q hl⟩
theorem srt_len (n : Int) : (srtL n).length = 30 := rfl
set_option maxRecDepth 100000 in
set_option maxHeartbeats 4000000 in
theorem srt_ok (n : Int) (hn : 0 ≤ n ∧ n < 18446744073709551616) : (srtP n).Ok := by
  refine ⟨show (1 : Nat) ≤ 1 ∧ (1 : Nat) ≤ 16 by decide, rfl, show (0 : Int) ≤ 1 ∧ (1 : Int) ≤ 16 by decide, fun r hr => ?_, fun k h h2 => ?_⟩
  · obtain rfl : r = srtL n := by simpa [srtP] using hr
    refine ⟨⟨by rw [srt_len]; decide, by rw [srt_len]; decide⟩, fun i hi => ?_⟩
    rw [srt_len, show (srtP n).gates.length = 1 from rfl]
    simp only [srtL, List.mem_cons, List.not_mem_nil, or_false] at hi
    rcases hi with rfl | rfl | rfl | rfl | rfl | rfl | rfl | rfl | rfl | rfl | rfl | rfl | rfl | rfl | rfl | rfl | rfl | rfl | rfl | rfl | rfl | rfl | rfl | rfl | rfl | rfl | rfl | rfl | rfl | rfl
    all_goals exact fi_ok30 _ _ _ _ _ (by unfold Named; omega) (by decide) (by decide) (by decide) (by first | exact ⟨by decide, by decide⟩ | exact hn) (fun h => by first | exact absurd h (by decide) | decide) (by decide)
  · obtain rfl : k = 0 := by have : k < 1 := h; omega
    exact ⟨show (0 : Nat) < 30 by decide, show (0 : Nat) ≤ 7 by decide, show (0 : Nat) ≤ 7 by decide⟩
theorem srt_rr (n : Int) : (srtP n).Rr := fun k j => by
  unfold Pr.gate
  match k with
  | 0 => exact wd0
  | k + 1 => exact wd0
end Z
end Go.Proofs.Ytimiofkiadlnbaa
