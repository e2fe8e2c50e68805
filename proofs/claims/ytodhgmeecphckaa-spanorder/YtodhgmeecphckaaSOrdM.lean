/-
  Stage 2, span: order is kept by Apply, Refine, Join, Meet. No Go in sight.
-/
import Derived.Test.YtodhgmeecphckaaSSndM
namespace Go.Proofs.Ytodhgmeecphckaa
open Go.RowKit

/-- One span lies in another. -/
def Ins (a' b' a b : Int) : Prop := a ≤ a' ∧ a' ≤ b' ∧ b' ≤ b

theorem lenAux_le (f : Nat) : ∀ (n k : Nat), n < 2 ^ k → Lib.bitLenAux f n ≤ k := by
  induction f with
  | zero => intro n k _; exact Nat.zero_le _
  | succ f ih =>
    intro n k h
    rw [Lib.bitLenAux]
    split
    · exact Nat.zero_le _
    · cases k with
      | zero => simp at h; omega
      | succ k =>
        have := ih (n / 2) k (by rw [Nat.pow_succ] at h; omega)
        omega
theorem len_le {n k : Nat} (h : n < 2 ^ k) : Lib.bitLen n ≤ k := lenAux_le 64 n k h
theorem ones_mono {b d b' d' : Int} (hb : W64 b) (hd : W64 d) (hb' : W64 b') (hd' : W64 d') (h1 : b' ≤ b) (h2 : d' ≤ d) : ones b' d' ≤ ones b d := by
  unfold W64 at *
  have e := bits_le (x := b'.toNat) (y := d'.toNat) (b := b.toNat) (d := d.toNat) (by omega) (by omega) (by omega) (by omega)
  have l := len_le (Nat.or_lt_two_pow e.1 e.2)
  have p : (2 : Int) ^ Lib.bitLen (b'.toNat ||| d'.toNat) ≤ 2 ^ Lib.bitLen (b.toNat ||| d.toNat) := pow_mono l
  unfold ones; omega
theorem pro_mono {a b c d a' b' c' d' : Int} (h : Ins a' b' a b) (k : Ins c' d' c d) (ha : W64 a) (hc : W64 c) :
    proLo a b c d ≤ proLo a' b' c' d' ∧ proHi b' d' ≤ proHi b d := by
  unfold Ins W64 at *
  have e1 : b' * d' ≤ b * d := mul_mono (by omega) (by omega) (by omega) (by omega)
  have e2 : a * c ≤ a' * c' := mul_mono (by omega) (by omega) (by omega) (by omega)
  have e3 : a' * c' ≤ b' * d' := mul_mono (by omega) (by omega) (by omega) (by omega)
  have e4 : 0 ≤ a * c := Int.mul_nonneg (by omega) (by omega)
  unfold proLo proHi
  generalize b' * d' = r' at *; generalize b * d = r at *; generalize a * c = p at *; generalize a' * c' = p' at *
  (repeat' split) <;> omega
theorem up_mono {a b c d a' b' c' d' : Int} (h : Ins a' b' a b) (k : Ins c' d' c d) (ha : W64 a) (hc : W64 c) :
    upLo a b c d ≤ upLo a' b' c' d' ∧ upHi b' c' d' ≤ upHi b c d := by
  unfold Ins W64 at *
  have n1 : 0 ≤ upLo a' b' c' d' := by unfold upLo; split; exact Int.emod_nonneg _ (by omega); omega
  have n2 : upHi b' c' d' ≤ 18446744073709551615 := by
    unfold upHi; split
    · have := Int.emod_lt_of_pos (b' * 2 ^ (plc c' d' d').toNat) (b := 18446744073709551616) (by omega); omega
    · omega
  cases hu : upOk b (plc c d d) with
  | false => rw [show upLo a b c d = 0 by unfold upLo; rw [hu]; rfl, show upHi b c d = 18446744073709551615 by unfold upHi; rw [hu]; rfl]; exact ⟨n1, n2⟩
  | true =>
    have hu' : plc c d d < 64 ∧ b * 2 ^ (plc c d d).toNat % 18446744073709551616 / 2 ^ (plc c d d).toNat = b := by simpa [upOk] using hu
    have lt := up_lt hu'.2
    have pl : plc c d c ≤ plc c' d' c' ∧ plc c' d' c' ≤ plc c' d' d' ∧ plc c' d' d' ≤ plc c d d ∧ 0 ≤ plc c d c := by
      have := hu'.1
      unfold plc at *; (repeat' split) <;> simp_all <;> omega
    unfold upLo upHi
    rw [hu]
    generalize plc c d c = k1 at *
    generalize plc c d d = k2 at *
    generalize plc c' d' c' = k3 at *
    generalize plc c' d' d' = k4 at *
    have p4 := pow_pos k4.toNat
    have e1 : b' * 2 ^ k4.toNat ≤ b * 2 ^ k2.toNat := mul_mono (by omega) (by omega) (Int.le_of_lt (pow_pos _)) (pow_mono (by omega))
    have e2 : a * 2 ^ k1.toNat ≤ a' * 2 ^ k3.toNat := mul_mono (by omega) (by omega) (Int.le_of_lt (pow_pos _)) (pow_mono (by omega))
    have e3 : a' * 2 ^ k3.toNat ≤ b' * 2 ^ k4.toNat := mul_mono (by omega) (by omega) (Int.le_of_lt (pow_pos _)) (pow_mono (by omega))
    have e4 : 0 ≤ a * 2 ^ k1.toNat := Int.mul_nonneg (by omega) (Int.le_of_lt (pow_pos _))
    have e5 : b' * 2 ^ k4.toNat % 18446744073709551616 = b' * 2 ^ k4.toNat := Int.emod_eq_of_lt (by omega) (by omega)
    have ok : upOk b' k4 = true := by
      unfold upOk
      rw [e5, Int.mul_ediv_cancel _ (by omega)]
      simp; omega
    rw [ok]; simp only [if_true]
    generalize a * 2 ^ k1.toNat = q1 at *
    generalize b * 2 ^ k2.toNat = q2 at *
    generalize a' * 2 ^ k3.toNat = q3 at *
    generalize b' * 2 ^ k4.toNat = q4 at *
    omega
theorem dnw_mono {a b c d a' b' c' d' : Int} (h : Ins a' b' a b) (k : Ins c' d' c d) (ha : W64 a) (hc : W64 c) :
    dnLo a c d ≤ dnLo a' c' d' ∧ dnHi b' c' d' ≤ dnHi b c d := by
  unfold Ins W64 at *
  have hz (x : Int) (j : Nat) (h0 : 0 ≤ x) : 0 ≤ x / 2 ^ j ∧ x / 2 ^ j ≤ x := by
    have := dn_mono (x := x) (b := x) (j := 0) (k := j) h0 (by omega) (by omega)
    simp at this
    exact ⟨Int.ediv_nonneg h0 (Int.le_of_lt (pow_pos _)), this⟩
  by_cases g : 64 ≤ plc c d d
  · have z1 := hz a' (plc c' d' d').toNat (by omega)
    have z2 := hz b' (plc c' d' c').toNat (by omega)
    unfold dnLo dnHi
    rw [if_pos g, if_pos g]
    (repeat' split) <;> omega
  · have pl : plc c d c ≤ plc c' d' c' ∧ plc c' d' d' ≤ plc c d d ∧ 0 ≤ plc c d c := by
      unfold plc at *; (repeat' split) <;> simp_all <;> omega
    unfold dnLo dnHi
    rw [if_neg g, if_neg g]
    generalize plc c d c = k1 at *
    generalize plc c d d = k2 at *
    generalize plc c' d' c' = k3 at *
    generalize plc c' d' d' = k4 at *
    rw [if_neg (show ¬ 64 ≤ k4 by omega), if_neg (show ¬ 64 ≤ k4 by omega)]
    exact ⟨dn_mono (by omega) (by omega) (by omega), dn_mono (by omega) (by omega) (by omega)⟩
/-- ORDER IS KEPT by an operation. -/
theorem apply_mono {op a b c d a' b' c' d' : Int} (ho : isOp op = true) (h : Ins a' b' a b) (k : Ins c' d' c d) (ha : W64 a) (hb : W64 b) (hc : W64 c) (hd : W64 d) :
    Ins (apLo op a' b' c' d') (apHi op a' b' c' d') (apLo op a b c d) (apHi op a b c d) := by
  have ha' : W64 a' := by unfold Ins W64 at *; omega
  have hb' : W64 b' := by unfold Ins W64 at *; omega
  have hc' : W64 c' := by unfold Ins W64 at *; omega
  have hd' : W64 d' := by unfold Ins W64 at *; omega
  have s1 := apply_sound (x := a') (y := c') ho ⟨h.1, Int.le_trans h.2.1 h.2.2⟩ ⟨k.1, Int.le_trans k.2.1 k.2.2⟩ ha hb hc hd
  have s2 := apply_sound (x := a') (y := c') ho ⟨Int.le_refl _, h.2.1⟩ ⟨Int.le_refl _, k.2.1⟩ ha' hb' hc' hd'
  suffices g : apLo op a b c d ≤ apLo op a' b' c' d' ∧ apHi op a' b' c' d' ≤ apHi op a b c d from ⟨g.1, s2.2.2, g.2⟩
  have e0 : ¬ (b < a ∨ d < c) := by unfold Ins at *; omega
  have e1 : ¬ (b' < a' ∨ d' < c') := by unfold Ins at *; omega
  by_cases t : a' = b' ∧ c' = d'
  · rw [show apLo op a' b' c' d' = one op a' c' by unfold apLo; rw [if_neg e1, if_pos ho, if_pos t],
      show apHi op a' b' c' d' = one op a' c' by unfold apHi; rw [if_neg e1, if_pos ho, if_pos t]]
    exact ⟨s1.1, s1.2.1⟩
  have t' : ¬ (a = b ∧ c = d) := by unfold Ins at *; omega
  clear s1 s2
  unfold apLo apHi
  rw [if_neg e0, if_neg e1, if_neg e0, if_neg e1, if_pos ho, if_pos ho, if_pos ho, if_pos ho, if_neg t, if_neg t, if_neg t', if_neg t']
  have t : op = 3 ∨ op = 4 ∨ op = 5 ∨ op = 6 ∨ op = 7 ∨ op = 8 ∨ op = 9 ∨ op = 10 ∨ op = 12 ∨ op = 13 := by simp [isOp] at ho; omega
  rcases t with rfl | rfl | rfl | rfl | rfl | rfl | rfl | rfl | rfl | rfl
  · show sumLo a b c d ≤ sumLo a' b' c' d' ∧ sumHi a' b' c' d' ≤ sumHi a b c d
    unfold Ins W64 at *
    unfold sumLo sumHi; (repeat' split) <;> omega
  · show difLo a b c d ≤ difLo a' b' c' d' ∧ difHi a' b' c' d' ≤ difHi a b c d
    unfold Ins W64 at *
    unfold difLo difHi bor; (repeat' split) <;> omega
  · exact pro_mono h k ha hc
  · show 0 ≤ 0 ∧ minI b' d' ≤ minI b d
    unfold Ins at *; unfold minI; (repeat' split) <;> omega
  · refine ⟨?_, ones_mono hb hd hb' hd' h.2.2 k.2.2⟩
    show maxI a c ≤ maxI a' c'
    unfold Ins at *; unfold maxI; (repeat' split) <;> omega
  · exact ⟨Int.le_refl 0, ones_mono hb hd hb' hd' h.2.2 k.2.2⟩
  · exact up_mono h k ha hc
  · exact dnw_mono h k ha hc
  · show bwLo b c ≤ bwLo b' c' ∧ bwHi a' b' c' d' ≤ bwHi a b c d
    unfold Ins at *; unfold bwLo bwHi; (repeat' split) <;> omega
  · show 0 ≤ 0 ∧ eqHi a' b' c' d' ≤ eqHi a b c d
    unfold Ins at *; unfold eqHi minI maxI; (repeat' split) <;> omega
/-- ORDER IS KEPT by a branch. -/
theorem refine_mono {op a b c d a' b' c' d' : Int} (ho : 21 ≤ op ∧ op ≤ 24) (h : Ins a' b' a b) (k : Ins c' d' c d) (ok : rOk op a' b' c' d' = true) :
    rOk op a b c d = true ∧ Ins (fA op a' b' c' d') (fB op a' b' c' d') (fA op a b c d) (fB op a b c d) ∧ Ins (fC op a' b' c' d') (fD op a' b' c' d') (fC op a b c d) (fD op a b c d) := by
  have o' := ok
  unfold rOk at o'
  simp only [Bool.and_eq_true, decide_eq_true_eq] at o'
  suffices g : Ins (rA op a' b' c' d') (rB op a' b' c' d') (rA op a b c d) (rB op a b c d) ∧ Ins (rC op a' b' c' d') (rD op a' b' c' d') (rC op a b c d) (rD op a b c d) by
    have o2 : rOk op a b c d = true := by
      unfold rOk
      simp only [Bool.and_eq_true, decide_eq_true_eq]
      unfold Ins at *; omega
    unfold fA fB fC fD
    simp only [ok, o2, if_true]
    exact ⟨trivial, g⟩
  obtain ⟨⟨_, o1⟩, o2⟩ := o'
  suffices g : rA op a b c d ≤ rA op a' b' c' d' ∧ rB op a' b' c' d' ≤ rB op a b c d ∧ rC op a b c d ≤ rC op a' b' c' d' ∧ rD op a' b' c' d' ≤ rD op a b c d from
    ⟨⟨g.1, o1, g.2.1⟩, ⟨g.2.2.1, o2, g.2.2.2⟩⟩
  unfold Ins at h k
  have t : op = 21 ∨ op = 22 ∨ op = 23 ∨ op = 24 := by omega
  rcases t with rfl | rfl | rfl | rfl
  · show maxI a c ≤ maxI a' c' ∧ minI b' d' ≤ minI b d ∧ maxI a c ≤ maxI a' c' ∧ minI b' d' ≤ minI b d
    unfold maxI minI; refine ⟨?_, ?_, ?_, ?_⟩ <;> (repeat' split) <;> omega
  · change woLo a' b' c' d' ≤ woHi a' b' c' d' at o1
    change woLo c' d' a' b' ≤ woHi c' d' a' b' at o2
    show woLo a b c d ≤ woLo a' b' c' d' ∧ woHi a' b' c' d' ≤ woHi a b c d ∧ woLo c d a b ≤ woLo c' d' a' b' ∧ woHi c' d' a' b' ≤ woHi c d a b
    unfold woLo woHi at *
    refine ⟨?_, ?_, ?_, ?_⟩ <;> (repeat' split) <;> (first | omega | (exfalso; (repeat' split at o1) <;> (repeat' split at o2) <;> omega) | skip)
  · change (if d' ≤ a' then (1 : Int) else a') ≤ (if d' ≤ a' then 0 else minI b' (d' - 1)) at o1
    have e' : ¬ d' ≤ a' := by intro e; rw [if_pos e, if_pos e] at o1; omega
    have e : ¬ d ≤ a := by omega
    show (if d ≤ a then (1 : Int) else a) ≤ (if d' ≤ a' then 1 else a') ∧ (if d' ≤ a' then 0 else minI b' (d' - 1)) ≤ (if d ≤ a then 0 else minI b (d - 1)) ∧ (if d ≤ a then (1 : Int) else maxI c (a + 1)) ≤ (if d' ≤ a' then 1 else maxI c' (a' + 1)) ∧ (if d' ≤ a' then (0 : Int) else d') ≤ (if d ≤ a then 0 else d)
    rw [if_neg e, if_neg e', if_neg e, if_neg e', if_neg e, if_neg e', if_neg e, if_neg e']
    unfold maxI minI; refine ⟨?_, ?_, ?_, ?_⟩ <;> (repeat' split) <;> omega
  · show maxI a c ≤ maxI a' c' ∧ b' ≤ b ∧ c ≤ c' ∧ minI d' b' ≤ minI d b
    unfold maxI minI; refine ⟨?_, ?_, ?_, ?_⟩ <;> (repeat' split) <;> omega
/-- ORDER IS KEPT by Join, and by Meet. -/
theorem join_mono {a b c d a' b' c' d' : Int} (h : Ins a' b' a b) (k : Ins c' d' c d) : Ins (jLo a' b' c' d') (jHi a' b' c' d') (jLo a b c d) (jHi a b c d) := by
  have e : ¬ b < a := by unfold Ins at *; omega
  have e' : ¬ b' < a' := by unfold Ins at *; omega
  have f : ¬ d < c := by unfold Ins at *; omega
  have f' : ¬ d' < c' := by unfold Ins at *; omega
  have j1 : joinLo a b c d = minI a c := by unfold joinLo minI; rw [if_neg e, if_neg f]
  have j2 : joinHi a b c d = maxI b d := by unfold joinHi maxI; rw [if_neg e, if_neg f]
  have j3 : joinLo a' b' c' d' = minI a' c' := by unfold joinLo minI; rw [if_neg e', if_neg f']
  have j4 : joinHi a' b' c' d' = maxI b' d' := by unfold joinHi maxI; rw [if_neg e', if_neg f']
  unfold jLo jHi
  rw [j1, j2, j3, j4]
  have g1 : ¬ maxI b d < minI a c := by unfold Ins at *; unfold maxI minI; (repeat' split) <;> omega
  have g2 : ¬ maxI b' d' < minI a' c' := by unfold Ins at *; unfold maxI minI; (repeat' split) <;> omega
  unfold tLo tHi
  rw [if_neg g1, if_neg g1, if_neg g2, if_neg g2]
  unfold Ins at *; unfold maxI minI; refine ⟨?_, ?_, ?_⟩ <;> (repeat' split) <;> omega
theorem meet_mono {a b c d a' b' c' d' : Int} (h : Ins a' b' a b) (k : Ins c' d' c d) (ok : mOk a' b' c' d' = true) :
    mOk a b c d = true ∧ Ins (mLo a' b' c' d') (mHi a' b' c' d') (mLo a b c d) (mHi a b c d) := by
  unfold mOk at *
  simp only [decide_eq_true_eq] at *
  have g1 : maxI a c ≤ maxI a' c' := by unfold Ins at *; unfold maxI; (repeat' split) <;> omega
  have g2 : minI b' d' ≤ minI b d := by unfold Ins at *; unfold minI; (repeat' split) <;> omega
  unfold mLo mHi tLo tHi
  rw [if_neg (show ¬ minI b d < maxI a c by omega), if_neg (show ¬ minI b d < maxI a c by omega), if_neg (show ¬ minI b' d' < maxI a' c' by omega), if_neg (show ¬ minI b' d' < maxI a' c' by omega)]
  exact ⟨by omega, by unfold Ins; omega⟩
/-- What lies in another is told to. -/
theorem ins_in {a' b' a b : Int} (h : Ins a' b' a b) : inB a' b' a b = true := by
  unfold Ins at h; unfold inB; simp; omega
end Go.Proofs.Ytodhgmeecphckaa
