import Derived.Test.YtmmakknhaacplaaGreatDoorP35
import Derived.Test.YtmmakknhaacplaaGreatDoorP21
/-
  Stage 3, instr: a byte of a row that is another one. No Go in sight.
-/
namespace Go.Proofs.YtmmakknhaacplaaGreatDoor
open Go.RowKit

theorem dec_prefix (P : List Ins) (h : AllR P) (ho : OpsIn P) (n : Nat) (S : List UInt8) (j : Nat) (M : List Ins) : decF (n + P.length) (code P ++ S) j M = decF n S (j + 8 * P.length) (M ++ P) := by
  induction P generalizing j M with
  | nil => simp [code]
  | cons k P ih =>
    have hk := h k (by simp)
    have hok := ho k (by simp)
    rw [code_cons, List.length_cons, ← Nat.add_assoc, decF, if_neg (by simp [bytesOf, bytesI]), List.append_assoc, if_pos (readE_code hok.1 hok.2 hk _), drop_bytes, ins_bytes hok.1 hok.2 hk,
      ih (fun x hx => h x (by simp [hx])) (fun x hx => ho x (by simp [hx])), List.append_assoc]
    have e : j + 8 + 8 * P.length = j + 8 * (P.length + 1) := by omega
    rw [e]
    rfl
theorem turned (P Q : List Ins) (k : Ins) (X : List UInt8) (hA : AllR (P ++ k :: Q)) (hO : OpsIn (P ++ k :: Q)) (hX : X.length = 8) (hne : X ≠ bytesOf k) :
    (decA (code P ++ (X ++ code Q))).1 ≠ P ++ k :: Q ∧ ((decA (code P ++ (X ++ code Q))).2.1 = 0 ∨ (decA (code P ++ (X ++ code Q))).2.2 = ((8 * P.length : Nat) : Int)) := by
  have hAP : AllR P := fun x hx => hA x (by simp [hx])
  have hOP : OpsIn P := fun x hx => hO x (by simp [hx])
  have hAQ : AllR Q := fun x hx => hA x (by simp [hx])
  have hOQ : OpsIn Q := fun x hx => hO x (by simp [hx])
  have hl : (code P ++ (X ++ code Q)).length + 1 = (7 * P.length + 8 + (code Q).length + 1) + P.length := by
    rw [List.length_append, List.length_append, code_length, hX]; omega
  have hne2 : X ++ code Q ≠ [] := fun h => by
    have := congrArg List.length h
    simp [hX] at this
  unfold decA
  rw [hl, dec_prefix P hAP hOP, decF, if_neg hne2]
  by_cases he : readE (X ++ code Q) = 0
  · rw [if_pos he]
    have hd : (X ++ code Q).drop 8 = code Q := by rw [List.drop_append, ← hX]; simp
    rw [hd, dec_code Q hAQ hOQ _ _ _ (by rw [code_length]; omega)]
    refine ⟨fun h => hne ?_, .inl rfl⟩
    have h2 : insOf (X ++ code Q) = k := by
      have := congrArg (fun l => l[P.length]?) h
      simpa using this
    have h3 := bytes_ins (X ++ code Q) (by rw [List.length_append, hX]; omega)
    rw [h2, List.take_append_of_le_length (by omega), List.take_of_length_le (by omega)] at h3
    exact h3.symm
  · rw [if_neg he]
    refine ⟨fun h => ?_, .inr (by simp)⟩
    have := congrArg List.length h
    simp at this
theorem set_code (L : List Ins) (hA : AllR L) (hO : OpsIn L) (kk : Nat) (x : UInt8) (hk : kk < (code L).length) (hx : (code L)[kk] ≠ x) :
    (decA ((code L).take kk ++ [x] ++ (code L).drop (kk + 1))).1 ≠ L ∧ ((decA ((code L).take kk ++ [x] ++ (code L).drop (kk + 1))).2.1 = 0 ∨ (decA ((code L).take kk ++ [x] ++ (code L).drop (kk + 1))).2.2 = ((8 * (kk / 8) : Nat) : Int)) := by
  have hcl := code_length L
  have hq : kk / 8 < L.length := by omega
  have hsplit : L = L.take (kk / 8) ++ L[kk / 8] :: L.drop (kk / 8 + 1) := by
    rw [← List.drop_eq_getElem_cons hq, List.take_append_drop]
  have hP : (L.take (kk / 8)).length = kk / 8 := by rw [List.length_take]; omega
  generalize L.take (kk / 8) = P at hsplit hP
  generalize L[kk / 8] = k at hsplit
  generalize L.drop (kk / 8 + 1) = Q at hsplit
  subst hsplit
  have hc : code (P ++ k :: Q) = code P ++ (bytesOf k ++ code Q) := by rw [code_app, code_cons]
  have hPl : (code P).length = 8 * (kk / 8) := by rw [code_length, hP]
  have hB := bytesOf_length k
  obtain ⟨r, hr⟩ : ∃ r, r = kk % 8 := ⟨_, rfl⟩
  have hr8 : r < 8 := by omega
  have hkr : kk = (code P).length + r := by omega
  have e1 : (code (P ++ k :: Q)).take kk = code P ++ (bytesOf k).take r := by
    rw [hc, hkr, List.take_length_add_append, List.take_append_of_le_length (by omega)]
  have e2 : (code (P ++ k :: Q)).drop (kk + 1) = (bytesOf k).drop (r + 1) ++ code Q := by
    have : kk + 1 = (code P).length + (r + 1) := by omega
    rw [hc, this, List.drop_length_add_append, List.drop_append_of_le_length (by omega)]
  have e3 : (code (P ++ k :: Q))[kk]? = (bytesOf k)[r]? := by
    rw [hc, hkr, List.getElem?_append_right (by omega), List.getElem?_append_left (by omega)]
    congr 1
    omega
  rw [e1, e2]
  have e4 : code P ++ (bytesOf k).take r ++ [x] ++ ((bytesOf k).drop (r + 1) ++ code Q) = code P ++ (((bytesOf k).take r ++ [x] ++ (bytesOf k).drop (r + 1)) ++ code Q) := by simp
  rw [e4]
  have hX : ((bytesOf k).take r ++ [x] ++ (bytesOf k).drop (r + 1)).length = 8 := by
    simp only [List.length_append, List.length_take, List.length_drop, List.length_cons, List.length_nil, hB]; omega
  have hne : (bytesOf k).take r ++ [x] ++ (bytesOf k).drop (r + 1) ≠ bytesOf k := fun h => by
    have h1 := congrArg (fun l => l[r]?) h
    have h2 : ((bytesOf k).take r ++ [x] ++ (bytesOf k).drop (r + 1))[r]? = some x := by
      rw [List.append_assoc, List.getElem?_append_right (by rw [List.length_take]; omega)]
      have : r - ((bytesOf k).take r).length = 0 := by rw [List.length_take]; omega
      rw [this]; rfl
    simp only [h2] at h1
    rw [← e3, List.getElem?_eq_getElem hk] at h1
    exact hx (Option.some.inj h1).symm
  have := turned P Q k _ hA hO hX hne
  rw [hP] at this
  exact this
end Go.Proofs.YtmmakknhaacplaaGreatDoor


/-
  Stage 3, instr: two rows of instructions, compared.
-/
namespace Go.Proofs.YtmmakknhaacplaaGreatDoor
open Go.RowKit

end Go.Proofs.YtmmakknhaacplaaGreatDoor
