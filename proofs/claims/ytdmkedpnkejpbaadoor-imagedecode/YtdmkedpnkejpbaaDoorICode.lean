import Derived.Test.YtdmkedpnkejpbaaDoorP17
/-
  Stage 3, instr: code as bytes, there and back. No Go in sight.
-/
namespace Go.Proofs.YtdmkedpnkejpbaaDoor
open Go.RowKit

theorem fR_ranges (op a b c m : Int) (s : List UInt8) (hs : s ∈ shapes) (h : fR op s 0 a b c m = true) :
    (0 ≤ a ∧ a < 256) ∧ (0 ≤ b ∧ b < 256) ∧ (0 ≤ c ∧ c < 256) ∧ (-2147483648 ≤ m ∧ m ≤ 2147483647) := by
  simp only [shapes, List.mem_cons, List.not_mem_nil, or_false] at hs
  by_cases h28 : op = 28
  · rcases hs with rfl | rfl | rfl | rfl | rfl | rfl | rfl | rfl | rfl | rfl | rfl | rfl | rfl | rfl | rfl | rfl | rfl | rfl <;>
      (simp [fR, inE, hiE, loE, h28] at h; omega)
  · by_cases h70 : op = 70 ∨ op = 71
    · have e : ¬ (op ≠ 70 ∧ op ≠ 71) := by omega
      rcases hs with rfl | rfl | rfl | rfl | rfl | rfl | rfl | rfl | rfl | rfl | rfl | rfl | rfl | rfl | rfl | rfl | rfl | rfl <;>
        (simp [fR, inE, hiE, loE, h28, e] at h; omega)
    · have e : ¬ op = 70 ∧ ¬ op = 71 := by omega
      rcases hs with rfl | rfl | rfl | rfl | rfl | rfl | rfl | rfl | rfl | rfl | rfl | rfl | rfl | rfl | rfl | rfl | rfl | rfl <;>
        (simp [fR, inE, hiE, loE, h28, e] at h; omega)
theorem right_ranges {k : Ins} (h1 : k.op < 256) (h : k.right = 0) :
    (0 ≤ k.a ∧ k.a < 256) ∧ (0 ≤ k.b ∧ k.b < 256) ∧ (0 ≤ k.c ∧ k.c < 256) ∧ (-2147483648 ≤ k.m ∧ k.m ≤ 2147483647) := by
  unfold Ins.right rightF at h
  split at h
  · omega
  · unfold errOf at h
    split at h
    · rename_i hf
      exact fR_ranges _ _ _ _ _ _ (shape_in _ h1) hf
    · omega
theorem byte_back (n : Int) (h0 : 0 ≤ n) (h1 : n < 256) : ((UInt8.ofNat n.toNat).toNat : Int) = n := by
  rw [UInt8.toNat_ofNat']; omega
theorem ins_bytes {k : Ins} (h0 : 0 ≤ k.op) (h1 : k.op < 256) (h : k.right = 0) (R : List UInt8) : insOf (bytesOf k ++ R) = k := by
  obtain ⟨⟨a0, a1⟩, ⟨b0, b1⟩, ⟨c0, c1⟩, m0, m1⟩ := right_ranges h1 h
  have e0 : byteAt (bytesOf k ++ R) 0 = k.op := byte_back _ h0 h1
  have e1 : byteAt (bytesOf k ++ R) 1 = k.a := (byte_back (k.a % 256) (by omega) (by omega)).trans (by omega)
  have e2 : byteAt (bytesOf k ++ R) 2 = k.b := (byte_back (k.b % 256) (by omega) (by omega)).trans (by omega)
  have e3 : byteAt (bytesOf k ++ R) 3 = k.c := (byte_back (k.c % 256) (by omega) (by omega)).trans (by omega)
  have e4 : byteAt (bytesOf k ++ R) 4 = k.m % 256 := byte_back _ (by omega) (by omega)
  have e5 : byteAt (bytesOf k ++ R) 5 = k.m % 4294967296 / 256 % 256 := byte_back _ (by omega) (by omega)
  have e6 : byteAt (bytesOf k ++ R) 6 = k.m % 4294967296 / 65536 % 256 := byte_back _ (by omega) (by omega)
  have e7 : byteAt (bytesOf k ++ R) 7 = k.m % 4294967296 / 16777216 := byte_back _ (by omega) (by omega)
  unfold insOf
  rw [e0, e1, e2, e3, e4, e5, e6, e7]
  have : s32 (k.m % 256 + k.m % 4294967296 / 256 % 256 * 256 + k.m % 4294967296 / 65536 % 256 * 65536 + k.m % 4294967296 / 16777216 * 16777216) = k.m := by
    unfold s32; split <;> omega
  rw [this]
theorem u8_back (x : UInt8) : UInt8.ofNat ((x.toNat : Int)).toNat = x := by
  apply UInt8.toNat_inj.mp
  rw [UInt8.toNat_ofNat']
  have := x.toNat_lt
  omega
theorem bytesI_ins (S : List UInt8) : bytesI (insOf S) = [byteAt S 0, byteAt S 1, byteAt S 2, byteAt S 3, byteAt S 4, byteAt S 5, byteAt S 6, byteAt S 7] := by
  have r := byteAt_range S
  have r0 := r 0; have r1 := r 1; have r2 := r 2; have r3 := r 3; have r4 := r 4; have r5 := r 5; have r6 := r 6; have r7 := r 7
  clear r
  unfold bytesI insOf
  generalize byteAt S 0 = y0 at *
  generalize byteAt S 1 = y1 at *
  generalize byteAt S 2 = y2 at *
  generalize byteAt S 3 = y3 at *
  generalize byteAt S 4 = y4 at *
  generalize byteAt S 5 = y5 at *
  generalize byteAt S 6 = y6 at *
  generalize byteAt S 7 = y7 at *
  have hm : s32 (y4 + y5 * 256 + y6 * 65536 + y7 * 16777216) % 4294967296 = y4 + y5 * 256 + y6 * 65536 + y7 * 16777216 := by
    unfold s32; split <;> omega
  have h8 : s32 (y4 + y5 * 256 + y6 * 65536 + y7 * 16777216) % 256 = y4 := by omega
  simp only [hm, h8]
  have e1 : y1 % 256 = y1 := by omega
  have e2 : y2 % 256 = y2 := by omega
  have e3 : y3 % 256 = y3 := by omega
  have e5 : (y4 + y5 * 256 + y6 * 65536 + y7 * 16777216) / 256 % 256 = y5 := by omega
  have e6 : (y4 + y5 * 256 + y6 * 65536 + y7 * 16777216) / 65536 % 256 = y6 := by omega
  have e7 : (y4 + y5 * 256 + y6 * 65536 + y7 * 16777216) / 16777216 = y7 := by omega
  rw [e1, e2, e3, e5, e6, e7]
theorem of_byteAt (S : List UInt8) (i : Nat) : UInt8.ofNat (byteAt S i).toNat = S.getD i 0 := u8_back _
theorem bytes_ins (S : List UInt8) (h : 8 ≤ S.length) : bytesOf (insOf S) = S.take 8 := by
  unfold bytesOf
  rw [bytesI_ins]
  simp only [List.map_cons, List.map_nil, of_byteAt]
  match S, h with
  | _ :: _ :: _ :: _ :: _ :: _ :: _ :: _ :: _, _ => rfl
def AllR (L : List Ins) : Prop := ∀ k ∈ L, k.right = 0
def code (L : List Ins) : List UInt8 := L.flatMap bytesOf
theorem code_cons (k : Ins) (L : List Ins) : code (k :: L) = bytesOf k ++ code L := rfl
theorem code_app (L M : List Ins) : code (L ++ M) = code L ++ code M := by simp [code]
theorem code_length (L : List Ins) : (code L).length = 8 * L.length := by
  induction L with
  | nil => rfl
  | cons k L ih => rw [code_cons, List.length_append, ih, bytesOf_length, List.length_cons]; omega
theorem enc_all (L : List Ins) (h : AllR L) (j : Nat) (B : List UInt8) : encF L j B = (B ++ code L, 0, 0) := by
  induction L generalizing j B with
  | nil => simp [encF, code]
  | cons k L ih =>
    rw [encF, if_pos (h k (by simp)), ih (fun x hx => h x (by simp [hx])), code_cons, List.append_assoc]
theorem enc_ok (L : List Ins) (j : Nat) (B : List UInt8) (h : (encF L j B).2.1 = 0) : AllR L := by
  induction L generalizing j B with
  | nil => intro k hk; simp at hk
  | cons k L ih =>
    rw [encF] at h
    by_cases hk : k.right = 0
    · rw [if_pos hk] at h
      intro x hx
      rcases List.mem_cons.1 hx with rfl | hx
      · exact hk
      · exact ih _ _ h x hx
    · rw [if_neg hk] at h
      exact absurd h hk
theorem readE_code {k : Ins} (h0 : 0 ≤ k.op) (h1 : k.op < 256) (h : k.right = 0) (R : List UInt8) : readE (bytesOf k ++ R) = 0 := by
  unfold readE
  rw [if_neg (by rw [List.length_append, bytesOf_length]; omega), ins_bytes h0 h1 h R, h]
theorem drop_bytes (k : Ins) (R : List UInt8) : (bytesOf k ++ R).drop 8 = R := by
  rw [List.drop_append, bytesOf_length]; simp [bytesOf, bytesI]
theorem dec_code (L : List Ins) (h : AllR L) (ho : OpsIn L) (n j : Nat) (M : List Ins) (hn : L.length < n) : decF n (code L) j M = (M ++ L, 0, 0) := by
  induction L generalizing n j M with
  | nil =>
    cases n with
    | zero => simp [decF]
    | succ n => simp [decF, code]
  | cons k L ih =>
    cases n with
    | zero => omega
    | succ n =>
      have hk := h k (by simp)
      have hok := ho k (by simp)
      rw [code_cons, decF, if_neg (by simp [bytesOf, bytesI]), if_pos (readE_code hok.1 hok.2 hk _), drop_bytes, ins_bytes hok.1 hok.2 hk,
        ih (fun x hx => h x (by simp [hx])) (fun x hx => ho x (by simp [hx])) n _ _ (by simpa using hn), List.append_assoc]
      rfl
theorem dec_all (L : List Ins) (h : AllR L) (ho : OpsIn L) : decA (code L) = (L, 0, 0) := by
  unfold decA
  rw [dec_code L h ho _ _ _ (by rw [code_length]; omega)]
  rfl
theorem insOf_op (S : List UInt8) : 0 ≤ (insOf S).op ∧ (insOf S).op < 256 := byteAt_range S 0
theorem dec_ok (n : Nat) (S : List UInt8) (j : Nat) (M : List Ins) (hn : S.length < n) (h : (decF n S j M).2.1 = 0) :
    ∃ L, decF n S j M = (M ++ L, 0, 0) ∧ AllR L ∧ OpsIn L ∧ code L = S := by
  induction n generalizing S j M with
  | zero => omega
  | succ n ih =>
    rw [decF] at h ⊢
    by_cases hS : S = []
    · subst hS
      exact ⟨[], by simp, fun k hk => by simp at hk, fun k hk => by simp at hk, rfl⟩
    · rw [if_neg hS] at h ⊢
      by_cases he : readE S = 0
      · rw [if_pos he] at h ⊢
        have h8 := readE_len he
        obtain ⟨L, e, hA, hO, hc⟩ := ih (S.drop 8) (j + 8) (M ++ [insOf S]) (by rw [List.length_drop]; omega) h
        refine ⟨insOf S :: L, by rw [e, List.append_assoc]; rfl, ?_, ?_, ?_⟩
        · intro k hk
          rcases List.mem_cons.1 hk with rfl | hk
          · unfold readE at he; rw [if_neg (by omega)] at he; exact he
          · exact hA k hk
        · intro k hk
          rcases List.mem_cons.1 hk with rfl | hk
          · exact insOf_op S
          · exact hO k hk
        · rw [code_cons, bytes_ins S h8, hc, List.take_append_drop]
      · rw [if_neg he] at h
        exact absurd h he
theorem decA_ok {S : List UInt8} (h : (decA S).2.1 = 0) : ∃ L, decA S = (L, 0, 0) ∧ AllR L ∧ OpsIn L ∧ code L = S := by
  obtain ⟨L, e, r⟩ := dec_ok (S.length + 1) S 0 [] (by omega) h
  exact ⟨L, by unfold decA; simpa using e, r⟩
theorem dec_bad (n : Nat) (S : List UInt8) (j : Nat) (M : List Ins) (h : (decF n S j M).2.1 ≠ 0) :
    (decF n S j M).1 = [] ∧ ∃ m : Nat, (decF n S j M).2.2 = ((j + 8 * m : Nat) : Int) ∧ 8 * m < S.length := by
  induction n generalizing S j M with
  | zero => simp [decF] at h
  | succ n ih =>
    rw [decF] at h ⊢
    by_cases hS : S = []
    · rw [if_pos hS] at h; simp at h
    · rw [if_neg hS] at h ⊢
      by_cases he : readE S = 0
      · rw [if_pos he] at h ⊢
        have h8 := readE_len he
        obtain ⟨e1, m, e2, e3⟩ := ih _ _ _ h
        rw [List.length_drop] at e3
        exact ⟨e1, m + 1, by rw [e2]; congr 1; omega, by omega⟩
      · rw [if_neg he]
        have : 0 < S.length := List.length_pos_iff.mpr hS
        exact ⟨rfl, 0, rfl, by omega⟩
theorem decA_bad {S : List UInt8} (h : (decA S).2.1 ≠ 0) : (decA S).1 = [] ∧ ∃ m : Nat, (decA S).2.2 = ((8 * m : Nat) : Int) ∧ 8 * m < S.length := by
  obtain ⟨e, m, e2, e3⟩ := dec_bad (S.length + 1) S 0 [] h
  exact ⟨e, m, by unfold decA; rw [e2]; simp, e3⟩
end Go.Proofs.YtdmkedpnkejpbaaDoor
