import Derived.Test.YthmfaafpdogpdabDoorP16
import Derived.Test.YthmfaafpdogpdabDoorP11
/-
  Stage 4, image: what is read is written so again. No Go in sight.
-/
namespace Go.Proofs.YthmfaafpdogpdabDoor
open Go.RowKit

/-- The places are within the bytes. -/
def RS.Pl (S : List UInt8) (σ : RS) : Prop := σ.i ≤ S.length ∧ 0 ≤ σ.p ∧ σ.p ≤ S.length
theorem failS_pl {S : List UInt8} {σ : RS} (e p : Int) (h : σ.Pl S) (h0 : 0 ≤ p) (h1 : p ≤ S.length) : (failS e p σ).Pl S := by
  unfold failS; split
  · exact ⟨h.1, h0, h1⟩
  · exact h
theorem takeS_pl {S : List UInt8} {σ : RS} (n : Nat) (h : σ.Pl S) : (takeS S n σ).Pl S := by
  unfold takeS
  split
  · split
    · exact ⟨by assumption, h.2⟩
    · exact ⟨h.1, by simp, by simp⟩
  · exact h
theorem listF_pl {α : Type} {S : List UInt8} {f : RS → α × RS} (hf : ∀ σ, σ.Pl S → (f σ).2.Pl S) : ∀ (n : Nat) (σ : RS) (L : List α), σ.Pl S → (listF f n σ L).2.Pl S
  | 0, _, _, h => h
  | n + 1, σ, L, h => by
    rw [listF]
    split
    · exact listF_pl hf n _ _ (hf σ h)
    · exact hf σ h
theorem kindP_pl {S : List UInt8} {σ : RS} (h : σ.Pl S) : (kindP S σ).2.Pl S := by
  unfold kindP
  split
  · exact takeS_pl _ h
  · split
    · exact takeS_pl _ (takeS_pl _ (takeS_pl _ (takeS_pl _ (takeS_pl _ (takeS_pl _ (takeS_pl _ h))))))
    · have := h.1
      exact failS_pl _ _ (takeS_pl _ h) (by omega) (by omega)
theorem slotP_pl {S : List UInt8} {σ : RS} (h : σ.Pl S) : (slotP S σ).2.Pl S := takeS_pl _ (kindP_pl h)
theorem rootP_pl {S : List UInt8} {σ : RS} (h : σ.Pl S) : (rootP S σ).2.Pl S := takeS_pl _ (takeS_pl _ (takeS_pl _ (takeS_pl _ (takeS_pl _ (takeS_pl _ h)))))
theorem takeV_in {S : List UInt8} {σ : RS} (n : Nat) (h : σ.Pl S) : σ.i + (takeV S n σ).length ≤ S.length := by
  have := h.1
  unfold takeV
  split
  · split
    · rename_i q; rw [sub_length q]; exact q
    · simpa using this
  · simpa using this
theorem codeP_pl {S : List UInt8} {n : Nat} {σ : RS} (h : σ.Pl S) : (codeP S n σ).2.Pl S := by
  have h1 : (codeS1 S n σ).Pl S := by
    unfold codeS1
    split
    · exact takeS_pl _ h
    · have h2 := decA_place (takeV S (wholeN S n σ * 8) σ)
      have h3 := takeV_in (wholeN S n σ * 8) h
      unfold decB
      exact failS_pl _ _ (takeS_pl _ h) (by omega) (by omega)
  show RS.Pl S (if wholeN S n σ < n then failS 41 S.length (codeS1 S n σ) else codeS1 S n σ)
  split
  · exact failS_pl _ _ h1 (by omega) (by omega)
  · exact h1
theorem regP_pl {S : List UInt8} {σ : RS} (h : σ.Pl S) : (regP S σ).2.Pl S := by
  unfold regP
  split
  · exact listF_pl (fun _ h => slotP_pl h) _ _ _ (takeS_pl _ (takeS_pl _ (takeS_pl _ h)))
  · exact takeS_pl _ (takeS_pl _ (takeS_pl _ (takeS_pl _ (takeS_pl _ h))))
theorem compP_pl {S : List UInt8} {σ : RS} (h : σ.Pl S) : (compP S σ).2.Pl S := codeP_pl (takeS_pl _ (listF_pl (fun _ h => rootP_pl h) _ _ _ (takeS_pl _ h)))
theorem kindsP_pl {S : List UInt8} {σ : RS} (h : σ.Pl S) : (kindsP S σ).2.Pl S := listF_pl (fun _ h => kindP_pl h) _ _ _ (takeS_pl _ h)
theorem gateP_pl {S : List UInt8} {σ : RS} (h : σ.Pl S) : (gateP S σ).2.Pl S := kindsP_pl (kindsP_pl (takeS_pl _ (takeS_pl _ h)))
theorem imgP_pl (S : List UInt8) : (imgP S).2.Pl S := by
  unfold imgP
  split
  · rename_i h
    have h6 : 6 ≤ S.length := by obtain ⟨t, rfl⟩ := h; simp [magicB]
    have h0 : h0S.Pl S := ⟨h6, by show (0 : Int) ≤ 0; omega, by show (0 : Int) ≤ _; omega⟩
    have h7 : (gatesP S).2.Pl S := listF_pl (fun _ h => gateP_pl h) _ _ _ (listF_pl (fun _ h => compP_pl h) _ _ _ (listF_pl (fun _ h => regP_pl h) _ _ _ (takeS_pl 1 (takeS_pl 1 (takeS_pl 1 (takeS_pl 1 h0))))))
    show RS.Pl S (restS S (gatesP S).2)
    unfold restS
    split
    · exact failS_pl _ _ h7 (by omega) (by omega)
    · exact h7
  · exact ⟨by show 0 ≤ _; omega, by show (0 : Int) ≤ 0; omega, by show (0 : Int) ≤ _; omega⟩
theorem decI_place (S : List UInt8) : 0 ≤ (decI S).2.2 ∧ (decI S).2.2 ≤ S.length := by
  have h := imgP_pl S
  unfold decI
  split
  · simp
  · split
    · split <;> simp
    · exact h.2
theorem sub_app (S : List UInt8) (i m n : Nat) : sub S i m ++ sub S (i + m) n = sub S i (m + n) := by
  unfold sub
  rw [List.drop_take, List.drop_take, List.drop_take]
  have e1 : i + m - i = m := by omega
  have e2 : i + m + n - (i + m) = n := by omega
  have e3 : i + (m + n) - i = m + n := by omega
  rw [e1, e2, e3, List.take_add, List.drop_drop]
/-- If there is no error behind, the bytes that were read are these. -/
def Rd (S : List UInt8) (a b : RS) (B : List UInt8) : Prop := b.e = 0 → a.e = 0 ∧ b.p = a.p ∧ b.i = a.i + B.length ∧ sub S a.i B.length = B
theorem Rd.trans {S : List UInt8} {a b c : RS} {B C : List UInt8} (h : Rd S a b B) (k : Rd S b c C) : Rd S a c (B ++ C) := fun e => by
  obtain ⟨k0, k1, k2, k4⟩ := k e
  obtain ⟨h0, h1, h2, h4⟩ := h k0
  refine ⟨h0, by rw [k1, h1], by rw [List.length_append]; omega, ?_⟩
  rw [List.length_append, ← sub_app, ← h2, k4, h4]
theorem Rd.bad {S : List UInt8} {a b : RS} {B : List UInt8} (h : b.e ≠ 0) : Rd S a b B := fun e => absurd e h
theorem Rd.as {S : List UInt8} {a b : RS} {B C : List UInt8} (h : Rd S a b B) (e : b.e = 0 → B = C) : Rd S a b C := fun q => by rw [← e q]; exact h q
theorem takeS_ok {S : List UInt8} {n : Nat} {σ : RS} (h : (takeS S n σ).e = 0) : σ.e = 0 ∧ σ.i + n ≤ S.length := by
  unfold takeS at h
  split at h
  · rename_i h0
    split at h
    · exact ⟨h0, by assumption⟩
    · cases h
  · rename_i h0; exact absurd h h0
theorem takeV_ok {S : List UInt8} {n : Nat} {σ : RS} (h : (takeS S n σ).e = 0) : takeV S n σ = sub S σ.i n ∧ (takeV S n σ).length = n := by
  obtain ⟨h0, h1⟩ := takeS_ok h
  have : takeV S n σ = sub S σ.i n := by unfold takeV; rw [if_pos h0, if_pos h1]
  exact ⟨this, by rw [this, sub_length h1]⟩
theorem take_rd (S : List UInt8) (n : Nat) (σ : RS) : Rd S σ (takeS S n σ) (takeV S n σ) := fun h => by
  obtain ⟨h0, h1⟩ := takeS_ok h
  obtain ⟨h2, h3⟩ := takeV_ok h
  have e : takeS S n σ = ⟨σ.i + n, 0, σ.p⟩ := by unfold takeS; rw [if_pos h0, if_pos h1]
  rw [e]
  refine ⟨h0, rfl, by rw [h3], ?_⟩
  rw [h3, h2]
theorem leB_leN (T : List UInt8) : leB T.length (leN T) = T := by
  induction T with
  | nil => rfl
  | cons b l ih =>
    have hb := b.toNat_lt
    have hl := (leN_range l).1
    rw [List.length_cons, leB, leN]
    have e1 : ((b.toNat : Int) + 256 * leN l) % 256 = b.toNat := by omega
    have e2 : ((b.toNat : Int) + 256 * leN l) / 256 = leN l := by omega
    rw [e1, e2, ih]
    simp
theorem num_rd (S : List UInt8) (n : Nat) (σ : RS) : Rd S σ (takeS S n σ) (leB n (numV S n σ)) := (take_rd S n σ).as fun h => by
  have := leB_leN (takeV S n σ)
  rw [(takeV_ok h).2] at this
  exact this.symm
theorem u64_num {x : Int} (h : 0 ≤ x ∧ x < 256) : u64 x = x := by unfold u64; omega
theorem failS_bad {e p : Int} {σ : RS} (h : e ≠ 0) : (failS e p σ).e ≠ 0 := by
  unfold failS; split
  · exact h
  · assumption
theorem Rd.nil_r {S : List UInt8} {a b : RS} {B : List UInt8} (h : Rd S a b (B ++ [])) : Rd S a b B := by rwa [List.append_nil] at h
theorem kind_rd (S : List UInt8) (σ : RS) : Rd S σ (kindP S σ).2 (typB (kindP S σ).1) := by
  unfold kindP
  split
  · rename_i h
    have := num_rd S 1 σ
    rw [h] at this
    exact this
  · split
    · rename_i h
      have h0 := num_rd S 1 σ
      rw [h] at h0
      have h1 := num_rd S 8 (takeS S 1 σ)
      have h2 := num_rd S 8 (takeS S 8 (takeS S 1 σ))
      have h3 := num_rd S 8 (takeS S 8 (takeS S 8 (takeS S 1 σ)))
      have h4 := num_rd S 8 (takeS S 8 (takeS S 8 (takeS S 8 (takeS S 1 σ))))
      have h5 := num_rd S 1 (takeS S 8 (takeS S 8 (takeS S 8 (takeS S 8 (takeS S 1 σ)))))
      have h6 := num_rd S 1 (takeS S 1 (takeS S 8 (takeS S 8 (takeS S 8 (takeS S 8 (takeS S 1 σ))))))
      have all := h0.trans (h1.trans (h2.trans (h3.trans (h4.trans (h5.trans h6)))))
      show Rd S σ (typS S (takeS S 1 σ)) (typB (typV S (takeS S 1 σ)))
      unfold typS typB typV
      simp only [putB, if_true]
      rw [u64_num (num1 S _)]
      simpa using all
    · exact Rd.bad (failS_bad (by decide))
theorem slot_rd (S : List UInt8) (σ : RS) : Rd S σ (slotP S σ).2 (slotB (slotP S σ).1) := by
  have := (kind_rd S σ).trans (num_rd S 8 (kindP S σ).2)
  show Rd S σ (takeS S 8 (kindP S σ).2) (typB (kindP S σ).1 ++ putB 8 [numV S 8 (kindP S σ).2])
  simpa [putB] using this
theorem root_rd (S : List UInt8) (σ : RS) : Rd S σ (rootP S σ).2 (rootB (rootP S σ).1) := by
  have h0 := num_rd S 1 σ
  have h1 := num_rd S 8 (takeS S 1 σ)
  have h2 := num_rd S 8 (takeS S 8 (takeS S 1 σ))
  have h3 := num_rd S 8 (takeS S 8 (takeS S 8 (takeS S 1 σ)))
  have h4 := num_rd S 1 (takeS S 8 (takeS S 8 (takeS S 8 (takeS S 1 σ))))
  have h5 := num_rd S 1 (takeS S 1 (takeS S 8 (takeS S 8 (takeS S 8 (takeS S 1 σ)))))
  have all := h0.trans (h1.trans (h2.trans (h3.trans (h4.trans h5))))
  unfold rootP rootB
  simp only [putB, capS]
  rw [u64_num (num1 S _), u64_num (num1 S _)]
  simpa using all
theorem list_rd {α : Type} {S : List UInt8} {f : RS → α × RS} {g : α → List UInt8} (hf : ∀ σ, Rd S σ (f σ).2 (g (f σ).1)) : ∀ (n : Nat) (σ : RS) (L : List α), (listF f n σ L).2.e = 0 → ∃ M, (listF f n σ L).1 = L ++ M ∧ M.length = n ∧ Rd S σ (listF f n σ L).2 (M.flatMap g)
  | 0, σ, L, h => by
    rw [listF] at h ⊢
    exact ⟨[], by simp, rfl, fun e => ⟨e, rfl, by simp, by simp [sub]⟩⟩
  | n + 1, σ, L, h => by
    rw [listF] at h ⊢
    split at h
    · rename_i h0
      rw [if_pos h0]
      obtain ⟨M, e1, e2, e3⟩ := list_rd hf n (f σ).2 (L ++ [(f σ).1]) h
      refine ⟨(f σ).1 :: M, by rw [e1]; simp, by simp [e2], ?_⟩
      rw [List.flatMap_cons]
      exact (hf σ).trans e3
    · rename_i h0; exact absurd h h0
theorem typsB_eq : ∀ L : List PTyp, typsB L = L.flatMap typB
  | [] => rfl
  | t :: l => by rw [typsB, typsB_eq l, List.flatMap_cons]
theorem slotsB_eq : ∀ L : List PSlot, slotsB L = L.flatMap slotB
  | [] => rfl
  | t :: l => by rw [slotsB, slotsB_eq l, List.flatMap_cons]
theorem rootsB_eq : ∀ L : List PRoot, rootsB L = L.flatMap rootB
  | [] => rfl
  | t :: l => by rw [rootsB, rootsB_eq l, List.flatMap_cons]
theorem regsB_eq : ∀ L : List PReg, regsB L = L.flatMap regB
  | [] => rfl
  | t :: l => by rw [regsB, regsB_eq l, List.flatMap_cons]
theorem compsB_eq : ∀ L : List PComp, compsB L = L.flatMap compB
  | [] => rfl
  | t :: l => by rw [compsB, compsB_eq l, List.flatMap_cons]
theorem gatesB_eq : ∀ L : List PGate, gatesB L = L.flatMap gateB
  | [] => rfl
  | t :: l => by rw [gatesB, gatesB_eq l, List.flatMap_cons]
theorem list_rd0 {α : Type} {S : List UInt8} {f : RS → α × RS} {g : α → List UInt8} (hf : ∀ σ, Rd S σ (f σ).2 (g (f σ).1)) (n : Nat) (σ : RS) (h : (listF f n σ []).2.e = 0) : (listF f n σ []).1.length = n ∧ Rd S σ (listF f n σ []).2 ((listF f n σ []).1.flatMap g) := by
  obtain ⟨M, e1, e2, e3⟩ := list_rd hf n σ [] h
  rw [List.nil_append] at e1
  rw [e1]
  exact ⟨e2, e3⟩
theorem toNat_n (S : List UInt8) (n : Nat) (σ : RS) : (((numV S n σ).toNat : Nat) : Int) = numV S n σ := Int.toNat_of_nonneg (numV_range S n σ).1
theorem kinds_rd (S : List UInt8) (σ : RS) : Rd S σ (kindsP S σ).2 (kindsB (kindsP S σ).1) := fun h => by
  obtain ⟨h1, h2⟩ := list_rd0 (kind_rd S) (numV S 1 σ).toNat (takeS S 1 σ) h
  have h3 := (num_rd S 1 σ).trans h2
  unfold kindsB kindsP
  rw [h1, toNat_n, typsB_eq]
  have : putB 1 [numV S 1 σ] = leB 1 (numV S 1 σ) := by simp [putB]
  rw [this]
  exact h3 h
theorem gate_rd (S : List UInt8) (σ : RS) : Rd S σ (gateP S σ).2 (gateB (gateP S σ).1) := by
  have h0 := num_rd S 1 σ
  have h1 := num_rd S 2 (takeS S 1 σ)
  have h2 := kinds_rd S (gateS S σ)
  have h3 := kinds_rd S (kindsP S (gateS S σ)).2
  have all := h0.trans (h1.trans (h2.trans h3))
  have a := num1 S σ
  have b := num2 S (takeS S 1 σ)
  have e2 : u64 (numV S 2 (takeS S 1 σ)) = numV S 2 (takeS S 1 σ) := by unfold u64; omega
  show Rd S σ (kindsP S (kindsP S (gateS S σ)).2).2 (putB 1 [u64 (numV S 1 σ)] ++ putB 2 [u64 (numV S 2 (takeS S 1 σ))] ++ kindsB (kindsP S (gateS S σ)).1 ++ kindsB (kindsP S (kindsP S (gateS S σ)).2).1)
  rw [u64_num a, e2]
  simpa [putB] using all
theorem code_rd (S : List UInt8) (n : Nat) (σ : RS) (h : (codeP S n σ).2.e = 0) : (codeP S n σ).1.length = n ∧ Rd S σ (codeP S n σ).2 (encF (codeP S n σ).1 0 []).1 := by
  have hs : (codeP S n σ).2 = if wholeN S n σ < n then failS 41 S.length (codeS1 S n σ) else codeS1 S n σ := rfl
  have hw : ¬ wholeN S n σ < n := fun q => by
    rw [hs, if_pos q] at h
    exact failS_bad (by decide) h
  rw [hs, if_neg hw] at h
  have hwn : wholeN S n σ = n := by have := (whole_le S n σ).1; omega
  have hd : (decB S n σ).2.1 = 0 := by
    rcases Decidable.em ((decB S n σ).2.1 = 0) with q | q
    · exact q
    · unfold codeS1 at h
      rw [if_neg q] at h
      exact absurd h (failS_bad q)
  have h1 : codeS1 S n σ = takeS S (n * 8) σ := by unfold codeS1; rw [if_pos hd, hwn]
  rw [hs, if_neg hw, h1]
  rw [h1] at h
  have hv := takeV_ok h
  have hdB : decB S n σ = decA (takeV S (n * 8) σ) := by unfold decB; rw [hwn]
  rw [hdB] at hd
  obtain ⟨L, e, hA, _, hc⟩ := decA_ok hd
  have hL : (codeP S n σ).1 = L := by show (decB S n σ).1 = L; rw [hdB, e]
  rw [hL, enc_all L hA]
  have hl := code_length L
  rw [hc, hv.2] at hl
  refine ⟨by omega, ?_⟩
  have := take_rd S (n * 8) σ
  rw [← hc] at this
  simpa using this
theorem comp_rd (S : List UInt8) (σ : RS) : Rd S σ (compP S σ).2 (compB (compP S σ).1) := fun h => by
  obtain ⟨k1, k2⟩ := code_rd S (numV S 2 (rootsP S σ).2).toNat (takeS S 2 (rootsP S σ).2) h
  have hr0 := (k2 h).1
  have hr := (takeS_ok hr0).1
  obtain ⟨h1, h2⟩ := list_rd0 (root_rd S) (numV S 1 σ).toNat (takeS S 1 σ) hr
  have all := (num_rd S 1 σ).trans (h2.trans ((num_rd S 2 (rootsP S σ).2).trans k2))
  have e : compB (compP S σ).1 = leB 1 (numV S 1 σ) ++ ((rootsP S σ).1.flatMap rootB ++ (leB 2 (numV S 2 (rootsP S σ).2) ++ (encF (insP S (rootsP S σ).2).1 0 []).1)) := by
    show putB 1 [((rootsP S σ).1.length : Int)] ++ rootsB (rootsP S σ).1 ++ (putB 2 [((insP S (rootsP S σ).2).1.length : Int)] ++ (encF (insP S (rootsP S σ).2).1 0 []).1) = _
    have e1 : ((rootsP S σ).1.length : Int) = numV S 1 σ := by rw [← toNat_n S 1 σ]; exact congrArg _ h1
    have e2 : ((insP S (rootsP S σ).2).1.length : Int) = numV S 2 (rootsP S σ).2 := by rw [← toNat_n S 2 (rootsP S σ).2]; exact congrArg _ k1
    rw [e1, e2, rootsB_eq]
    simp [putB]
  rw [e]
  exact all h
theorem reg_rd (S : List UInt8) (σ : RS) : Rd S σ (regP S σ).2 (regB (regP S σ).1) := fun h => by
  have base := (num_rd S 4 σ).trans ((num_rd S 4 (takeS S 4 σ)).trans (num_rd S 2 (takeS S 4 (takeS S 4 σ))))
  have hk := toNat_n S 2 (takeS S 4 (takeS S 4 σ))
  by_cases h0 : 0 < regK S σ
  · have e : regP S σ = (⟨numV S 4 σ, numV S 4 (takeS S 4 σ), [], (listF (slotP S) (regK S σ) (regS S σ) []).1⟩, (listF (slotP S) (regK S σ) (regS S σ) []).2) := if_pos h0
    rw [e] at h ⊢
    obtain ⟨h1, h2⟩ := list_rd0 (slot_rd S) (regK S σ) (regS S σ) h
    have all := base.trans h2
    have hk2 : ((regK S σ : Nat) : Int) = numV S 2 (takeS S 4 (takeS S 4 σ)) := hk
    have e2 : regB ⟨numV S 4 σ, numV S 4 (takeS S 4 σ), [], (listF (slotP S) (regK S σ) (regS S σ) []).1⟩ = leB 4 (numV S 4 σ) ++ (leB 4 (numV S 4 (takeS S 4 σ)) ++ leB 2 (numV S 2 (takeS S 4 (takeS S 4 σ)))) ++ (listF (slotP S) (regK S σ) (regS S σ) []).1.flatMap slotB := by
      unfold regB dataBy
      simp only [h1]
      rw [hk2, if_neg (by omega), slotsB_eq]
      simp [putB]
    rw [e2]
    exact all h
  · have e : regP S σ = (⟨numV S 4 σ, numV S 4 (takeS S 4 σ), takeV S (regD S σ) (takeS S 2 (regS S σ)), []⟩, takeS S (regD S σ) (takeS S 2 (regS S σ))) := if_neg h0
    rw [e] at h ⊢
    have hz : numV S 2 (takeS S 4 (takeS S 4 σ)) = 0 := by
      have hk2 : ((regK S σ : Nat) : Int) = numV S 2 (takeS S 4 (takeS S 4 σ)) := hk
      omega
    have hd : ((regD S σ : Nat) : Int) = numV S 2 (regS S σ) := toNat_n S 2 (regS S σ)
    have all := base.trans ((num_rd S 2 (regS S σ)).trans (take_rd S (regD S σ) (takeS S 2 (regS S σ))))
    have e2 : regB ⟨numV S 4 σ, numV S 4 (takeS S 4 σ), takeV S (regD S σ) (takeS S 2 (regS S σ)), []⟩ = leB 4 (numV S 4 σ) ++ (leB 4 (numV S 4 (takeS S 4 σ)) ++ leB 2 (numV S 2 (takeS S 4 (takeS S 4 σ)))) ++ (leB 2 (numV S 2 (regS S σ)) ++ takeV S (regD S σ) (takeS S 2 (regS S σ))) := by
      unfold regB dataBy
      simp only [(takeV_ok h).2, hd, hz]
      simp [putB, slotsB]
    rw [e2]
    exact all h
theorem decI_ok {S : List UInt8} (h : (decI S).2.1 = 0) : decI S = ((imgP S).1, 0, 0) ∧ (imgP S).1.right = 0 ∧ encI (imgP S).1 = (S, 0) := by
  unfold decI at h
  split at h
  · cases h
  rename_i hl
  split at h
  case isFalse => rename_i q; exact absurd h q
  rename_i he
  split at h
  case isFalse => rename_i q; exact absurd h q
  rename_i hr
  have hd : decI S = ((imgP S).1, 0, 0) := by unfold decI; rw [if_neg hl, if_pos he, if_pos hr]
  refine ⟨hd, hr, ?_⟩
  have hB : imgB (imgP S).1 = S := by
    by_cases hp : magicB <+: S
    case neg =>
      have : imgP S = (zImg, ⟨0, 40, 0⟩) := if_neg hp
      rw [this] at he
      cases he
    have e : imgP S = (⟨(regsP S).1, (compsP S).1, (gatesP S).1, numV S 1 h0S⟩, restS S (gatesP S).2) := if_pos hp
    have hpl := imgP_pl S
    rw [e] at he hpl ⊢
    have hrest : ¬ (gatesP S).2.i < S.length := fun q => by
      have : restS S (gatesP S).2 = failS 49 (gatesP S).2.i (gatesP S).2 := if_pos q
      rw [this] at he
      exact failS_bad (by decide) he
    have hg : restS S (gatesP S).2 = (gatesP S).2 := if_neg hrest
    rw [hg] at he hpl
    simp only at he hpl ⊢
    obtain ⟨g1, g2⟩ := list_rd0 (gate_rd S) (numV S 1 (h3S S)).toNat (compsP S).2 he
    have hc := (g2 he).1
    obtain ⟨c1, c2⟩ := list_rd0 (comp_rd S) (numV S 1 (h2S S)).toNat (regsP S).2 hc
    have hrr := (c2 hc).1
    obtain ⟨r1, r2⟩ := list_rd0 (reg_rd S) (numV S 1 (h1S S)).toNat (h4S S) hrr
    have r2' : Rd S (h4S S) (regsP S).2 ((regsP S).1.flatMap regB) := r2
    have c2' : Rd S (regsP S).2 (compsP S).2 ((compsP S).1.flatMap compB) := c2
    have g2' : Rd S (compsP S).2 (gatesP S).2 ((gatesP S).1.flatMap gateB) := g2
    have all := (num_rd S 1 h0S).trans ((num_rd S 1 (h1S S)).trans ((num_rd S 1 (h2S S)).trans ((num_rd S 1 (h3S S)).trans (r2'.trans (c2'.trans g2')))))
    obtain ⟨_, _, hi, hsub⟩ := all he
    obtain ⟨t, ht⟩ := hp
    have a0 := num1 S h0S
    have q1 : (((regsP S).1.length : Nat) : Int) = numV S 1 (h1S S) := by rw [← toNat_n S 1 (h1S S)]; exact congrArg _ r1
    have q2 : (((compsP S).1.length : Nat) : Int) = numV S 1 (h2S S) := by rw [← toNat_n S 1 (h2S S)]; exact congrArg _ c1
    have q3 : (((gatesP S).1.length : Nat) : Int) = numV S 1 (h3S S) := by rw [← toNat_n S 1 (h3S S)]; exact congrArg _ g1
    have e2 : imgB ⟨(regsP S).1, (compsP S).1, (gatesP S).1, numV S 1 h0S⟩ = magicB ++ (leB 1 (numV S 1 h0S) ++ (leB 1 (numV S 1 (h1S S)) ++ (leB 1 (numV S 1 (h2S S)) ++ (leB 1 (numV S 1 (h3S S)) ++ ((regsP S).1.flatMap regB ++ ((compsP S).1.flatMap compB ++ (gatesP S).1.flatMap gateB)))))) := by
      unfold imgB
      simp only [putB]
      rw [u64_num a0, q1, q2, q3, regsB_eq, compsB_eq, gatesB_eq]
      simp
    rw [e2]
    have hlen : (gatesP S).2.i = S.length := by have := hpl.1; omega
    have h6 : h0S.i = magicB.length := rfl
    rw [hi, h6] at hlen
    rw [h6] at hsub
    rw [← hsub]
    subst ht
    unfold sub
    rw [hlen, List.take_length, List.drop_left]
  unfold encI
  rw [if_pos hr, hB, if_pos (by omega)]
theorem decI_bad {S : List UInt8} (h : (decI S).2.1 ≠ 0) : (decI S).1 = zImg := by
  unfold decI at h ⊢
  split
  · rfl
  · split
    · split
      · rename_i h1 h2 h3
        rw [if_neg h1, if_pos h2, if_pos h3] at h
        exact absurd rfl h
      · rfl
    · rfl
end Go.Proofs.YthmfaafpdogpdabDoor


/-
  Stage 4, image: what is written is read as it was. No Go in sight.
-/
namespace Go.Proofs.YthmfaafpdogpdabDoor
open Go.RowKit

/-- These bytes lie at this place. -/
def AtB (S : List UInt8) (i : Nat) (B : List UInt8) : Prop := i + B.length ≤ S.length ∧ sub S i B.length = B
theorem sub_split {S : List UInt8} {i : Nat} {B C : List UInt8} (h : sub S i (B ++ C).length = B ++ C) (hl : i + (B ++ C).length ≤ S.length) : sub S i B.length = B ∧ sub S (i + B.length) C.length = C := by
  rw [List.length_append] at h hl
  rw [← sub_app] at h
  have hb : (sub S i B.length).length = B.length := sub_length (by omega)
  exact List.append_inj h hb
theorem AtB.left {S : List UInt8} {i : Nat} {B C : List UInt8} (h : AtB S i (B ++ C)) : AtB S i B := by
  have := h.1
  rw [List.length_append] at this
  exact ⟨by omega, (sub_split h.2 h.1).1⟩
theorem AtB.right {S : List UInt8} {i : Nat} {B C : List UInt8} (h : AtB S i (B ++ C)) : AtB S (i + B.length) C := by
  have := h.1
  rw [List.length_append] at this
  exact ⟨by omega, (sub_split h.2 h.1).2⟩
theorem atB_mid (A B C : List UInt8) : AtB (A ++ (B ++ C)) A.length B := by
  refine ⟨by simp, ?_⟩
  unfold sub
  rw [← List.append_assoc, List.take_append_of_le_length (by simp), List.take_of_length_le (by simp), List.drop_left]
/-- The reader, so many bytes on. -/
def adv (σ : RS) (n : Nat) : RS := ⟨σ.i + n, 0, σ.p⟩
theorem adv_adv (σ : RS) (m n : Nat) : adv (adv σ m) n = adv σ (m + n) := by unfold adv; simp; omega
theorem adv_e (σ : RS) (n : Nat) : (adv σ n).e = 0 := rfl
theorem adv_i (σ : RS) (n : Nat) : (adv σ n).i = σ.i + n := rfl
theorem take_at {S : List UInt8} {σ : RS} {B : List UInt8} (h0 : σ.e = 0) (h : AtB S σ.i B) : takeS S B.length σ = adv σ B.length ∧ takeV S B.length σ = B := by
  unfold takeS takeV adv
  rw [if_pos h0, if_pos h.1, if_pos h0, if_pos h.1]
  exact ⟨rfl, h.2⟩
theorem leN_leB (n : Nat) (x : Int) (h0 : 0 ≤ x) (h1 : x < 2 ^ (8 * n)) : leN (leB n x) = x := by
  induction n generalizing x with
  | zero => simp at h1; simp [leB, leN]; omega
  | succ n ih =>
    have e : (2 : Int) ^ (8 * (n + 1)) = 256 * 2 ^ (8 * n) := by rw [Nat.mul_succ, Int.pow_add]; omega
    rw [e] at h1
    rw [leB, leN, ih (x / 256) (by omega) (by omega)]
    have : (x % 256).toNat < 256 := by omega
    have e2 : ((UInt8.ofNat (x % 256).toNat).toNat : Int) = x % 256 := by
      rw [UInt8.toNat_ofNat']
      omega
    rw [e2]
    omega
theorem num_at {S : List UInt8} {σ : RS} {n : Nat} {x : Int} (h0 : σ.e = 0) (h : AtB S σ.i (leB n x)) (hx : 0 ≤ x ∧ x < 2 ^ (8 * n)) : takeS S n σ = adv σ n ∧ numV S n σ = x := by
  have := take_at h0 h
  rw [leB_length] at this
  refine ⟨this.1, ?_⟩
  unfold numV
  rw [this.2, leN_leB n x hx.1 hx.2]
theorem rightB_s {b e p s : Int} (h : dataB b e p s = true) : 0 ≤ s ∧ s ≤ 15 := by
  simp only [dataB, rightB, Bool.and_eq_true, decide_eq_true_eq] at h
  exact ⟨h.1.1.2, h.1.2⟩
theorem p8 {x : Int} (h : W64 x) : 0 ≤ x ∧ x < 2 ^ (8 * 8) := h
theorem p1 {x : Int} (h : B8 x) : 0 ≤ x ∧ x < 2 ^ (8 * 1) := h
theorem p1s {s : Int} (h : 0 ≤ s ∧ s ≤ 15) : 0 ≤ s ∧ s < 2 ^ (8 * 1) := by
  have e : (2 : Int) ^ (8 * 1) = 256 := rfl
  rw [e]; omega
theorem kind_at {S : List UInt8} {σ : RS} {t : PTyp} (ht : t.right = true) (hr : t.Rng) (h0 : σ.e = 0) (h : AtB S σ.i (typB t)) : kindP S σ = (t, adv σ (typB t).length) := by
  obtain ⟨cap, b, e, lo, hi, p, s⟩ := t
  cases cap with
  | false =>
    have hz : b = 0 ∧ e = 0 ∧ lo = 0 ∧ hi = 0 ∧ p = 0 ∧ s = 0 := by
      simp [PTyp.right] at ht
      omega
    obtain ⟨rfl, rfl, rfl, rfl, rfl, rfl⟩ := hz
    have hb : AtB S σ.i (leB 1 0) := h
    obtain ⟨a1, a2⟩ := num_at h0 hb ⟨by omega, by decide⟩
    unfold kindP
    rw [if_pos a2, a1]
    rfl
  | true =>
    have hs := rightB_s (b := b) (e := e) (p := p) (s := s) (by simp [PTyp.right] at ht; exact ht.1)
    have hu : u64 s = s := by unfold u64; omega
    have hB : typB ⟨true, b, e, lo, hi, p, s⟩ = leB 1 1 ++ (leB 8 b ++ (leB 8 e ++ (leB 8 lo ++ (leB 8 hi ++ (leB 1 p ++ leB 1 s))))) := by
      simp [typB, putB, hu]
    have hlen : (typB ⟨true, b, e, lo, hi, p, s⟩).length = 1 + 8 + 8 + 8 + 8 + 1 + 1 := by rw [hB]; simp [leB_length]
    rw [hB] at h
    obtain ⟨a1, a2⟩ := num_at h0 h.left ⟨by omega, by decide⟩
    have h := h.right
    rw [leB_length] at h
    obtain ⟨b1, b2⟩ := num_at (σ := adv σ 1) rfl h.left (p8 hr.1)
    have h := h.right
    rw [leB_length] at h
    obtain ⟨c1, c2⟩ := num_at (σ := adv σ (1 + 8)) rfl (by rw [adv_i, ← Nat.add_assoc]; exact h.left) (p8 hr.2.1)
    have h := h.right
    rw [leB_length] at h
    obtain ⟨d1, d2⟩ := num_at (σ := adv σ (1 + 8 + 8)) rfl (by rw [adv_i, ← Nat.add_assoc, ← Nat.add_assoc]; exact h.left) (p8 hr.2.2.1)
    have h := h.right
    rw [leB_length] at h
    obtain ⟨e1, e2⟩ := num_at (σ := adv σ (1 + 8 + 8 + 8)) rfl (by rw [adv_i, ← Nat.add_assoc, ← Nat.add_assoc, ← Nat.add_assoc]; exact h.left) (p8 hr.2.2.2.1)
    have h := h.right
    rw [leB_length] at h
    obtain ⟨f1, f2⟩ := num_at (σ := adv σ (1 + 8 + 8 + 8 + 8)) rfl (by rw [adv_i, ← Nat.add_assoc, ← Nat.add_assoc, ← Nat.add_assoc, ← Nat.add_assoc]; exact h.left) (p1 hr.2.2.2.2.1)
    have h := h.right
    rw [leB_length] at h
    obtain ⟨g1, g2⟩ := num_at (σ := adv σ (1 + 8 + 8 + 8 + 8 + 1)) rfl (by rw [adv_i, ← Nat.add_assoc, ← Nat.add_assoc, ← Nat.add_assoc, ← Nat.add_assoc, ← Nat.add_assoc]; exact h) (p1s hs)
    rw [adv_adv] at b1 c1 d1 e1 f1 g1
    have hne : ¬ numV S 1 σ = 0 := by rw [a2]; decide
    unfold kindP
    rw [if_neg hne, if_pos a2, a1]
    unfold typV typS
    rw [b1, b2, c1, c2, d1, d2, e1, e2, f1, f2, g1, g2, hlen]
theorem slot_at {S : List UInt8} {σ : RS} {k : PSlot} (ht : k.right = true) (hr : k.Rng) (h0 : σ.e = 0) (h : AtB S σ.i (slotB k)) : slotP S σ = (k, adv σ (slotB k).length) := by
  have ht2 : k.t.right = true := by simp only [PSlot.right, Bool.and_eq_true] at ht; exact ht.1.2
  have hB : slotB k = typB k.t ++ leB 8 k.c := by simp [slotB, putB]
  have hlen : (slotB k).length = (typB k.t).length + 8 := by rw [hB]; simp [leB_length]
  rw [hB] at h
  have a := kind_at ht2 hr.1 h0 h.left
  obtain ⟨b1, b2⟩ := num_at (σ := adv σ (typB k.t).length) rfl h.right (p8 hr.2)
  rw [adv_adv] at b1
  unfold slotP
  rw [a, b1, b2, hlen]
theorem root_at {S : List UInt8} {σ : RS} {k : PRoot} (ht : dataB k.b k.e k.p k.s = true) (hreg : 0 ≤ k.r ∧ k.r ≤ 15) (hr : k.Rng) (h0 : σ.e = 0) (h : AtB S σ.i (rootB k)) : rootP S σ = (k, adv σ (rootB k).length) := by
  obtain ⟨r, b, e, c, p, s⟩ := k
  simp only at ht hreg
  have hs := rightB_s ht
  have hu : u64 s = s := by unfold u64; omega
  have hv : u64 r = r := by unfold u64; omega
  have hB : rootB ⟨r, b, e, c, p, s⟩ = leB 1 r ++ (leB 8 b ++ (leB 8 e ++ (leB 8 c ++ (leB 1 p ++ leB 1 s)))) := by simp [rootB, putB, hu, hv]
  have hlen : (rootB ⟨r, b, e, c, p, s⟩).length = 1 + 8 + 8 + 8 + 1 + 1 := by rw [hB]; simp [leB_length]
  rw [hB] at h
  obtain ⟨a1, a2⟩ := num_at h0 h.left (p1s hreg)
  have h := h.right
  rw [leB_length] at h
  obtain ⟨b1, b2⟩ := num_at (σ := adv σ 1) rfl h.left (p8 hr.2.1)
  have h := h.right
  rw [leB_length] at h
  obtain ⟨c1, c2⟩ := num_at (σ := adv σ (1 + 8)) rfl (by rw [adv_i, ← Nat.add_assoc]; exact h.left) (p8 hr.2.2.1)
  have h := h.right
  rw [leB_length] at h
  obtain ⟨d1, d2⟩ := num_at (σ := adv σ (1 + 8 + 8)) rfl (by rw [adv_i, ← Nat.add_assoc, ← Nat.add_assoc]; exact h.left) (p8 hr.2.2.2.1)
  have h := h.right
  rw [leB_length] at h
  obtain ⟨f1, f2⟩ := num_at (σ := adv σ (1 + 8 + 8 + 8)) rfl (by rw [adv_i, ← Nat.add_assoc, ← Nat.add_assoc, ← Nat.add_assoc]; exact h.left) (p1 hr.2.2.2.2.1)
  have h := h.right
  rw [leB_length] at h
  obtain ⟨g1, g2⟩ := num_at (σ := adv σ (1 + 8 + 8 + 8 + 1)) rfl (by rw [adv_i, ← Nat.add_assoc, ← Nat.add_assoc, ← Nat.add_assoc, ← Nat.add_assoc]; exact h) (p1s hs)
  rw [adv_adv] at b1 c1 d1 f1 g1
  unfold rootP capS
  rw [a1, a2, b1, b2, c1, c2, d1, d2, f1, f2, g1, g2, hlen]
theorem list_at {α : Type} {S : List UInt8} {f : RS → α × RS} {g : α → List UInt8} : ∀ (L : List α) (σ : RS) (M : List α), (∀ x ∈ L, ∀ σ : RS, σ.e = 0 → AtB S σ.i (g x) → f σ = (x, adv σ (g x).length)) → σ.e = 0 → AtB S σ.i (L.flatMap g) → listF f L.length σ M = (M ++ L, adv σ (L.flatMap g).length)
  | [], σ, M, _, h0, _ => by
    obtain ⟨i, e, p⟩ := σ
    simp only at h0
    subst h0
    simp [listF, adv]
  | x :: L, σ, M, hf, h0, h => by
    rw [List.flatMap_cons] at h ⊢
    have hx := hf x (by simp) σ h0 h.left
    rw [List.length_cons, listF, hx]
    show (if (adv σ (g x).length).e = 0 then listF f L.length (adv σ (g x).length) (M ++ [x]) else ([], adv σ (g x).length)) = _
    rw [if_pos (adv_e _ _)]
    rw [list_at L (adv σ (g x).length) (M ++ [x]) (fun y hy => hf y (by simp [hy])) rfl h.right, adv_adv, List.length_append]
    simp
theorem list_at0 {α : Type} {S : List UInt8} {f : RS → α × RS} {g : α → List UInt8} (L : List α) (σ : RS) (hf : ∀ x ∈ L, ∀ σ : RS, σ.e = 0 → AtB S σ.i (g x) → f σ = (x, adv σ (g x).length)) (h0 : σ.e = 0) (h : AtB S σ.i (L.flatMap g)) : listF f L.length σ [] = (L, adv σ (L.flatMap g).length) := by
  rw [list_at L σ [] hf h0 h, List.nil_append]
theorem slotsR_all : ∀ {L : List PSlot}, slotsR L = true → ∀ k ∈ L, k.right = true
  | [], _, k, h => by simp at h
  | x :: L, h, k, hk => by
    rw [slotsR, Bool.and_eq_true] at h
    rcases List.mem_cons.1 hk with rfl | hk
    · exact h.1
    · exact slotsR_all h.2 k hk
theorem typesR_all : ∀ {L : List PTyp}, typesR L = true → ∀ k ∈ L, k.right = true
  | [], _, k, h => by simp at h
  | x :: L, h, k, hk => by
    rw [typesR, Bool.and_eq_true] at h
    rcases List.mem_cons.1 hk with rfl | hk
    · exact h.1
    · exact typesR_all h.2 k hk
theorem rootsR_all : ∀ {L : List PRoot} {f : Int}, rootsR L f = true → 7 ≤ f → (∀ k ∈ L, dataB k.b k.e k.p k.s = true ∧ 0 ≤ k.r ∧ k.r ≤ 15) ∧ (L = [] ∨ f + L.length ≤ 15)
  | [], _, _, _ => ⟨fun k h => by simp at h, .inl rfl⟩
  | x :: L, f, h, hf => by
    rw [rootsR] at h
    split at h
    case isFalse => cases h
    rename_i hc
    obtain ⟨h1, h2⟩ := rootsR_all h (by omega)
    refine ⟨fun k hk => ?_, .inr ?_⟩
    · rcases List.mem_cons.1 hk with rfl | hk
      · exact ⟨hc.2.2, by omega, by omega⟩
      · exact h1 k hk
    · rw [List.length_cons]
      rcases h2 with rfl | h2
      · simp; omega
      · omega
theorem codeF_all : ∀ {L : List Ins} {n g : Int}, codeF n g L = 0 → AllR L
  | [], _, _, _, k, h => by simp at h
  | x :: L, n, g, h, k, hk => by
    rw [codeF] at h
    split at h
    · rename_i h1
      split at h
      · rcases List.mem_cons.1 hk with rfl | hk
        · exact h1
        · exact codeF_all h k hk
      · cases h
    · rename_i h1; exact absurd h h1
theorem two16 {x : Int} (h0 : 0 ≤ x) (h1 : x < 65536) : 0 ≤ x ∧ x < 2 ^ (8 * 2) := ⟨h0, h1⟩
theorem two8 {x : Int} (h0 : 0 ≤ x) (h1 : x < 256) : 0 ≤ x ∧ x < 2 ^ (8 * 1) := ⟨h0, h1⟩
theorem two32 {x : Int} (h0 : 0 ≤ x) (h1 : x < 4294967296) : 0 ≤ x ∧ x < 2 ^ (8 * 4) := ⟨h0, h1⟩
theorem code_at {S : List UInt8} {σ : RS} {L : List Ins} (hA : AllR L) (hO : OpsIn L) (h0 : σ.e = 0) (h : AtB S σ.i (code L)) : codeP S L.length σ = (L, adv σ (code L).length) := by
  have hl := code_length L
  have hc : L.length * 8 = (code L).length := by omega
  have hw : wholeN S L.length σ = L.length := by unfold wholeN; have := h.1; omega
  have hd : decB S L.length σ = (L, 0, 0) := by
    unfold decB
    rw [hw, hc, (take_at h0 h).2, dec_all L hA hO]
  have h1 : codeS1 S L.length σ = adv σ (code L).length := by
    unfold codeS1
    rw [hd, if_pos rfl, hw, hc, (take_at h0 h).1]
  unfold codeP
  rw [hd, h1, hw, if_neg (Nat.lt_irrefl _)]
theorem ins_at {S : List UInt8} {σ : RS} {L : List Ins} (hA : AllR L) (hO : OpsIn L) (hn : L.length ≤ 400) (h0 : σ.e = 0) (h : AtB S σ.i (codeBy L)) : insP S σ = (L, adv σ (codeBy L).length) := by
  have hB : codeBy L = leB 2 (L.length : Int) ++ code L := by simp [codeBy, putB, enc_all L hA]
  have hlen : (codeBy L).length = 2 + (code L).length := by rw [hB]; simp [leB_length]
  rw [hB] at h
  obtain ⟨a1, a2⟩ := num_at h0 h.left (two16 (by omega) (by omega))
  have h := h.right
  rw [leB_length] at h
  unfold insP
  rw [a1, a2, Int.toNat_natCast, code_at hA hO rfl h, adv_adv, hlen]
theorem kinds_at {S : List UInt8} {σ : RS} {L : List PTyp} (ht : typesR L = true) (hr : ∀ k ∈ L, k.Rng) (hn : L.length ≤ 7) (h0 : σ.e = 0) (h : AtB S σ.i (kindsB L)) : kindsP S σ = (L, adv σ (kindsB L).length) := by
  have hB : kindsB L = leB 1 (L.length : Int) ++ L.flatMap typB := by simp [kindsB, putB, typsB_eq]
  have hlen : (kindsB L).length = 1 + (L.flatMap typB).length := by rw [hB]; simp [leB_length]
  rw [hB] at h
  obtain ⟨a1, a2⟩ := num_at h0 h.left (two8 (by omega) (by omega))
  have h := h.right
  rw [leB_length] at h
  unfold kindsP
  rw [a1, a2, Int.toNat_natCast, list_at0 L (adv σ 1) (fun x hx τ q0 q => kind_at (typesR_all ht x hx) (hr x hx) q0 q) rfl h, adv_adv, hlen]
theorem gate_at {S : List UInt8} {σ : RS} {g : PGate} (hc : 0 ≤ g.c ∧ g.c < 256) (he : 0 ≤ g.e ∧ g.e < 65536) (h1 : g.args.length ≤ 7) (h2 : g.res.length ≤ 7) (t1 : typesR g.args = true) (t2 : typesR g.res = true) (hr : g.Rng) (h0 : σ.e = 0) (h : AtB S σ.i (gateB g)) : gateP S σ = (g, adv σ (gateB g).length) := by
  have u1 : u64 g.c = g.c := by unfold u64; omega
  have u2 : u64 g.e = g.e := by unfold u64; omega
  have hB : gateB g = leB 1 g.c ++ (leB 2 g.e ++ (kindsB g.args ++ kindsB g.res)) := by simp [gateB, putB, u1, u2]
  have hlen : (gateB g).length = 1 + 2 + (kindsB g.args).length + (kindsB g.res).length := by rw [hB]; simp [leB_length]; omega
  rw [hB] at h
  obtain ⟨a1, a2⟩ := num_at h0 h.left (two8 hc.1 hc.2)
  have h := h.right
  rw [leB_length] at h
  obtain ⟨b1, b2⟩ := num_at (σ := adv σ 1) rfl h.left (two16 he.1 he.2)
  have h := h.right
  rw [leB_length] at h
  rw [adv_adv] at b1
  have c := kinds_at (σ := adv σ (1 + 2)) t1 hr.2.2.2.2.1 h1 rfl (by rw [adv_i, ← Nat.add_assoc]; exact h.left)
  have h := h.right
  have d := kinds_at (σ := adv σ (1 + 2 + (kindsB g.args).length)) t2 hr.2.2.2.2.2 h2 rfl (by rw [adv_i, ← Nat.add_assoc, ← Nat.add_assoc]; exact h)
  rw [adv_adv] at c d
  unfold gateP gateS
  rw [a1, a2, b1, b2, c, d, hlen]
theorem comp_at {S : List UInt8} {σ : RS} {c : PComp} (t1 : rootsR c.roots 7 = true) (hA : AllR c.code) (hn : c.code.length ≤ 400) (hr : c.Rng) (h0 : σ.e = 0) (h : AtB S σ.i (compB c)) : compP S σ = (c, adv σ (compB c).length) := by
  obtain ⟨q1, q2⟩ := rootsR_all t1 (by omega)
  have hl : c.roots.length ≤ 8 := by
    rcases q2 with q | q
    · rw [q]; simp
    · omega
  have hB : compB c = leB 1 (c.roots.length : Int) ++ (c.roots.flatMap rootB ++ codeBy c.code) := by simp [compB, putB, rootsB_eq]
  have hlen : (compB c).length = 1 + (c.roots.flatMap rootB).length + (codeBy c.code).length := by rw [hB]; simp [leB_length]; omega
  rw [hB] at h
  obtain ⟨a1, a2⟩ := num_at h0 h.left (two8 (by omega) (by omega))
  have h := h.right
  rw [leB_length] at h
  have b := list_at0 c.roots (adv σ 1) (f := rootP S) (g := rootB) (fun x hx τ q0 q => root_at (q1 x hx).1 (q1 x hx).2 (hr.2.2.2 x hx) q0 q) rfl h.left
  have h := h.right
  rw [adv_adv] at b
  have d := ins_at (σ := adv σ (1 + (c.roots.flatMap rootB).length)) hA hr.2.2.1 hn rfl (by rw [adv_i, ← Nat.add_assoc]; exact h)
  rw [adv_adv] at d
  have hro : rootsP S σ = (c.roots, adv σ (1 + (c.roots.flatMap rootB).length)) := by unfold rootsP; rw [a1, a2, Int.toNat_natCast, b]
  unfold compP
  rw [hro, d, hlen]
theorem reg_at {S : List UInt8} {σ : RS} {r : PReg} (hb : 0 ≤ r.b ∧ r.b < 65536) (hn : 0 ≤ r.n ∧ r.n ≤ 65536) (hc : contentB r.n r.data r.slots.length = true) (hs : slotsR r.slots = true) (hl : r.data.length ≤ 40000) (hr : r.Rng) (h0 : σ.e = 0) (h : AtB S σ.i (regB r)) : regP S σ = (r, adv σ (regB r).length) := by
  obtain ⟨b, n, D, L⟩ := r
  simp only at hb hn hc hs hl
  by_cases hk : 0 < L.length
  · unfold contentB at hc
    rw [if_pos hk, Bool.and_eq_true] at hc
    have hD : D = [] := by simpa using hc.1
    subst hD
    have hnl : n = 16 * (L.length : Int) := by simpa using hc.2
    have hB : regB ⟨b, n, [], L⟩ = leB 4 b ++ (leB 4 n ++ (leB 2 (L.length : Int) ++ L.flatMap slotB)) := by
      have : ¬ L.length = 0 := by omega
      simp [regB, dataBy, putB, slotsB_eq]
      intro q; exact absurd (by rw [q]; rfl) this
    have hlen : (regB ⟨b, n, [], L⟩).length = 4 + 4 + 2 + (L.flatMap slotB).length := by rw [hB]; simp [leB_length]; omega
    rw [hB] at h
    obtain ⟨a1, a2⟩ := num_at h0 h.left (two32 (by omega) (by omega))
    have h := h.right
    rw [leB_length] at h
    obtain ⟨b1, b2⟩ := num_at (σ := adv σ 4) rfl h.left (two32 (by omega) (by omega))
    have h := h.right
    rw [leB_length] at h
    rw [adv_adv] at b1
    obtain ⟨c1, c2⟩ := num_at (σ := adv σ (4 + 4)) rfl (by rw [adv_i, ← Nat.add_assoc]; exact h.left) (two16 (by omega) (by omega))
    have h := h.right
    rw [leB_length] at h
    rw [adv_adv] at c1
    have d := list_at0 L (adv σ (4 + 4 + 2)) (f := slotP S) (g := slotB) (fun x hx τ q0 q => slot_at (slotsR_all hs x hx) (hr.2.2.2.2 x hx) q0 q) rfl (by rw [adv_i, ← Nat.add_assoc, ← Nat.add_assoc]; exact h)
    rw [adv_adv] at d
    have eS : regS S σ = adv σ (4 + 4 + 2) := by unfold regS; rw [a1, b1, c1]
    have eK : regK S σ = L.length := by unfold regK; rw [a1, b1, c2, Int.toNat_natCast]
    unfold regP
    rw [eK, if_pos hk, eS, d, a1, a2, b2, hlen]
  · obtain rfl : L = [] := by cases L with | nil => rfl | cons _ _ => simp at hk
    have hB : regB ⟨b, n, D, []⟩ = leB 4 b ++ (leB 4 n ++ (leB 2 0 ++ (leB 2 (D.length : Int) ++ D))) := by simp [regB, dataBy, putB, slotsB]
    have hlen : (regB ⟨b, n, D, []⟩).length = 4 + 4 + 2 + 2 + D.length := by rw [hB]; simp [leB_length]; omega
    rw [hB] at h
    obtain ⟨a1, a2⟩ := num_at h0 h.left (two32 (by omega) (by omega))
    have h := h.right
    rw [leB_length] at h
    obtain ⟨b1, b2⟩ := num_at (σ := adv σ 4) rfl h.left (two32 (by omega) (by omega))
    have h := h.right
    rw [leB_length] at h
    rw [adv_adv] at b1
    obtain ⟨c1, c2⟩ := num_at (σ := adv σ (4 + 4)) rfl (by rw [adv_i, ← Nat.add_assoc]; exact h.left) (two16 (by omega) (by omega))
    have h := h.right
    rw [leB_length] at h
    rw [adv_adv] at c1
    obtain ⟨d1, d2⟩ := num_at (σ := adv σ (4 + 4 + 2)) rfl (by rw [adv_i, ← Nat.add_assoc, ← Nat.add_assoc]; exact h.left) (two16 (x := (D.length : Int)) (by omega) (by omega))
    have h := h.right
    rw [leB_length] at h
    rw [adv_adv] at d1
    obtain ⟨e1, e2⟩ := take_at (σ := adv σ (4 + 4 + 2 + 2)) rfl (by rw [adv_i, ← Nat.add_assoc, ← Nat.add_assoc, ← Nat.add_assoc]; exact h)
    rw [adv_adv] at e1
    have eS : regS S σ = adv σ (4 + 4 + 2) := by unfold regS; rw [a1, b1, c1]
    have eK : regK S σ = 0 := by unfold regK; rw [a1, b1, c2]; rfl
    have eD : regD S σ = D.length := by unfold regD; rw [eS, d2, Int.toNat_natCast]
    unfold regP
    rw [eK, if_neg (by omega), eD, eS, d1, e1, e2, a1, a2, b2, hlen]
end Go.Proofs.YthmfaafpdogpdabDoor


/-
  Stage 4, image: what is written of a right program is read as it was. No Go in sight.
-/
namespace Go.Proofs.YthmfaafpdogpdabDoor
open Go.RowKit

theorem regsR_all : ∀ {L : List PReg} {f : Int}, regsR L f = 0 → 0 ≤ f → ∀ r ∈ L, (f ≤ r.b ∧ r.b < 65536) ∧ r.n ≤ 65536 - r.b ∧ contentB r.n r.data r.slots.length = true ∧ slotsR r.slots = true ∧ (0 ≤ r.n → 0 ≤ r.b + r.n)
  | [], _, _, _, r, h => by simp at h
  | x :: L, f, h, hf, r, hr => by
    rw [regsR] at h
    split at h
    case isFalse => cases h
    rename_i hq
    split at h
    case isFalse => cases h
    rename_i hs
    rw [Bool.and_eq_true] at hq
    obtain ⟨hp, hc⟩ := hq
    simp [placeB] at hp
    rcases List.mem_cons.1 hr with rfl | hr
    · exact ⟨⟨by omega, by omega⟩, by omega, hc, hs, fun _ => by omega⟩
    · by_cases hn : 0 ≤ x.n
      · obtain ⟨a, b, c, d, e⟩ := regsR_all h (by omega) r hr
        exact ⟨⟨by omega, a.2⟩, b, c, d, e⟩
      · have hw : contentB x.n x.data x.slots.length = true := hc
        unfold contentB at hw
        split at hw
        · rw [Bool.and_eq_true] at hw
          have : x.n = 16 * (x.slots.length : Int) := by simpa using hw.2
          omega
        · rw [Bool.and_eq_true] at hw
          have : (x.data.length : Int) ≤ x.n := by simpa using hw.1
          omega
theorem compsR_all {g : Int} : ∀ {L : List PComp}, compsR g L = 0 → ∀ c ∈ L, rootsR c.roots 7 = true ∧ AllR c.code ∧ c.code.length ≤ 400
  | [], _, c, h => by simp at h
  | x :: L, h, c, hc => by
    rw [compsR] at h
    split at h
    case isFalse => cases h
    rename_i h1
    split at h
    case isFalse => rename_i h2; exact absurd h h2
    rename_i h2
    rcases List.mem_cons.1 hc with rfl | hc
    · unfold codeR at h2
      split at h2
      · cases h2
      · exact ⟨h1, codeF_all h2, by omega⟩
    · exact compsR_all h c hc
theorem gatesR_all {C : List PComp} : ∀ {L : List PGate}, gatesR C L = 0 → ∀ g ∈ L, hasI C g.c g.e = true ∧ g.args.length ≤ 7 ∧ g.res.length ≤ 7 ∧ typesR g.args = true ∧ typesR g.res = true
  | [], _, g, h => by simp at h
  | x :: L, h, g, hg => by
    rw [gatesR] at h
    split at h
    case isFalse => cases h
    rename_i h1
    split at h
    case isFalse => cases h
    rename_i h2
    rcases List.mem_cons.1 hg with rfl | hg
    · simp only [Bool.and_eq_true, decide_eq_true_eq] at h1 h2
      exact ⟨h1.1.1, h1.1.2, h1.2, h2.1, h2.2⟩
    · exact gatesR_all h g hg
theorem hasI_in {C : List PComp} {c e : Int} (h : hasI C c e = true) (hC : C.length ≤ 4) (hc : ∀ k ∈ C, k.code.length ≤ 400) : (0 ≤ c ∧ c < 256) ∧ (0 ≤ e ∧ e < 65536) := by
  unfold hasI at h
  split at h
  case isFalse => cases h
  rename_i q
  split at h
  · rename_i k hk
    have hm : k ∈ C := List.mem_of_getElem? hk
    have := hc k hm
    have : e < k.code.length := by simpa using h
    omega
  · cases h
theorem mem_len {α : Type} {g : α → List UInt8} {L : List α} {x : α} (h : x ∈ L) : (g x).length ≤ (L.flatMap g).length := by
  induction L with
  | nil => simp at h
  | cons a l ih =>
    rw [List.flatMap_cons, List.length_append]
    rcases List.mem_cons.1 h with rfl | h
    · omega
    · have := ih h; omega
structure Parts (m : PImg) : Prop where
  n1 : m.regs.length ≤ 8
  n2 : m.comps.length ≤ 4
  n3 : m.gates.length ≤ 16
  d : 1 ≤ m.depth ∧ m.depth ≤ 16
  regs : regsR m.regs 0 = 0
  comps : compsR m.gates.length m.comps = 0
  gates : gatesR m.comps m.gates = 0
theorem rightParts {m : PImg} (h : m.right = 0) : Parts m := by
  unfold PImg.right at h
  split at h
  case isFalse => cases h
  rename_i hc
  split at h
  case isFalse => rename_i h1; exact absurd h h1
  rename_i h1
  split at h
  case isFalse => rename_i h2; exact absurd h h2
  rename_i h2
  simp [countsB] at hc
  exact ⟨by omega, by omega, by omega, by omega, h1, h2, h⟩
/-- What lies behind the mark. -/
def bodyB (m : PImg) : List UInt8 := leB 1 m.depth ++ (leB 1 (m.regs.length : Int) ++ (leB 1 (m.comps.length : Int) ++ (leB 1 (m.gates.length : Int) ++ (m.regs.flatMap regB ++ (m.comps.flatMap compB ++ m.gates.flatMap gateB)))))
theorem imgB_body {m : PImg} (h : m.right = 0) : imgB m = magicB ++ bodyB m := by
  have hp := rightParts h
  have hu : u64 m.depth = m.depth := by have := hp.d; unfold u64; omega
  unfold imgB bodyB
  simp [putB, hu, regsB_eq, compsB_eq, gatesB_eq]
theorem reg_in {m : PImg} (h : m.right = 0) (hR : m.Rng) (hl : (imgB m).length ≤ 40000) {S : List UInt8} : ∀ x ∈ m.regs, ∀ σ : RS, σ.e = 0 → AtB S σ.i (regB x) → regP S σ = (x, adv σ (regB x).length) := fun x hx σ h0 q => by
  have hp := rightParts h
  have hxr := hR.regs.2 x hx
  obtain ⟨a, b, c, d, _⟩ := regsR_all hp.regs (by omega) x hx
  have hn := hxr.2.1
  unfold W64 at hn
  refine reg_at ⟨by omega, a.2⟩ ⟨by omega, by omega⟩ c d ?_ hxr h0 q
  have h1 := mem_len (g := regB) hx
  have h2 : (m.regs.flatMap regB).length ≤ (imgB m).length := by rw [imgB_body h]; unfold bodyB; simp; omega
  by_cases hk : x.slots.length = 0
  · have h3 : x.data.length ≤ (regB x).length := by unfold regB dataBy; rw [if_pos hk]; simp; omega
    omega
  · unfold contentB at c
    rw [if_pos (by omega), Bool.and_eq_true] at c
    have : x.data = [] := by simpa using c.1
    rw [this]
    simp
theorem comp_in {m : PImg} (h : m.right = 0) (hR : m.Rng) {S : List UInt8} : ∀ x ∈ m.comps, ∀ σ : RS, σ.e = 0 → AtB S σ.i (compB x) → compP S σ = (x, adv σ (compB x).length) := fun x hx σ h0 q => by
  obtain ⟨a, b, c⟩ := compsR_all (rightParts h).comps x hx
  exact comp_at a b c (hR.comps.2 x hx) h0 q
theorem gate_in {m : PImg} (h : m.right = 0) (hR : m.Rng) {S : List UInt8} : ∀ x ∈ m.gates, ∀ σ : RS, σ.e = 0 → AtB S σ.i (gateB x) → gateP S σ = (x, adv σ (gateB x).length) := fun x hx σ h0 q => by
  have hp := rightParts h
  obtain ⟨a, b, c, d, e⟩ := gatesR_all hp.gates x hx
  obtain ⟨q1, q2⟩ := hasI_in a hp.n2 (fun k hk => (compsR_all hp.comps k hk).2.2)
  exact gate_at q1 q2 b c d e (hR.gates.2 x hx) h0 q
theorem imgP_back {m : PImg} (h : m.right = 0) (hR : m.Rng) (hl : (imgB m).length ≤ 40000) (T : List UInt8) : imgP (imgB m ++ T) = (m, restS (imgB m ++ T) ⟨(imgB m).length, 0, 0⟩) := by
  have hp := rightParts h
  have hB := imgB_body h
  generalize hS : imgB m ++ T = S
  have hat : AtB S magicB.length (bodyB m) := by
    rw [← hS, hB, List.append_assoc]
    exact atB_mid _ _ _
  have hpre : magicB <+: S := ⟨bodyB m ++ T, by rw [← hS, hB, List.append_assoc]⟩
  have hlen : (imgB m).length = 6 + 1 + 1 + 1 + 1 + (m.regs.flatMap regB).length + (m.comps.flatMap compB).length + (m.gates.flatMap gateB).length := by
    rw [hB]; unfold bodyB; simp [leB_length, magicB]; omega
  have a0 : h0S.e = 0 := rfl
  have q : AtB S h0S.i (bodyB m) := hat
  unfold bodyB at q
  obtain ⟨a1, a2⟩ := num_at a0 q.left (two8 (by have := hp.d; omega) (by have := hp.d; omega))
  have q := q.right
  rw [leB_length] at q
  obtain ⟨b1, b2⟩ := num_at (σ := adv h0S 1) rfl q.left (two8 (by omega) (by have := hp.n1; omega))
  have q := q.right
  rw [leB_length] at q
  rw [adv_adv] at b1
  obtain ⟨c1, c2⟩ := num_at (σ := adv h0S (1 + 1)) rfl (by rw [adv_i, ← Nat.add_assoc]; exact q.left) (two8 (by omega) (by have := hp.n2; omega))
  have q := q.right
  rw [leB_length] at q
  rw [adv_adv] at c1
  obtain ⟨d1, d2⟩ := num_at (σ := adv h0S (1 + 1 + 1)) rfl (by rw [adv_i, ← Nat.add_assoc, ← Nat.add_assoc]; exact q.left) (two8 (by omega) (by have := hp.n3; omega))
  have q := q.right
  rw [leB_length] at q
  rw [adv_adv] at d1
  have r := list_at0 m.regs (adv h0S (1 + 1 + 1 + 1)) (f := regP S) (g := regB) (reg_in h hR hl) rfl (by rw [adv_i, ← Nat.add_assoc, ← Nat.add_assoc, ← Nat.add_assoc]; exact q.left)
  have q := q.right
  rw [adv_adv] at r
  have s := list_at0 m.comps (adv h0S (1 + 1 + 1 + 1 + (m.regs.flatMap regB).length)) (f := compP S) (g := compB) (comp_in h hR) rfl (by rw [adv_i, ← Nat.add_assoc, ← Nat.add_assoc, ← Nat.add_assoc, ← Nat.add_assoc]; exact q.left)
  have q := q.right
  rw [adv_adv] at s
  have t := list_at0 m.gates (adv h0S (1 + 1 + 1 + 1 + (m.regs.flatMap regB).length + (m.comps.flatMap compB).length)) (f := gateP S) (g := gateB) (gate_in h hR) rfl (by rw [adv_i, ← Nat.add_assoc, ← Nat.add_assoc, ← Nat.add_assoc, ← Nat.add_assoc, ← Nat.add_assoc]; exact q)
  rw [adv_adv] at t
  have e1 : h1S S = adv h0S 1 := a1
  have e2 : h2S S = adv h0S (1 + 1) := by unfold h2S; rw [e1, b1]
  have e3 : h3S S = adv h0S (1 + 1 + 1) := by unfold h3S; rw [e2, c1]
  have e4 : h4S S = adv h0S (1 + 1 + 1 + 1) := by unfold h4S; rw [e3, d1]
  have g1 : regsP S = (m.regs, adv h0S (1 + 1 + 1 + 1 + (m.regs.flatMap regB).length)) := by unfold regsP; rw [e1, b2, Int.toNat_natCast, e4, r]
  have g2 : compsP S = (m.comps, adv h0S (1 + 1 + 1 + 1 + (m.regs.flatMap regB).length + (m.comps.flatMap compB).length)) := by unfold compsP; rw [e2, c2, Int.toNat_natCast, g1, s]
  have g3 : gatesP S = (m.gates, adv h0S (1 + 1 + 1 + 1 + (m.regs.flatMap regB).length + (m.comps.flatMap compB).length + (m.gates.flatMap gateB).length)) := by unfold gatesP; rw [e3, d2, Int.toNat_natCast, g2, t]
  unfold imgP
  rw [if_pos hpre, g1, g2, g3, a2]
  have e5 : adv h0S (1 + 1 + 1 + 1 + (m.regs.flatMap regB).length + (m.comps.flatMap compB).length + (m.gates.flatMap gateB).length) = ⟨(imgB m).length, 0, 0⟩ := by
    unfold adv h0S
    rw [hlen]
    congr 1
    simp only
    omega
  rw [e5]
theorem decI_back {m : PImg} (h : m.right = 0) (hR : m.Rng) (hl : (imgB m).length ≤ 40000) : decI (imgB m) = (m, 0, 0) := by
  have := imgP_back h hR hl []
  rw [List.append_nil] at this
  have e : restS (imgB m) ⟨(imgB m).length, 0, 0⟩ = ⟨(imgB m).length, 0, 0⟩ := if_neg (Nat.lt_irrefl _)
  rw [e] at this
  unfold decI
  rw [if_neg (by omega), this]
  show (if (0 : Int) = 0 then (if m.right = 0 then (m, 0, 0) else (zImg, m.right, 0)) else _) = (m, (0 : Int), (0 : Int))
  rw [if_pos rfl, if_pos h]
theorem decI_more {m : PImg} (h : m.right = 0) (hR : m.Rng) (hl : (imgB m).length < 40000) (x : UInt8) : decI (imgB m ++ [x]) = (zImg, (49 : Int), ((imgB m).length : Int)) := by
  have := imgP_back h hR (by omega) [x]
  have e : restS (imgB m ++ [x]) ⟨(imgB m).length, 0, 0⟩ = ⟨(imgB m).length, 49, (imgB m).length⟩ := if_pos (by simp)
  rw [e] at this
  unfold decI
  rw [if_neg (by simp; omega), this]
  rfl
/-- Bytes are alike only if programs are. -/
theorem imgB_inj {m n : PImg} (h : m.right = 0) (hR : m.Rng) (hl : (imgB m).length ≤ 40000) (k : n.right = 0) (kR : n.Rng) (kl : (imgB n).length ≤ 40000) (e : imgB m = imgB n) : m = n := by
  have a := decI_back h hR hl
  have b := decI_back k kR kl
  rw [e, b] at a
  exact (congrArg Prod.fst a).symm
theorem encI_ok {m : PImg} (h : (encI m).2 = 0) : m.right = 0 ∧ (imgB m).length ≤ 40000 ∧ encI m = (imgB m, 0) := by
  unfold encI at h ⊢
  split at h
  · rename_i hr
    split at h
    · rename_i hl
      exact ⟨hr, hl, by rw [if_pos hr, if_pos hl]⟩
    · cases h
  · rename_i hr; exact absurd h hr
end Go.Proofs.YthmfaafpdogpdabDoor
