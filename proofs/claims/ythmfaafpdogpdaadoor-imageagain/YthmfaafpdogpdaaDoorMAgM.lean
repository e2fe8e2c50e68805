/-
  Stage 4, image: what is read is written so again. No Go in sight.
-/
import Derived.Test.YthmfaafpdogpdaaDoorMRdD
import Derived.Test.YthmfaafpdogpdaaDoorMSize
namespace Go.Proofs.YthmfaafpdogpdaaDoor
open Go.RowKit

/-- The places are within the bytes. -/
def RS.Pl (S : List UInt8) (σ : RS) : Prop := σ.i ≤ S.length ∧ 0 ≤ σ.p ∧ σ.p ≤ S.length
theorem failS_pl {S : List UInt8} {σ : RS} (e p : Int) (h : σ.Pl S) (h0 : 0 ≤ p) (h1 : p ≤ S.length) : (failS e p σ).Pl S := by
  unfold failS; split
  · exact ⟨h.1, h0, h1⟩
  · exact h
theorem takeS_pl {S : List UInt8} {σ : RS} (n : Nat) (h : σ.Pl S) : (takeS S n σ).Pl S := by
  unfold takeS
  split
  · split
    · exact ⟨by assumption, h.2⟩
    · exact ⟨h.1, by simp, by simp⟩
  · exact h
theorem listF_pl {α : Type} {S : List UInt8} {f : RS → α × RS} (hf : ∀ σ, σ.Pl S → (f σ).2.Pl S) : ∀ (n : Nat) (σ : RS) (L : List α), σ.Pl S → (listF f n σ L).2.Pl S
  | 0, _, _, h => h
  | n + 1, σ, L, h => by
    rw [listF]
    split
    · exact listF_pl hf n _ _ (hf σ h)
    · exact hf σ h
theorem kindP_pl {S : List UInt8} {σ : RS} (h : σ.Pl S) : (kindP S σ).2.Pl S := by
  unfold kindP
  split
  · exact takeS_pl _ h
  · split
    · exact takeS_pl _ (takeS_pl _ (takeS_pl _ (takeS_pl _ (takeS_pl _ (takeS_pl _ (takeS_pl _ h))))))
    · have := h.1
      exact failS_pl _ _ (takeS_pl _ h) (by omega) (by omega)
theorem slotP_pl {S : List UInt8} {σ : RS} (h : σ.Pl S) : (slotP S σ).2.Pl S := takeS_pl _ (kindP_pl h)
theorem rootP_pl {S : List UInt8} {σ : RS} (h : σ.Pl S) : (rootP S σ).2.Pl S := takeS_pl _ (takeS_pl _ (takeS_pl _ (takeS_pl _ (takeS_pl _ (takeS_pl _ h)))))
theorem takeV_in {S : List UInt8} {σ : RS} (n : Nat) (h : σ.Pl S) : σ.i + (takeV S n σ).length ≤ S.length := by
  have := h.1
  unfold takeV
  split
  · split
    · rename_i q; rw [sub_length q]; exact q
    · simpa using this
  · simpa using this
theorem codeP_pl {S : List UInt8} {n : Nat} {σ : RS} (h : σ.Pl S) : (codeP S n σ).2.Pl S := by
  have h1 : (codeS1 S n σ).Pl S := by
    unfold codeS1
    split
    · exact takeS_pl _ h
    · have h2 := decA_place (takeV S (wholeN S n σ * 8) σ)
      have h3 := takeV_in (wholeN S n σ * 8) h
      unfold decB
      exact failS_pl _ _ (takeS_pl _ h) (by omega) (by omega)
  show RS.Pl S (if wholeN S n σ < n then failS 41 S.length (codeS1 S n σ) else codeS1 S n σ)
  split
  · exact failS_pl _ _ h1 (by omega) (by omega)
  · exact h1
theorem regP_pl {S : List UInt8} {σ : RS} (h : σ.Pl S) : (regP S σ).2.Pl S := by
  unfold regP
  split
  · exact listF_pl (fun _ h => slotP_pl h) _ _ _ (takeS_pl _ (takeS_pl _ (takeS_pl _ h)))
  · exact takeS_pl _ (takeS_pl _ (takeS_pl _ (takeS_pl _ (takeS_pl _ h))))
theorem compP_pl {S : List UInt8} {σ : RS} (h : σ.Pl S) : (compP S σ).2.Pl S := codeP_pl (takeS_pl _ (listF_pl (fun _ h => rootP_pl h) _ _ _ (takeS_pl _ h)))
theorem kindsP_pl {S : List UInt8} {σ : RS} (h : σ.Pl S) : (kindsP S σ).2.Pl S := listF_pl (fun _ h => kindP_pl h) _ _ _ (takeS_pl _ h)
theorem gateP_pl {S : List UInt8} {σ : RS} (h : σ.Pl S) : (gateP S σ).2.Pl S := kindsP_pl (kindsP_pl (takeS_pl _ (takeS_pl _ h)))
theorem imgP_pl (S : List UInt8) : (imgP S).2.Pl S := by
  unfold imgP
  split
  · rename_i h
    have h6 : 6 ≤ S.length := by obtain ⟨t, rfl⟩ := h; simp [magicB]
    have h0 : h0S.Pl S := ⟨h6, by show (0 : Int) ≤ 0; omega, by show (0 : Int) ≤ _; omega⟩
    have h7 : (gatesP S).2.Pl S := listF_pl (fun _ h => gateP_pl h) _ _ _ (listF_pl (fun _ h => compP_pl h) _ _ _ (listF_pl (fun _ h => regP_pl h) _ _ _ (takeS_pl 1 (takeS_pl 1 (takeS_pl 1 (takeS_pl 1 h0))))))
    show RS.Pl S (restS S (gatesP S).2)
    unfold restS
    split
    · exact failS_pl _ _ h7 (by omega) (by omega)
    · exact h7
  · exact ⟨by show 0 ≤ _; omega, by show (0 : Int) ≤ 0; omega, by show (0 : Int) ≤ _; omega⟩
theorem decI_place (S : List UInt8) : 0 ≤ (decI S).2.2 ∧ (decI S).2.2 ≤ S.length := by
  have h := imgP_pl S
  unfold decI
  split
  · simp
  · split
    · split <;> simp
    · exact h.2
theorem sub_app (S : List UInt8) (i m n : Nat) : sub S i m ++ sub S (i + m) n = sub S i (m + n) := by
  unfold sub
  rw [List.drop_take, List.drop_take, List.drop_take]
  have e1 : i + m - i = m := by omega
  have e2 : i + m + n - (i + m) = n := by omega
  have e3 : i + (m + n) - i = m + n := by omega
  rw [e1, e2, e3, List.take_add, List.drop_drop]
/-- If there is no error behind, the bytes that were read are these. -/
def Rd (S : List UInt8) (a b : RS) (B : List UInt8) : Prop := b.e = 0 → a.e = 0 ∧ b.p = a.p ∧ b.i = a.i + B.length ∧ sub S a.i B.length = B
theorem Rd.trans {S : List UInt8} {a b c : RS} {B C : List UInt8} (h : Rd S a b B) (k : Rd S b c C) : Rd S a c (B ++ C) := fun e => by
  obtain ⟨k0, k1, k2, k4⟩ := k e
  obtain ⟨h0, h1, h2, h4⟩ := h k0
  refine ⟨h0, by rw [k1, h1], by rw [List.length_append]; omega, ?_⟩
  rw [List.length_append, ← sub_app, ← h2, k4, h4]
theorem Rd.bad {S : List UInt8} {a b : RS} {B : List UInt8} (h : b.e ≠ 0) : Rd S a b B := fun e => absurd e h
theorem Rd.as {S : List UInt8} {a b : RS} {B C : List UInt8} (h : Rd S a b B) (e : b.e = 0 → B = C) : Rd S a b C := fun q => by rw [← e q]; exact h q
theorem takeS_ok {S : List UInt8} {n : Nat} {σ : RS} (h : (takeS S n σ).e = 0) : σ.e = 0 ∧ σ.i + n ≤ S.length := by
  unfold takeS at h
  split at h
  · rename_i h0
    split at h
    · exact ⟨h0, by assumption⟩
    · cases h
  · rename_i h0; exact absurd h h0
theorem takeV_ok {S : List UInt8} {n : Nat} {σ : RS} (h : (takeS S n σ).e = 0) : takeV S n σ = sub S σ.i n ∧ (takeV S n σ).length = n := by
  obtain ⟨h0, h1⟩ := takeS_ok h
  have : takeV S n σ = sub S σ.i n := by unfold takeV; rw [if_pos h0, if_pos h1]
  exact ⟨this, by rw [this, sub_length h1]⟩
theorem take_rd (S : List UInt8) (n : Nat) (σ : RS) : Rd S σ (takeS S n σ) (takeV S n σ) := fun h => by
  obtain ⟨h0, h1⟩ := takeS_ok h
  obtain ⟨h2, h3⟩ := takeV_ok h
  have e : takeS S n σ = ⟨σ.i + n, 0, σ.p⟩ := by unfold takeS; rw [if_pos h0, if_pos h1]
  rw [e]
  refine ⟨h0, rfl, by rw [h3], ?_⟩
  rw [h3, h2]
theorem leB_leN (T : List UInt8) : leB T.length (leN T) = T := by
  induction T with
  | nil => rfl
  | cons b l ih =>
    have hb := b.toNat_lt
    have hl := (leN_range l).1
    rw [List.length_cons, leB, leN]
    have e1 : ((b.toNat : Int) + 256 * leN l) % 256 = b.toNat := by omega
    have e2 : ((b.toNat : Int) + 256 * leN l) / 256 = leN l := by omega
    rw [e1, e2, ih]
    simp
theorem num_rd (S : List UInt8) (n : Nat) (σ : RS) : Rd S σ (takeS S n σ) (leB n (numV S n σ)) := (take_rd S n σ).as fun h => by
  have := leB_leN (takeV S n σ)
  rw [(takeV_ok h).2] at this
  exact this.symm
theorem u64_num {x : Int} (h : 0 ≤ x ∧ x < 256) : u64 x = x := by unfold u64; omega
theorem failS_bad {e p : Int} {σ : RS} (h : e ≠ 0) : (failS e p σ).e ≠ 0 := by
  unfold failS; split
  · exact h
  · assumption
theorem Rd.nil_r {S : List UInt8} {a b : RS} {B : List UInt8} (h : Rd S a b (B ++ [])) : Rd S a b B := by rwa [List.append_nil] at h
theorem kind_rd (S : List UInt8) (σ : RS) : Rd S σ (kindP S σ).2 (typB (kindP S σ).1) := by
  unfold kindP
  split
  · rename_i h
    have := num_rd S 1 σ
    rw [h] at this
    exact this
  · split
    · rename_i h
      have h0 := num_rd S 1 σ
      rw [h] at h0
      have h1 := num_rd S 8 (takeS S 1 σ)
      have h2 := num_rd S 8 (takeS S 8 (takeS S 1 σ))
      have h3 := num_rd S 8 (takeS S 8 (takeS S 8 (takeS S 1 σ)))
      have h4 := num_rd S 8 (takeS S 8 (takeS S 8 (takeS S 8 (takeS S 1 σ))))
      have h5 := num_rd S 1 (takeS S 8 (takeS S 8 (takeS S 8 (takeS S 8 (takeS S 1 σ)))))
      have h6 := num_rd S 1 (takeS S 1 (takeS S 8 (takeS S 8 (takeS S 8 (takeS S 8 (takeS S 1 σ))))))
      have all := h0.trans (h1.trans (h2.trans (h3.trans (h4.trans (h5.trans h6)))))
      show Rd S σ (typS S (takeS S 1 σ)) (typB (typV S (takeS S 1 σ)))
      unfold typS typB typV
      simp only [putB, if_true]
      rw [u64_num (num1 S _)]
      simpa using all
    · exact Rd.bad (failS_bad (by decide))
theorem slot_rd (S : List UInt8) (σ : RS) : Rd S σ (slotP S σ).2 (slotB (slotP S σ).1) := by
  have := (kind_rd S σ).trans (num_rd S 8 (kindP S σ).2)
  show Rd S σ (takeS S 8 (kindP S σ).2) (typB (kindP S σ).1 ++ putB 8 [numV S 8 (kindP S σ).2])
  simpa [putB] using this
theorem root_rd (S : List UInt8) (σ : RS) : Rd S σ (rootP S σ).2 (rootB (rootP S σ).1) := by
  have h0 := num_rd S 1 σ
  have h1 := num_rd S 8 (takeS S 1 σ)
  have h2 := num_rd S 8 (takeS S 8 (takeS S 1 σ))
  have h3 := num_rd S 8 (takeS S 8 (takeS S 8 (takeS S 1 σ)))
  have h4 := num_rd S 1 (takeS S 8 (takeS S 8 (takeS S 8 (takeS S 1 σ))))
  have h5 := num_rd S 1 (takeS S 1 (takeS S 8 (takeS S 8 (takeS S 8 (takeS S 1 σ)))))
  have all := h0.trans (h1.trans (h2.trans (h3.trans (h4.trans h5))))
  unfold rootP rootB
  simp only [putB, capS]
  rw [u64_num (num1 S _), u64_num (num1 S _)]
  simpa using all
theorem list_rd {α : Type} {S : List UInt8} {f : RS → α × RS} {g : α → List UInt8} (hf : ∀ σ, Rd S σ (f σ).2 (g (f σ).1)) : ∀ (n : Nat) (σ : RS) (L : List α), (listF f n σ L).2.e = 0 → ∃ M, (listF f n σ L).1 = L ++ M ∧ M.length = n ∧ Rd S σ (listF f n σ L).2 (M.flatMap g)
  | 0, σ, L, h => by
    rw [listF] at h ⊢
    exact ⟨[], by simp, rfl, fun e => ⟨e, rfl, by simp, by simp [sub]⟩⟩
  | n + 1, σ, L, h => by
    rw [listF] at h ⊢
    split at h
    · rename_i h0
      rw [if_pos h0]
      obtain ⟨M, e1, e2, e3⟩ := list_rd hf n (f σ).2 (L ++ [(f σ).1]) h
      refine ⟨(f σ).1 :: M, by rw [e1]; simp, by simp [e2], ?_⟩
      rw [List.flatMap_cons]
      exact (hf σ).trans e3
    · rename_i h0; exact absurd h h0
theorem typsB_eq : ∀ L : List PTyp, typsB L = L.flatMap typB
  | [] => rfl
  | t :: l => by rw [typsB, typsB_eq l, List.flatMap_cons]
theorem slotsB_eq : ∀ L : List PSlot, slotsB L = L.flatMap slotB
  | [] => rfl
  | t :: l => by rw [slotsB, slotsB_eq l, List.flatMap_cons]
theorem rootsB_eq : ∀ L : List PRoot, rootsB L = L.flatMap rootB
  | [] => rfl
  | t :: l => by rw [rootsB, rootsB_eq l, List.flatMap_cons]
theorem regsB_eq : ∀ L : List PReg, regsB L = L.flatMap regB
  | [] => rfl
  | t :: l => by rw [regsB, regsB_eq l, List.flatMap_cons]
theorem compsB_eq : ∀ L : List PComp, compsB L = L.flatMap compB
  | [] => rfl
  | t :: l => by rw [compsB, compsB_eq l, List.flatMap_cons]
theorem gatesB_eq : ∀ L : List PGate, gatesB L = L.flatMap gateB
  | [] => rfl
  | t :: l => by rw [gatesB, gatesB_eq l, List.flatMap_cons]
theorem list_rd0 {α : Type} {S : List UInt8} {f : RS → α × RS} {g : α → List UInt8} (hf : ∀ σ, Rd S σ (f σ).2 (g (f σ).1)) (n : Nat) (σ : RS) (h : (listF f n σ []).2.e = 0) : (listF f n σ []).1.length = n ∧ Rd S σ (listF f n σ []).2 ((listF f n σ []).1.flatMap g) := by
  obtain ⟨M, e1, e2, e3⟩ := list_rd hf n σ [] h
  rw [List.nil_append] at e1
  rw [e1]
  exact ⟨e2, e3⟩
theorem toNat_n (S : List UInt8) (n : Nat) (σ : RS) : (((numV S n σ).toNat : Nat) : Int) = numV S n σ := Int.toNat_of_nonneg (numV_range S n σ).1
theorem kinds_rd (S : List UInt8) (σ : RS) : Rd S σ (kindsP S σ).2 (kindsB (kindsP S σ).1) := fun h => by
  obtain ⟨h1, h2⟩ := list_rd0 (kind_rd S) (numV S 1 σ).toNat (takeS S 1 σ) h
  have h3 := (num_rd S 1 σ).trans h2
  unfold kindsB kindsP
  rw [h1, toNat_n, typsB_eq]
  have : putB 1 [numV S 1 σ] = leB 1 (numV S 1 σ) := by simp [putB]
  rw [this]
  exact h3 h
theorem gate_rd (S : List UInt8) (σ : RS) : Rd S σ (gateP S σ).2 (gateB (gateP S σ).1) := by
  have h0 := num_rd S 1 σ
  have h1 := num_rd S 2 (takeS S 1 σ)
  have h2 := kinds_rd S (gateS S σ)
  have h3 := kinds_rd S (kindsP S (gateS S σ)).2
  have all := h0.trans (h1.trans (h2.trans h3))
  have a := num1 S σ
  have b := num2 S (takeS S 1 σ)
  have e2 : u64 (numV S 2 (takeS S 1 σ)) = numV S 2 (takeS S 1 σ) := by unfold u64; omega
  show Rd S σ (kindsP S (kindsP S (gateS S σ)).2).2 (putB 1 [u64 (numV S 1 σ)] ++ putB 2 [u64 (numV S 2 (takeS S 1 σ))] ++ kindsB (kindsP S (gateS S σ)).1 ++ kindsB (kindsP S (kindsP S (gateS S σ)).2).1)
  rw [u64_num a, e2]
  simpa [putB] using all
theorem code_rd (S : List UInt8) (n : Nat) (σ : RS) (h : (codeP S n σ).2.e = 0) : (codeP S n σ).1.length = n ∧ Rd S σ (codeP S n σ).2 (encF (codeP S n σ).1 0 []).1 := by
  have hs : (codeP S n σ).2 = if wholeN S n σ < n then failS 41 S.length (codeS1 S n σ) else codeS1 S n σ := rfl
  have hw : ¬ wholeN S n σ < n := fun q => by
    rw [hs, if_pos q] at h
    exact failS_bad (by decide) h
  rw [hs, if_neg hw] at h
  have hwn : wholeN S n σ = n := by have := (whole_le S n σ).1; omega
  have hd : (decB S n σ).2.1 = 0 := by
    rcases Decidable.em ((decB S n σ).2.1 = 0) with q | q
    · exact q
    · unfold codeS1 at h
      rw [if_neg q] at h
      exact absurd h (failS_bad q)
  have h1 : codeS1 S n σ = takeS S (n * 8) σ := by unfold codeS1; rw [if_pos hd, hwn]
  rw [hs, if_neg hw, h1]
  rw [h1] at h
  have hv := takeV_ok h
  have hdB : decB S n σ = decA (takeV S (n * 8) σ) := by unfold decB; rw [hwn]
  rw [hdB] at hd
  obtain ⟨L, e, hA, _, hc⟩ := decA_ok hd
  have hL : (codeP S n σ).1 = L := by show (decB S n σ).1 = L; rw [hdB, e]
  rw [hL, enc_all L hA]
  have hl := code_length L
  rw [hc, hv.2] at hl
  refine ⟨by omega, ?_⟩
  have := take_rd S (n * 8) σ
  rw [← hc] at this
  simpa using this
theorem comp_rd (S : List UInt8) (σ : RS) : Rd S σ (compP S σ).2 (compB (compP S σ).1) := fun h => by
  obtain ⟨k1, k2⟩ := code_rd S (numV S 2 (rootsP S σ).2).toNat (takeS S 2 (rootsP S σ).2) h
  have hr0 := (k2 h).1
  have hr := (takeS_ok hr0).1
  obtain ⟨h1, h2⟩ := list_rd0 (root_rd S) (numV S 1 σ).toNat (takeS S 1 σ) hr
  have all := (num_rd S 1 σ).trans (h2.trans ((num_rd S 2 (rootsP S σ).2).trans k2))
  have e : compB (compP S σ).1 = leB 1 (numV S 1 σ) ++ ((rootsP S σ).1.flatMap rootB ++ (leB 2 (numV S 2 (rootsP S σ).2) ++ (encF (insP S (rootsP S σ).2).1 0 []).1)) := by
    show putB 1 [((rootsP S σ).1.length : Int)] ++ rootsB (rootsP S σ).1 ++ (putB 2 [((insP S (rootsP S σ).2).1.length : Int)] ++ (encF (insP S (rootsP S σ).2).1 0 []).1) = _
    have e1 : ((rootsP S σ).1.length : Int) = numV S 1 σ := by rw [← toNat_n S 1 σ]; exact congrArg _ h1
    have e2 : ((insP S (rootsP S σ).2).1.length : Int) = numV S 2 (rootsP S σ).2 := by rw [← toNat_n S 2 (rootsP S σ).2]; exact congrArg _ k1
    rw [e1, e2, rootsB_eq]
    simp [putB]
  rw [e]
  exact all h
theorem reg_rd (S : List UInt8) (σ : RS) : Rd S σ (regP S σ).2 (regB (regP S σ).1) := fun h => by
  have base := (num_rd S 4 σ).trans ((num_rd S 4 (takeS S 4 σ)).trans (num_rd S 2 (takeS S 4 (takeS S 4 σ))))
  have hk := toNat_n S 2 (takeS S 4 (takeS S 4 σ))
  by_cases h0 : 0 < regK S σ
  · have e : regP S σ = (⟨numV S 4 σ, numV S 4 (takeS S 4 σ), [], (listF (slotP S) (regK S σ) (regS S σ) []).1⟩, (listF (slotP S) (regK S σ) (regS S σ) []).2) := if_pos h0
    rw [e] at h ⊢
    obtain ⟨h1, h2⟩ := list_rd0 (slot_rd S) (regK S σ) (regS S σ) h
    have all := base.trans h2
    have hk2 : ((regK S σ : Nat) : Int) = numV S 2 (takeS S 4 (takeS S 4 σ)) := hk
    have e2 : regB ⟨numV S 4 σ, numV S 4 (takeS S 4 σ), [], (listF (slotP S) (regK S σ) (regS S σ) []).1⟩ = leB 4 (numV S 4 σ) ++ (leB 4 (numV S 4 (takeS S 4 σ)) ++ leB 2 (numV S 2 (takeS S 4 (takeS S 4 σ)))) ++ (listF (slotP S) (regK S σ) (regS S σ) []).1.flatMap slotB := by
      unfold regB dataBy
      simp only [h1]
      rw [hk2, if_neg (by omega), slotsB_eq]
      simp [putB]
    rw [e2]
    exact all h
  · have e : regP S σ = (⟨numV S 4 σ, numV S 4 (takeS S 4 σ), takeV S (regD S σ) (takeS S 2 (regS S σ)), []⟩, takeS S (regD S σ) (takeS S 2 (regS S σ))) := if_neg h0
    rw [e] at h ⊢
    have hz : numV S 2 (takeS S 4 (takeS S 4 σ)) = 0 := by
      have hk2 : ((regK S σ : Nat) : Int) = numV S 2 (takeS S 4 (takeS S 4 σ)) := hk
      omega
    have hd : ((regD S σ : Nat) : Int) = numV S 2 (regS S σ) := toNat_n S 2 (regS S σ)
    have all := base.trans ((num_rd S 2 (regS S σ)).trans (take_rd S (regD S σ) (takeS S 2 (regS S σ))))
    have e2 : regB ⟨numV S 4 σ, numV S 4 (takeS S 4 σ), takeV S (regD S σ) (takeS S 2 (regS S σ)), []⟩ = leB 4 (numV S 4 σ) ++ (leB 4 (numV S 4 (takeS S 4 σ)) ++ leB 2 (numV S 2 (takeS S 4 (takeS S 4 σ)))) ++ (leB 2 (numV S 2 (regS S σ)) ++ takeV S (regD S σ) (takeS S 2 (regS S σ))) := by
      unfold regB dataBy
      simp only [(takeV_ok h).2, hd, hz]
      simp [putB, slotsB]
    rw [e2]
    exact all h
theorem decI_ok {S : List UInt8} (h : (decI S).2.1 = 0) : decI S = ((imgP S).1, 0, 0) ∧ (imgP S).1.right = 0 ∧ encI (imgP S).1 = (S, 0) := by
  unfold decI at h
  split at h
  · cases h
  rename_i hl
  split at h
  case isFalse => rename_i q; exact absurd h q
  rename_i he
  split at h
  case isFalse => rename_i q; exact absurd h q
  rename_i hr
  have hd : decI S = ((imgP S).1, 0, 0) := by unfold decI; rw [if_neg hl, if_pos he, if_pos hr]
  refine ⟨hd, hr, ?_⟩
  have hB : imgB (imgP S).1 = S := by
    by_cases hp : magicB <+: S
    case neg =>
      have : imgP S = (zImg, ⟨0, 40, 0⟩) := if_neg hp
      rw [this] at he
      cases he
    have e : imgP S = (⟨(regsP S).1, (compsP S).1, (gatesP S).1, numV S 1 h0S⟩, restS S (gatesP S).2) := if_pos hp
    have hpl := imgP_pl S
    rw [e] at he hpl ⊢
    have hrest : ¬ (gatesP S).2.i < S.length := fun q => by
      have : restS S (gatesP S).2 = failS 49 (gatesP S).2.i (gatesP S).2 := if_pos q
      rw [this] at he
      exact failS_bad (by decide) he
    have hg : restS S (gatesP S).2 = (gatesP S).2 := if_neg hrest
    rw [hg] at he hpl
    simp only at he hpl ⊢
    obtain ⟨g1, g2⟩ := list_rd0 (gate_rd S) (numV S 1 (h3S S)).toNat (compsP S).2 he
    have hc := (g2 he).1
    obtain ⟨c1, c2⟩ := list_rd0 (comp_rd S) (numV S 1 (h2S S)).toNat (regsP S).2 hc
    have hrr := (c2 hc).1
    obtain ⟨r1, r2⟩ := list_rd0 (reg_rd S) (numV S 1 (h1S S)).toNat (h4S S) hrr
    have r2' : Rd S (h4S S) (regsP S).2 ((regsP S).1.flatMap regB) := r2
    have c2' : Rd S (regsP S).2 (compsP S).2 ((compsP S).1.flatMap compB) := c2
    have g2' : Rd S (compsP S).2 (gatesP S).2 ((gatesP S).1.flatMap gateB) := g2
    have all := (num_rd S 1 h0S).trans ((num_rd S 1 (h1S S)).trans ((num_rd S 1 (h2S S)).trans ((num_rd S 1 (h3S S)).trans (r2'.trans (c2'.trans g2')))))
    obtain ⟨_, _, hi, hsub⟩ := all he
    obtain ⟨t, ht⟩ := hp
    have a0 := num1 S h0S
    have q1 : (((regsP S).1.length : Nat) : Int) = numV S 1 (h1S S) := by rw [← toNat_n S 1 (h1S S)]; exact congrArg _ r1
    have q2 : (((compsP S).1.length : Nat) : Int) = numV S 1 (h2S S) := by rw [← toNat_n S 1 (h2S S)]; exact congrArg _ c1
    have q3 : (((gatesP S).1.length : Nat) : Int) = numV S 1 (h3S S) := by rw [← toNat_n S 1 (h3S S)]; exact congrArg _ g1
    have e2 : imgB ⟨(regsP S).1, (compsP S).1, (gatesP S).1, numV S 1 h0S⟩ = magicB ++ (leB 1 (numV S 1 h0S) ++ (leB 1 (numV S 1 (h1S S)) ++ (leB 1 (numV S 1 (h2S S)) ++ (leB 1 (numV S 1 (h3S S)) ++ ((regsP S).1.flatMap regB ++ ((compsP S).1.flatMap compB ++ (gatesP S).1.flatMap gateB)))))) := by
      unfold imgB
      simp only [putB]
      rw [u64_num a0, q1, q2, q3, regsB_eq, compsB_eq, gatesB_eq]
      simp
    rw [e2]
    have hlen : (gatesP S).2.i = S.length := by have := hpl.1; omega
    have h6 : h0S.i = magicB.length := rfl
    rw [hi, h6] at hlen
    rw [h6] at hsub
    rw [← hsub]
    subst ht
    unfold sub
    rw [hlen, List.take_length, List.drop_left]
  unfold encI
  rw [if_pos hr, hB, if_pos (by omega)]
theorem decI_bad {S : List UInt8} (h : (decI S).2.1 ≠ 0) : (decI S).1 = zImg := by
  unfold decI at h ⊢
  split
  · rfl
  · split
    · split
      · rename_i h1 h2 h3
        rw [if_neg h1, if_pos h2, if_pos h3] at h
        exact absurd rfl h
      · rfl
    · rfl
end Go.Proofs.YthmfaafpdogpdaaDoor
