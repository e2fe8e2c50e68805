import Derived.Test.YtcljibdikhpnlaaDoorP15
import Derived.Test.YtcljibdikhpnlaaDoorP17
import Derived.Test.YtcljibdikhpnlaaDoorP21
/-
  Stage 4, image: what the reader reads. No Go in sight.
-/
namespace Go.Proofs.YtcljibdikhpnlaaDoor
open Go.RowKit

/-- The reader: where it is, its first error, and that one's place. -/
structure RS where
  i : Nat
  e : Int
  p : Int
def failS (e p : Int) (σ : RS) : RS := if σ.e = 0 then ⟨σ.i, e, p⟩ else σ
def takeS (S : List UInt8) (n : Nat) (σ : RS) : RS := if σ.e = 0 then (if σ.i + n ≤ S.length then ⟨σ.i + n, 0, σ.p⟩ else ⟨σ.i, 41, S.length⟩) else σ
def takeV (S : List UInt8) (n : Nat) (σ : RS) : List UInt8 := if σ.e = 0 then (if σ.i + n ≤ S.length then sub S σ.i n else []) else []
def numV (S : List UInt8) (n : Nat) (σ : RS) : Int := leN (takeV S n σ)
def RS.In (S : List UInt8) (σ : RS) : Prop := σ.i ≤ S.length
theorem failS_in {S : List UInt8} {σ : RS} (e p : Int) (h : σ.In S) : (failS e p σ).In S := by
  unfold failS; split <;> exact h
theorem takeS_in {S : List UInt8} {σ : RS} (n : Nat) (h : σ.In S) : (takeS S n σ).In S := by
  unfold takeS
  split
  · split
    · assumption
    · exact h
  · exact h
theorem takeV_len (S : List UInt8) (n : Nat) (σ : RS) : (takeV S n σ).length ≤ n := by
  unfold takeV
  split
  · split
    · rename_i h; rw [sub_length h]; exact Nat.le_refl _
    · simp
  · simp
theorem numV_range (S : List UInt8) (n : Nat) (σ : RS) : 0 ≤ numV S n σ ∧ numV S n σ < 2 ^ (8 * n) := by
  have h := leN_range (takeV S n σ)
  have h1 : (2 : Int) ^ (8 * (takeV S n σ).length) ≤ 2 ^ (8 * n) := by
    have := Nat.pow_le_pow_right (n := 2) (by omega) (show 8 * (takeV S n σ).length ≤ 8 * n by have := takeV_len S n σ; omega)
    have e1 : (2 : Int) ^ (8 * (takeV S n σ).length) = ((2 ^ (8 * (takeV S n σ).length) : Nat) : Int) := by simp
    have e2 : (2 : Int) ^ (8 * n) = ((2 ^ (8 * n) : Nat) : Int) := by simp
    rw [e1, e2]; omega
  unfold numV
  omega
theorem num1 (S : List UInt8) (σ : RS) : 0 ≤ numV S 1 σ ∧ numV S 1 σ < 256 := numV_range S 1 σ
theorem num2 (S : List UInt8) (σ : RS) : 0 ≤ numV S 2 σ ∧ numV S 2 σ < 65536 := numV_range S 2 σ
theorem num4 (S : List UInt8) (σ : RS) : 0 ≤ numV S 4 σ ∧ numV S 4 σ < 4294967296 := numV_range S 4 σ
theorem num8 (S : List UInt8) (σ : RS) : 0 ≤ numV S 8 σ ∧ numV S 8 σ < 18446744073709551616 := numV_range S 8 σ
/-- Things one behind the other; none behind an error. -/
def listF {α : Type} (f : RS → α × RS) : Nat → RS → List α → List α × RS
  | 0, σ, L => (L, σ)
  | n + 1, σ, L => if (f σ).2.e = 0 then listF f n (f σ).2 (L ++ [(f σ).1]) else ([], (f σ).2)
def zTyp : PTyp := ⟨false, 0, 0, 0, 0, 0, 0⟩
def capS (S : List UInt8) (σ : RS) : RS := takeS S 1 (takeS S 1 (takeS S 8 (takeS S 8 (takeS S 8 σ))))
def typS (S : List UInt8) (σ : RS) : RS := takeS S 1 (takeS S 1 (takeS S 8 (takeS S 8 (takeS S 8 (takeS S 8 σ)))))
def typV (S : List UInt8) (σ : RS) : PTyp := ⟨true, numV S 8 σ, numV S 8 (takeS S 8 σ), numV S 8 (takeS S 8 (takeS S 8 σ)), numV S 8 (takeS S 8 (takeS S 8 (takeS S 8 σ))), numV S 1 (takeS S 8 (takeS S 8 (takeS S 8 (takeS S 8 σ)))), numV S 1 (takeS S 1 (takeS S 8 (takeS S 8 (takeS S 8 (takeS S 8 σ)))))⟩
def kindP (S : List UInt8) (σ : RS) : PTyp × RS :=
  if numV S 1 σ = 0 then (zTyp, takeS S 1 σ)
  else if numV S 1 σ = 1 then (typV S (takeS S 1 σ), typS S (takeS S 1 σ))
  else (zTyp, failS 44 σ.i (takeS S 1 σ))
def slotP (S : List UInt8) (σ : RS) : PSlot × RS := (⟨(kindP S σ).1, numV S 8 (kindP S σ).2⟩, takeS S 8 (kindP S σ).2)
def rootP (S : List UInt8) (σ : RS) : PRoot × RS :=
  (⟨numV S 1 σ, numV S 8 (takeS S 1 σ), numV S 8 (takeS S 8 (takeS S 1 σ)), numV S 8 (takeS S 8 (takeS S 8 (takeS S 1 σ))), numV S 1 (takeS S 8 (takeS S 8 (takeS S 8 (takeS S 1 σ)))), numV S 1 (takeS S 1 (takeS S 8 (takeS S 8 (takeS S 8 (takeS S 1 σ)))))⟩, capS S (takeS S 1 σ))
def wholeN (S : List UInt8) (n : Nat) (σ : RS) : Nat := min n ((S.length - σ.i) / 8)
def decB (S : List UInt8) (n : Nat) (σ : RS) : List Ins × Int × Int := decA (takeV S (wholeN S n σ * 8) σ)
def codeS1 (S : List UInt8) (n : Nat) (σ : RS) : RS := if (decB S n σ).2.1 = 0 then takeS S (wholeN S n σ * 8) σ else failS (decB S n σ).2.1 (σ.i + (decB S n σ).2.2) (takeS S (wholeN S n σ * 8) σ)
def codeP (S : List UInt8) (n : Nat) (σ : RS) : List Ins × RS := ((decB S n σ).1, if wholeN S n σ < n then failS 41 S.length (codeS1 S n σ) else codeS1 S n σ)
def regS (S : List UInt8) (σ : RS) : RS := takeS S 2 (takeS S 4 (takeS S 4 σ))
def regK (S : List UInt8) (σ : RS) : Nat := (numV S 2 (takeS S 4 (takeS S 4 σ))).toNat
def regD (S : List UInt8) (σ : RS) : Nat := (numV S 2 (regS S σ)).toNat
def regP (S : List UInt8) (σ : RS) : PReg × RS :=
  if 0 < regK S σ then (⟨numV S 4 σ, numV S 4 (takeS S 4 σ), [], (listF (slotP S) (regK S σ) (regS S σ) []).1⟩, (listF (slotP S) (regK S σ) (regS S σ) []).2)
  else (⟨numV S 4 σ, numV S 4 (takeS S 4 σ), takeV S (regD S σ) (takeS S 2 (regS S σ)), []⟩, takeS S (regD S σ) (takeS S 2 (regS S σ)))
def rootsP (S : List UInt8) (σ : RS) : List PRoot × RS := listF (rootP S) (numV S 1 σ).toNat (takeS S 1 σ) []
def insP (S : List UInt8) (σ : RS) : List Ins × RS := codeP S (numV S 2 σ).toNat (takeS S 2 σ)
def compP (S : List UInt8) (σ : RS) : PComp × RS := (⟨(rootsP S σ).1, (insP S (rootsP S σ).2).1⟩, (insP S (rootsP S σ).2).2)
def kindsP (S : List UInt8) (σ : RS) : List PTyp × RS := listF (kindP S) (numV S 1 σ).toNat (takeS S 1 σ) []
def gateS (S : List UInt8) (σ : RS) : RS := takeS S 2 (takeS S 1 σ)
def gateP (S : List UInt8) (σ : RS) : PGate × RS :=
  (⟨numV S 1 σ, numV S 2 (takeS S 1 σ), (kindsP S (gateS S σ)).1, (kindsP S (kindsP S (gateS S σ)).2).1⟩, (kindsP S (kindsP S (gateS S σ)).2).2)
def headS (S : List UInt8) (k : Nat) : RS := takeS S k ⟨6, 0, 0⟩
def h0S : RS := ⟨6, 0, 0⟩
def h1S (S : List UInt8) : RS := takeS S 1 h0S
def h2S (S : List UInt8) : RS := takeS S 1 (h1S S)
def h3S (S : List UInt8) : RS := takeS S 1 (h2S S)
def h4S (S : List UInt8) : RS := takeS S 1 (h3S S)
def regsP (S : List UInt8) : List PReg × RS := listF (regP S) (numV S 1 (h1S S)).toNat (h4S S) []
def compsP (S : List UInt8) : List PComp × RS := listF (compP S) (numV S 1 (h2S S)).toNat (regsP S).2 []
def gatesP (S : List UInt8) : List PGate × RS := listF (gateP S) (numV S 1 (h3S S)).toNat (compsP S).2 []
def restS (S : List UInt8) (σ : RS) : RS := if σ.i < S.length then failS 49 σ.i σ else σ
def zImg : PImg := ⟨[], [], [], 0⟩
def imgP (S : List UInt8) : PImg × RS := if magicB <+: S then (⟨(regsP S).1, (compsP S).1, (gatesP S).1, numV S 1 h0S⟩, restS S (gatesP S).2) else (zImg, ⟨0, 40, 0⟩)
/-- What Decode answers. -/
def decI (S : List UInt8) : PImg × Int × Int :=
  if 40000 < S.length then (zImg, 42, 0) else if (imgP S).2.e = 0 then (if (imgP S).1.right = 0 then ((imgP S).1, 0, 0) else (zImg, (imgP S).1.right, 0)) else (zImg, (imgP S).2.e, (imgP S).2.p)
theorem listF_in {α : Type} {S : List UInt8} {f : RS → α × RS} (hf : ∀ σ, σ.In S → (f σ).2.In S) : ∀ (n : Nat) (σ : RS) (L : List α), σ.In S → (listF f n σ L).2.In S
  | 0, _, _, h => h
  | n + 1, σ, L, h => by
    rw [listF]
    split
    · exact listF_in hf n _ _ (hf σ h)
    · exact hf σ h
theorem listF_len {α : Type} {f : RS → α × RS} : ∀ (n : Nat) (σ : RS) (L : List α), (listF f n σ L).1.length ≤ L.length + n
  | 0, _, _ => by simp [listF]
  | n + 1, σ, L => by
    rw [listF]
    split
    · have := listF_len (f := f) n (f σ).2 (L ++ [(f σ).1])
      simp at this
      omega
    · simp
theorem listF_all {α : Type} {P : α → Prop} {f : RS → α × RS} (hf : ∀ σ, P (f σ).1) : ∀ (n : Nat) (σ : RS) (L : List α), (∀ x ∈ L, P x) → ∀ x ∈ (listF f n σ L).1, P x
  | 0, _, _, h => h
  | n + 1, σ, L, h => by
    rw [listF]
    split
    · refine listF_all hf n _ _ ?_
      intro x hx
      rcases List.mem_append.1 hx with hx | hx
      · exact h x hx
      · rw [List.mem_singleton.1 hx]; exact hf σ
    · simp
theorem capS_in {S : List UInt8} {σ : RS} (h : σ.In S) : (capS S σ).In S := takeS_in _ (takeS_in _ (takeS_in _ (takeS_in _ (takeS_in _ h))))
theorem kindP_in {S : List UInt8} {σ : RS} (h : σ.In S) : (kindP S σ).2.In S := by
  unfold kindP
  split
  · exact takeS_in _ h
  · split
    · exact takeS_in _ (takeS_in _ (takeS_in _ (takeS_in _ (takeS_in _ (takeS_in _ (takeS_in _ h))))))
    · exact failS_in _ _ (takeS_in _ h)
theorem slotP_in {S : List UInt8} {σ : RS} (h : σ.In S) : (slotP S σ).2.In S := takeS_in _ (kindP_in h)
theorem rootP_in {S : List UInt8} {σ : RS} (h : σ.In S) : (rootP S σ).2.In S := capS_in (takeS_in _ h)
theorem codeP_in {S : List UInt8} {n : Nat} {σ : RS} (h : σ.In S) : (codeP S n σ).2.In S := by
  have h1 : (codeS1 S n σ).In S := by
    unfold codeS1
    split
    · exact takeS_in _ h
    · exact failS_in _ _ (takeS_in _ h)
  show RS.In S (if wholeN S n σ < n then failS 41 S.length (codeS1 S n σ) else codeS1 S n σ)
  split
  · exact failS_in _ _ h1
  · exact h1
theorem regS_in {S : List UInt8} {σ : RS} (h : σ.In S) : (regS S σ).In S := takeS_in _ (takeS_in _ (takeS_in _ h))
theorem regP_in {S : List UInt8} {σ : RS} (h : σ.In S) : (regP S σ).2.In S := by
  unfold regP
  split
  · exact listF_in (fun _ h => slotP_in h) _ _ _ (regS_in h)
  · exact takeS_in _ (takeS_in _ (regS_in h))
theorem rootsP_in {S : List UInt8} {σ : RS} (h : σ.In S) : (rootsP S σ).2.In S := listF_in (fun _ h => rootP_in h) _ _ _ (takeS_in _ h)
theorem insP_in {S : List UInt8} {σ : RS} (h : σ.In S) : (insP S σ).2.In S := codeP_in (takeS_in _ h)
theorem compP_in {S : List UInt8} {σ : RS} (h : σ.In S) : (compP S σ).2.In S := insP_in (rootsP_in h)
theorem kindsP_in {S : List UInt8} {σ : RS} (h : σ.In S) : (kindsP S σ).2.In S := listF_in (fun _ h => kindP_in h) _ _ _ (takeS_in _ h)
theorem gateP_in {S : List UInt8} {σ : RS} (h : σ.In S) : (gateP S σ).2.In S := kindsP_in (kindsP_in (takeS_in _ (takeS_in _ h)))
end Go.Proofs.YtcljibdikhpnlaaDoor


/-
  Stage 4, image: the reader's small calls, of any state.
-/
namespace Go.Proofs.YtcljibdikhpnlaaDoor
open Go.RowKit

/-- The reader's box, of a state. -/
def RIn (w : World) (kr : Nat) (S : List UInt8) (σ : RS) : Prop := RBox w kr S σ.i σ.e σ.p
set_option maxHeartbeats 1000000 in
theorem fail_any (S : List UInt8) (kr : Nat) (σ : RS) (e p : Int) (w : World) (h : RIn w kr S σ) :
    Calls Tryd.prog 47 #[.pointer (some ⟨kr, 0, none⟩), .int .i64 e, .int .i64 p] w fun x w' => x = .returned (.tuple #[]) ∧ RIn w' kr S (failS e p σ) ∧ w.grownBy w' (some kr) := by
  obtain ⟨i, e0, q0⟩ := σ
  unfold RIn at *
  simp only at h
  have ⟨z0, p0, f0⟩ := h.at
  by_cases he : e0 = 0
  · have r1 : failS e p ⟨i, e0, q0⟩ = ⟨i, e, p⟩ := if_pos he
    rw [r1]
    have he' : (e0 == 0) = true := by simpa using he
    replace he := Hid.mk he
    replace h := Hid.mk h
    clear r1
    go_enter Tryd.func47, Tryd.ntmps47
    go_wp2_with fail
    simp [bodyPost, results, Tryd.results47, go_sem]
    exact ⟨(h.out.set 2 _).set 3 _, (grown_set _ _ _ _).trans (grown_set _ _ _ _)⟩
  · have r1 : failS e p ⟨i, e0, q0⟩ = ⟨i, e0, q0⟩ := if_neg he
    rw [r1]
    have he' : (e0 == 0) = false := by simpa using he
    replace he := Hid.mk he
    replace h := Hid.mk h
    clear r1
    go_enter Tryd.func47, Tryd.ntmps47
    go_wp2_with fail
    simp [bodyPost, results, Tryd.results47, go_sem]
    exact ⟨h.out, grown_of (Below.refl _ _) _⟩
set_option maxRecDepth 10000 in
set_option maxHeartbeats 1000000 in
theorem take_any (S : List UInt8) (kr : Nat) (n : Nat) (σ : RS) (w : World) (h : RIn w kr S σ) (hi : σ.In S) (hS : S.length ≤ 140737488355328) (hn : n ≤ 1000000) :
    Calls Tryd.prog 69 #[.pointer (some ⟨kr, 0, none⟩), .int .i64 n] w fun x w' => x = .returned (.string (str (takeV S n σ))) ∧ RIn w' kr S (takeS S n σ) ∧ w.grownBy w' (some kr) := by
  have hF := fun W h1 => fail_any S kr σ 41 S.length W h1
  obtain ⟨i, e0, q0⟩ := σ
  unfold RS.In at hi
  simp only at hi
  have ss := str_size S
  have ⟨z0, p0, f0⟩ := h.at
  by_cases he : e0 = 0
  · by_cases hc : i + n ≤ S.length
    · have r1 : takeS S n ⟨i, e0, q0⟩ = ⟨i + n, 0, q0⟩ := by unfold takeS; rw [if_pos he, if_pos hc]
      have r2 : takeV S n ⟨i, e0, q0⟩ = sub S i n := by unfold takeV; rw [if_pos he, if_pos hc]
      rw [r1, r2]
      subst he
      exact take_ok S kr i n q0 w h hc hS
    · have r1 : takeS S n ⟨i, e0, q0⟩ = ⟨i, 41, S.length⟩ := by unfold takeS; rw [if_pos he, if_neg hc]
      have r2 : takeV S n ⟨i, e0, q0⟩ = [] := by unfold takeV; rw [if_pos he, if_neg hc]
      have r3 : failS 41 S.length ⟨i, e0, q0⟩ = ⟨i, 41, S.length⟩ := if_pos he
      rw [r1, r2]
      rw [r3] at hF
      have d1 : ((S.length : Int) - i) < n := by omega
      clear r1 r2 r3 he hc
      replace h := Hid.mk h
      go_enter Tryd.func69, Tryd.ntmps69
      go_wp2_with fail
      go_quiet (fail)
      go_wp2_with fail
      refine (hF _ (h.out.gr ((Gr.refl w).drewN _))).mono ?_
      rintro x w1 ⟨rfl, h1, hg⟩
      have ⟨z1, p1, f1⟩ := h1.at
      replace hg := (grown_of ((Gr.refl w).drewN _).below (some kr)).trans hg
      replace h1 := Hid.mk h1
      replace hg := Hid.mk hg
      clear z0 p0 f0 hF h
      go_wp2_with fail
      go_ret
      exact ⟨rfl, h1.out, hg.out⟩
  · have r1 : takeS S n ⟨i, e0, q0⟩ = ⟨i, e0, q0⟩ := by unfold takeS; rw [if_neg he]
    have r2 : takeV S n ⟨i, e0, q0⟩ = [] := by unfold takeV; rw [if_neg he]
    have r3 : failS 41 S.length ⟨i, e0, q0⟩ = ⟨i, e0, q0⟩ := if_neg he
    rw [r1, r2]
    rw [r3] at hF
    have he' : (e0 != 0) = true := by simpa using he
    replace he := Hid.mk he
    clear r1 r2 r3
    by_cases hc : ((S.length : Int) - i) < n
    · replace h := Hid.mk h
      go_enter Tryd.func69, Tryd.ntmps69
      go_wp2_with fail
      go_quiet (fail)
      go_wp2_with fail
      refine (hF _ (h.out.gr ((Gr.refl w).drewN _))).mono ?_
      rintro x w1 ⟨rfl, h1, hg⟩
      have ⟨z1, p1, f1⟩ := h1.at
      replace hg := (grown_of ((Gr.refl w).drewN _).below (some kr)).trans hg
      replace h1 := Hid.mk h1
      replace hg := Hid.mk hg
      clear z0 p0 f0 hF h
      go_wp2_with fail
      go_ret
      exact ⟨rfl, h1.out, hg.out⟩
    · replace h := Hid.mk h
      clear hF
      go_enter Tryd.func69, Tryd.ntmps69
      go_wp2_with fail
      go_quiet (fail)
      go_wp2_with fail
      go_ret
      exact ⟨rfl, h.out.gr ((Gr.refl w).drewN _), grown_of ((Gr.refl w).drewN _).below _⟩
set_option maxRecDepth 10000 in
set_option maxHeartbeats 1000000 in
theorem number_any (S : List UInt8) (kr : Nat) (n : Nat) (σ : RS) (w : World) (h : RIn w kr S σ) (hi : σ.In S) (hS : S.length ≤ 140737488355328) (h8 : n ≤ 8) :
    Calls Tryd.prog 66 #[.pointer (some ⟨kr, 0, none⟩), .int .i64 n] w fun x w' => x = .returned (.int .u64 (numV S n σ)) ∧ RIn w' kr S (takeS S n σ) ∧ w.grownBy w' (some kr) := by
  have hl := takeV_len S n σ
  have hK := take_any S kr n σ w h hi hS (by omega)
  unfold numV
  go_enter Tryd.func66, Tryd.ntmps66
  go_wp2_with fail
  refine hK.mono ?_
  rintro x w1 ⟨rfl, h1, hg⟩
  generalize hT : takeV S n σ = T at *
  replace hT := Hid.mk hT
  obtain ⟨c, W, hcv, hG, hcs⟩ := bytes_of T w1
  replace h1 : RIn W kr S _ := h1.gr hG
  replace hg := hg.trans (grown_of hG.below _)
  replace h1 := Hid.mk h1
  replace hg := Hid.mk hg
  replace hcs := Hid.mk hcs
  clear hG h
  go_wp2_with fail
  go_loopw [5, 13] (fun v i wr => ∃ j : Nat, v = .int .u64 (leN (T.take j)) ∧ i = .int .i64 j ∧ j ≤ T.length ∧ wr = W) (fun _ i _ => T.length - (intOf i).toNat)
  case atStart => exact ⟨0, rfl, rfl, by omega, rfl⟩
  case round =>
    obtain ⟨j, rfl, rfl, hj, rfl⟩ := hrel
    by_cases hlt : j < T.length
    · have jl : (j : Int) < T.length := by omega
      have c0 := hcs.out j hlt
      have hnx := leN_snoc (T.take j) T[j]
      rw [← List.take_succ_eq_append_getElem hlt, List.length_take, Nat.min_eq_left (by omega)] at hnx
      have hrg := leN_range (T.take j)
      rw [List.length_take, Nat.min_eq_left (by omega)] at hrg
      have hb := T[j].toNat_lt
      generalize T[j].toNat = b at *
      generalize leN (T.take j) = x0 at *
      have m1 : IntKind.i64.wrap (8 * (j : Int)) = 8 * j := by rw [IntKind.wrap_i64]; omega
      have m2 : (0 : Int) ≤ 8 * (j : Int) := by omega
      have m3 : (8 * (j : Int)) ≤ 64 := by omega
      have m4 : IntKind.u64.wrap (b : Int) = b := by rw [IntKind.wrap_u64]; omega
      have hor := or_shift x0 b (8 * j) hrg.1 hrg.2 hb (by omega)
      rw [← hnx] at hor
      replace hrg := Hid.mk hrg
      replace hor := Hid.mk hor
      clear hnx
      go_wp2_with fail
      exact ⟨⟨j + 1, by rw [hor.out], by go_num, by omega, trivial⟩, by simp [intOf]; omega⟩
    · have jl : ¬ (j : Int) < T.length := by omega
      rw [List.take_of_length_le (by omega)]
      go_wp2_with fail
      go_ret
      exact ⟨by rw [hT.out]; rfl, h1.out, hg.out⟩
theorem count_w {S : List UInt8} {n : Nat} {σ : RS} (h8 : n ≤ 7) : IntKind.i64.wrap (numV S n σ) = numV S n σ := by
  have hr := numV_range S n σ
  have hp : (2 : Int) ^ (8 * n) ≤ 2 ^ 56 := by
    have h1 := Nat.pow_le_pow_right (n := 2) (by omega) (show 8 * n ≤ 56 by omega)
    have e1 : (2 : Int) ^ (8 * n) = ((2 ^ (8 * n) : Nat) : Int) := by simp
    rw [e1]
    omega
  rw [IntKind.wrap_i64]
  omega
set_option maxHeartbeats 1000000 in
theorem count_any (S : List UInt8) (kr : Nat) (n : Nat) (σ : RS) (w : World) (h : RIn w kr S σ) (hi : σ.In S) (hS : S.length ≤ 140737488355328) (h8 : n ≤ 7) :
    Calls Tryd.prog 48 #[.pointer (some ⟨kr, 0, none⟩), .int .i64 n] w fun x w' => x = .returned (.int .i64 (numV S n σ)) ∧ RIn w' kr S (takeS S n σ) ∧ w.grownBy w' (some kr) := by
  have hq := number_any S kr n σ w h hi hS (by omega)
  have hw := count_w (S := S) (σ := σ) h8
  generalize numV S n σ = y at *
  generalize takeS S n σ = σ' at *
  go_enter Tryd.func48, Tryd.ntmps48
  go_wp2_with fail
  refine hq.mono ?_
  rintro x w1 ⟨rfl, h1, hg⟩
  replace h1 := Hid.mk h1
  replace hg := Hid.mk hg
  go_wp2_with fail
  go_ret
  exact ⟨rfl, h1.out, hg.out⟩
set_option maxHeartbeats 1000000 in
theorem perms_any (S : List UInt8) (kr : Nat) (σ : RS) (w : World) (h : RIn w kr S σ) (hi : σ.In S) (hS : S.length ≤ 140737488355328) :
    Calls Tryd.prog 84 #[.pointer (some ⟨kr, 0, none⟩)] w fun x w' => x = .returned (.int .u8 (numV S 1 σ)) ∧ RIn w' kr S (takeS S 1 σ) ∧ w.grownBy w' (some kr) := by
  have hq := number_any S kr 1 σ w h hi hS (by omega)
  have hr := num1 S σ
  have hw : IntKind.u8.wrap (numV S 1 σ) = numV S 1 σ := by rw [IntKind.wrap_u8]; omega
  generalize numV S 1 σ = y at *
  generalize takeS S 1 σ = σ' at *
  clear hr
  go_enter Tryd.func84, Tryd.ntmps84
  go_wp2_with fail
  refine hq.mono ?_
  rintro x w1 ⟨rfl, h1, hg⟩
  replace h1 := Hid.mk h1
  replace hg := Hid.mk hg
  go_wp2_with fail
  go_ret
  exact ⟨rfl, h1.out, hg.out⟩
end Go.Proofs.YtcljibdikhpnlaaDoor
