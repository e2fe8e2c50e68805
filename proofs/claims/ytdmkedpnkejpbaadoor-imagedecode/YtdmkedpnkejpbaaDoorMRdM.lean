import Derived.Test.YtdmkedpnkejpbaaDoorP11
import Derived.Test.YtdmkedpnkejpbaaDoorP13
import Derived.Test.YtdmkedpnkejpbaaDoorP17
/-
  Stage 4, image: what the reader reads. No Go in sight.
-/
namespace Go.Proofs.YtdmkedpnkejpbaaDoor
open Go.RowKit

/-- The reader: where it is, its first error, and that one's place. -/
structure RS where
  i : Nat
  e : Int
  p : Int
def failS (e p : Int) (σ : RS) : RS := if σ.e = 0 then ⟨σ.i, e, p⟩ else σ
def takeS (S : List UInt8) (n : Nat) (σ : RS) : RS := if σ.e = 0 then (if σ.i + n ≤ S.length then ⟨σ.i + n, 0, σ.p⟩ else ⟨σ.i, 41, S.length⟩) else σ
def takeV (S : List UInt8) (n : Nat) (σ : RS) : List UInt8 := if σ.e = 0 then (if σ.i + n ≤ S.length then sub S σ.i n else []) else []
def numV (S : List UInt8) (n : Nat) (σ : RS) : Int := leN (takeV S n σ)
def RS.In (S : List UInt8) (σ : RS) : Prop := σ.i ≤ S.length
theorem failS_in {S : List UInt8} {σ : RS} (e p : Int) (h : σ.In S) : (failS e p σ).In S := by
  unfold failS; split <;> exact h
theorem takeS_in {S : List UInt8} {σ : RS} (n : Nat) (h : σ.In S) : (takeS S n σ).In S := by
  unfold takeS
  split
  · split
    · assumption
    · exact h
  · exact h
theorem takeV_len (S : List UInt8) (n : Nat) (σ : RS) : (takeV S n σ).length ≤ n := by
  unfold takeV
  split
  · split
    · rename_i h; rw [sub_length h]; exact Nat.le_refl _
    · simp
  · simp
theorem numV_range (S : List UInt8) (n : Nat) (σ : RS) : 0 ≤ numV S n σ ∧ numV S n σ < 2 ^ (8 * n) := by
  have h := leN_range (takeV S n σ)
  have h1 : (2 : Int) ^ (8 * (takeV S n σ).length) ≤ 2 ^ (8 * n) := by
    have := Nat.pow_le_pow_right (n := 2) (by omega) (show 8 * (takeV S n σ).length ≤ 8 * n by have := takeV_len S n σ; omega)
    have e1 : (2 : Int) ^ (8 * (takeV S n σ).length) = ((2 ^ (8 * (takeV S n σ).length) : Nat) : Int) := by simp
    have e2 : (2 : Int) ^ (8 * n) = ((2 ^ (8 * n) : Nat) : Int) := by simp
    rw [e1, e2]; omega
  unfold numV
  omega
theorem num1 (S : List UInt8) (σ : RS) : 0 ≤ numV S 1 σ ∧ numV S 1 σ < 256 := numV_range S 1 σ
theorem num2 (S : List UInt8) (σ : RS) : 0 ≤ numV S 2 σ ∧ numV S 2 σ < 65536 := numV_range S 2 σ
theorem num4 (S : List UInt8) (σ : RS) : 0 ≤ numV S 4 σ ∧ numV S 4 σ < 4294967296 := numV_range S 4 σ
theorem num8 (S : List UInt8) (σ : RS) : 0 ≤ numV S 8 σ ∧ numV S 8 σ < 18446744073709551616 := numV_range S 8 σ
/-- Things one behind the other; none behind an error. -/
def listF {α : Type} (f : RS → α × RS) : Nat → RS → List α → List α × RS
  | 0, σ, L => (L, σ)
  | n + 1, σ, L => if (f σ).2.e = 0 then listF f n (f σ).2 (L ++ [(f σ).1]) else ([], (f σ).2)
def zTyp : PTyp := ⟨false, 0, 0, 0, 0, 0, 0⟩
def capS (S : List UInt8) (σ : RS) : RS := takeS S 1 (takeS S 1 (takeS S 8 (takeS S 8 (takeS S 8 σ))))
def typS (S : List UInt8) (σ : RS) : RS := takeS S 1 (takeS S 1 (takeS S 8 (takeS S 8 (takeS S 8 (takeS S 8 σ)))))
def typV (S : List UInt8) (σ : RS) : PTyp := ⟨true, numV S 8 σ, numV S 8 (takeS S 8 σ), numV S 8 (takeS S 8 (takeS S 8 σ)), numV S 8 (takeS S 8 (takeS S 8 (takeS S 8 σ))), numV S 1 (takeS S 8 (takeS S 8 (takeS S 8 (takeS S 8 σ)))), numV S 1 (takeS S 1 (takeS S 8 (takeS S 8 (takeS S 8 (takeS S 8 σ)))))⟩
def kindP (S : List UInt8) (σ : RS) : PTyp × RS :=
  if numV S 1 σ = 0 then (zTyp, takeS S 1 σ)
  else if numV S 1 σ = 1 then (typV S (takeS S 1 σ), typS S (takeS S 1 σ))
  else (zTyp, failS 44 σ.i (takeS S 1 σ))
def slotP (S : List UInt8) (σ : RS) : PSlot × RS := (⟨(kindP S σ).1, numV S 8 (kindP S σ).2⟩, takeS S 8 (kindP S σ).2)
def rootP (S : List UInt8) (σ : RS) : PRoot × RS :=
  (⟨numV S 1 σ, numV S 8 (takeS S 1 σ), numV S 8 (takeS S 8 (takeS S 1 σ)), numV S 8 (takeS S 8 (takeS S 8 (takeS S 1 σ))), numV S 1 (takeS S 8 (takeS S 8 (takeS S 8 (takeS S 1 σ)))), numV S 1 (takeS S 1 (takeS S 8 (takeS S 8 (takeS S 8 (takeS S 1 σ)))))⟩, capS S (takeS S 1 σ))
def wholeN (S : List UInt8) (n : Nat) (σ : RS) : Nat := min n ((S.length - σ.i) / 8)
def decB (S : List UInt8) (n : Nat) (σ : RS) : List Ins × Int × Int := decA (takeV S (wholeN S n σ * 8) σ)
def codeS1 (S : List UInt8) (n : Nat) (σ : RS) : RS := if (decB S n σ).2.1 = 0 then takeS S (wholeN S n σ * 8) σ else failS (decB S n σ).2.1 (σ.i + (decB S n σ).2.2) (takeS S (wholeN S n σ * 8) σ)
def codeP (S : List UInt8) (n : Nat) (σ : RS) : List Ins × RS := ((decB S n σ).1, if wholeN S n σ < n then failS 41 S.length (codeS1 S n σ) else codeS1 S n σ)
def regS (S : List UInt8) (σ : RS) : RS := takeS S 2 (takeS S 4 (takeS S 4 σ))
def regK (S : List UInt8) (σ : RS) : Nat := (numV S 2 (takeS S 4 (takeS S 4 σ))).toNat
def regD (S : List UInt8) (σ : RS) : Nat := (numV S 2 (regS S σ)).toNat
def regP (S : List UInt8) (σ : RS) : PReg × RS :=
  if 0 < regK S σ then (⟨numV S 4 σ, numV S 4 (takeS S 4 σ), [], (listF (slotP S) (regK S σ) (regS S σ) []).1⟩, (listF (slotP S) (regK S σ) (regS S σ) []).2)
  else (⟨numV S 4 σ, numV S 4 (takeS S 4 σ), takeV S (regD S σ) (takeS S 2 (regS S σ)), []⟩, takeS S (regD S σ) (takeS S 2 (regS S σ)))
def rootsP (S : List UInt8) (σ : RS) : List PRoot × RS := listF (rootP S) (numV S 1 σ).toNat (takeS S 1 σ) []
def insP (S : List UInt8) (σ : RS) : List Ins × RS := codeP S (numV S 2 σ).toNat (takeS S 2 σ)
def compP (S : List UInt8) (σ : RS) : PComp × RS := (⟨(rootsP S σ).1, (insP S (rootsP S σ).2).1⟩, (insP S (rootsP S σ).2).2)
def kindsP (S : List UInt8) (σ : RS) : List PTyp × RS := listF (kindP S) (numV S 1 σ).toNat (takeS S 1 σ) []
def gateS (S : List UInt8) (σ : RS) : RS := takeS S 2 (takeS S 1 σ)
def gateP (S : List UInt8) (σ : RS) : PGate × RS :=
  (⟨numV S 1 σ, numV S 2 (takeS S 1 σ), (kindsP S (gateS S σ)).1, (kindsP S (kindsP S (gateS S σ)).2).1⟩, (kindsP S (kindsP S (gateS S σ)).2).2)
def headS (S : List UInt8) (k : Nat) : RS := takeS S k ⟨6, 0, 0⟩
def h0S : RS := ⟨6, 0, 0⟩
def h1S (S : List UInt8) : RS := takeS S 1 h0S
def h2S (S : List UInt8) : RS := takeS S 1 (h1S S)
def h3S (S : List UInt8) : RS := takeS S 1 (h2S S)
def h4S (S : List UInt8) : RS := takeS S 1 (h3S S)
def regsP (S : List UInt8) : List PReg × RS := listF (regP S) (numV S 1 (h1S S)).toNat (h4S S) []
def compsP (S : List UInt8) : List PComp × RS := listF (compP S) (numV S 1 (h2S S)).toNat (regsP S).2 []
def gatesP (S : List UInt8) : List PGate × RS := listF (gateP S) (numV S 1 (h3S S)).toNat (compsP S).2 []
def restS (S : List UInt8) (σ : RS) : RS := if σ.i < S.length then failS 49 σ.i σ else σ
def zImg : PImg := ⟨[], [], [], 0⟩
def imgP (S : List UInt8) : PImg × RS := if magicB <+: S then (⟨(regsP S).1, (compsP S).1, (gatesP S).1, numV S 1 h0S⟩, restS S (gatesP S).2) else (zImg, ⟨0, 40, 0⟩)
/-- What Decode answers. -/
def decI (S : List UInt8) : PImg × Int × Int :=
  if 40000 < S.length then (zImg, 42, 0) else if (imgP S).2.e = 0 then (if (imgP S).1.right = 0 then ((imgP S).1, 0, 0) else (zImg, (imgP S).1.right, 0)) else (zImg, (imgP S).2.e, (imgP S).2.p)
theorem listF_in {α : Type} {S : List UInt8} {f : RS → α × RS} (hf : ∀ σ, σ.In S → (f σ).2.In S) : ∀ (n : Nat) (σ : RS) (L : List α), σ.In S → (listF f n σ L).2.In S
  | 0, _, _, h => h
  | n + 1, σ, L, h => by
    rw [listF]
    split
    · exact listF_in hf n _ _ (hf σ h)
    · exact hf σ h
theorem listF_len {α : Type} {f : RS → α × RS} : ∀ (n : Nat) (σ : RS) (L : List α), (listF f n σ L).1.length ≤ L.length + n
  | 0, _, _ => by simp [listF]
  | n + 1, σ, L => by
    rw [listF]
    split
    · have := listF_len (f := f) n (f σ).2 (L ++ [(f σ).1])
      simp at this
      omega
    · simp
theorem listF_all {α : Type} {P : α → Prop} {f : RS → α × RS} (hf : ∀ σ, P (f σ).1) : ∀ (n : Nat) (σ : RS) (L : List α), (∀ x ∈ L, P x) → ∀ x ∈ (listF f n σ L).1, P x
  | 0, _, _, h => h
  | n + 1, σ, L, h => by
    rw [listF]
    split
    · refine listF_all hf n _ _ ?_
      intro x hx
      rcases List.mem_append.1 hx with hx | hx
      · exact h x hx
      · rw [List.mem_singleton.1 hx]; exact hf σ
    · simp
theorem capS_in {S : List UInt8} {σ : RS} (h : σ.In S) : (capS S σ).In S := takeS_in _ (takeS_in _ (takeS_in _ (takeS_in _ (takeS_in _ h))))
theorem kindP_in {S : List UInt8} {σ : RS} (h : σ.In S) : (kindP S σ).2.In S := by
  unfold kindP
  split
  · exact takeS_in _ h
  · split
    · exact takeS_in _ (takeS_in _ (takeS_in _ (takeS_in _ (takeS_in _ (takeS_in _ (takeS_in _ h))))))
    · exact failS_in _ _ (takeS_in _ h)
theorem slotP_in {S : List UInt8} {σ : RS} (h : σ.In S) : (slotP S σ).2.In S := takeS_in _ (kindP_in h)
theorem rootP_in {S : List UInt8} {σ : RS} (h : σ.In S) : (rootP S σ).2.In S := capS_in (takeS_in _ h)
theorem codeP_in {S : List UInt8} {n : Nat} {σ : RS} (h : σ.In S) : (codeP S n σ).2.In S := by
  have h1 : (codeS1 S n σ).In S := by
    unfold codeS1
    split
    · exact takeS_in _ h
    · exact failS_in _ _ (takeS_in _ h)
  show RS.In S (if wholeN S n σ < n then failS 41 S.length (codeS1 S n σ) else codeS1 S n σ)
  split
  · exact failS_in _ _ h1
  · exact h1
theorem regS_in {S : List UInt8} {σ : RS} (h : σ.In S) : (regS S σ).In S := takeS_in _ (takeS_in _ (takeS_in _ h))
theorem regP_in {S : List UInt8} {σ : RS} (h : σ.In S) : (regP S σ).2.In S := by
  unfold regP
  split
  · exact listF_in (fun _ h => slotP_in h) _ _ _ (regS_in h)
  · exact takeS_in _ (takeS_in _ (regS_in h))
theorem rootsP_in {S : List UInt8} {σ : RS} (h : σ.In S) : (rootsP S σ).2.In S := listF_in (fun _ h => rootP_in h) _ _ _ (takeS_in _ h)
theorem insP_in {S : List UInt8} {σ : RS} (h : σ.In S) : (insP S σ).2.In S := codeP_in (takeS_in _ h)
theorem compP_in {S : List UInt8} {σ : RS} (h : σ.In S) : (compP S σ).2.In S := insP_in (rootsP_in h)
theorem kindsP_in {S : List UInt8} {σ : RS} (h : σ.In S) : (kindsP S σ).2.In S := listF_in (fun _ h => kindP_in h) _ _ _ (takeS_in _ h)
theorem gateP_in {S : List UInt8} {σ : RS} (h : σ.In S) : (gateP S σ).2.In S := kindsP_in (kindsP_in (takeS_in _ (takeS_in _ h)))
end Go.Proofs.YtdmkedpnkejpbaaDoor
