import Derived.Test.YtmedafcmfbhjkaaGreatP36
namespace Go.Proofs.YtmedafcmfbhjkaaGreat
namespace Z
open Go.RowKit
open T (Sep Ob Kp Mf FlIn boxOb)

structure Bgn (w : World) (R : Rp) (ca ga : Option Addr) (mem : List UInt8) (A : List Int) (sa : Option Addr) (ia : Option Addr) (ic : Nat) (L : List Int) : Prop where
 hP : RpIn w ca ga R
 wd : R.Wds
 hA : WIn w sa A
 Aw : ∀ x ∈ A, Wd x
 hI : InL w ia ic L
 Lw : ∀ x ∈ L, Wd x
 c : R.code.length ≤ 1500000
 r : ∀ r ∈ R.code, r.length ≤ 2000000
 g : R.gates.length ≤ 2000000
 l : L.length ≤ 2000000
theorem Bgn.below {w W : World} {R : Rp} {ca ga : Option Addr} {mem : List UInt8} {A : List Int} {sa : Option Addr} {ia : Option Addr} {ic : Nat} {L : List Int} (h : Bgn w R ca ga mem A sa ia ic L) (q : Below w.heap.size w W) : Bgn W R ca ga mem A sa ia ic L :=
 ⟨h.hP.below_ q, h.wd, h.hA.below q, h.Aw, h.hI.below q, h.Lw, h.c, h.r, h.g, h.l⟩
def zRg : Rg := ⟨0, 0, 0, fun _ => 0⟩
def gNo (R : Rp) (gate : Int) : Nat := gate.toNat % R.gates.length
def aNo (R : Rp) (gate : Int) : Nat := (R.gates.getD (gNo R gate) zRg).a.toNat
def st0 (R : Rp) (gate : Int) (A L : List Int) (mem : List UInt8) : Fm := start (R.gates.getD (gNo R gate) zRg).fg (gNo R gate) (aNo R gate) (srcA (entL A (aNo R gate))) L mem
theorem st0_e (R : Rp) (gate : Int) (A L : List Int) (mem : List UInt8) : (st0 R gate A L mem).e = 0 := rfl
section
variable {w : World} {R : Rp} {ca ga : Option Addr} {mem : List UInt8} {A : List Int} {sa : Option Addr} {ia : Option Addr} {ic : Nat} {L : List Int}
theorem src_wd (hA : ∀ x ∈ A, Wd x) (n : Nat) (hn : n ≤ 20) : ∀ j, Wd (srcA (entL A n) j) := fun j => by
 unfold srcA
 by_cases hj : j < n
 · have e : (entL A n).getD j 0 = A.getD j (j : Int) := by simp [entL, hj]
   rw [e]
   by_cases h2 : j < A.length
   · rw [show A.getD j (j : Int) = A[j] by simp [h2]]
     exact hA _ (List.getElem_mem h2)
   · rw [show A.getD j (j : Int) = (j : Int) by simp [h2]]
     exact ⟨by omega, by omega⟩
 · rw [show (entL A n).getD j 0 = 0 by simp [entL, hj]]
   exact wd0
theorem Rp.Ok.at (ok : R.Ok mem.length) (gate : Int) : gNo R gate < R.gates.length ∧ aNo R gate ≤ 7 ∧ ∃ h : gNo R gate < R.gates.length, R.gates.getD (gNo R gate) zRg = R.gates[gNo R gate] ∧ ((aNo R gate : Nat) : Int) = R.gates[gNo R gate].a := by
 have h0 : 0 < R.gates.length := ok.n1.1
 have h : gNo R gate < R.gates.length := Nat.mod_lt _ h0
 have e : R.gates.getD (gNo R gate) zRg = R.gates[gNo R gate] := by simp [h]
 obtain ⟨_, _, _, hq⟩ := ok.gt _ h
 have h2 := hq.2.1
 refine ⟨h, ?_, h, e, ?_⟩
 · unfold aNo; rw [e]; omega
 · unfold aNo; rw [e]; omega
theorem Bgn.okn (h : Bgn w R ca ga mem A sa ia ic L) (ok : R.Ok mem.length) (gate : Int) : (st0 R gate A L mem).Okn R.pr 0 := by
 obtain ⟨h1, h2, h3, h4, h5⟩ := ok.at gate
 unfold st0
 rw [h4]
 exact start_okn R mem.length _ _ _ L mem h.wd ok h1 (src_wd h.Aw _ (by omega)) h.Lw h.l
end
end Z
end Go.Proofs.YtmedafcmfbhjkaaGreat
