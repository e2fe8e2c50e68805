import Derived.Test.YtdmkedpnkejpbaaDoorMRdL
import Derived.Test.YtdmkedpnkejpbaaDoorICode
/-
  Stage 4, image: the reader's code, of any state.
-/
namespace Go.Proofs.YtdmkedpnkejpbaaDoor
open Go.RowKit

theorem decA_place (T : List UInt8) : 0 ≤ (decA T).2.2 ∧ (decA T).2.2 ≤ T.length := by
  by_cases h : (decA T).2.1 = 0
  · obtain ⟨L, e, _⟩ := decA_ok h
    rw [e]
    simp
  · obtain ⟨_, m, e, hm⟩ := decA_bad h
    rw [e]
    omega
theorem whole_le (S : List UInt8) (n : Nat) (σ : RS) : wholeN S n σ ≤ n ∧ wholeN S n σ * 8 ≤ S.length := by
  unfold wholeN; omega
set_option maxRecDepth 10000 in
set_option maxHeartbeats 4000000 in
theorem rcode_any (S : List UInt8) (kr : Nat) (n : Nat) (σ : RS) (w : World) (ht : TabIn w) (hk : 2 ≤ kr) (h : RIn w kr S σ) (hi : σ.In S) (hS : S.length ≤ 1000000) (hn : n ≤ 65535) :
    Calls Tryd.prog 58 #[.pointer (some ⟨kr, 0, none⟩), .int .i64 n] w fun x w' => ∃ v, x = .returned v ∧ LOwn w' w.heap.size v (codeP S n σ).1 ∧ RIn w' kr S (codeP S n σ).2 ∧ w.grownBy w' (some kr) := by
  have ss := str_size S
  obtain ⟨hw1, hw2⟩ := whole_le S n σ
  have hpl := decA_place (takeV S (wholeN S n σ * 8) σ)
  have hlen := takeV_len S (wholeN S n σ * 8) σ
  have hT := fun W h1 => take_any S kr (wholeN S n σ * 8) σ W h1 hi (by omega) (by omega)
  have hD := fun W h1 => Decode_any (takeV S (wholeN S n σ * 8) σ) W h1 (by unfold maxI; omega)
  have hF1 := fun W h1 => fail_any S kr (takeS S (wholeN S n σ * 8) σ) (decB S n σ).2.1 (σ.i + (decB S n σ).2.2) W h1
  have hF2 := fun W h1 => fail_any S kr (codeS1 S n σ) 41 S.length W h1
  unfold codeP
  have e1 : (min (n : Int) (((S.length : Int) - σ.i) / 8)) = (wholeN S n σ : Int) := by unfold wholeN RS.In at *; omega
  have e2 : codeS1 S n σ = if (decB S n σ).2.1 = 0 then takeS S (wholeN S n σ * 8) σ else failS (decB S n σ).2.1 (σ.i + (decB S n σ).2.2) (takeS S (wholeN S n σ * 8) σ) := rfl
  unfold RS.In at hi
  have hdB : decA (takeV S (wholeN S n σ * 8) σ) = decB S n σ := rfl
  rw [hdB] at hpl hD
  generalize wholeN S n σ = k at *
  generalize takeV S (k * 8) σ = X at *
  generalize takeS S (k * 8) σ = σ1 at *
  generalize decB S n σ = d at *
  generalize codeS1 S n σ = σ2 at *
  obtain ⟨L, e, p⟩ := d
  simp only at *
  have ek : ((k * 8 : Nat) : Int) = (k : Int) * 8 := by omega
  rw [ek] at hT
  have m0 : IntKind.i64.wrap ((k : Int) * 8) = (k : Int) * 8 := by rw [IntKind.wrap_i64]; omega
  have m1 : IntKind.i64.wrap ((σ.i : Int) + p) = (σ.i : Int) + p := by rw [IntKind.wrap_i64]; omega
  have m2 : IntKind.i64.wrap ((S.length : Int) - σ.i) = (S.length : Int) - σ.i := by rw [IntKind.wrap_i64]; omega
  have ⟨z0, p0, f0⟩ := h.at
  replace h := Hid.mk h
  have hTI : ∀ W, w.grownBy W (some kr) → TabIn W := fun W hg => ht.below (n := kr) (Below.of_grown hg (Nat.le_of_lt h.out.lt) (fun g e => by cases e; omega)) hk
  replace hTI := Hid.mk hTI
  clear hdB ht
  by_cases hlt : k < n
  · have q1 : ((S.length : Int) - σ.i) / 8 = (k : Int) := by omega
    have q2 : (k : Int) < n := by omega
    rw [if_pos hlt]
    replace e1 := Hid.mk e1
    by_cases he : e = 0
    · have he' : (e != 0) = false := by simpa using he
      rw [if_pos he] at e2
      subst e2
      replace he := Hid.mk he
      go_enter Tryd.func58, Tryd.ntmps58
      go_wp2_with fail
      refine (hT _ h.out).mono ?_
      rintro x w1 ⟨rfl, h1, hg⟩
      have ht1 := hTI.out _ hg
      clear z0 p0 f0 h hT
      replace h1 := Hid.mk h1
      replace hg := Hid.mk hg
      go_wp2_with fail
      refine (hD _ ht1).mono ?_
      rintro x w2 ⟨v, rfl, hO, hBe⟩
      replace h1 := h1.out.below hBe h1.out.lt
      replace hO := own_base hO hg.out.size
      replace hg := Hid.mk (hg.out.trans (grown_of hBe _))
      have hOk : ∀ W, w2.grownBy W (some kr) → LOwn W w.heap.size v L := fun W hW => own_kept hO hW (own_ne hO h1 (by decide))
      obtain ⟨va, vc, rfl⟩ := own_slice hO
      have ⟨z0, p0, f0⟩ := h1.at
      replace h1 : Hid (RIn w2 kr S _) := Hid.mk h1
      replace hO := Hid.mk hO
      replace hOk := Hid.mk hOk
      clear hBe hD ht1
      go_wp2_with fail
      refine (hF2 _ h1.out).mono ?_
      clear z0 p0 f0 h1 hO
      rintro x w4 ⟨rfl, h1, hg2⟩
      have hO := hOk.out _ hg2
      replace h1 : Hid (RIn w4 kr S _) := Hid.mk h1
      replace hg := Hid.mk (hg.out.trans hg2)
      replace hO := Hid.mk hO
      clear hg2 hOk
      go_wp2_with fail
      go_ret
      exact ⟨_, rfl, hO.out, h1.out, hg.out⟩
    
    · have he' : (e != 0) = true := by simpa using he
      rw [if_neg he] at e2
      subst e2
      replace he := Hid.mk he
      go_enter Tryd.func58, Tryd.ntmps58
      go_wp2_with fail
      refine (hT _ h.out).mono ?_
      rintro x w1 ⟨rfl, h1, hg⟩
      have ht1 := hTI.out _ hg
      clear z0 p0 f0 h hT
      replace h1 := Hid.mk h1
      replace hg := Hid.mk hg
      go_wp2_with fail
      refine (hD _ ht1).mono ?_
      rintro x w2 ⟨v, rfl, hO, hBe⟩
      replace h1 := h1.out.below hBe h1.out.lt
      replace hO := own_base hO hg.out.size
      replace hg := Hid.mk (hg.out.trans (grown_of hBe _))
      have hOk : ∀ W, w2.grownBy W (some kr) → LOwn W w.heap.size v L := fun W hW => own_kept hO hW (own_ne hO h1 (by decide))
      obtain ⟨va, vc, rfl⟩ := own_slice hO
      have ⟨z0, p0, f0⟩ := h1.at
      replace h1 : Hid (RIn w2 kr S _) := Hid.mk h1
      replace hO := Hid.mk hO
      replace hOk := Hid.mk hOk
      clear hBe hD ht1
      go_wp2_with fail
      refine (hF1 _ h1.out).mono ?_
      clear z0 p0 f0 h1 hO
      rintro x w3 ⟨rfl, h1, hg2⟩
      have hO := hOk.out _ hg2
      replace hOk : ∀ W, w3.grownBy W (some kr) → LOwn W w.heap.size (.slice va L.length vc) L := fun W hW => own_kept hO hW (own_ne hO h1 (by decide))
      have ⟨z0, p0, f0⟩ := h1.at
      replace h1 : Hid (RIn w3 kr S _) := Hid.mk h1
      replace hg := Hid.mk (hg.out.trans hg2)
      replace hO := Hid.mk hO
      replace hOk := Hid.mk hOk
      clear hg2
      go_wp2_with fail
      refine (hF2 _ h1.out).mono ?_
      clear z0 p0 f0 h1 hO
      rintro x w4 ⟨rfl, h1, hg2⟩
      have hO := hOk.out _ hg2
      replace h1 : Hid (RIn w4 kr S _) := Hid.mk h1
      replace hg := Hid.mk (hg.out.trans hg2)
      replace hO := Hid.mk hO
      clear hg2 hOk
      go_wp2_with fail
      go_ret
      exact ⟨_, rfl, hO.out, h1.out, hg.out⟩
  · obtain rfl : k = n := by omega
    have q3 : ¬ ((S.length : Int) - σ.i) / 8 < (k : Int) := by omega
    rw [if_neg hlt]
    replace e1 := Hid.mk e1
    by_cases he : e = 0
    · have he' : (e != 0) = false := by simpa using he
      rw [if_pos he] at e2
      subst e2
      replace he := Hid.mk he
      go_enter Tryd.func58, Tryd.ntmps58
      go_wp2_with fail
      refine (hT _ h.out).mono ?_
      rintro x w1 ⟨rfl, h1, hg⟩
      have ht1 := hTI.out _ hg
      clear z0 p0 f0 h hT
      replace h1 := Hid.mk h1
      replace hg := Hid.mk hg
      go_wp2_with fail
      refine (hD _ ht1).mono ?_
      rintro x w2 ⟨v, rfl, hO, hBe⟩
      replace h1 := h1.out.below hBe h1.out.lt
      replace hO := own_base hO hg.out.size
      replace hg := Hid.mk (hg.out.trans (grown_of hBe _))
      have hOk : ∀ W, w2.grownBy W (some kr) → LOwn W w.heap.size v L := fun W hW => own_kept hO hW (own_ne hO h1 (by decide))
      obtain ⟨va, vc, rfl⟩ := own_slice hO
      have ⟨z0, p0, f0⟩ := h1.at
      replace h1 : Hid (RIn w2 kr S _) := Hid.mk h1
      replace hO := Hid.mk hO
      replace hOk := Hid.mk hOk
      clear hBe hD ht1
      go_wp2_with fail
      go_ret
      exact ⟨_, rfl, hO.out, h1.out, hg.out⟩
    
    · have he' : (e != 0) = true := by simpa using he
      rw [if_neg he] at e2
      subst e2
      replace he := Hid.mk he
      go_enter Tryd.func58, Tryd.ntmps58
      go_wp2_with fail
      refine (hT _ h.out).mono ?_
      rintro x w1 ⟨rfl, h1, hg⟩
      have ht1 := hTI.out _ hg
      clear z0 p0 f0 h hT
      replace h1 := Hid.mk h1
      replace hg := Hid.mk hg
      go_wp2_with fail
      refine (hD _ ht1).mono ?_
      rintro x w2 ⟨v, rfl, hO, hBe⟩
      replace h1 := h1.out.below hBe h1.out.lt
      replace hO := own_base hO hg.out.size
      replace hg := Hid.mk (hg.out.trans (grown_of hBe _))
      have hOk : ∀ W, w2.grownBy W (some kr) → LOwn W w.heap.size v L := fun W hW => own_kept hO hW (own_ne hO h1 (by decide))
      obtain ⟨va, vc, rfl⟩ := own_slice hO
      have ⟨z0, p0, f0⟩ := h1.at
      replace h1 : Hid (RIn w2 kr S _) := Hid.mk h1
      replace hO := Hid.mk hO
      replace hOk := Hid.mk hOk
      clear hBe hD ht1
      go_wp2_with fail
      refine (hF1 _ h1.out).mono ?_
      clear z0 p0 f0 h1 hO
      rintro x w3 ⟨rfl, h1, hg2⟩
      have hO := hOk.out _ hg2
      replace hOk : ∀ W, w3.grownBy W (some kr) → LOwn W w.heap.size (.slice va L.length vc) L := fun W hW => own_kept hO hW (own_ne hO h1 (by decide))
      have ⟨z0, p0, f0⟩ := h1.at
      replace h1 : Hid (RIn w3 kr S _) := Hid.mk h1
      replace hg := Hid.mk (hg.out.trans hg2)
      replace hO := Hid.mk hO
      replace hOk := Hid.mk hOk
      clear hg2
      go_wp2_with fail
      go_ret
      exact ⟨_, rfl, hO.out, h1.out, hg.out⟩
end Go.Proofs.YtdmkedpnkejpbaaDoor
