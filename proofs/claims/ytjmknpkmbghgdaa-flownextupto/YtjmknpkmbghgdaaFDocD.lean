/-
  Stage 8, flow: the document's Reached, Dominates.
-/
import Derived.Test.YtjmknpkmbghgdaaFDocX
namespace Go.Proofs.Ytjmknpkmbghgdaa
namespace F
open Go.RowKit
open T

set_option maxHeartbeats 1000000 in
theorem ReachedD_any (L : List Ins) (E : List Int) (cc ec : Nat) (ca ea : Option Addr) (w : World) (hL : LIn w.heap.size w ca L) (hE : NIn w.heap.size w ea E) (hn : L.length < 2000000) (he : E.length ≤ 4000000) :
    Calls Try.prog 28 #[.slice ca L.length cc, .slice ea E.length ec] w fun e w' => ∃ g, e = .returned (.slice (some ⟨g, 0, none⟩) L.length L.length) ∧ w.heap.size ≤ g ∧ At w' g (boolA L.length (rchB L E (-1))) ∧ Below w.heap.size w w' := by
  have hC := without_any L E cc ec ca ea (-1) w hL hE hn he
  replace hC := Hid.mk hC
  replace hL := Hid.mk hL
  replace hE := Hid.mk hE
  go_enter Try.func28, Try.ntmps28
  go_wp2_with (first | (go_at_call 42; refine hC.out.mono ?_; rintro x w1 ⟨g, rfl, a1, a2, a3⟩; replace a2 := Hid.mk a2; replace a3 := Hid.mk a3))
  go_ret
  exact ⟨g, rfl, a1, a2.out, a3.out⟩
set_option maxHeartbeats 2000000 in
theorem DominatesD_any (L : List Ins) (E : List Int) (cc ec : Nat) (ca ea : Option Addr) (a b : Int) (w : World) (hL : LIn w.heap.size w ca L) (hE : NIn w.heap.size w ea E) (hn : L.length < 2000000) (he : E.length ≤ 4000000) :
    Calls Try.prog 25 #[.slice ca L.length cc, .int .i64 a, .int .i64 b, .slice ea E.length ec] w fun e w' => e = .returned (.bool (domB L E a b)) ∧ Below w.heap.size w w' := by
  have hT := thereD_any ca L.length cc
  have hR := ReachedD_any L E cc ec ca ea w hL hE hn he
  have hC := fun out W (q : Below w.heap.size w W) => without_any L E cc ec ca ea out W ((hL.below q).mono q.size) ((hE.below q).mono q.size) hn he
  replace hL := Hid.mk hL
  replace hE := Hid.mk hE
  unfold domB
  cases ea' : thB L.length a with
  | false =>
    simp only [Bool.false_and]
    replace hT := Hid.mk hT
    replace hR := Hid.mk hR
    replace hC := Hid.mk hC
    cases eb' : thB L.length b <;>
    (go_enter Try.func25, Try.ntmps25
     go_wp2_with (first | (go_at_call 41; refine (hT.out _ _).mono ?_; rintro x w1 ⟨rfl, rfl⟩; (try rw [ea']); (try rw [eb'])))
     go_ret
     exact ⟨rfl, Below.refl _ _⟩)
  | true =>
    cases eb' : thB L.length b with
    | false =>
      simp only [Bool.false_and, Bool.and_false]
      replace hT := Hid.mk hT
      replace hR := Hid.mk hR
      replace hC := Hid.mk hC
      go_enter Try.func25, Try.ntmps25
      go_wp2_with (first | (go_at_call 41; refine (hT.out _ _).mono ?_; rintro x w1 ⟨rfl, rfl⟩; (try rw [ea']); (try rw [eb'])))
      go_ret
      exact ⟨rfl, Below.refl _ _⟩
    | true =>
      simp only [Bool.true_and]
      obtain ⟨q, rfl, hq⟩ := thB_elim eb'
      simp only [Int.toNat_natCast]
      have hq1 : (q : Int) < L.length := by omega
      by_cases hab : a = q
      · subst hab
        simp only [decide_true, Bool.true_or]
        replace hT := Hid.mk hT
        replace hR := Hid.mk hR
        replace hC := Hid.mk hC
        go_enter Try.func25, Try.ntmps25
        go_wp2_with (first | (go_at_call 41; refine (hT.out _ _).mono ?_; rintro x w1 ⟨rfl, rfl⟩; (try rw [ea'])) | (go_at_call 28; refine hR.out.mono ?_; rintro x w1 ⟨g, rfl, a1, a2, a3⟩; have zq := boolA_at a2 q hq; replace a2 := Hid.mk a2; replace a3 := Hid.mk a3))
        go_ret
        exact ⟨rfl, a3.out⟩
      · have hab' : (a == (q : Int)) = false := by simpa using hab
        simp only [hab, decide_false, Bool.false_or]
        cases er : rchB L E (-1) q with
        | false =>
          simp only [Bool.not_false, Bool.true_or]
          replace hT := Hid.mk hT
          replace hR := Hid.mk hR
          replace hC := Hid.mk hC
          replace er := Hid.mk er
          clear hab
          go_enter Try.func25, Try.ntmps25
          go_wp2_with (first | (go_at_call 41; refine (hT.out _ _).mono ?_; rintro x w1 ⟨rfl, rfl⟩; (try rw [ea']); (try rw [eb'])) | (go_at_call 28; refine hR.out.mono ?_; rintro x w1 ⟨g, rfl, a1, a2, a3⟩; have zq := boolA_at a2 q hq; rw [er.out] at zq; have hgl := a2.1; replace a2 := Hid.mk a2; replace a3 := Hid.mk a3))
          go_ret
          exact ⟨rfl, a3.out⟩
        | true =>
          simp only [Bool.not_true, Bool.false_or]
          replace hT := Hid.mk hT
          replace hR := Hid.mk hR
          replace hC := Hid.mk hC
          replace er := Hid.mk er
          clear hab
          go_enter Try.func25, Try.ntmps25
          go_wp2_with (first | (go_at_call 41; refine (hT.out _ _).mono ?_; rintro x w1 ⟨rfl, rfl⟩; (try rw [ea']); (try rw [eb'])) | (go_at_call 28; refine hR.out.mono ?_; rintro x w1 ⟨g, rfl, a1, a2, a3⟩; have zq := boolA_at a2 q hq; rw [er.out] at zq; have hgl := a2.1; replace a2 := Hid.mk a2; replace a3 := Hid.mk a3) | (go_at_call 42; refine (hC.out a _ a3.out).mono ?_; rintro x w2 ⟨g2, rfl, d1, d2, d3⟩; have zr := boolA_at d2 q hq; have hg2 := d2.1; replace d2 := Hid.mk d2; have d4 := Hid.mk (a3.out.trans (d3.mono a3.out.size)); clear d3))
          go_ret
          exact ⟨rfl, d4.out⟩
end F
end Go.Proofs.Ytjmknpkmbghgdaa
