/-
  Stage 8, flow: Reached, Dominates.
-/
import Derived.Test.YtjmknpkmbghgdaaFComeB
namespace Go.Proofs.Ytjmknpkmbghgdaa
namespace F
open Go.RowKit
open T

open Classical in
/-- Is it come to? -/
noncomputable def rchB (L : List Ins) (E : List Int) (out : Int) (q : Nat) : Bool := decide (Rch L E out q)
theorem rchB_iff {L : List Ins} {E : List Int} {out : Int} {q : Nat} : rchB L E out q = true ↔ Rch L E out q := by simp [rchB]
/-- A list of truths, of its own. -/
def boolA (n : Nat) (f : Nat → Bool) : Array Value := ((List.range n).map fun k => Value.bool (f k)).toArray
theorem boolA_congr {n : Nat} {f g : Nat → Bool} (h : ∀ k, k < n → f k = g k) : boolA n f = boolA n g := by
  unfold boolA
  congr 1
  apply List.map_congr_left
  intro k hk
  rw [h k (List.mem_range.1 hk)]
set_option maxHeartbeats 1000000 in
theorem Reached_any (L : List Ins) (E : List Int) (cc ec : Nat) (ca ea : Option Addr) (w : World) (hL : LIn w.heap.size w ca L) (hE : NIn w.heap.size w ea E) (hnil : NilOk ea E.length ec) (hn : L.length < 2000000) (he : E.length ≤ 4000000) :
    Calls Try.prog 10 #[.slice ca L.length cc, .slice ea E.length ec] w fun e w' => ∃ g, e = .returned (.slice (some ⟨g, 0, none⟩) L.length L.length) ∧ w.heap.size ≤ g ∧ At w' g (boolA L.length (rchB L E (-1))) ∧ Below w.heap.size w w' := by
  have hC := comeTo_any L E cc ec ca ea (-1) w hL hE hnil hn he
  have hT := fun X s W (h : SIn W X L.length s) => truths_any X L.length s W h hn
  replace hC := Hid.mk hC
  replace hT := Hid.mk hT
  replace hL := Hid.mk hL
  replace hE := Hid.mk hE
  replace hnil := Hid.mk hnil
  go_enter Try.func10, Try.ntmps10
  go_wp2_with (first | (go_at_call 32; refine hC.out.mono ?_; rintro x w1 ⟨X, s, rfl, a1, a2, a3, a4⟩; replace a1 := Hid.mk a1; replace a3 := Hid.mk a3; replace a4 := Hid.mk a4) | (go_at_call 33; refine (hT.out X s _ a1.out).mono ?_; rintro x w2 ⟨g, rfl, b1, b2, b3⟩; replace b2 := Hid.mk b2; replace b3 := Hid.mk b3))
  go_ret
  refine ⟨g, rfl, Nat.le_trans a3.out.size b1, ?_, a3.out.trans (b3.out.mono a3.out.size)⟩
  have e : boolA L.length (rchB L E (-1)) = boolA L.length s := boolA_congr (fun k hk => by
    have := a4.out k hk
    have hk1 : ¬ (k : Int) = -1 := by omega
    simp only [hk1, or_false] at this
    cases h : s k
    · cases h2 : rchB L E (-1) k
      · rfl
      · rw [rchB_iff] at h2
        rw [this.2 h2] at h
        cases h
    · exact rchB_iff.2 (this.1 h))
  rw [e]
  exact b2.out
/-- Does the one dominate the other? -/
noncomputable def domB (L : List Ins) (E : List Int) (a b : Int) : Bool :=
  thB L.length a && thB L.length b && (decide (a = b) || !rchB L E (-1) b.toNat || !rchB L E a b.toNat)
set_option maxHeartbeats 2000000 in
theorem Dominates_any (L : List Ins) (E : List Int) (cc ec : Nat) (ca ea : Option Addr) (a b : Int) (w : World) (hL : LIn w.heap.size w ca L) (hE : NIn w.heap.size w ea E) (hnil : NilOk ea E.length ec) (hn : L.length < 2000000) (he : E.length ≤ 4000000) :
    Calls Try.prog 15 #[.slice ca L.length cc, .int .i64 a, .int .i64 b, .slice ea E.length ec] w fun e w' => e = .returned (.bool (domB L E a b)) ∧ Below w.heap.size w w' := by
  have hT := there_any ca L.length cc
  have hC := fun out W (q : Below w.heap.size w W) => comeTo_any L E cc ec ca ea out W ((hL.below q).mono q.size) ((hE.below q).mono q.size) hnil hn he
  replace hL := Hid.mk hL
  replace hE := Hid.mk hE
  replace hnil := Hid.mk hnil
  unfold domB
  cases ea' : thB L.length a with
  | false =>
    simp only [Bool.false_and]
    replace hT := Hid.mk hT
    replace hC := Hid.mk hC
    go_enter Try.func15, Try.ntmps15
    go_wp2_with (go_at_call 34; refine (hT.out _ _).mono ?_; rintro x w1 ⟨rfl, rfl⟩; rw [ea'])
    go_ret
    exact ⟨rfl, Below.refl _ _⟩
  | true =>
    cases eb' : thB L.length b with
    | false =>
      simp only [Bool.false_and, Bool.and_false]
      replace hT := Hid.mk hT
      replace hC := Hid.mk hC
      go_enter Try.func15, Try.ntmps15
      go_wp2_with (go_at_call 34; (refine (hT.out _ _).mono ?_; rintro x w1 ⟨rfl, rfl⟩; (try rw [ea']); (try rw [eb'])))
      go_ret
      exact ⟨rfl, Below.refl _ _⟩
    | true =>
      simp only [Bool.true_and]
      obtain ⟨q, rfl, hq⟩ := thB_elim eb'
      simp only [Int.toNat_natCast]
      by_cases hab : a = q
      · subst hab
        simp only [decide_true, Bool.true_or]
        replace hT := Hid.mk hT
        replace hC := Hid.mk hC
        go_enter Try.func15, Try.ntmps15
        go_wp2_with (go_at_call 34; (refine (hT.out _ _).mono ?_; rintro x w1 ⟨rfl, rfl⟩; (try rw [ea']); (try rw [eb'])))
        go_ret
        exact ⟨rfl, Below.refl _ _⟩
      · have hab' : (a == (q : Int)) = false := by simpa using hab
        simp only [hab, decide_false, Bool.false_or]
        have hH := fun X s W (h : SIn W X L.length s) => has_any X L.length q s W h hn hq
        have heq : ∀ (s : Nat → Bool) (out : Int), (s q = true ↔ Rch L E out q ∨ (q : Int) = out) → out ≠ q → s q = rchB L E out q := fun s out h1 h2 => by
          have h3 : ¬ (q : Int) = out := fun r => h2 r.symm
          simp only [h3, or_false] at h1
          cases h : s q
          · cases h2 : rchB L E out q
            · rfl
            · rw [rchB_iff] at h2
              rw [h1.2 h2] at h
              cases h
          · exact (rchB_iff.2 (h1.1 h)).symm
        cases er : rchB L E (-1) q with
        | false =>
          simp only [Bool.not_false, Bool.true_or]
          replace hT := Hid.mk hT
          replace hC := Hid.mk hC
          replace hH := Hid.mk hH
          replace heq := Hid.mk heq
          replace er := Hid.mk er
          clear hab
          go_enter Try.func15, Try.ntmps15
          go_wp2_with (first | (go_at_call 34; (refine (hT.out _ _).mono ?_; rintro x w1 ⟨rfl, rfl⟩; (try rw [ea']); (try rw [eb']))) | (go_at_call 32; refine (hC.out (-1) _ (by (repeat (first | assumption | with_reducible exact Below.refl _ _ | with_reducible refine Below.alloc ?_ (by simp <;> omega) _ | with_reducible refine Below.setCell ?_ (by simp <;> omega) _ | with_reducible refine Below.drew ?_)))).mono ?_; rintro x w1 ⟨X, s, rfl, a1, a2, a3, a4⟩; have a5 := heq.out s (-1) (a4 q hq) (by omega); rw [er.out] at a5; replace a1 := Hid.mk a1; replace a3 := Hid.mk a3; replace a4 := Hid.mk a4) | (go_at_call 39; refine (hH.out X s _ a1.out).mono ?_; rintro x w2 ⟨rfl, b1⟩; rw [a5]; replace b1 := Hid.mk b1))
          go_ret
          exact ⟨rfl, a3.out.trans (b1.out.mono a3.out.size)⟩
        | true =>
          simp only [Bool.not_true, Bool.false_or]
          replace hT := Hid.mk hT
          replace hC := Hid.mk hC
          replace hH := Hid.mk hH
          replace heq := Hid.mk heq
          replace er := Hid.mk er
          replace hab := Hid.mk hab
          go_enter Try.func15, Try.ntmps15
          go_wp2_with (first | (go_at_call 34; (refine (hT.out _ _).mono ?_; rintro x w1 ⟨rfl, rfl⟩; (try rw [ea']); (try rw [eb']))) | (go_at_call 39; refine (hH.out X2 s2 _ d1.out).mono ?_; rintro x w4 ⟨rfl, d5⟩; rw [d4]; replace d5 := Hid.mk d5) | (go_at_call 32; refine (hC.out a _ c1.out).mono ?_; rintro x w3 ⟨X2, s2, rfl, d1, d2, d3, d4⟩; replace d4 := heq.out s2 a (d4 q hq) hab.out; replace d1 := Hid.mk d1; replace d3 := Hid.mk d3) | (go_at_call 39; refine (hH.out X s _ a1.out).mono ?_; rintro x w2 ⟨rfl, b1⟩; rw [a5]; have c1 := Hid.mk (a3.out.trans (b1.mono a3.out.size)); clear b1) | (go_at_call 32; refine (hC.out (-1) _ (by (repeat (first | assumption | with_reducible exact Below.refl _ _ | with_reducible refine Below.alloc ?_ (by simp <;> omega) _ | with_reducible refine Below.setCell ?_ (by simp <;> omega) _ | with_reducible refine Below.drew ?_)))).mono ?_; rintro x w1 ⟨X, s, rfl, a1, a2, a3, a4⟩; have a5 := heq.out s (-1) (a4 q hq) (by omega); rw [er.out] at a5; replace a1 := Hid.mk a1; replace a3 := Hid.mk a3; replace a4 := Hid.mk a4))
          go_ret
          exact ⟨rfl, c1.out.trans ((d3.out.trans (d5.out.mono d3.out.size)).mono c1.out.size)⟩
end F
end Go.Proofs.Ytjmknpkmbghgdaa
