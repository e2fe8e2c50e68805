import Derived.Test.YtoppcikacakjcaaP21
/-
  Stage 8, flow: code that was lent is as it was.
-/
namespace Go.Proofs.Ytoppcikacakjcaa
namespace F
open Go.RowKit
open T

set_option maxRecDepth 100000 in
set_option maxHeartbeats 4000000 in
theorem given_any (L : List Ins) (ca : Option Addr) (cc g : Nat) (w : World) (hL : LIn w.heap.size w ca L) (h : At w g (insA (L ++ mkI8))) (hn : L.length ≤ 1900000) :
    Calls Try.prog 13 #[.slice (some ⟨g, 0, none⟩) L.length (L.length + 8), .slice ca L.length cc] w fun e w' => e = .returned (.bool true) ∧ Below w.heap.size w w' := by
  have hc1 : ∀ j (hj : j < L.length), Five w g (j * 5) L[j] := fun j hj => by
    have := insA_at h j (by simp; omega)
    rwa [List.getElem_append_left hj] at this
  have hc2 : ∀ j, L.length ≤ j → j < L.length + 8 → Five w g (j * 5) mark := fun j h1 h2 => by
    have hj : j < (L ++ mkI8).length := by simp [mkI8]; omega
    have := insA_at h j hj
    have hm : (L ++ mkI8)[j] = mark := by rw [List.getElem_append_right h1]; exact List.getElem_replicate _
    rwa [hm] at this
  have hgl := h.1
  replace hL := Hid.mk hL
  replace h := Hid.mk h
  replace hc1 := Hid.mk hc1
  replace hc2 := Hid.mk hc2
  go_enter Try.func13, Try.ntmps13
  go_wp2_with fail
  go_loopw [6] (fun x wr => ∃ j : Nat, x = .int .i64 j ∧ j ≤ L.length + 8 ∧ Hid (Below w.heap.size w wr)) (fun x _ => L.length + 8 - (intOf x).toNat)
  case atStart => exact ⟨0, rfl, by omega, Hid.mk (Below.refl _ _)⟩
  case round =>
    obtain ⟨j, rfl, hj, hI⟩ := hrel
    by_cases hlt : j < L.length + 8
    · have hi1 : (j : Int) < (L.length : Int) + 8 := by omega
      by_cases hje : j < L.length
      · obtain ⟨b', off, rfl, hb0', hb1, hcj⟩ := hL.out j hje
        obtain ⟨y0, y1, y2, y3, y4⟩ := hcj.below hI.out hb0'
        obtain ⟨z0, z1, z2, z3, z4⟩ := (hc1.out j hje).below hI.out hgl
        have hi2 : (j : Int) < (L.length : Int) := by omega
        have hi3 : ¬ (L.length : Int) ≤ j := by omega
        have hde : decide (L.length ≤ j) = false := by simp; omega
        generalize L[j].op = op at *
        generalize L[j].a = i1 at *
        generalize L[j].b = i2 at *
        generalize L[j].c = i3 at *
        generalize L[j].m = im at *
        clear hcj
        go_wp2_with fail
        go_quiet (fail)
        go_wp2_with fail
        go_roundw
        all_goals first | exact ⟨j + 1, by simp, by omega, Hid.mk (bel_drewN hI.out _)⟩ | (simp only [intOf]; omega)
      · obtain ⟨z0, z1, z2, z3, z4⟩ := (hc2.out j (by omega) hlt).below hI.out hgl
        simp only [mark] at z0 z1 z2 z3 z4
        have hi2 : ¬ (j : Int) < (L.length : Int) := by omega
        have hi3 : (L.length : Int) ≤ j := by omega
        have hde : decide (L.length ≤ j) = true := by simp; omega
        go_wp2_with fail
        go_quiet (fail)
        go_wp2_with fail
        go_roundw
        all_goals first | exact ⟨j + 1, by simp, by omega, Hid.mk (bel_drewN hI.out _)⟩ | (simp only [intOf]; omega)
    · have hi1 : ¬ (j : Int) < (L.length : Int) + 8 := by omega
      go_wp2_with fail
      go_ret
      exact ⟨rfl, hI.out⟩
end F
end Go.Proofs.Ytoppcikacakjcaa


/-
  Stage 8, flow: the document's Heads; truths that are the same; code turned round.
-/
namespace Go.Proofs.Ytoppcikacakjcaa
namespace F
open Go.RowKit
open T

/-- Heads, from so many. -/
def hK (L : List Ins) (p q : Nat) : Bool := (List.range p).any fun p' => decide (q ≤ p') && folB L p' q
def hN (L : List Ins) (p : Nat) (N : List Int) (q : Nat) : Bool := hK L p q || (decide ((q : Int) ∈ N) && decide (q ≤ p))
theorem hN_zero {L : List Ins} {p : Nat} (q : Nat) : hN L p [] q = hK L p q := by simp [hN]
theorem hN_all {L : List Ins} {p : Nat} (hp : p < L.length) (q : Nat) : hK L (p + 1) q = hN L p (nxtI L p) q := by
  have e : decide ((q : Int) ∈ nxtI L p) = folB L p q := by
    rw [Bool.eq_iff_iff, decide_eq_true_iff, mem_nxt hp]
    constructor
    · rintro ⟨q', h1, h2⟩
      have : q = q' := by omega
      rw [this]; exact h2
    · intro h; exact ⟨q, rfl, h⟩
  unfold hN
  rw [e]
  unfold hK
  rw [List.range_succ, List.any_append]
  simp [Bool.and_comm]
theorem hN_put {L : List Ins} {p y : Nat} (h : y ≤ p) (N : List Int) (q : Nat) : hN L p (N ++ [(y : Int)]) q = if q = y then true else hN L p N q := by
  unfold hN
  by_cases e : q = y
  · subst e; simp [h]
  · have : ¬ (q : Int) = y := by omega
    simp [this, e]
theorem hN_off {L : List Ins} {p y : Nat} (h : ¬ y ≤ p) (N : List Int) (q : Nat) : hN L p (N ++ [(y : Int)]) q = hN L p N q := by
  unfold hN
  by_cases e : q = y
  · subst e; simp [h]
  · have : ¬ (q : Int) = y := by omega
    simp [this]
end F
end Go.Proofs.Ytoppcikacakjcaa
