/-
  Stage 8, flow: the document's Heads; truths that are the same; code turned round.
-/
import Derived.Test.YtjmknpkmbghgdaaFGivenI
namespace Go.Proofs.Ytjmknpkmbghgdaa
namespace F
open Go.RowKit
open T

/-- Heads, from so many. -/
def hK (L : List Ins) (p q : Nat) : Bool := (List.range p).any fun p' => decide (q ≤ p') && folB L p' q
def hN (L : List Ins) (p : Nat) (N : List Int) (q : Nat) : Bool := hK L p q || (decide ((q : Int) ∈ N) && decide (q ≤ p))
theorem hN_zero {L : List Ins} {p : Nat} (q : Nat) : hN L p [] q = hK L p q := by simp [hN]
theorem hN_all {L : List Ins} {p : Nat} (hp : p < L.length) (q : Nat) : hK L (p + 1) q = hN L p (nxtI L p) q := by
  have e : decide ((q : Int) ∈ nxtI L p) = folB L p q := by
    rw [Bool.eq_iff_iff, decide_eq_true_iff, mem_nxt hp]
    constructor
    · rintro ⟨q', h1, h2⟩
      have : q = q' := by omega
      rw [this]; exact h2
    · intro h; exact ⟨q, rfl, h⟩
  unfold hN
  rw [e]
  unfold hK
  rw [List.range_succ, List.any_append]
  simp [Bool.and_comm]
theorem hN_put {L : List Ins} {p y : Nat} (h : y ≤ p) (N : List Int) (q : Nat) : hN L p (N ++ [(y : Int)]) q = if q = y then true else hN L p N q := by
  unfold hN
  by_cases e : q = y
  · subst e; simp [h]
  · have : ¬ (q : Int) = y := by omega
    simp [this, e]
theorem hN_off {L : List Ins} {p y : Nat} (h : ¬ y ≤ p) (N : List Int) (q : Nat) : hN L p (N ++ [(y : Int)]) q = hN L p N q := by
  unfold hN
  by_cases e : q = y
  · subst e; simp [h]
  · have : ¬ (q : Int) = y := by omega
    simp [this]
set_option maxRecDepth 100000 in
set_option maxHeartbeats 4000000 in
theorem HeadsD_any (L : List Ins) (cc : Nat) (ca : Option Addr) (w : World) (hL : LIn w.heap.size w ca L) (hn : L.length < 2000000) :
    Calls Try.prog 29 #[.slice ca L.length cc] w fun e w' => ∃ g, e = .returned (.slice (some ⟨g, 0, none⟩) L.length L.length) ∧ w.heap.size ≤ g ∧ At w' g (boolA L.length (hK L L.length)) ∧ Below w.heap.size w w' := by
  have hm := make_bools L.length (by omega)
  have hX := fun p W (q : Below w.heap.size w W) => NextD_any L ca cc p W ((hL.below q).mono q.size) hn
  have h0 : Hid (At (w.alloc (.cells (Array.replicate L.length (.bool false)) 4)) w.heap.size (boolA L.length (hK L 0)) ∧ Below w.heap.size w (w.alloc (.cells (Array.replicate L.length (.bool false)) 4))) := Hid.mk ⟨by
    rw [boolA_congr (g := fun _ => false) (fun z _ => by simp [hK])]
    exact boolA_new w L.length 4, by (repeat (first | assumption | with_reducible exact Below.refl _ _ | with_reducible refine Below.alloc ?_ (by simp <;> omega) _ | with_reducible refine Below.setCell ?_ (by simp <;> omega) _ | with_reducible refine Below.drew ?_))⟩
  replace hL := Hid.mk hL
  replace hX := Hid.mk hX
  go_enter Try.func29, Try.ntmps29
  go_wp2_with fail
  go_loopw [4] (fun x wr => ∃ p : Nat, x = .int .i64 p ∧ p ≤ L.length ∧ Hid (At wr w.heap.size (boolA L.length (hK L p)) ∧ Below w.heap.size w wr)) (fun x _ => L.length - (intOf x).toNat)
  case atStart => exact ⟨0, rfl, by omega, h0⟩
  case round =>
    clear h0
    obtain ⟨p, rfl, hp, ⟨k1, k3⟩⟩ := hrel
    by_cases hpl : p < L.length
    · have hp1 : (p : Int) < L.length := by omega
      have hXp := Hid.mk (hX.out (p : Int) wr k3)
      have hyq : Hid (∀ y ∈ nxtI L (p : Int), ∃ q : Nat, y = q ∧ folB L p q = true) := Hid.mk (fun y hy => (mem_nxt hpl y).1 hy)
      have hNl : (nxtI L (p : Int)).length ≤ L.length := by
        have := nxK_len L (p : Int) L.length
        rwa [nxK_all] at this
      have hall := Hid.mk (fun z => hN_all hpl z)
      generalize nxtI L (p : Int) = N at *
      have hbC : w.heap.size < wr.heap.size := k1.1
      replace k1 := Hid.mk k1
      replace k3 := Hid.mk k3
      go_wp2_with fail
      refine hXp.out.mono ?_
      rintro z w6 ⟨v', rfl, n1, n2⟩
      obtain ⟨na, nc, rfl⟩ := own_slice n1
      generalize hbc : wr.heap.size = bC at *
      have hD0 : Hid (At w6 w.heap.size (boolA L.length (hN L p (N.take 0))) ∧ IOwn w6 bC (.slice na N.length nc) N ∧ Below w.heap.size w w6) := Hid.mk ⟨by rw [boolA_congr (g := hK L p) (fun z _ => by rw [List.take_zero]; exact hN_zero z)]; exact at_below k1.out n2 hbC, n1, k3.out.trans (n2.mono (Nat.le_of_lt hbC))⟩
      clear n1 n2 k1
      go_wp2_with fail
      rename World => w6
      go_loopw [6] (fun x wr => ∃ k : Nat, x = .int .i64 k ∧ k ≤ N.length ∧ Hid (At wr w.heap.size (boolA L.length (hN L p (N.take k))) ∧ IOwn wr bC (.slice na N.length nc) N ∧ Below w.heap.size w wr)) (fun x _ => N.length - (intOf x).toNat)
      case atStart => exact ⟨0, rfl, by omega, hD0⟩
      case round =>
        clear hD0
        obtain ⟨k, rfl, hk, ⟨m1, m4, m5⟩⟩ := hrel
        by_cases hkl : k < N.length
        · obtain ⟨b', off, ena, hb0', hb1, hck⟩ := own_nin m4 k hkl
          have ki1 : (k : Int) < N.length := by omega
          obtain ⟨q, eyq, hfq⟩ := hyq.out N[k] (List.getElem_mem hkl)
          have htk := take_snoc N k hkl
          rw [eyq] at hck htk
          have hql := folB_lt hfq
          have hqi : (q : Int) < L.length := by omega
          have zq := boolA_at m1 q hql
          cases ena
          by_cases hqp : q ≤ p
          · have hqp1 : (q : Int) ≤ p := by omega
            have hfy := m1.2.2
            have hgy := m1.1
            have hnew : Hid (At (wr.setCell ⟨w.heap.size, q, none⟩ (.bool true)) w.heap.size (boolA L.length (hN L p (N.take (k + 1)))) ∧ IOwn (wr.setCell ⟨w.heap.size, q, none⟩ (.bool true)) bC (.slice (some ⟨b', off, none⟩) N.length nc) N ∧ Below w.heap.size w (wr.setCell ⟨w.heap.size, q, none⟩ (.bool true))) := Hid.mk ⟨boolA_put m1 q true hql (fun z _ => by rw [htk]; exact hN_put hqp _ z), own_kp m4 (Kp.set (S := fun b => b = w.heap.size) wr _ _ rfl) (fun b hb e => by have := (World.ownsRow.lt m4 b hb).1; omega), m5.setCell (Nat.le_refl _) _⟩
            replace m1 := Hid.mk m1
            replace m4 := Hid.mk m4
            replace m5 := Hid.mk m5
            replace htk := Hid.mk htk
            replace eyq := Hid.mk eyq
            replace hfq := Hid.mk hfq
            go_wp2_with fail
            go_roundw
            all_goals first | exact ⟨k + 1, by simp, by omega, hnew⟩ | (simp only [intOf]; omega)
          · have hqp1 : ¬ (q : Int) ≤ p := by omega
            have hnew : Hid (At wr w.heap.size (boolA L.length (hN L p (N.take (k + 1)))) ∧ IOwn wr bC (.slice (some ⟨b', off, none⟩) N.length nc) N ∧ Below w.heap.size w wr) := Hid.mk ⟨by rw [boolA_congr (g := hN L p (N.take k)) (fun z _ => by rw [htk]; exact hN_off hqp _ z)]; exact m1, m4, m5⟩
            replace m1 := Hid.mk m1
            replace m4 := Hid.mk m4
            replace m5 := Hid.mk m5
            replace htk := Hid.mk htk
            replace eyq := Hid.mk eyq
            replace hfq := Hid.mk hfq
            go_wp2_with fail
            go_roundw
            all_goals first | exact ⟨k + 1, by simp, by omega, hnew⟩ | (simp only [intOf]; omega)
        · have ki1 : ¬ (k : Int) < N.length := by omega
          rw [List.take_of_length_le (by omega)] at m1
          have hnew : Hid (At wr w.heap.size (boolA L.length (hK L (p + 1))) ∧ Below w.heap.size w wr) := Hid.mk ⟨by rw [boolA_congr (fun z _ => hall.out z)]; exact m1, m5⟩
          replace m1 := Hid.mk m1
          replace m4 := Hid.mk m4
          replace m5 := Hid.mk m5
          go_wp2_with fail
          go_roundw
          all_goals first | exact ⟨p + 1, by simp, by omega, hnew⟩ | (simp only [intOf]; omega)
    · have hp1 : ¬ (p : Int) < L.length := by omega
      have ep : p = L.length := by omega
      subst ep
      replace k1 := Hid.mk k1
      replace k3 := Hid.mk k3
      go_wp2_with fail
      go_ret
      exact ⟨_, rfl, Nat.le_refl _, k1.out, k3.out⟩
set_option maxHeartbeats 2000000 in
theorem truthsEq_any (n c d g h : Nat) (f : Nat → Bool) (w : World) (h1 : At w g (boolA n f)) (h2 : At w h (boolA n f)) (hn : n < 2000000) :
    Calls Try.prog 27 #[.slice (some ⟨g, 0, none⟩) n c, .slice (some ⟨h, 0, none⟩) n d] w fun e w' => e = .returned (.bool true) ∧ Below w.heap.size w w' := by
  have hg := h1.1
  have hh := h2.1
  have hnn : ((n : Int) != (n : Int)) = false := by simp
  replace h1 := Hid.mk h1
  replace h2 := Hid.mk h2
  go_enter Try.func27, Try.ntmps27
  go_wp2_with fail
  go_loopw [5] (fun x wr => ∃ j : Nat, x = .int .i64 j ∧ j ≤ n ∧ Hid (Below w.heap.size w wr)) (fun x _ => n - (intOf x).toNat)
  case atStart => exact ⟨0, rfl, by omega, Hid.mk (Below.refl _ _)⟩
  case round =>
    obtain ⟨j, rfl, hj, hI⟩ := hrel
    by_cases hlt : j < n
    · have hi1 : (j : Int) < n := by omega
      have z1 := (hI.out.cell (p := ⟨g, j, none⟩) hg).trans (boolA_at h1.out j hlt)
      have z2 := (hI.out.cell (p := ⟨h, j, none⟩) hh).trans (boolA_at h2.out j hlt)
      generalize f j = b at *
      have hbb : (b != b) = false := by simp
      go_wp2_with fail
      go_quiet (fail)
      go_wp2_with fail
      go_roundw
      all_goals first | exact ⟨j + 1, by simp, by omega, Hid.mk (bel_drewN hI.out _)⟩ | (simp only [intOf]; omega)
    · have hi1 : ¬ (j : Int) < n := by omega
      go_wp2_with fail
      go_ret
      exact ⟨rfl, hI.out⟩
end F
end Go.Proofs.Ytjmknpkmbghgdaa
