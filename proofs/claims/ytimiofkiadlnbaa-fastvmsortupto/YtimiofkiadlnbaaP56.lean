import Derived.Test.YtimiofkiadlnbaaP55
import Derived.Test.YtimiofkiadlnbaaP48
import Derived.Test.YtimiofkiadlnbaaP40
/-
  Stage 13, fastvm: the sort program's run, from its beginning on. No Go in sight.
-/
namespace Go.Proofs.Ytimiofkiadlnbaa
namespace Z
open Go.RowKit
open T (Sep Ob Kp Mf FlIn boxOb)

theorem srt_begin (L : List Int) (s : Fm) (hg : s.g = 0) (hp : s.p = 0) (hst : s.st = []) (hi : s.inp = L) (ho : s.out = []) (he : s.e = 0) : Rd8 L 0 (stepsM (srtP L.length) s 2) := by
  have q1 := srt_li (n := L.length) (p := 0) (a := 1) (b := 0) (c := 0) (v := 0) (r := s.r) (inp := L) (out := []) (m := s.m) rfl
  have q2 := srt_li (n := L.length) (p := 1) (a := 9) (b := 0) (c := 0) (v := L.length) (r := updR s.r 1 0) (inp := L) (out := []) (m := s.m) rfl
  exact ⟨_, _, (q1.trans q2) s ⟨hg, hp, rfl, hst, hi, ho, rfl, he⟩, rfl, rfl, fun h => absurd h (Nat.lt_irrefl 0), fun k _ hk => absurd hk (Nat.not_lt_zero k)⟩
/-- Its run with so much fuel is over, and has sorted. -/
theorem srt_run (L : List Int) (hl : L.length ≤ 10) (hw : ∀ x ∈ L, Wd x) (s : Fm) (hg : s.g = 0) (hp : s.p = 0) (hst : s.st = []) (hi : s.inp = L) (ho : s.out = []) (he : s.e = 0) : ∃ V, V.Perm L ∧ Srt8 V ∧ Ovr8 V (runM (srtP L.length) s 20000) := by
  obtain ⟨k, V, h1, h2, h3, h4⟩ := sort_all L hl hw
  have q := h4 _ (srt_begin L s hg hp hst hi ho he)
  rw [← stepsM_add] at q
  have hne : (stepsM (srtP L.length) s (2 + k)).e ≠ 0 := by rw [q.e]; decide
  have e1 : stepsM (srtP L.length) s 20000 = stepsM (srtP L.length) s (2 + k) := by
    rw [show 20000 = (2 + k) + (20000 - (2 + k)) by omega]
    exact stepsM_over _ _ _ _ hne
  refine ⟨V, h2, h3, ?_⟩
  unfold runM
  rw [e1, if_neg hne]
  exact q
end Z
end Go.Proofs.Ytimiofkiadlnbaa


/-
  Stage 13, fastvm: the sort program is in order. No Go in sight.
-/
namespace Go.Proofs.Ytimiofkiadlnbaa
namespace Z
open Go.RowKit
open T (Sep Ob Kp Mf FlIn boxOb)

theorem fi_ok30 (op : Int) (a b c : Nat) (i : Int) (ho : Named op) (ha : a < 16) (hb : b < 16) (hc : c < 16) (hi : 0 ≤ i ∧ i < 18446744073709551616) (hj : 20 ≤ op ∧ op ≤ 24 → i < 30) (hl : op ≠ 31) : Fi.Ok ⟨op, a, b, c, i⟩ 30 1 := ⟨ho, ha, hb, .inl hc, hi, hj, fun q => absurd q hl⟩
theorem srt_len (n : Int) : (srtL n).length = 30 := rfl
set_option maxRecDepth 100000 in
set_option maxHeartbeats 4000000 in
theorem srt_ok (n : Int) (hn : 0 ≤ n ∧ n < 18446744073709551616) : (srtP n).Ok := by
  refine ⟨show (1 : Nat) ≤ 1 ∧ (1 : Nat) ≤ 16 by decide, rfl, show (0 : Int) ≤ 1 ∧ (1 : Int) ≤ 16 by decide, fun r hr => ?_, fun k h h2 => ?_⟩
  · obtain rfl : r = srtL n := by simpa [srtP] using hr
    refine ⟨⟨by rw [srt_len]; decide, by rw [srt_len]; decide⟩, fun i hi => ?_⟩
    rw [srt_len, show (srtP n).gates.length = 1 from rfl]
    simp only [srtL, List.mem_cons, List.not_mem_nil, or_false] at hi
    rcases hi with rfl | rfl | rfl | rfl | rfl | rfl | rfl | rfl | rfl | rfl | rfl | rfl | rfl | rfl | rfl | rfl | rfl | rfl | rfl | rfl | rfl | rfl | rfl | rfl | rfl | rfl | rfl | rfl | rfl | rfl
    all_goals exact fi_ok30 _ _ _ _ _ (by unfold Named; omega) (by decide) (by decide) (by decide) (by first | exact ⟨by decide, by decide⟩ | exact hn) (fun h => by first | exact absurd h (by decide) | decide) (by decide)
  · obtain rfl : k = 0 := by have : k < 1 := h; omega
    exact ⟨show (0 : Nat) < 30 by decide, show (0 : Nat) ≤ 7 by decide, show (0 : Nat) ≤ 7 by decide⟩
theorem srt_rr (n : Int) : (srtP n).Rr := fun k j => by
  unfold Pr.gate
  match k with
  | 0 => exact wd0
  | k + 1 => exact wd0
end Z
end Go.Proofs.Ytimiofkiadlnbaa
