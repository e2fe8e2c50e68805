/-
  Stage 1, capword: what the statement's helpers place and authority do.
-/
import Derived.Test.YtmnmflpbpklmiabCapsL
import Derived.Test.YtmnmflpbpklmiabPlainO
namespace Go.Proofs.Ytmnmflpbpklmiab
open Go.RowKit

theorem place_neg (c n : Int) (h : c < 0) (hn : 0 < n) : 0 ≤ -(c + 1).tmod n ∧ -(c + 1).tmod n < n := by
  have h1 : -(c + 1).tmod n = -(c + 1) % n := by
    rw [← Int.neg_tmod, Int.tmod_eq_emod_of_nonneg (by omega)]
  rw [h1]
  exact ⟨Int.emod_nonneg _ (by omega), Int.emod_lt_of_pos _ hn⟩
theorem place_pos (c n : Int) (hn : 0 < n) : 0 ≤ c % n ∧ c % n < n := ⟨Int.emod_nonneg _ (by omega), Int.emod_lt_of_pos _ hn⟩
theorem nat_of (a n : Int) (h : 0 ≤ a ∧ a < n) : ∃ r : Nat, (r : Int) < n ∧ a = r := ⟨a.toNat, by omega, by omega⟩
theorem hit_no {k : Kap} {n p : Int} (h : ¬ (k.s = 0 ∧ bits .and .u8 k.p p = p ∧ k.b ≤ n ∧ n < k.e)) : hitB k n p = false := by
  rw [Bool.eq_false_iff]; exact fun hh => h (hit_iff.mp hh)
theorem no_next {L : List Kap} {n p : Int} {j : Nat} {kk : Kap} (hno : ∀ m (hm : m < L.length), m < j → hitB L[m] n p = false) (hlt : j < L.length) (hk : L[j] = kk) (hf : hitB kk n p = false) : ∀ m (hm : m < L.length), m < j + 1 → hitB L[m] n p = false := by
  intro m hm h
  rcases Nat.lt_or_ge m j with h1 | h1
  · exact hno m hm h1
  · obtain rfl : m = j := by omega
    rw [hk]; exact hf
theorem auth_yes {L : List Kap} {n p : Int} {j : Nat} {kk : Kap} (hlt : j < L.length) (hk : L[j] = kk) (h : kk.s = 0 ∧ bits .and .u8 kk.p p = p ∧ kk.b ≤ n ∧ n < kk.e) : true = authB L n p :=
  (auth_iff.mpr ⟨kk, hk ▸ List.getElem_mem hlt, hit_iff.mpr h⟩).symm

set_option maxHeartbeats 400000 in
theorem place_any (c n : Int) (w : World) (hc : -9223372036854775808 ≤ c ∧ c < 9223372036854775808) (hn : 0 < n ∧ n < 1000) :
    Calls Try.prog 34 #[.int .i64 c, .int .i64 n] w fun x w' => ∃ r : Nat, (r : Int) < n ∧ x = .returned (.int .i64 r) ∧ w = w' := by
  obtain ⟨c0, c1⟩ := hc
  obtain ⟨n0, n1⟩ := hn
  by_cases h : c < 0
  · go_enter Try.func34, Try.ntmps34
    go_wp2
    go_ret
    obtain ⟨r, hr1, hr2⟩ := nat_of _ _ (place_neg c n h n0)
    exact ⟨r, hr1, ret_int hr2, rfl⟩
  · go_enter Try.func34, Try.ntmps34
    go_wp2
    go_ret
    obtain ⟨r, hr1, hr2⟩ := nat_of _ _ (place_pos c n n0)
    exact ⟨r, hr1, ret_int hr2, rfl⟩

set_option maxHeartbeats 1000000 in
theorem auth_any (base g cp : Nat) (L : List Kap) (n p : Int) (w : World) (hL : LAt w base g cp L) (hlen : L.length ≤ 1000) (hn : 0 ≤ n ∧ n < 9223372036854775808) :
    Calls Try.prog 33 #[.slice (some ⟨g, 0, none⟩) L.length cp, .int .i64 n, .int .u8 p] w fun x w' => x = .returned (.bool (authB L n p)) ∧ w = w' := by
  obtain ⟨n0, n1⟩ := hn
  go_enter Try.func33, Try.ntmps33
  go_wp2
  go_loop [7] (fun i => ∃ j : Nat, j ≤ L.length ∧ i = .int .i64 j ∧ Hid (∀ m (hm : m < L.length), m < j → hitB L[m] n p = false)) (fun i => L.length - (intOf i).toNat)
  case atStart => exact ⟨0, by omega, rfl, fun m _ h => by omega⟩
  case round =>
    obtain ⟨j, hj, rfl, hno⟩ := hrel
    by_cases hlt : j < L.length
    · obtain ⟨kk, hkk⟩ : ∃ kk, L[j] = kk := ⟨_, rfl⟩
      obtain ⟨y0, y1, y2, y3, y4⟩ := hL.five j hlt hkk
      have HK : Hid (L[j] = kk) := hkk
      clear hkk
      go_wp2
      · go_ret
        exact ⟨ret_bool (auth_yes hlt HK.out ⟨‹_›, ‹_›, ‹_›, ‹_›⟩), rfl⟩
      all_goals exact ⟨⟨j + 1, by omega, by go_num, no_next hno.out hlt HK.out (hit_no (by omega))⟩, by simp [intOf]; omega⟩
    · go_wp2
      go_ret
      refine ⟨ret_bool ?_, rfl⟩
      symm
      rw [Bool.eq_false_iff]
      intro ha
      obtain ⟨k, hk, hh⟩ := auth_iff.mp ha
      obtain ⟨m, hm, rfl⟩ := List.mem_iff_getElem.mp hk
      rw [hno.out m hm (by omega)] at hh
      simp at hh
end Go.Proofs.Ytmnmflpbpklmiab
