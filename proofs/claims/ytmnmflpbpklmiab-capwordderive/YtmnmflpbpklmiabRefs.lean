/-
  Stage 1, capword: what the document's own answer does (has, from).
-/
import Derived.Test.YtmnmflpbpklmiabChecked
import Derived.Test.YtmnmflpbpklmiabPlain
import Derived.WalkSpells
import Derived.WalkLawsBesides
namespace Go.Proofs.Ytmnmflpbpklmiab
open Go.RowKit

set_option maxHeartbeats 400000 in
theorem has_any (p q : Int) (w : World) (hp0 : 0 ≤ p) (hp1 : p < 256) (hq0 : 0 ≤ q) (hq1 : q < 256) :
    Calls Try.prog 29 #[.int .i64 p, .int .i64 q] w fun x w' => x = .returned (.bool (hasB p q)) ∧ w = w' := by
  go_enter Try.func29, Try.ntmps29
  go_wp2
  go_loop [5] (fun t => ∃ (i : Nat) (B : Int), i ≤ 8 ∧ Hid (B = 2 ^ i) ∧ 1 ≤ B ∧ B ≤ 256 ∧ t = .int .i64 B ∧ HasUpto p q i) (fun t => (256 - intOf t).toNat)
  case atStart => exact ⟨0, 1, by omega, rfl, by omega, by omega, rfl, fun j hj => by omega⟩
  case round =>
    obtain ⟨i, B, hi, hB, h1, h2, rfl, hu⟩ := hrel
    by_cases hlt : B ≤ 128
    · have hi8 := pow_small hi hB.out hlt
      go_wp2
      · go_ret
        exact ⟨ret_bool (has_no hp0 hp1 hq0 hq1 hi8 hB.out h1 ‹_› ‹_›), rfl⟩
      · refine ⟨⟨i + 1, 2 * B, by omega, pow_next hB.out, by omega, by omega, rfl, has_yes hp0 hB.out h1 hu ‹_›⟩, ?_⟩
        simp [intOf]; omega
      · refine ⟨⟨i + 1, 2 * B, by omega, pow_next hB.out, by omega, by omega, rfl, has_skip hq0 hB.out h1 hu ‹_›⟩, ?_⟩
        simp [intOf]; omega
    · have hi8 := pow_great hi hB.out hlt
      go_wp2
      go_ret
      refine ⟨ret_bool ?_, rfl⟩
      subst hi8
      exact ((hasB_iff p q hp0 hp1 hq0 hq1).mpr hu).symm

set_option maxHeartbeats 400000 in
theorem from_any (b e a n : Int) (w : World) :
    Calls Try.prog 32 #[.int .u64 b, .int .u64 e, .int .u64 a, .int .u64 n] w fun x w' => x = .returned (.bool (holdsB b e a n)) ∧ w = w' := by
  go_enter Try.func32, Try.ntmps32
  go_wp2
  all_goals
    go_ret
    refine ⟨ret_bool ?_, rfl⟩
    first | (refine holds_last ?_ ?_ <;> assumption) | (refine holds_false ?_; omega)
end Go.Proofs.Ytmnmflpbpklmiab
