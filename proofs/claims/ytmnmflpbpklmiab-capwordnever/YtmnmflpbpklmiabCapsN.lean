/-
  Stage 1, capword: what the statements' own helpers near and built do.
-/
import Derived.Test.YtmnmflpbpklmiabCaps
import Derived.Test.YtmnmflpbpklmiabOpen
import Derived.RegionTactic
namespace Go.Proofs.Ytmnmflpbpklmiab
open Go.RowKit

/-- What near answers lies so. -/
def NearR (b e c p s : Int) : Prop := (0 ≤ b ∧ b < 48) ∧ (b ≤ e ∧ e ≤ b + 16) ∧ (b ≤ c ∧ c ≤ b + 19) ∧ (0 ≤ p ∧ p < 128) ∧ (0 ≤ s ∧ s ≤ 15)
/-- What built answers lies so. -/
def BuiltR (b e p s : Int) : Prop := (0 ≤ b ∧ b ≤ e ∧ e ≤ 4294967296) ∧ (0 ≤ p ∧ p < 128) ∧ (0 ≤ s ∧ s ≤ 15)

theorem built_end (b e : Int) : b % 4294967297 ≤ IntKind.u64.wrap (b % 4294967297 + e % (4294967297 - b % 4294967297)) ∧ IntKind.u64.wrap (b % 4294967297 + e % (4294967297 - b % 4294967297)) ≤ 4294967296 := by
  have h1 : 0 ≤ b % 4294967297 := Int.emod_nonneg _ (by omega)
  have h2 : b % 4294967297 < 4294967297 := Int.emod_lt_of_pos _ (by omega)
  have h3 : 0 ≤ e % (4294967297 - b % 4294967297) := Int.emod_nonneg _ (by omega)
  have h4 : e % (4294967297 - b % 4294967297) < 4294967297 - b % 4294967297 := Int.emod_lt_of_pos _ (by omega)
  generalize e % (4294967297 - b % 4294967297) = m at *
  rw [IntKind.wrap_u64]
  omega
theorem seal_neg (s : Int) (h : s.tmod 16 < 0) : 0 ≤ wrap64 (-s.tmod 16) ∧ wrap64 (-s.tmod 16) ≤ 15 := by
  have := Int.lt_tmod_of_pos s (show (0 : Int) < 16 by omega)
  unfold wrap64
  omega
theorem seal_pos (s : Int) (h : 0 ≤ s.tmod 16) : 0 ≤ s.tmod 16 ∧ s.tmod 16 ≤ 15 := by
  have := Int.tmod_lt_of_pos s (show (0 : Int) < 16 by omega)
  omega

set_option maxHeartbeats 400000 in
theorem near_any (b e c p s : Int) (w : World) (hr : InR b e c p s) :
    Calls Try.prog 21 #[.agg #[.int .u64 b, .int .u64 e, .int .u64 c, .int .u8 p, .int .i64 s]] w fun x w' =>
      ∃ b' e' c' p' s', x = .returned (.agg #[.int .u64 b', .int .u64 e', .int .u64 c', .int .u8 p', .int .i64 s']) ∧ NearR b' e' c' p' s' ∧ Below w.heap.size w w' := by
  obtain ⟨⟨b0, b1⟩, ⟨e0, e1⟩, ⟨c0, c1⟩, ⟨p0, p1⟩, ⟨s0, s1⟩⟩ := hr
  go_enter Try.func21, Try.ntmps21
  go_wp2
  · refine bodyPost_ret (v := .agg #[.int .u64 (b % 48), .int .u64 (b % 48 + e % 17), .int .u64 (b % 48 + c % 20), .int .u8 (p % 128), .int .i64 0]) (by simp [results, Try.results21, go_sem]) rfl ⟨_, _, _, _, _, rfl, by unfold NearR; omega, by repeat (first | exact Below.refl _ _ | refine Below.alloc ?_ (by simp <;> omega) _)⟩
  · refine bodyPost_ret (v := .agg #[.int .u64 (b % 48), .int .u64 (b % 48 + e % 17), .int .u64 (b % 48 + c % 20), .int .u8 (p % 128), .int .i64 (s % 16)]) (by simp [results, Try.results21, go_sem]) rfl ⟨_, _, _, _, _, rfl, by unfold NearR; omega, by repeat (first | exact Below.refl _ _ | refine Below.alloc ?_ (by simp <;> omega) _)⟩
  · refine bodyPost_ret (v := .agg #[.int .u64 (b % 48), .int .u64 (b % 48 + e % 17), .int .u64 (b % 48 + c % 20), .int .u8 (p % 128), .int .i64 0]) (by simp [results, Try.results21, go_sem]) rfl ⟨_, _, _, _, _, rfl, by unfold NearR; omega, by repeat (first | exact Below.refl _ _ | refine Below.alloc ?_ (by simp <;> omega) _)⟩

set_option maxHeartbeats 400000 in
theorem built_any (b e c p s : Int) (w : World) (hr : InR b e c p s) :
    Calls Try.prog 13 #[.agg #[.int .u64 b, .int .u64 e, .int .u64 c, .int .u8 p, .int .i64 s]] w fun x w' =>
      ∃ b' e' p' s', x = .returned (.agg #[.int .u64 b', .int .u64 e', .int .u64 c, .int .u8 p', .int .i64 s']) ∧ BuiltR b' e' p' s' ∧ Below w.heap.size w w' := by
  obtain ⟨⟨b0, b1⟩, ⟨e0, e1⟩, ⟨c0, c1⟩, ⟨p0, p1⟩, ⟨s0, s1⟩⟩ := hr
  go_enter Try.func13, Try.ntmps13
  go_wp2
  go_region
  go_wp2
  · refine bodyPost_ret (v := .agg #[.int .u64 (b % 4294967297), .int .u64 (IntKind.u64.wrap (b % 4294967297 + e % (4294967297 - b % 4294967297))), .int .u64 c, .int .u8 (p % 128), .int .i64 (wrap64 (-s.tmod 16))]) (by simp [results, Try.results13, go_sem]) rfl ⟨_, _, _, _, rfl, ⟨⟨by omega, (built_end b e).1, (built_end b e).2⟩, by omega, seal_neg s ‹_›⟩, ?_⟩
    refine Below.drew ?_
    repeat (refine Below.alloc ?_ (by simp <;> omega) _)
    exact Below.refl _ _
  · refine bodyPost_ret (v := .agg #[.int .u64 (b % 4294967297), .int .u64 (IntKind.u64.wrap (b % 4294967297 + e % (4294967297 - b % 4294967297))), .int .u64 c, .int .u8 (p % 128), .int .i64 (s.tmod 16)]) (by simp [results, Try.results13, go_sem]) rfl ⟨_, _, _, _, rfl, ⟨⟨by omega, (built_end b e).1, (built_end b e).2⟩, by omega, seal_pos s ‹_›⟩, ?_⟩
    refine Below.drew ?_
    repeat (refine Below.alloc ?_ (by simp <;> omega) _)
    exact Below.refl _ _
end Go.Proofs.Ytmnmflpbpklmiab
