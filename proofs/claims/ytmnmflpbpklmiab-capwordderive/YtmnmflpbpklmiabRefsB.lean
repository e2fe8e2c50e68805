/-
  Stage 1, capword: what the document's own answer does (SetBounds, Inc).
-/
import Derived.Test.YtmnmflpbpklmiabRefs
namespace Go.Proofs.Ytmnmflpbpklmiab
open Go.RowKit

set_option maxHeartbeats 400000 in
theorem refSetBounds_any (b e c p s n : Int) (w : World) :
    Calls Try.prog 18 #[.agg #[.int .u64 b, .int .u64 e, .int .u64 c, .int .u8 p, .int .i64 s], .int .u64 n] w fun x w' =>
      ∃ b' e' c' p' s' f, x = .returned (.tuple #[.agg #[.int .u64 b', .int .u64 e', .int .u64 c', .int .u8 p', .int .i64 s'], .int .i64 f]) ∧ SetB b e c p s n b' e' c' p' s' f ∧ Below w.heap.size w w' := by
  by_cases h0 : s = 0
  · subst h0
    by_cases hh : holdsB b e c n = true
    · have hx := hh
      go_enter Try.func18, Try.ntmps18
      go_wp2_with (go_at_call 32; refine (from_any _ _ _ _ _).mono ?_; rintro x w' ⟨rfl, rfl⟩)
      refine bodyPost_ret (v := .tuple #[.agg #[.int .u64 c, .int .u64 (IntKind.u64.wrap (c + n)), .int .u64 c, .int .u8 p, .int .i64 0], .int .i64 0]) (by simp [results, Try.results18, go_sem]) rfl ⟨_, _, _, _, _, _, rfl, .inr (.inr ⟨rfl, hh, rfl, rfl, rfl, rfl, rfl, rfl⟩), by repeat (first | exact Below.refl _ _ | refine Below.alloc ?_ (by simp <;> omega) _)⟩
    · have hh' : holdsB b e c n = false := by simpa using hh
      go_enter Try.func18, Try.ntmps18
      go_wp2_with (go_at_call 32; refine (from_any _ _ _ _ _).mono ?_; rintro x w' ⟨rfl, rfl⟩)
      refine bodyPost_ret (v := .tuple #[.agg #[.int .u64 0, .int .u64 0, .int .u64 0, .int .u8 0, .int .i64 0], .int .i64 5]) (by simp [results, Try.results18, go_sem]) rfl ⟨_, _, _, _, _, _, rfl, .inr (.inl ⟨rfl, hh', rfl, rfl, rfl, rfl, rfl, rfl⟩), by repeat (first | exact Below.refl _ _ | refine Below.alloc ?_ (by simp <;> omega) _)⟩
  · have h0' : (s != 0) = true := by simpa using h0
    go_enter Try.func18, Try.ntmps18
    go_wp2
    refine bodyPost_ret (v := .tuple #[.agg #[.int .u64 0, .int .u64 0, .int .u64 0, .int .u8 0, .int .i64 0], .int .i64 3]) (by simp [results, Try.results18, go_sem]) rfl ⟨_, _, _, _, _, _, rfl, .inl ⟨h0, rfl, rfl, rfl, rfl, rfl, rfl⟩, by repeat (first | exact Below.refl _ _ | refine Below.alloc ?_ (by simp <;> omega) _)⟩

set_option maxHeartbeats 400000 in
theorem refInc_any (b e c p s n : Int) (w : World) :
    Calls Try.prog 20 #[.agg #[.int .u64 b, .int .u64 e, .int .u64 c, .int .u8 p, .int .i64 s], .int .u64 n] w fun x w' =>
      ∃ b' e' c' p' s' f, x = .returned (.tuple #[.agg #[.int .u64 b', .int .u64 e', .int .u64 c', .int .u8 p', .int .i64 s'], .int .i64 f]) ∧ IncR b e c p s n b' e' c' p' s' f ∧ Below w.heap.size w w' := by
  by_cases h0 : s = 0
  · subst h0
    go_enter Try.func20, Try.ntmps20
    go_wp2
    refine bodyPost_ret (v := .tuple #[.agg #[.int .u64 b, .int .u64 e, .int .u64 (IntKind.u64.wrap (c + n)), .int .u8 p, .int .i64 0], .int .i64 0]) (by simp [results, Try.results20, go_sem]) rfl ⟨_, _, _, _, _, _, rfl, .inr ⟨rfl, rfl, rfl, rfl, rfl, rfl, rfl⟩, by repeat (first | exact Below.refl _ _ | refine Below.alloc ?_ (by simp <;> omega) _)⟩
  · have h0' : (s != 0) = true := by simpa using h0
    go_enter Try.func20, Try.ntmps20
    go_wp2
    refine bodyPost_ret (v := .tuple #[.agg #[.int .u64 0, .int .u64 0, .int .u64 0, .int .u8 0, .int .i64 0], .int .i64 3]) (by simp [results, Try.results20, go_sem]) rfl ⟨_, _, _, _, _, _, rfl, .inl ⟨h0, rfl, rfl, rfl, rfl, rfl, rfl⟩, by repeat (first | exact Below.refl _ _ | refine Below.alloc ?_ (by simp <;> omega) _)⟩

end Go.Proofs.Ytmnmflpbpklmiab
