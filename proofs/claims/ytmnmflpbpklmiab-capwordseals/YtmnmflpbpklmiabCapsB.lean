/-
  Stage 1, capword: what the program's UnsealBy does.
-/
import Derived.Test.YtmnmflpbpklmiabCaps
import Derived.Test.YtmnmflpbpklmiabPlainC
namespace Go.Proofs.Ytmnmflpbpklmiab
open Go.RowKit

set_option maxHeartbeats 400000 in
theorem unsealBy_any (b e c p s kb ke kc kp ks : Int) (w : World) (_hs : s < 9223372036854775808) :
    Calls Try.prog 10 #[.agg #[.int .u64 b, .int .u64 e, .int .u64 c, .int .u8 p, .int .i64 s], .agg #[.int .u64 kb, .int .u64 ke, .int .u64 kc, .int .u8 kp, .int .i64 ks]] w fun x w' =>
      ∃ b' e' c' p' s' f, x = .returned (.tuple #[.agg #[.int .u64 b', .int .u64 e', .int .u64 c', .int .u8 p', .int .i64 s'], .int .i64 f]) ∧ UnsealR b e c p s kb ke kc kp ks b' e' c' p' s' f ∧ Below w.heap.size w w' := by
  by_cases h0 : s = 0
  · subst h0
    go_enter Try.func10, Try.ntmps10
    go_wp2_with (first | (go_at_call 27; refine (open_any _ _ _ _ _ _).mono ?_; rintro x w' ⟨rfl, rfl⟩) | (go_at_call 28; refine (asKey_any _ _ _ _ _ _ _).mono ?_; rintro x w' ⟨rfl, rfl⟩))
    refine bodyPost_ret (v := .tuple #[.agg #[.int .u64 0, .int .u64 0, .int .u64 0, .int .u8 0, .int .i64 0], .int .i64 3]) (by simp [results, Try.results10, go_sem]) rfl ⟨_, _, _, _, _, _, rfl, .inl ⟨rfl, rfl, rfl, rfl, rfl, rfl, rfl⟩, by repeat (first | exact Below.refl _ _ | refine Below.alloc ?_ (by simp <;> omega) _)⟩
  · have h0' : (s == 0) = false := by simpa using h0
    by_cases hk : keyF kb ke kc kp ks 64 = 0
    · have HK : Hid (keyF kb ke kc kp ks 64 = 0) := hk
      have hk' : (keyF kb ke kc kp ks 64 != 0) = false := by simp [hk]
      clear hk
      by_cases h5 : s < 0
      · go_enter Try.func10, Try.ntmps10
        go_wp2_with (first | (go_at_call 27; refine (open_any _ _ _ _ _ _).mono ?_; rintro x w' ⟨rfl, rfl⟩) | (go_at_call 28; refine (asKey_any _ _ _ _ _ _ _).mono ?_; rintro x w' ⟨rfl, rfl⟩))
        refine bodyPost_ret (v := .tuple #[.agg #[.int .u64 0, .int .u64 0, .int .u64 0, .int .u8 0, .int .i64 0], .int .i64 6]) (by simp [results, Try.results10, go_sem]) rfl ⟨_, _, _, _, _, _, rfl, .inr (.inr (.inl ⟨h0, HK.out, .inl h5, rfl, rfl, rfl, rfl, rfl, rfl⟩)), by repeat (first | exact Below.refl _ _ | refine Below.alloc ?_ (by simp <;> omega) _)⟩
      · have h5' : 0 ≤ s := by omega
        by_cases h6 : kc = s
        · subst h6
          have h6' : (kc != kc) = false := by simp
          go_enter Try.func10, Try.ntmps10
          go_wp2_with (first | (go_at_call 27; refine (open_any _ _ _ _ _ _).mono ?_; rintro x w' ⟨rfl, rfl⟩) | (go_at_call 28; refine (asKey_any _ _ _ _ _ _ _).mono ?_; rintro x w' ⟨rfl, rfl⟩))
          refine bodyPost_ret (v := .tuple #[.agg #[.int .u64 b, .int .u64 e, .int .u64 c, .int .u8 p, .int .i64 0], .int .i64 0]) (by simp [results, Try.results10, go_sem]) rfl ⟨_, _, _, _, _, _, rfl, .inr (.inr (.inr ⟨h0, HK.out, h5', rfl, rfl, rfl, rfl, rfl, rfl, rfl⟩)), by repeat (first | exact Below.refl _ _ | refine Below.alloc ?_ (by simp <;> omega) _)⟩
        · have h6' : (kc != s) = true := by simpa using h6
          go_enter Try.func10, Try.ntmps10
          go_wp2_with (first | (go_at_call 27; refine (open_any _ _ _ _ _ _).mono ?_; rintro x w' ⟨rfl, rfl⟩) | (go_at_call 28; refine (asKey_any _ _ _ _ _ _ _).mono ?_; rintro x w' ⟨rfl, rfl⟩))
          refine bodyPost_ret (v := .tuple #[.agg #[.int .u64 0, .int .u64 0, .int .u64 0, .int .u8 0, .int .i64 0], .int .i64 6]) (by simp [results, Try.results10, go_sem]) rfl ⟨_, _, _, _, _, _, rfl, .inr (.inr (.inl ⟨h0, HK.out, .inr h6, rfl, rfl, rfl, rfl, rfl, rfl⟩)), by repeat (first | exact Below.refl _ _ | refine Below.alloc ?_ (by simp <;> omega) _)⟩
    · have hk' : (keyF kb ke kc kp ks 64 != 0) = true := by simpa using hk
      go_enter Try.func10, Try.ntmps10
      go_wp2_with (first | (go_at_call 27; refine (open_any _ _ _ _ _ _).mono ?_; rintro x w' ⟨rfl, rfl⟩) | (go_at_call 28; refine (asKey_any _ _ _ _ _ _ _).mono ?_; rintro x w' ⟨rfl, rfl⟩))
      refine bodyPost_ret (v := .tuple #[.agg #[.int .u64 0, .int .u64 0, .int .u64 0, .int .u8 0, .int .i64 0], .int .i64 (keyF kb ke kc kp ks 64)]) (by simp [results, Try.results10, go_sem]) rfl ⟨_, _, _, _, _, _, rfl, .inr (.inl ⟨h0, hk, rfl, rfl, rfl, rfl, rfl, rfl⟩), by repeat (first | exact Below.refl _ _ | refine Below.alloc ?_ (by simp <;> omega) _)⟩
end Go.Proofs.Ytmnmflpbpklmiab
