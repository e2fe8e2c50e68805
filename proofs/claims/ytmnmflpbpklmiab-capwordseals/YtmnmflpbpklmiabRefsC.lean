/-
  Stage 1, capword: what the document's own answer does (SealBy, UnsealBy).
-/
import Derived.Test.YtmnmflpbpklmiabRefs
import Derived.Test.YtmnmflpbpklmiabPlainC
namespace Go.Proofs.Ytmnmflpbpklmiab
open Go.RowKit

set_option maxHeartbeats 400000 in
theorem refSealBy_any (b e c p s kb ke kc kp ks : Int) (w : World) (hp0 : 0 ≤ kp) (hp1 : kp < 256) :
    Calls Try.prog 9 #[.agg #[.int .u64 b, .int .u64 e, .int .u64 c, .int .u8 p, .int .i64 s], .agg #[.int .u64 kb, .int .u64 ke, .int .u64 kc, .int .u8 kp, .int .i64 ks]] w fun x w' =>
      ∃ b' e' c' p' s' f, x = .returned (.tuple #[.agg #[.int .u64 b', .int .u64 e', .int .u64 c', .int .u8 p', .int .i64 s'], .int .i64 f]) ∧ SealR b e c p s kb ke kc kp ks b' e' c' p' s' f ∧ Below w.heap.size w w' := by
  by_cases h0 : s = 0
  · subst h0
    by_cases h1 : ks = 0
    · subst h1
      by_cases h2 : hasB kp 32 = true
      · by_cases h3 : kc < kb
        · go_enter Try.func9, Try.ntmps9
          go_wp2_with (go_at_call 29; refine (has_any _ _ _ (by omega) (by omega) (by omega) (by omega)).mono ?_; rintro x w' ⟨rfl, rfl⟩)
          refine bodyPost_ret (v := .tuple #[.agg #[.int .u64 0, .int .u64 0, .int .u64 0, .int .u8 0, .int .i64 0], .int .i64 5]) (by simp [results, Try.results9, go_sem]) rfl ⟨_, _, _, _, _, _, rfl, seal_key (key5 h2 (by omega)) (by omega), by repeat (first | exact Below.refl _ _ | refine Below.alloc ?_ (by simp <;> omega) _)⟩
        · by_cases h4 : ke ≤ kc
          · go_enter Try.func9, Try.ntmps9
            go_wp2_with (go_at_call 29; refine (has_any _ _ _ (by omega) (by omega) (by omega) (by omega)).mono ?_; rintro x w' ⟨rfl, rfl⟩)
            refine bodyPost_ret (v := .tuple #[.agg #[.int .u64 0, .int .u64 0, .int .u64 0, .int .u8 0, .int .i64 0], .int .i64 5]) (by simp [results, Try.results9, go_sem]) rfl ⟨_, _, _, _, _, _, rfl, seal_key (key5 h2 (by omega)) (by omega), by repeat (first | exact Below.refl _ _ | refine Below.alloc ?_ (by simp <;> omega) _)⟩
          · by_cases h5 : kc < 1
            · go_enter Try.func9, Try.ntmps9
              go_wp2_with (go_at_call 29; refine (has_any _ _ _ (by omega) (by omega) (by omega) (by omega)).mono ?_; rintro x w' ⟨rfl, rfl⟩)
              refine bodyPost_ret (v := .tuple #[.agg #[.int .u64 0, .int .u64 0, .int .u64 0, .int .u8 0, .int .i64 0], .int .i64 6]) (by simp [results, Try.results9, go_sem]) rfl ⟨_, _, _, _, _, _, rfl, .inr (.inr (.inl ⟨rfl, key0 h2 ⟨by omega, by omega⟩, .inl (by omega), rfl, rfl, rfl, rfl, rfl, rfl⟩)), by repeat (first | exact Below.refl _ _ | refine Below.alloc ?_ (by simp <;> omega) _)⟩
            · by_cases h6 : 15 < kc
              · go_enter Try.func9, Try.ntmps9
                go_wp2_with (go_at_call 29; refine (has_any _ _ _ (by omega) (by omega) (by omega) (by omega)).mono ?_; rintro x w' ⟨rfl, rfl⟩)
                refine bodyPost_ret (v := .tuple #[.agg #[.int .u64 0, .int .u64 0, .int .u64 0, .int .u8 0, .int .i64 0], .int .i64 6]) (by simp [results, Try.results9, go_sem]) rfl ⟨_, _, _, _, _, _, rfl, .inr (.inr (.inl ⟨rfl, key0 h2 ⟨by omega, by omega⟩, .inr (by omega), rfl, rfl, rfl, rfl, rfl, rfl⟩)), by repeat (first | exact Below.refl _ _ | refine Below.alloc ?_ (by simp <;> omega) _)⟩
              · have h7 : 1 ≤ kc := by omega
                have h8 : kc ≤ 15 := by omega
                go_enter Try.func9, Try.ntmps9
                go_wp2_with (go_at_call 29; refine (has_any _ _ _ (by omega) (by omega) (by omega) (by omega)).mono ?_; rintro x w' ⟨rfl, rfl⟩)
                refine bodyPost_ret (v := .tuple #[.agg #[.int .u64 b, .int .u64 e, .int .u64 c, .int .u8 p, .int .i64 kc], .int .i64 0]) (by simp [results, Try.results9, go_sem]) rfl ⟨_, _, _, _, _, _, rfl, .inr (.inr (.inr ⟨rfl, key0 h2 ⟨by omega, by omega⟩, by omega, by omega, rfl, rfl, rfl, rfl, rfl, rfl⟩)), by repeat (first | exact Below.refl _ _ | refine Below.alloc ?_ (by simp <;> omega) _)⟩
      · have h2' : hasB kp 32 = false := by simpa using h2
        go_enter Try.func9, Try.ntmps9
        go_wp2_with (go_at_call 29; refine (has_any _ _ _ (by omega) (by omega) (by omega) (by omega)).mono ?_; rintro x w' ⟨rfl, rfl⟩)
        refine bodyPost_ret (v := .tuple #[.agg #[.int .u64 0, .int .u64 0, .int .u64 0, .int .u8 0, .int .i64 0], .int .i64 4]) (by simp [results, Try.results9, go_sem]) rfl ⟨_, _, _, _, _, _, rfl, seal_key (key4 h2') (by omega), by repeat (first | exact Below.refl _ _ | refine Below.alloc ?_ (by simp <;> omega) _)⟩
    · have h1' : (ks != 0) = true := by simpa using h1
      go_enter Try.func9, Try.ntmps9
      go_wp2_with (go_at_call 29; refine (has_any _ _ _ (by omega) (by omega) (by omega) (by omega)).mono ?_; rintro x w' ⟨rfl, rfl⟩)
      refine bodyPost_ret (v := .tuple #[.agg #[.int .u64 0, .int .u64 0, .int .u64 0, .int .u8 0, .int .i64 0], .int .i64 3]) (by simp [results, Try.results9, go_sem]) rfl ⟨_, _, _, _, _, _, rfl, seal_key (key3 h1) (by omega), by repeat (first | exact Below.refl _ _ | refine Below.alloc ?_ (by simp <;> omega) _)⟩
  · have h0' : (s != 0) = true := by simpa using h0
    go_enter Try.func9, Try.ntmps9
    go_wp2_with (go_at_call 29; refine (has_any _ _ _ (by omega) (by omega) (by omega) (by omega)).mono ?_; rintro x w' ⟨rfl, rfl⟩)
    refine bodyPost_ret (v := .tuple #[.agg #[.int .u64 0, .int .u64 0, .int .u64 0, .int .u8 0, .int .i64 0], .int .i64 3]) (by simp [results, Try.results9, go_sem]) rfl ⟨_, _, _, _, _, _, rfl, .inl ⟨h0, rfl, rfl, rfl, rfl, rfl, rfl⟩, by repeat (first | exact Below.refl _ _ | refine Below.alloc ?_ (by simp <;> omega) _)⟩

set_option maxHeartbeats 400000 in
theorem refUnsealBy_any (b e c p s kb ke kc kp ks : Int) (w : World) (hp0 : 0 ≤ kp) (hp1 : kp < 256) (hs : s < 9223372036854775808) :
    Calls Try.prog 11 #[.agg #[.int .u64 b, .int .u64 e, .int .u64 c, .int .u8 p, .int .i64 s], .agg #[.int .u64 kb, .int .u64 ke, .int .u64 kc, .int .u8 kp, .int .i64 ks]] w fun x w' =>
      ∃ b' e' c' p' s' f, x = .returned (.tuple #[.agg #[.int .u64 b', .int .u64 e', .int .u64 c', .int .u8 p', .int .i64 s'], .int .i64 f]) ∧ UnsealR b e c p s kb ke kc kp ks b' e' c' p' s' f ∧ Below w.heap.size w w' := by
  by_cases h0 : s = 0
  · subst h0
    go_enter Try.func11, Try.ntmps11
    go_wp2_with (go_at_call 29; refine (has_any _ _ _ (by omega) (by omega) (by omega) (by omega)).mono ?_; rintro x w' ⟨rfl, rfl⟩)
    refine bodyPost_ret (v := .tuple #[.agg #[.int .u64 0, .int .u64 0, .int .u64 0, .int .u8 0, .int .i64 0], .int .i64 3]) (by simp [results, Try.results11, go_sem]) rfl ⟨_, _, _, _, _, _, rfl, .inl ⟨rfl, rfl, rfl, rfl, rfl, rfl, rfl⟩, by repeat (first | exact Below.refl _ _ | refine Below.alloc ?_ (by simp <;> omega) _)⟩
  · have h0' : (s == 0) = false := by simpa using h0
    by_cases h1 : ks = 0
    · subst h1
      by_cases h2 : hasB kp 64 = true
      · by_cases h3 : kc < kb
        · go_enter Try.func11, Try.ntmps11
          go_wp2_with (go_at_call 29; refine (has_any _ _ _ (by omega) (by omega) (by omega) (by omega)).mono ?_; rintro x w' ⟨rfl, rfl⟩)
          refine bodyPost_ret (v := .tuple #[.agg #[.int .u64 0, .int .u64 0, .int .u64 0, .int .u8 0, .int .i64 0], .int .i64 5]) (by simp [results, Try.results11, go_sem]) rfl ⟨_, _, _, _, _, _, rfl, unseal_key h0 (key5 h2 (by omega)) (by omega), by repeat (first | exact Below.refl _ _ | refine Below.alloc ?_ (by simp <;> omega) _)⟩
        · by_cases h4 : ke ≤ kc
          · go_enter Try.func11, Try.ntmps11
            go_wp2_with (go_at_call 29; refine (has_any _ _ _ (by omega) (by omega) (by omega) (by omega)).mono ?_; rintro x w' ⟨rfl, rfl⟩)
            refine bodyPost_ret (v := .tuple #[.agg #[.int .u64 0, .int .u64 0, .int .u64 0, .int .u8 0, .int .i64 0], .int .i64 5]) (by simp [results, Try.results11, go_sem]) rfl ⟨_, _, _, _, _, _, rfl, unseal_key h0 (key5 h2 (by omega)) (by omega), by repeat (first | exact Below.refl _ _ | refine Below.alloc ?_ (by simp <;> omega) _)⟩
          · by_cases h5 : s < 0
            · go_enter Try.func11, Try.ntmps11
              go_wp2_with (go_at_call 29; refine (has_any _ _ _ (by omega) (by omega) (by omega) (by omega)).mono ?_; rintro x w' ⟨rfl, rfl⟩)
              refine bodyPost_ret (v := .tuple #[.agg #[.int .u64 0, .int .u64 0, .int .u64 0, .int .u8 0, .int .i64 0], .int .i64 6]) (by simp [results, Try.results11, go_sem]) rfl ⟨_, _, _, _, _, _, rfl, .inr (.inr (.inl ⟨h0, key0 h2 ⟨by omega, by omega⟩, .inl (by omega), rfl, rfl, rfl, rfl, rfl, rfl⟩)), by repeat (first | exact Below.refl _ _ | refine Below.alloc ?_ (by simp <;> omega) _)⟩
            · have h5' : 0 ≤ s := by omega
              by_cases h6 : kc = s
              · subst h6
                have h6' : (kc != kc) = false := by simp
                go_enter Try.func11, Try.ntmps11
                go_wp2_with (go_at_call 29; refine (has_any _ _ _ (by omega) (by omega) (by omega) (by omega)).mono ?_; rintro x w' ⟨rfl, rfl⟩)
                refine bodyPost_ret (v := .tuple #[.agg #[.int .u64 b, .int .u64 e, .int .u64 c, .int .u8 p, .int .i64 0], .int .i64 0]) (by simp [results, Try.results11, go_sem]) rfl ⟨_, _, _, _, _, _, rfl, .inr (.inr (.inr ⟨h0, key0 h2 ⟨by omega, by omega⟩, by omega, rfl, rfl, rfl, rfl, rfl, rfl, rfl⟩)), by repeat (first | exact Below.refl _ _ | refine Below.alloc ?_ (by simp <;> omega) _)⟩
              · have h6' : (kc != s) = true := by simpa using h6
                go_enter Try.func11, Try.ntmps11
                go_wp2_with (go_at_call 29; refine (has_any _ _ _ (by omega) (by omega) (by omega) (by omega)).mono ?_; rintro x w' ⟨rfl, rfl⟩)
                refine bodyPost_ret (v := .tuple #[.agg #[.int .u64 0, .int .u64 0, .int .u64 0, .int .u8 0, .int .i64 0], .int .i64 6]) (by simp [results, Try.results11, go_sem]) rfl ⟨_, _, _, _, _, _, rfl, .inr (.inr (.inl ⟨h0, key0 h2 ⟨by omega, by omega⟩, .inr (by omega), rfl, rfl, rfl, rfl, rfl, rfl⟩)), by repeat (first | exact Below.refl _ _ | refine Below.alloc ?_ (by simp <;> omega) _)⟩
      · have h2' : hasB kp 64 = false := by simpa using h2
        go_enter Try.func11, Try.ntmps11
        go_wp2_with (go_at_call 29; refine (has_any _ _ _ (by omega) (by omega) (by omega) (by omega)).mono ?_; rintro x w' ⟨rfl, rfl⟩)
        refine bodyPost_ret (v := .tuple #[.agg #[.int .u64 0, .int .u64 0, .int .u64 0, .int .u8 0, .int .i64 0], .int .i64 4]) (by simp [results, Try.results11, go_sem]) rfl ⟨_, _, _, _, _, _, rfl, unseal_key h0 (key4 h2') (by omega), by repeat (first | exact Below.refl _ _ | refine Below.alloc ?_ (by simp <;> omega) _)⟩
    · have h1' : (ks != 0) = true := by simpa using h1
      go_enter Try.func11, Try.ntmps11
      go_wp2_with (go_at_call 29; refine (has_any _ _ _ (by omega) (by omega) (by omega) (by omega)).mono ?_; rintro x w' ⟨rfl, rfl⟩)
      refine bodyPost_ret (v := .tuple #[.agg #[.int .u64 0, .int .u64 0, .int .u64 0, .int .u8 0, .int .i64 0], .int .i64 3]) (by simp [results, Try.results11, go_sem]) rfl ⟨_, _, _, _, _, _, rfl, unseal_key h0 (key3 h1) (by omega), by repeat (first | exact Below.refl _ _ | refine Below.alloc ?_ (by simp <;> omega) _)⟩

end Go.Proofs.Ytmnmflpbpklmiab
