/-
  Stage 1, capword: what the program's own calls do, each by a contract.
-/
import Derived.Test.YtmnmflpbpklmiabChecked
import Derived.Test.YtmnmflpbpklmiabPlain
import Derived.WalkSpells
import Derived.WalkLawsBesides
namespace Go.Proofs.Ytmnmflpbpklmiab
open Go.RowKit

set_option maxHeartbeats 400000 in
theorem hasAll_any (h p : Int) (w : World) :
    Calls Try.prog 31 #[.int .u8 h, .int .u8 p] w fun x w' => x = .returned (.bool (hasB h p)) ∧ w = w' := by
  go_enter Try.func31, Try.ntmps31
  go_wp2
  go_ret
  exact ⟨rfl, rfl⟩

set_option maxHeartbeats 400000 in
theorem open_any (b e c p s : Int) (w : World) :
    Calls Try.prog 27 #[.agg #[.int .u64 b, .int .u64 e, .int .u64 c, .int .u8 p, .int .i64 s]] w fun x w' => x = .returned (.bool (s == 0)) ∧ w.alloc (.cells #[.int .u64 b, .int .u64 e, .int .u64 c, .int .u8 p, .int .i64 s] 25) = w' := by
  go_enter Try.func27, Try.ntmps27
  go_wp2
  go_ret
  exact ⟨rfl, rfl⟩

set_option maxHeartbeats 400000 in
theorem holds_any (b e c p s a n : Int) (w : World) :
    Calls Try.prog 30 #[.agg #[.int .u64 b, .int .u64 e, .int .u64 c, .int .u8 p, .int .i64 s], .int .u64 a, .int .u64 n] w fun x w' => x = .returned (.bool (holdsB b e a n)) ∧ w.alloc (.cells #[.int .u64 b, .int .u64 e, .int .u64 c, .int .u8 p, .int .i64 s] 25) = w' := by
  go_enter Try.func30, Try.ntmps30
  go_wp2
  all_goals
    go_ret
    refine ⟨ret_bool ?_, rfl⟩
    first | (refine holds_last ?_ ?_ <;> assumption) | (refine holds_false ?_; omega)

set_option maxHeartbeats 400000 in
theorem right_any (b e c p s : Int) (w : World) :
    Calls Try.prog 25 #[.agg #[.int .u64 b, .int .u64 e, .int .u64 c, .int .u8 p, .int .i64 s]] w fun x w' => x = .returned (.bool (rightB b e p s)) ∧ w.alloc (.cells #[.int .u64 b, .int .u64 e, .int .u64 c, .int .u8 p, .int .i64 s] 25) = w' := by
  go_enter Try.func25, Try.ntmps25
  go_wp2_with (go_at_call 31; refine (hasAll_any _ _ _).mono ?_; rintro x w' ⟨rfl, rfl⟩)
  all_goals
    go_ret
    refine ⟨ret_bool ?_, rfl⟩
    first | (refine right_last ?_ ?_ ?_ ?_ <;> assumption) | (refine right_false ?_; rintro ⟨h1, h2, h3, h4, h5⟩; first | omega | contradiction)

set_option maxHeartbeats 400000 in
theorem under_any (b e c p s b' e' c' p' s' : Int) (w : World) :
    Calls Try.prog 26 #[.agg #[.int .u64 b, .int .u64 e, .int .u64 c, .int .u8 p, .int .i64 s], .agg #[.int .u64 b', .int .u64 e', .int .u64 c', .int .u8 p', .int .i64 s']] w fun x w' => x = .returned (.bool (underB b e p s b' e' p' s')) ∧ (w.alloc (.cells #[.int .u64 b, .int .u64 e, .int .u64 c, .int .u8 p, .int .i64 s] 25)).alloc (.cells #[.int .u64 b', .int .u64 e', .int .u64 c', .int .u8 p', .int .i64 s'] 25) = w' := by
  go_enter Try.func26, Try.ntmps26
  go_wp2_with (go_at_call 31; refine (hasAll_any _ _ _).mono ?_; rintro x w' ⟨rfl, rfl⟩)
  all_goals
    go_ret
    refine ⟨ret_bool ?_, rfl⟩
    first | (refine under_last ?_ ?_ ?_ <;> assumption) | (refine under_false ?_; rintro ⟨h1, h2, h3, h4⟩; first | omega | contradiction)

set_option maxHeartbeats 400000 in
theorem access_any (b e c p s off n q : Int) (w : World) :
    Calls Try.prog 17 #[.agg #[.int .u64 b, .int .u64 e, .int .u64 c, .int .u8 p, .int .i64 s], .int .u64 off, .int .u64 n, .int .u8 q] w fun x w' => x = .returned (.int .i64 (accessF b e c p s off n q)) ∧ Below w.heap.size w w' := by
  go_enter Try.func17, Try.ntmps17
  go_wp2_with (first | (go_at_call 27; refine (open_any _ _ _ _ _ _).mono ?_; rintro x w' ⟨rfl, rfl⟩) | (go_at_call 31; refine (hasAll_any _ _ _).mono ?_; rintro x w' ⟨rfl, rfl⟩) | (go_at_call 30; refine (holds_any _ _ _ _ _ _ _ _).mono ?_; rintro x w' ⟨rfl, rfl⟩))
  all_goals
    go_ret
    refine ⟨ret_int ?_, by repeat (first | exact Below.refl _ _ | refine Below.alloc ?_ (by simp <;> omega) _)⟩
    simp_all [accessF]

set_option maxHeartbeats 400000 in
theorem setBounds_any (b e c p s n : Int) (w : World) :
    Calls Try.prog 14 #[.agg #[.int .u64 b, .int .u64 e, .int .u64 c, .int .u8 p, .int .i64 s], .int .u64 n] w fun x w' =>
      ∃ b' e' c' p' s' f, x = .returned (.tuple #[.agg #[.int .u64 b', .int .u64 e', .int .u64 c', .int .u8 p', .int .i64 s'], .int .i64 f]) ∧ SetB b e c p s n b' e' c' p' s' f ∧ Below w.heap.size w w' := by
  by_cases h0 : s = 0
  · subst h0
    by_cases hh : holdsB b e c n = true
    · go_enter Try.func14, Try.ntmps14
      go_wp2_with (first | (go_at_call 27; refine (open_any _ _ _ _ _ _).mono ?_; rintro x w' ⟨rfl, rfl⟩) | (go_at_call 30; refine (holds_any _ _ _ _ _ _ _ _).mono ?_; rintro x w' ⟨rfl, rfl⟩))
      refine bodyPost_ret (v := .tuple #[.agg #[.int .u64 c, .int .u64 (IntKind.u64.wrap (c + n)), .int .u64 c, .int .u8 p, .int .i64 0], .int .i64 0]) (by simp [results, Try.results14, go_sem]) rfl ⟨_, _, _, _, _, _, rfl, .inr (.inr ⟨rfl, hh, rfl, rfl, rfl, rfl, rfl, rfl⟩), by repeat (first | exact Below.refl _ _ | refine Below.alloc ?_ (by simp <;> omega) _)⟩
    · have hh' : holdsB b e c n = false := by simpa using hh
      go_enter Try.func14, Try.ntmps14
      go_wp2_with (first | (go_at_call 27; refine (open_any _ _ _ _ _ _).mono ?_; rintro x w' ⟨rfl, rfl⟩) | (go_at_call 30; refine (holds_any _ _ _ _ _ _ _ _).mono ?_; rintro x w' ⟨rfl, rfl⟩))
      refine bodyPost_ret (v := .tuple #[.agg #[.int .u64 0, .int .u64 0, .int .u64 0, .int .u8 0, .int .i64 0], .int .i64 5]) (by simp [results, Try.results14, go_sem]) rfl ⟨_, _, _, _, _, _, rfl, .inr (.inl ⟨rfl, hh', rfl, rfl, rfl, rfl, rfl, rfl⟩), by repeat (first | exact Below.refl _ _ | refine Below.alloc ?_ (by simp <;> omega) _)⟩
  · have h0' : (s == 0) = false := by simpa using h0
    go_enter Try.func14, Try.ntmps14
    go_wp2_with (go_at_call 27; refine (open_any _ _ _ _ _ _).mono ?_; rintro x w' ⟨rfl, rfl⟩)
    refine bodyPost_ret (v := .tuple #[.agg #[.int .u64 0, .int .u64 0, .int .u64 0, .int .u8 0, .int .i64 0], .int .i64 3]) (by simp [results, Try.results14, go_sem]) rfl ⟨_, _, _, _, _, _, rfl, .inl ⟨h0, rfl, rfl, rfl, rfl, rfl, rfl⟩, by repeat (first | exact Below.refl _ _ | refine Below.alloc ?_ (by simp <;> omega) _)⟩

set_option maxHeartbeats 400000 in
theorem andPerm_any (b e c p s q : Int) (w : World) :
    Calls Try.prog 15 #[.agg #[.int .u64 b, .int .u64 e, .int .u64 c, .int .u8 p, .int .i64 s], .int .u8 q] w fun x w' =>
      ∃ b' e' c' p' s' f, x = .returned (.tuple #[.agg #[.int .u64 b', .int .u64 e', .int .u64 c', .int .u8 p', .int .i64 s'], .int .i64 f]) ∧ AndP b e c p s q b' e' c' p' s' f ∧ Below w.heap.size w w' := by
  by_cases h0 : s = 0
  · subst h0
    go_enter Try.func15, Try.ntmps15
    go_wp2_with (go_at_call 27; refine (open_any _ _ _ _ _ _).mono ?_; rintro x w' ⟨rfl, rfl⟩)
    refine bodyPost_ret (v := .tuple #[.agg #[.int .u64 b, .int .u64 e, .int .u64 c, .int .u8 (bits .and .u8 p q), .int .i64 0], .int .i64 0]) (by simp [results, Try.results15, go_sem]) rfl ⟨_, _, _, _, _, _, rfl, .inr ⟨rfl, rfl, rfl, rfl, rfl, rfl, rfl⟩, by repeat (first | exact Below.refl _ _ | refine Below.alloc ?_ (by simp <;> omega) _)⟩
  · have h0' : (s == 0) = false := by simpa using h0
    go_enter Try.func15, Try.ntmps15
    go_wp2_with (go_at_call 27; refine (open_any _ _ _ _ _ _).mono ?_; rintro x w' ⟨rfl, rfl⟩)
    refine bodyPost_ret (v := .tuple #[.agg #[.int .u64 0, .int .u64 0, .int .u64 0, .int .u8 0, .int .i64 0], .int .i64 3]) (by simp [results, Try.results15, go_sem]) rfl ⟨_, _, _, _, _, _, rfl, .inl ⟨h0, rfl, rfl, rfl, rfl, rfl, rfl⟩, by repeat (first | exact Below.refl _ _ | refine Below.alloc ?_ (by simp <;> omega) _)⟩

set_option maxHeartbeats 400000 in
theorem inc_any (b e c p s n : Int) (w : World) :
    Calls Try.prog 16 #[.agg #[.int .u64 b, .int .u64 e, .int .u64 c, .int .u8 p, .int .i64 s], .int .u64 n] w fun x w' =>
      ∃ b' e' c' p' s' f, x = .returned (.tuple #[.agg #[.int .u64 b', .int .u64 e', .int .u64 c', .int .u8 p', .int .i64 s'], .int .i64 f]) ∧ IncR b e c p s n b' e' c' p' s' f ∧ Below w.heap.size w w' := by
  by_cases h0 : s = 0
  · subst h0
    go_enter Try.func16, Try.ntmps16
    go_wp2_with (go_at_call 27; refine (open_any _ _ _ _ _ _).mono ?_; rintro x w' ⟨rfl, rfl⟩)
    refine bodyPost_ret (v := .tuple #[.agg #[.int .u64 b, .int .u64 e, .int .u64 (IntKind.u64.wrap (c + n)), .int .u8 p, .int .i64 0], .int .i64 0]) (by simp [results, Try.results16, go_sem]) rfl ⟨_, _, _, _, _, _, rfl, .inr ⟨rfl, rfl, rfl, rfl, rfl, rfl, rfl⟩, by repeat (first | exact Below.refl _ _ | refine Below.alloc ?_ (by simp <;> omega) _)⟩
  · have h0' : (s == 0) = false := by simpa using h0
    go_enter Try.func16, Try.ntmps16
    go_wp2_with (go_at_call 27; refine (open_any _ _ _ _ _ _).mono ?_; rintro x w' ⟨rfl, rfl⟩)
    refine bodyPost_ret (v := .tuple #[.agg #[.int .u64 0, .int .u64 0, .int .u64 0, .int .u8 0, .int .i64 0], .int .i64 3]) (by simp [results, Try.results16, go_sem]) rfl ⟨_, _, _, _, _, _, rfl, .inl ⟨h0, rfl, rfl, rfl, rfl, rfl, rfl⟩, by repeat (first | exact Below.refl _ _ | refine Below.alloc ?_ (by simp <;> omega) _)⟩

set_option maxHeartbeats 400000 in
theorem asKey_any (b e c p s q : Int) (w : World) :
    Calls Try.prog 28 #[.agg #[.int .u64 b, .int .u64 e, .int .u64 c, .int .u8 p, .int .i64 s], .int .u8 q] w fun x w' => x = .returned (.int .i64 (keyF b e c p s q)) ∧ (w.alloc (.cells #[.int .u64 b, .int .u64 e, .int .u64 c, .int .u8 p, .int .i64 s] 25)).alloc (.cells #[.int .u64 b, .int .u64 e, .int .u64 c, .int .u8 p, .int .i64 s] 25) = w' := by
  go_enter Try.func28, Try.ntmps28
  go_wp2_with (first | (go_at_call 27; refine (open_any _ _ _ _ _ _).mono ?_; rintro x w' ⟨rfl, rfl⟩) | (go_at_call 31; refine (hasAll_any _ _ _).mono ?_; rintro x w' ⟨rfl, rfl⟩))
  all_goals
    go_ret
    refine ⟨ret_int ?_, rfl⟩
    first | (simp_all [keyF]; done) | (simp_all [keyF]; omega)

set_option maxHeartbeats 400000 in
theorem sealBy_any (b e c p s kb ke kc kp ks : Int) (w : World) :
    Calls Try.prog 8 #[.agg #[.int .u64 b, .int .u64 e, .int .u64 c, .int .u8 p, .int .i64 s], .agg #[.int .u64 kb, .int .u64 ke, .int .u64 kc, .int .u8 kp, .int .i64 ks]] w fun x w' =>
      ∃ b' e' c' p' s' f, x = .returned (.tuple #[.agg #[.int .u64 b', .int .u64 e', .int .u64 c', .int .u8 p', .int .i64 s'], .int .i64 f]) ∧ SealR b e c p s kb ke kc kp ks b' e' c' p' s' f ∧ Below w.heap.size w w' := by
  by_cases h0 : s = 0
  · subst h0
    by_cases hk : keyF kb ke kc kp ks 32 = 0
    · have HK : Hid (keyF kb ke kc kp ks 32 = 0) := hk
      have hk' : (keyF kb ke kc kp ks 32 != 0) = false := by simp [hk]
      clear hk
      by_cases h1 : kc < 1
      · go_enter Try.func8, Try.ntmps8
        go_wp2_with (first | (go_at_call 27; refine (open_any _ _ _ _ _ _).mono ?_; rintro x w' ⟨rfl, rfl⟩) | (go_at_call 28; refine (asKey_any _ _ _ _ _ _ _).mono ?_; rintro x w' ⟨rfl, rfl⟩))
        refine bodyPost_ret (v := .tuple #[.agg #[.int .u64 0, .int .u64 0, .int .u64 0, .int .u8 0, .int .i64 0], .int .i64 6]) (by simp [results, Try.results8, go_sem]) rfl ⟨_, _, _, _, _, _, rfl, .inr (.inr (.inl ⟨rfl, HK.out, .inl h1, rfl, rfl, rfl, rfl, rfl, rfl⟩)), by repeat (first | exact Below.refl _ _ | refine Below.alloc ?_ (by simp <;> omega) _)⟩
      · by_cases h2 : 15 < kc
        · go_enter Try.func8, Try.ntmps8
          go_wp2_with (first | (go_at_call 27; refine (open_any _ _ _ _ _ _).mono ?_; rintro x w' ⟨rfl, rfl⟩) | (go_at_call 28; refine (asKey_any _ _ _ _ _ _ _).mono ?_; rintro x w' ⟨rfl, rfl⟩))
          refine bodyPost_ret (v := .tuple #[.agg #[.int .u64 0, .int .u64 0, .int .u64 0, .int .u8 0, .int .i64 0], .int .i64 6]) (by simp [results, Try.results8, go_sem]) rfl ⟨_, _, _, _, _, _, rfl, .inr (.inr (.inl ⟨rfl, HK.out, .inr h2, rfl, rfl, rfl, rfl, rfl, rfl⟩)), by repeat (first | exact Below.refl _ _ | refine Below.alloc ?_ (by simp <;> omega) _)⟩
        · have h3 : 1 ≤ kc := by omega
          have h4 : kc ≤ 15 := by omega
          go_enter Try.func8, Try.ntmps8
          go_wp2_with (first | (go_at_call 27; refine (open_any _ _ _ _ _ _).mono ?_; rintro x w' ⟨rfl, rfl⟩) | (go_at_call 28; refine (asKey_any _ _ _ _ _ _ _).mono ?_; rintro x w' ⟨rfl, rfl⟩))
          refine bodyPost_ret (v := .tuple #[.agg #[.int .u64 b, .int .u64 e, .int .u64 c, .int .u8 p, .int .i64 kc], .int .i64 0]) (by simp [results, Try.results8, go_sem]) rfl ⟨_, _, _, _, _, _, rfl, .inr (.inr (.inr ⟨rfl, HK.out, h3, h4, rfl, rfl, rfl, rfl, rfl, rfl⟩)), by repeat (first | exact Below.refl _ _ | refine Below.alloc ?_ (by simp <;> omega) _)⟩
    · have hk' : (keyF kb ke kc kp ks 32 != 0) = true := by simpa using hk
      go_enter Try.func8, Try.ntmps8
      go_wp2_with (first | (go_at_call 27; refine (open_any _ _ _ _ _ _).mono ?_; rintro x w' ⟨rfl, rfl⟩) | (go_at_call 28; refine (asKey_any _ _ _ _ _ _ _).mono ?_; rintro x w' ⟨rfl, rfl⟩))
      refine bodyPost_ret (v := .tuple #[.agg #[.int .u64 0, .int .u64 0, .int .u64 0, .int .u8 0, .int .i64 0], .int .i64 (keyF kb ke kc kp ks 32)]) (by simp [results, Try.results8, go_sem]) rfl ⟨_, _, _, _, _, _, rfl, .inr (.inl ⟨rfl, hk, rfl, rfl, rfl, rfl, rfl, rfl⟩), by repeat (first | exact Below.refl _ _ | refine Below.alloc ?_ (by simp <;> omega) _)⟩
  · have h0' : (s == 0) = false := by simpa using h0
    go_enter Try.func8, Try.ntmps8
    go_wp2_with (go_at_call 27; refine (open_any _ _ _ _ _ _).mono ?_; rintro x w' ⟨rfl, rfl⟩)
    refine bodyPost_ret (v := .tuple #[.agg #[.int .u64 0, .int .u64 0, .int .u64 0, .int .u8 0, .int .i64 0], .int .i64 3]) (by simp [results, Try.results8, go_sem]) rfl ⟨_, _, _, _, _, _, rfl, .inl ⟨h0, rfl, rfl, rfl, rfl, rfl, rfl⟩, by repeat (first | exact Below.refl _ _ | refine Below.alloc ?_ (by simp <;> omega) _)⟩
end Go.Proofs.Ytmnmflpbpklmiab
