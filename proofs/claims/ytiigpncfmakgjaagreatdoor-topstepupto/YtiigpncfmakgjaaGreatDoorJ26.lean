import Derived.Test.YtiigpncfmakgjaaGreatDoorJTBase
import Derived.Test.YtiigpncfmakgjaaGreatDoorJ25
import Derived.Recover
import Derived.Defers
import Derived.Test.YtiigpncfmakgjaaGreatDoorJ14
namespace Go.Proofs.YtiigpncfmakgjaaGreatDoor
set_option maxRecDepth 100000
set_option maxHeartbeats 40000000
namespace T
open Go.RowKit

def hasB (h p : Int) : Bool := bits .andNot .u8 p h == 0
def holdsB (b e a n : Int) : Bool := decide (b ≤ a) && decide (a ≤ e) && decide (n ≤ IntKind.u64.wrap (e - a))
def rightB (b e p s : Int) : Bool := decide (b ≤ e) && decide (e ≤ 4294967296) && hasB 127 p && decide (0 ≤ s) && decide (s ≤ 15)
def underB (b e p s b' e' p' s' : Int) : Bool := decide (b' ≤ b) && decide (e ≤ e') && hasB p' p && (s == s')
def accessF (b e c p s off n q : Int) : Int :=
 if s = 0 then (if hasB p q then (if holdsB b e (IntKind.u64.wrap (c + off)) n then 0 else 5) else 4) else 3

def SetB (b e c p s n b' e' c' p' s' f : Int) : Prop :=
 (s ≠ 0 ∧ b' = 0 ∧ e' = 0 ∧ c' = 0 ∧ p' = 0 ∧ s' = 0 ∧ f = 3) ∨
 (s = 0 ∧ holdsB b e c n = false ∧ b' = 0 ∧ e' = 0 ∧ c' = 0 ∧ p' = 0 ∧ s' = 0 ∧ f = 5) ∨
 (s = 0 ∧ holdsB b e c n = true ∧ b' = c ∧ e' = IntKind.u64.wrap (c + n) ∧ c' = c ∧ p' = p ∧ s' = s ∧ f = 0)
def AndP (b e c p s q b' e' c' p' s' f : Int) : Prop :=
 (s ≠ 0 ∧ b' = 0 ∧ e' = 0 ∧ c' = 0 ∧ p' = 0 ∧ s' = 0 ∧ f = 3) ∨
 (s = 0 ∧ b' = b ∧ e' = e ∧ c' = c ∧ p' = bits .and .u8 p q ∧ s' = s ∧ f = 0)
def IncR (b e c p s n b' e' c' p' s' f : Int) : Prop :=
 (s ≠ 0 ∧ b' = 0 ∧ e' = 0 ∧ c' = 0 ∧ p' = 0 ∧ s' = 0 ∧ f = 3) ∨
 (s = 0 ∧ b' = b ∧ e' = e ∧ c' = IntKind.u64.wrap (c + n) ∧ p' = p ∧ s' = s ∧ f = 0)
def keyF (b e c p s q : Int) : Int :=
 if s = 0 then (if hasB p q then (if b ≤ c ∧ c < e then 0 else 5) else 4) else 3
def SealR (b e c p s kb ke kc kp ks b' e' c' p' s' f : Int) : Prop :=
 (s ≠ 0 ∧ b' = 0 ∧ e' = 0 ∧ c' = 0 ∧ p' = 0 ∧ s' = 0 ∧ f = 3) ∨
 (s = 0 ∧ keyF kb ke kc kp ks 32 ≠ 0 ∧ b' = 0 ∧ e' = 0 ∧ c' = 0 ∧ p' = 0 ∧ s' = 0 ∧ f = keyF kb ke kc kp ks 32) ∨
 (s = 0 ∧ keyF kb ke kc kp ks 32 = 0 ∧ (kc < 1 ∨ 15 < kc) ∧ b' = 0 ∧ e' = 0 ∧ c' = 0 ∧ p' = 0 ∧ s' = 0 ∧ f = 6) ∨
 (s = 0 ∧ keyF kb ke kc kp ks 32 = 0 ∧ 1 ≤ kc ∧ kc ≤ 15 ∧ b' = b ∧ e' = e ∧ c' = c ∧ p' = p ∧ s' = kc ∧ f = 0)

theorem holds_false {b e a n : Int} (h : ¬ (b ≤ a ∧ a ≤ e ∧ n ≤ IntKind.u64.wrap (e - a))) : false = holdsB b e a n := by
 symm; rw [Bool.eq_false_iff]; intro hh
 simp only [holdsB, Bool.and_eq_true, decide_eq_true_eq] at hh
 exact h ⟨hh.1.1, hh.1.2, hh.2⟩
theorem holds_last {b e a n : Int} (h1 : b ≤ a) (h2 : a ≤ e) : decide (n ≤ IntKind.u64.wrap (e - a)) = holdsB b e a n := by simp [holdsB, h1, h2]
theorem right_false {b e p s : Int} (h : ¬ (b ≤ e ∧ e ≤ 4294967296 ∧ hasB 127 p = true ∧ 0 ≤ s ∧ s ≤ 15)) : false = rightB b e p s := by
 symm; rw [Bool.eq_false_iff]; intro hh
 simp only [rightB, Bool.and_eq_true, decide_eq_true_eq] at hh
 exact h ⟨hh.1.1.1.1, hh.1.1.1.2, hh.1.1.2, hh.1.2, hh.2⟩
theorem right_last {b e p s : Int} (h1 : b ≤ e) (h2 : e ≤ 4294967296) (h3 : hasB 127 p = true) (h4 : 0 ≤ s) : decide (s ≤ 15) = rightB b e p s := by simp [rightB, h1, h2, h3, h4]
theorem under_false {b e p s b' e' p' s' : Int} (h : ¬ (b' ≤ b ∧ e ≤ e' ∧ hasB p' p = true ∧ s = s')) : false = underB b e p s b' e' p' s' := by
 symm; rw [Bool.eq_false_iff]; intro hh
 simp only [underB, Bool.and_eq_true, decide_eq_true_eq, beq_iff_eq] at hh
 exact h ⟨hh.1.1.1, hh.1.1.2, hh.1.2, hh.2⟩
theorem under_last {b e p s b' e' p' s' : Int} (h1 : b' ≤ b) (h2 : e ≤ e') (h3 : hasB p' p = true) : (s == s') = underB b e p s b' e' p' s' := by simp [underB, h1, h2, h3]

theorem ret_bool {a b : Bool} (h : a = b) : Ending.returned (.bool a) = .returned (.bool b) := by rw [h]
theorem ret_int {k : IntKind} {a b : Int} (h : a = b) : Ending.returned (.int k a) = .returned (.int k b) := by rw [h]
def UnsealR (b e c p s kb ke kc kp ks b' e' c' p' s' f : Int) : Prop :=
 (s = 0 ∧ b' = 0 ∧ e' = 0 ∧ c' = 0 ∧ p' = 0 ∧ s' = 0 ∧ f = 3) ∨
 (s ≠ 0 ∧ keyF kb ke kc kp ks 64 ≠ 0 ∧ b' = 0 ∧ e' = 0 ∧ c' = 0 ∧ p' = 0 ∧ s' = 0 ∧ f = keyF kb ke kc kp ks 64) ∨
 (s ≠ 0 ∧ keyF kb ke kc kp ks 64 = 0 ∧ (s < 0 ∨ kc ≠ s) ∧ b' = 0 ∧ e' = 0 ∧ c' = 0 ∧ p' = 0 ∧ s' = 0 ∧ f = 6) ∨
 (s ≠ 0 ∧ keyF kb ke kc kp ks 64 = 0 ∧ 0 ≤ s ∧ kc = s ∧ b' = b ∧ e' = e ∧ c' = c ∧ p' = p ∧ s' = 0 ∧ f = 0)

theorem hasAll_any (h p : Int) (w : World) :
   Calls Tryz.prog 64 #[.int .u8 h, .int .u8 p] w fun x w' => x = .returned (.bool (hasB h p)) ∧ w = w' := by
 go_enter Tryz.func64, Tryz.ntmps64
 go_wp2
 go_ret
 exact ⟨rfl, rfl⟩

theorem open_any (b e c p s : Int) (w : World) :
   Calls Tryz.prog 131 #[.agg #[.int .u64 b, .int .u64 e, .int .u64 c, .int .u8 p, .int .i64 s]] w fun x w' => x = .returned (.bool (s == 0)) ∧ w.alloc (.cells #[.int .u64 b, .int .u64 e, .int .u64 c, .int .u8 p, .int .i64 s] 35) = w' := by
 go_enter Tryz.func131, Tryz.ntmps131
 go_wp2
 go_ret
 exact ⟨rfl, rfl⟩

theorem holds_any (b e c p s a n : Int) (w : World) :
   Calls Tryz.prog 132 #[.agg #[.int .u64 b, .int .u64 e, .int .u64 c, .int .u8 p, .int .i64 s], .int .u64 a, .int .u64 n] w fun x w' => x = .returned (.bool (holdsB b e a n)) ∧ w.alloc (.cells #[.int .u64 b, .int .u64 e, .int .u64 c, .int .u8 p, .int .i64 s] 35) = w' := by
 go_enter Tryz.func132, Tryz.ntmps132
 go_wp2
 all_goals
   go_ret
   refine ⟨ret_bool ?_, rfl⟩
   first | (refine holds_last ?_ ?_ <;> assumption) | (refine holds_false ?_; omega)

theorem under_any (b e c p s b' e' c' p' s' : Int) (w : World) :
   Calls Tryz.prog 36 #[.agg #[.int .u64 b, .int .u64 e, .int .u64 c, .int .u8 p, .int .i64 s], .agg #[.int .u64 b', .int .u64 e', .int .u64 c', .int .u8 p', .int .i64 s']] w fun x w' => x = .returned (.bool (underB b e p s b' e' p' s')) ∧ (w.alloc (.cells #[.int .u64 b, .int .u64 e, .int .u64 c, .int .u8 p, .int .i64 s] 35)).alloc (.cells #[.int .u64 b', .int .u64 e', .int .u64 c', .int .u8 p', .int .i64 s'] 35) = w' := by
 go_enter Tryz.func36, Tryz.ntmps36
 go_wp2_with (go_at_call 64; refine (hasAll_any _ _ _).mono ?_; rintro x w' ⟨rfl, rfl⟩)
 all_goals
   go_ret
   refine ⟨ret_bool ?_, rfl⟩
   first | (refine under_last ?_ ?_ ?_ <;> assumption) | (refine under_false ?_; rintro ⟨h1, h2, h3, h4⟩; first | omega | contradiction)

theorem access_any (b e c p s off n q : Int) (w : World) :
   Calls Tryz.prog 113 #[.agg #[.int .u64 b, .int .u64 e, .int .u64 c, .int .u8 p, .int .i64 s], .int .u64 off, .int .u64 n, .int .u8 q] w fun x w' => x = .returned (.int .i64 (accessF b e c p s off n q)) ∧ Below w.heap.size w w' := by
 go_enter Tryz.func113, Tryz.ntmps113
 go_wp2_with (first | (go_at_call 131; refine (open_any _ _ _ _ _ _).mono ?_; rintro x w' ⟨rfl, rfl⟩) | (go_at_call 64; refine (hasAll_any _ _ _).mono ?_; rintro x w' ⟨rfl, rfl⟩) | (go_at_call 132; refine (holds_any _ _ _ _ _ _ _ _).mono ?_; rintro x w' ⟨rfl, rfl⟩))
 all_goals
   go_ret
   refine ⟨ret_int ?_, by repeat (first | exact Below.refl _ _ | refine Below.alloc ?_ (by simp <;> omega) _)⟩
   simp_all [accessF]

theorem setBounds_any (b e c p s n : Int) (w : World) :
   Calls Tryz.prog 117 #[.agg #[.int .u64 b, .int .u64 e, .int .u64 c, .int .u8 p, .int .i64 s], .int .u64 n] w fun x w' =>
     ∃ b' e' c' p' s' f, x = .returned (.tuple #[.agg #[.int .u64 b', .int .u64 e', .int .u64 c', .int .u8 p', .int .i64 s'], .int .i64 f]) ∧ SetB b e c p s n b' e' c' p' s' f ∧ Below w.heap.size w w' := by
 by_cases h0 : s = 0
 · subst h0
   by_cases hh : holdsB b e c n = true
   · go_enter Tryz.func117, Tryz.ntmps117
     go_wp2_with (first | (go_at_call 131; refine (open_any _ _ _ _ _ _).mono ?_; rintro x w' ⟨rfl, rfl⟩) | (go_at_call 132; refine (holds_any _ _ _ _ _ _ _ _).mono ?_; rintro x w' ⟨rfl, rfl⟩))
     refine bodyPost_ret (v := .tuple #[.agg #[.int .u64 c, .int .u64 (IntKind.u64.wrap (c + n)), .int .u64 c, .int .u8 p, .int .i64 0], .int .i64 0]) (by simp [results, Tryz.results117, go_sem]) rfl ⟨_, _, _, _, _, _, rfl, .inr (.inr ⟨rfl, hh, rfl, rfl, rfl, rfl, rfl, rfl⟩), by repeat (first | exact Below.refl _ _ | refine Below.alloc ?_ (by simp <;> omega) _)⟩
   · have hh' : holdsB b e c n = false := by simpa using hh
     go_enter Tryz.func117, Tryz.ntmps117
     go_wp2_with (first | (go_at_call 131; refine (open_any _ _ _ _ _ _).mono ?_; rintro x w' ⟨rfl, rfl⟩) | (go_at_call 132; refine (holds_any _ _ _ _ _ _ _ _).mono ?_; rintro x w' ⟨rfl, rfl⟩))
     refine bodyPost_ret (v := .tuple #[.agg #[.int .u64 0, .int .u64 0, .int .u64 0, .int .u8 0, .int .i64 0], .int .i64 5]) (by simp [results, Tryz.results117, go_sem]) rfl ⟨_, _, _, _, _, _, rfl, .inr (.inl ⟨rfl, hh', rfl, rfl, rfl, rfl, rfl, rfl⟩), by repeat (first | exact Below.refl _ _ | refine Below.alloc ?_ (by simp <;> omega) _)⟩
 · have h0' : (s == 0) = false := by simpa using h0
   go_enter Tryz.func117, Tryz.ntmps117
   go_wp2_with (go_at_call 131; refine (open_any _ _ _ _ _ _).mono ?_; rintro x w' ⟨rfl, rfl⟩)
   refine bodyPost_ret (v := .tuple #[.agg #[.int .u64 0, .int .u64 0, .int .u64 0, .int .u8 0, .int .i64 0], .int .i64 3]) (by simp [results, Tryz.results117, go_sem]) rfl ⟨_, _, _, _, _, _, rfl, .inl ⟨h0, rfl, rfl, rfl, rfl, rfl, rfl⟩, by repeat (first | exact Below.refl _ _ | refine Below.alloc ?_ (by simp <;> omega) _)⟩

theorem andPerm_any (b e c p s q : Int) (w : World) :
   Calls Tryz.prog 118 #[.agg #[.int .u64 b, .int .u64 e, .int .u64 c, .int .u8 p, .int .i64 s], .int .u8 q] w fun x w' =>
     ∃ b' e' c' p' s' f, x = .returned (.tuple #[.agg #[.int .u64 b', .int .u64 e', .int .u64 c', .int .u8 p', .int .i64 s'], .int .i64 f]) ∧ AndP b e c p s q b' e' c' p' s' f ∧ Below w.heap.size w w' := by
 by_cases h0 : s = 0
 · subst h0
   go_enter Tryz.func118, Tryz.ntmps118
   go_wp2_with (go_at_call 131; refine (open_any _ _ _ _ _ _).mono ?_; rintro x w' ⟨rfl, rfl⟩)
   refine bodyPost_ret (v := .tuple #[.agg #[.int .u64 b, .int .u64 e, .int .u64 c, .int .u8 (bits .and .u8 p q), .int .i64 0], .int .i64 0]) (by simp [results, Tryz.results118, go_sem]) rfl ⟨_, _, _, _, _, _, rfl, .inr ⟨rfl, rfl, rfl, rfl, rfl, rfl, rfl⟩, by repeat (first | exact Below.refl _ _ | refine Below.alloc ?_ (by simp <;> omega) _)⟩
 · have h0' : (s == 0) = false := by simpa using h0
   go_enter Tryz.func118, Tryz.ntmps118
   go_wp2_with (go_at_call 131; refine (open_any _ _ _ _ _ _).mono ?_; rintro x w' ⟨rfl, rfl⟩)
   refine bodyPost_ret (v := .tuple #[.agg #[.int .u64 0, .int .u64 0, .int .u64 0, .int .u8 0, .int .i64 0], .int .i64 3]) (by simp [results, Tryz.results118, go_sem]) rfl ⟨_, _, _, _, _, _, rfl, .inl ⟨h0, rfl, rfl, rfl, rfl, rfl, rfl⟩, by repeat (first | exact Below.refl _ _ | refine Below.alloc ?_ (by simp <;> omega) _)⟩

theorem inc_any (b e c p s n : Int) (w : World) :
   Calls Tryz.prog 116 #[.agg #[.int .u64 b, .int .u64 e, .int .u64 c, .int .u8 p, .int .i64 s], .int .u64 n] w fun x w' =>
     ∃ b' e' c' p' s' f, x = .returned (.tuple #[.agg #[.int .u64 b', .int .u64 e', .int .u64 c', .int .u8 p', .int .i64 s'], .int .i64 f]) ∧ IncR b e c p s n b' e' c' p' s' f ∧ Below w.heap.size w w' := by
 by_cases h0 : s = 0
 · subst h0
   go_enter Tryz.func116, Tryz.ntmps116
   go_wp2_with (go_at_call 131; refine (open_any _ _ _ _ _ _).mono ?_; rintro x w' ⟨rfl, rfl⟩)
   refine bodyPost_ret (v := .tuple #[.agg #[.int .u64 b, .int .u64 e, .int .u64 (IntKind.u64.wrap (c + n)), .int .u8 p, .int .i64 0], .int .i64 0]) (by simp [results, Tryz.results116, go_sem]) rfl ⟨_, _, _, _, _, _, rfl, .inr ⟨rfl, rfl, rfl, rfl, rfl, rfl, rfl⟩, by repeat (first | exact Below.refl _ _ | refine Below.alloc ?_ (by simp <;> omega) _)⟩
 · have h0' : (s == 0) = false := by simpa using h0
   go_enter Tryz.func116, Tryz.ntmps116
   go_wp2_with (go_at_call 131; refine (open_any _ _ _ _ _ _).mono ?_; rintro x w' ⟨rfl, rfl⟩)
   refine bodyPost_ret (v := .tuple #[.agg #[.int .u64 0, .int .u64 0, .int .u64 0, .int .u8 0, .int .i64 0], .int .i64 3]) (by simp [results, Tryz.results116, go_sem]) rfl ⟨_, _, _, _, _, _, rfl, .inl ⟨h0, rfl, rfl, rfl, rfl, rfl, rfl⟩, by repeat (first | exact Below.refl _ _ | refine Below.alloc ?_ (by simp <;> omega) _)⟩

theorem asKey_any (b e c p s q : Int) (w : World) :
   Calls Tryz.prog 134 #[.agg #[.int .u64 b, .int .u64 e, .int .u64 c, .int .u8 p, .int .i64 s], .int .u8 q] w fun x w' => x = .returned (.int .i64 (keyF b e c p s q)) ∧ (w.alloc (.cells #[.int .u64 b, .int .u64 e, .int .u64 c, .int .u8 p, .int .i64 s] 35)).alloc (.cells #[.int .u64 b, .int .u64 e, .int .u64 c, .int .u8 p, .int .i64 s] 35) = w' := by
 go_enter Tryz.func134, Tryz.ntmps134
 go_wp2_with (first | (go_at_call 131; refine (open_any _ _ _ _ _ _).mono ?_; rintro x w' ⟨rfl, rfl⟩) | (go_at_call 64; refine (hasAll_any _ _ _).mono ?_; rintro x w' ⟨rfl, rfl⟩))
 all_goals
   go_ret
   refine ⟨ret_int ?_, rfl⟩
   first | (simp_all [keyF]; done) | (simp_all [keyF]; omega)

theorem sealBy_any (b e c p s kb ke kc kp ks : Int) (w : World) :
   Calls Tryz.prog 119 #[.agg #[.int .u64 b, .int .u64 e, .int .u64 c, .int .u8 p, .int .i64 s], .agg #[.int .u64 kb, .int .u64 ke, .int .u64 kc, .int .u8 kp, .int .i64 ks]] w fun x w' =>
     ∃ b' e' c' p' s' f, x = .returned (.tuple #[.agg #[.int .u64 b', .int .u64 e', .int .u64 c', .int .u8 p', .int .i64 s'], .int .i64 f]) ∧ SealR b e c p s kb ke kc kp ks b' e' c' p' s' f ∧ Below w.heap.size w w' := by
 by_cases h0 : s = 0
 · subst h0
   by_cases hk : keyF kb ke kc kp ks 32 = 0
   · have HK : Hid (keyF kb ke kc kp ks 32 = 0) := ⟨hk⟩
     have hk' : (keyF kb ke kc kp ks 32 != 0) = false := by simp [hk]
     clear hk
     by_cases h1 : kc < 1
     · go_enter Tryz.func119, Tryz.ntmps119
       go_wp2_with (first | (go_at_call 131; refine (open_any _ _ _ _ _ _).mono ?_; rintro x w' ⟨rfl, rfl⟩) | (go_at_call 134; refine (asKey_any _ _ _ _ _ _ _).mono ?_; rintro x w' ⟨rfl, rfl⟩))
       refine bodyPost_ret (v := .tuple #[.agg #[.int .u64 0, .int .u64 0, .int .u64 0, .int .u8 0, .int .i64 0], .int .i64 6]) (by simp [results, Tryz.results119, go_sem]) rfl ⟨_, _, _, _, _, _, rfl, .inr (.inr (.inl ⟨rfl, HK.out, .inl h1, rfl, rfl, rfl, rfl, rfl, rfl⟩)), by repeat (first | exact Below.refl _ _ | refine Below.alloc ?_ (by simp <;> omega) _)⟩
     · by_cases h2 : 15 < kc
       · go_enter Tryz.func119, Tryz.ntmps119
         go_wp2_with (first | (go_at_call 131; refine (open_any _ _ _ _ _ _).mono ?_; rintro x w' ⟨rfl, rfl⟩) | (go_at_call 134; refine (asKey_any _ _ _ _ _ _ _).mono ?_; rintro x w' ⟨rfl, rfl⟩))
         refine bodyPost_ret (v := .tuple #[.agg #[.int .u64 0, .int .u64 0, .int .u64 0, .int .u8 0, .int .i64 0], .int .i64 6]) (by simp [results, Tryz.results119, go_sem]) rfl ⟨_, _, _, _, _, _, rfl, .inr (.inr (.inl ⟨rfl, HK.out, .inr h2, rfl, rfl, rfl, rfl, rfl, rfl⟩)), by repeat (first | exact Below.refl _ _ | refine Below.alloc ?_ (by simp <;> omega) _)⟩
       · have h3 : 1 ≤ kc := by omega
         have h4 : kc ≤ 15 := by omega
         go_enter Tryz.func119, Tryz.ntmps119
         go_wp2_with (first | (go_at_call 131; refine (open_any _ _ _ _ _ _).mono ?_; rintro x w' ⟨rfl, rfl⟩) | (go_at_call 134; refine (asKey_any _ _ _ _ _ _ _).mono ?_; rintro x w' ⟨rfl, rfl⟩))
         refine bodyPost_ret (v := .tuple #[.agg #[.int .u64 b, .int .u64 e, .int .u64 c, .int .u8 p, .int .i64 kc], .int .i64 0]) (by simp [results, Tryz.results119, go_sem]) rfl ⟨_, _, _, _, _, _, rfl, .inr (.inr (.inr ⟨rfl, HK.out, h3, h4, rfl, rfl, rfl, rfl, rfl, rfl⟩)), by repeat (first | exact Below.refl _ _ | refine Below.alloc ?_ (by simp <;> omega) _)⟩
   · have hk' : (keyF kb ke kc kp ks 32 != 0) = true := by simpa using hk
     go_enter Tryz.func119, Tryz.ntmps119
     go_wp2_with (first | (go_at_call 131; refine (open_any _ _ _ _ _ _).mono ?_; rintro x w' ⟨rfl, rfl⟩) | (go_at_call 134; refine (asKey_any _ _ _ _ _ _ _).mono ?_; rintro x w' ⟨rfl, rfl⟩))
     refine bodyPost_ret (v := .tuple #[.agg #[.int .u64 0, .int .u64 0, .int .u64 0, .int .u8 0, .int .i64 0], .int .i64 (keyF kb ke kc kp ks 32)]) (by simp [results, Tryz.results119, go_sem]) rfl ⟨_, _, _, _, _, _, rfl, .inr (.inl ⟨rfl, hk, rfl, rfl, rfl, rfl, rfl, rfl⟩), by repeat (first | exact Below.refl _ _ | refine Below.alloc ?_ (by simp <;> omega) _)⟩
 · have h0' : (s == 0) = false := by simpa using h0
   go_enter Tryz.func119, Tryz.ntmps119
   go_wp2_with (go_at_call 131; refine (open_any _ _ _ _ _ _).mono ?_; rintro x w' ⟨rfl, rfl⟩)
   refine bodyPost_ret (v := .tuple #[.agg #[.int .u64 0, .int .u64 0, .int .u64 0, .int .u8 0, .int .i64 0], .int .i64 3]) (by simp [results, Tryz.results119, go_sem]) rfl ⟨_, _, _, _, _, _, rfl, .inl ⟨h0, rfl, rfl, rfl, rfl, rfl, rfl⟩, by repeat (first | exact Below.refl _ _ | refine Below.alloc ?_ (by simp <;> omega) _)⟩
theorem unsealBy_any (b e c p s kb ke kc kp ks : Int) (w : World) (_hs : s < 9223372036854775808) :
   Calls Tryz.prog 120 #[.agg #[.int .u64 b, .int .u64 e, .int .u64 c, .int .u8 p, .int .i64 s], .agg #[.int .u64 kb, .int .u64 ke, .int .u64 kc, .int .u8 kp, .int .i64 ks]] w fun x w' =>
     ∃ b' e' c' p' s' f, x = .returned (.tuple #[.agg #[.int .u64 b', .int .u64 e', .int .u64 c', .int .u8 p', .int .i64 s'], .int .i64 f]) ∧ UnsealR b e c p s kb ke kc kp ks b' e' c' p' s' f ∧ Below w.heap.size w w' := by
 by_cases h0 : s = 0
 · subst h0
   go_enter Tryz.func120, Tryz.ntmps120
   go_wp2_with (first | (go_at_call 131; refine (open_any _ _ _ _ _ _).mono ?_; rintro x w' ⟨rfl, rfl⟩) | (go_at_call 134; refine (asKey_any _ _ _ _ _ _ _).mono ?_; rintro x w' ⟨rfl, rfl⟩))
   refine bodyPost_ret (v := .tuple #[.agg #[.int .u64 0, .int .u64 0, .int .u64 0, .int .u8 0, .int .i64 0], .int .i64 3]) (by simp [results, Tryz.results120, go_sem]) rfl ⟨_, _, _, _, _, _, rfl, .inl ⟨rfl, rfl, rfl, rfl, rfl, rfl, rfl⟩, by repeat (first | exact Below.refl _ _ | refine Below.alloc ?_ (by simp <;> omega) _)⟩
 · have h0' : (s == 0) = false := by simpa using h0
   by_cases hk : keyF kb ke kc kp ks 64 = 0
   · have HK : Hid (keyF kb ke kc kp ks 64 = 0) := ⟨hk⟩
     have hk' : (keyF kb ke kc kp ks 64 != 0) = false := by simp [hk]
     clear hk
     by_cases h5 : s < 0
     · go_enter Tryz.func120, Tryz.ntmps120
       go_wp2_with (first | (go_at_call 131; refine (open_any _ _ _ _ _ _).mono ?_; rintro x w' ⟨rfl, rfl⟩) | (go_at_call 134; refine (asKey_any _ _ _ _ _ _ _).mono ?_; rintro x w' ⟨rfl, rfl⟩))
       refine bodyPost_ret (v := .tuple #[.agg #[.int .u64 0, .int .u64 0, .int .u64 0, .int .u8 0, .int .i64 0], .int .i64 6]) (by simp [results, Tryz.results120, go_sem]) rfl ⟨_, _, _, _, _, _, rfl, .inr (.inr (.inl ⟨h0, HK.out, .inl h5, rfl, rfl, rfl, rfl, rfl, rfl⟩)), by repeat (first | exact Below.refl _ _ | refine Below.alloc ?_ (by simp <;> omega) _)⟩
     · have h5' : 0 ≤ s := by omega
       by_cases h6 : kc = s
       · subst h6
         have h6' : (kc != kc) = false := by simp
         go_enter Tryz.func120, Tryz.ntmps120
         go_wp2_with (first | (go_at_call 131; refine (open_any _ _ _ _ _ _).mono ?_; rintro x w' ⟨rfl, rfl⟩) | (go_at_call 134; refine (asKey_any _ _ _ _ _ _ _).mono ?_; rintro x w' ⟨rfl, rfl⟩))
         refine bodyPost_ret (v := .tuple #[.agg #[.int .u64 b, .int .u64 e, .int .u64 c, .int .u8 p, .int .i64 0], .int .i64 0]) (by simp [results, Tryz.results120, go_sem]) rfl ⟨_, _, _, _, _, _, rfl, .inr (.inr (.inr ⟨h0, HK.out, h5', rfl, rfl, rfl, rfl, rfl, rfl, rfl⟩)), by repeat (first | exact Below.refl _ _ | refine Below.alloc ?_ (by simp <;> omega) _)⟩
       · have h6' : (kc != s) = true := by simpa using h6
         go_enter Tryz.func120, Tryz.ntmps120
         go_wp2_with (first | (go_at_call 131; refine (open_any _ _ _ _ _ _).mono ?_; rintro x w' ⟨rfl, rfl⟩) | (go_at_call 134; refine (asKey_any _ _ _ _ _ _ _).mono ?_; rintro x w' ⟨rfl, rfl⟩))
         refine bodyPost_ret (v := .tuple #[.agg #[.int .u64 0, .int .u64 0, .int .u64 0, .int .u8 0, .int .i64 0], .int .i64 6]) (by simp [results, Tryz.results120, go_sem]) rfl ⟨_, _, _, _, _, _, rfl, .inr (.inr (.inl ⟨h0, HK.out, .inr h6, rfl, rfl, rfl, rfl, rfl, rfl⟩)), by repeat (first | exact Below.refl _ _ | refine Below.alloc ?_ (by simp <;> omega) _)⟩
   · have hk' : (keyF kb ke kc kp ks 64 != 0) = true := by simpa using hk
     go_enter Tryz.func120, Tryz.ntmps120
     go_wp2_with (first | (go_at_call 131; refine (open_any _ _ _ _ _ _).mono ?_; rintro x w' ⟨rfl, rfl⟩) | (go_at_call 134; refine (asKey_any _ _ _ _ _ _ _).mono ?_; rintro x w' ⟨rfl, rfl⟩))
     refine bodyPost_ret (v := .tuple #[.agg #[.int .u64 0, .int .u64 0, .int .u64 0, .int .u8 0, .int .i64 0], .int .i64 (keyF kb ke kc kp ks 64)]) (by simp [results, Tryz.results120, go_sem]) rfl ⟨_, _, _, _, _, _, rfl, .inr (.inl ⟨h0, hk, rfl, rfl, rfl, rfl, rfl, rfl⟩), by repeat (first | exact Below.refl _ _ | refine Below.alloc ?_ (by simp <;> omega) _)⟩
end T
end Go.Proofs.YtiigpncfmakgjaaGreatDoor


namespace Go.Proofs.YtiigpncfmakgjaaGreatDoor
set_option maxRecDepth 100000
set_option maxHeartbeats 40000000
namespace C
open Go.RowKit
open T (Sep Ob Kp Mf TgIn boxOb Fm Tc Ed Vl Cp Bx tgOb mRow mRow_idx mRow_reg updV flt kp_setCells)

def pan (x : Ed) : Ending := .panicked [{ v := .iface 79 (.agg #[.int .i64 x.e, .int .u64 x.v, .int .i64 x.f]), recovered := false }]
structure RgAt (w : World) (a r : Nat) (v : Vl) : Prop where
 rl : r < 16
 lt : a < w.heap.size
 c0 : w.cell? ⟨a, 7 + r * 7, none⟩ = some (.bool v.g)
 c1 : w.cell? ⟨a, 7 + r * 7 + 1, none⟩ = some (.int .u64 v.n)
 c2 : w.cell? ⟨a, 7 + r * 7 + 2, none⟩ = some (.int .u64 v.c.b)
 c3 : w.cell? ⟨a, 7 + r * 7 + 3, none⟩ = some (.int .u64 v.c.e)
 c4 : w.cell? ⟨a, 7 + r * 7 + 4, none⟩ = some (.int .u64 v.c.c)
 c5 : w.cell? ⟨a, 7 + r * 7 + 5, none⟩ = some (.int .u8 v.c.p)
 c6 : w.cell? ⟨a, 7 + r * 7 + 6, none⟩ = some (.int .i64 v.c.s)
theorem RgAt.gr {w W : World} {a r : Nat} {v : Vl} (h : RgAt w a r v) (g : Gr w W) : RgAt W a r v := by
 have hb : W.heap[a]? = w.heap[a]? := g.below.block a h.lt
 exact ⟨h.rl, Nat.lt_of_lt_of_le h.lt g.below.size, (T.cell_of_block hb _).trans h.c0, (T.cell_of_block hb _).trans h.c1, (T.cell_of_block hb _).trans h.c2, (T.cell_of_block hb _).trans h.c3, (T.cell_of_block hb _).trans h.c4, (T.cell_of_block hb _).trans h.c5, (T.cell_of_block hb _).trans h.c6⟩
section
variable {B : Nat} {W W' : World} {a : Nat} {P : PImg} {s s' : Ms} {l : List Ob}
theorem MIn.rg (h : MIn B W a P s l) (r : Nat) (hr : r < 16) : RgAt W a r (s.at_.regs r) := by
 obtain ⟨q, hb, _⟩ := h.parts
 have e : ∀ j v, (s.at_.regs r).row[j]? = some v → j < 7 → W.cell? ⟨a, 7 + r * 7 + j, none⟩ = some v := fun j v z hj => hb.at_ _ v ((mRow_reg _ _ _ _ _ _ _ _ _ _ _ r j hr hj).trans z)
 exact ⟨hr, hb.lt, e 0 _ rfl (by omega), e 1 _ rfl (by omega), e 2 _ rfl (by omega), e 3 _ rfl (by omega), e 4 _ rfl (by omega), e 5 _ rfl (by omega), e 6 _ rfl (by omega)⟩
theorem MIn.cell (h : MIn B W a P s l) : W.cell? ⟨a, 5, none⟩ = some (.int .i64 s.at_.gate) ∧ W.cell? ⟨a, 6, none⟩ = some (.int .i64 s.at_.pc) ∧ W.cell? ⟨a, 123, none⟩ = some (.int .i64 s.over.e) ∧ W.cell? ⟨a, 124, none⟩ = some (.int .u64 s.over.v) ∧ W.cell? ⟨a, 125, none⟩ = some (.int .i64 s.over.f) ∧ ∀ o, W.frozen? ⟨a, o, none⟩ = false := by
 obtain ⟨q, hb, _⟩ := h.parts
 refine ⟨hb.at_ 5 _ ?_, hb.at_ 6 _ ?_, hb.at_ 123 _ ?_, hb.at_ 124 _ ?_, hb.at_ 125 _ ?_, hb.fr⟩ <;> (unfold rowOf; rw [mRow_idx]; rfl)
end
theorem fail_any (f : Int) (w : World) : Calls Tryz.prog 63 #[.int .i64 f] w fun x w' => x = pan (flt f) ∧ w' = w := by
 go_enter Tryz.func63, Tryz.ntmps63
 go_wp2_with fail
 exact ⟨rfl, rfl, rfl⟩
theorem allow_ok (w : World) : Calls Tryz.prog 93 #[.int .i64 0] w fun x w' => x = .returned (.tuple #[]) ∧ w' = w := by
 go_enter Tryz.func93, Tryz.ntmps93
 go_wp2_with fail
 go_end0
 exact ⟨rfl, rfl⟩
theorem allow_bad (f : Int) (w : World) (h : f ≠ 0) : Calls Tryz.prog 93 #[.int .i64 f] w fun x w' => x = pan (flt f) ∧ w' = w := by
 have h' : (f == 0) = false := by simpa using h
 have hF := fail_any f
 unfold pan at hF ⊢
 go_enter Tryz.func93, Tryz.ntmps93
 go_wp2_with (refine (hF _).mono ?_; rintro x w1 ⟨rfl, rfl⟩)
 exact ⟨rfl, rfl, rfl⟩
theorem number_ok (a r : Nat) (v : Vl) (w : World) (h : RgAt w a r v) (hg : v.g = false) :
   Calls Tryz.prog 83 #[.pointer (some ⟨a, 0, none⟩), .int .i64 r] w fun x w' => x = .returned (.int .u64 v.n) ∧ Gr w w' := by
 obtain ⟨rl, lt, c0, c1, c2, c3, c4, c5, c6⟩ := h
 rw [hg] at c0
 try unfold Cp.val
 clear hg
 go_enter Tryz.func83, Tryz.ntmps83
 go_wp2_with fail
 go_ret
 exact ⟨rfl, (Gr.refl w).alloc _⟩
theorem number_bad (a r : Nat) (v : Vl) (w : World) (h : RgAt w a r v) (hg : v.g = true) :
   Calls Tryz.prog 83 #[.pointer (some ⟨a, 0, none⟩), .int .i64 r] w fun x w' => x = pan (flt 2) ∧ Gr w w' := by
 obtain ⟨rl, lt, c0, c1, c2, c3, c4, c5, c6⟩ := h
 rw [hg] at c0
 have hF := fail_any 2
 unfold pan at hF ⊢
 clear hg
 go_enter Tryz.func83, Tryz.ntmps83
 go_wp2_with (refine (hF _).mono ?_; rintro x w1 ⟨rfl, rfl⟩)
 exact ⟨rfl, rfl, (Gr.refl w).alloc _⟩
def Cp.val (c : Cp) : Value := .agg #[.int .u64 c.b, .int .u64 c.e, .int .u64 c.c, .int .u8 c.p, .int .i64 c.s]
theorem held_ok (a r : Nat) (v : Vl) (w : World) (h : RgAt w a r v) (hg : v.g = true) :
   Calls Tryz.prog 88 #[.pointer (some ⟨a, 0, none⟩), .int .i64 r] w fun x w' => x = .returned (Cp.val v.c) ∧ Gr w w' := by
 obtain ⟨rl, lt, c0, c1, c2, c3, c4, c5, c6⟩ := h
 rw [hg] at c0
 try unfold Cp.val
 clear hg
 go_enter Tryz.func88, Tryz.ntmps88
 go_wp2_with fail
 simp [bodyPost, results, Tryz.results88, go_sem]
 exact ((Gr.refl w).alloc _).alloc _
theorem held_bad (a r : Nat) (v : Vl) (w : World) (h : RgAt w a r v) (hg : v.g = false) :
   Calls Tryz.prog 88 #[.pointer (some ⟨a, 0, none⟩), .int .i64 r] w fun x w' => x = pan (flt 1) ∧ Gr w w' := by
 obtain ⟨rl, lt, c0, c1, c2, c3, c4, c5, c6⟩ := h
 rw [hg] at c0
 have hF := fail_any 1
 unfold pan at hF ⊢
 clear hg
 go_enter Tryz.func88, Tryz.ntmps88
 go_wp2_with (refine (hF _).mono ?_; rintro x w1 ⟨rfl, rfl⟩)
 exact ⟨rfl, rfl, ((Gr.refl w).alloc _).alloc _⟩
def Ms.goTo (s : Ms) (pc : Nat) : Ms := { s with at_ := { s.at_ with pc := pc } }
def Ms.next (s : Ms) : Ms := s.goTo (s.at_.pc + 1)
def Ms.put (s : Ms) (r : Nat) (v : Vl) : Ms := { s with at_ := { s.at_ with regs := updV s.at_.regs r v } }
section
variable {B : Nat} {W W' : World} {a : Nat} {P : PImg} {s s' : Ms} {l : List Ob}
theorem MIn.setPc (h : MIn B W a P s l) (pc : Nat) : MIn B (W.setCell ⟨a, 6, none⟩ (.int .i64 pc)) a P (s.goTo pc) l ∧ Below B W (W.setCell ⟨a, 6, none⟩ (.int .i64 pc)) :=
 h.box (s' := s.goTo pc) ⟨rfl, rfl, rfl, rfl, rfl, rfl⟩ (fun _ hb => hb.set 6 (.int .i64 pc)) (Kp.set (S := fun k => k = a) W ⟨a, 6, none⟩ _ rfl)
theorem MIn.setReg (h : MIn B W a P s l) (r : Nat) (v : Vl) (hr : r < 16) : MIn B (W.setCells a (7 + r * 7) v.row) a P (s.put r v) l ∧ Below B W (W.setCells a (7 + r * 7) v.row) :=
 h.box (s' := s.put r v) ⟨rfl, rfl, rfl, rfl, rfl, rfl⟩ (fun _ hb => hb.putReg r v hr) (kp_setCells (fun k => k = a) a rfl _ _ W)
end
theorem next_any (B : Nat) (a : Nat) (P : PImg) (s : Ms) (l : List Ob) (w : World) (h : MIn B w a P s l) (hp : s.at_.pc < 1000000000) :
   Calls Tryz.prog 82 #[.pointer (some ⟨a, 0, none⟩)] w fun x w' => x = .returned (.tuple #[]) ∧ MIn B w' a P s.next l ∧ Below B w w' := by
 have hq := h.setPc (s.at_.pc + 1)
 have e : s.goTo (s.at_.pc + 1) = s.next := rfl
 rw [e] at hq
 obtain ⟨_, c6, _, _, _, fr⟩ := h.cell
 generalize s.next = s1 at *
 generalize s.at_.pc = n at *
 have m0 : IntKind.i64.wrap ((n : Int) + 1) = ((n + 1 : Nat) : Int) := by rw [IntKind.wrap_i64]; omega
 replace h := Hz.mk h
 replace hq := Hz.mk hq
 clear e
 go_enter Tryz.func82, Tryz.ntmps82
 go_wp2_with fail
 go_end0
 exact ⟨rfl, hq.out⟩
def set7 (w : World) (a o : Nat) (v : Vl) : World := ((((((w.setCell ⟨a, o, none⟩ (.bool v.g)).setCell ⟨a, o + 1, none⟩ (.int .u64 v.n)).setCell ⟨a, o + 2, none⟩ (.int .u64 v.c.b)).setCell ⟨a, o + 3, none⟩ (.int .u64 v.c.e)).setCell ⟨a, o + 4, none⟩ (.int .u64 v.c.c)).setCell ⟨a, o + 5, none⟩ (.int .u8 v.c.p)).setCell ⟨a, o + 6, none⟩ (.int .i64 v.c.s)
theorem set7_eq (w : World) (a o : Nat) (v : Vl) : w.setCells a o v.row = set7 w a o v := rfl
theorem lay_any (B : Nat) (a r : Nat) (v : Vl) (P : PImg) (s : Ms) (l : List Ob) (w : World) (h : MIn B w a P s l) (hr : r < 16) (hp : s.at_.pc < 1000000000) :
   Calls Tryz.prog 55 #[.pointer (some ⟨a, 0, none⟩), .int .i64 r, v.agg] w fun x w' => x = .returned (.tuple #[]) ∧ MIn B w' a P (s.put r v).next l ∧ Below B w w' := by
 obtain ⟨_, hlt, c0, c1, c2, c3, c4, c5, c6⟩ := h.rg r hr
 have fr := h.cell.2.2.2.2.2
 have hN := fun W (q : MIn B W a P (s.put r v) l) => next_any B a P (s.put r v) l W q hp
 obtain ⟨hq, hK⟩ := h.setReg r v hr
 rw [set7_eq] at hq hK
 have hle := h.le
 generalize s.put r v = s1 at *
 generalize s.at_.regs r = u at *
 simp only [set7] at hq hK
 simp only [Vl.agg]
 replace h := Hz.mk h
 replace hq := Hz.mk hq
 replace hN := Hz.mk hN
 replace hK := Hz.mk hK
 replace hle := Hz.mk hle
 go_enter Tryz.func55, Tryz.ntmps55
 go_wp2_with fail
 go_region
 all_goals
   go_wp2_with fail
   refine (hN.out _ (hq.out.gr (Below.drew ((Below.refl _ _).alloc (Nat.le_refl _) _)))).mono ?_
   rintro x w2 ⟨rfl, h2, k2⟩
   replace k2 := (hK.out.trans (Below.mono (Below.drew ((Below.refl _ _).alloc (Nat.le_refl _) _)) hq.out.le)).trans k2
   replace h2 := Hz.mk h2
   replace k2 := Hz.mk k2
   go_wp2_with fail
   go_end0
   exact ⟨rfl, h2.out, k2.out⟩
end C
end Go.Proofs.YtiigpncfmakgjaaGreatDoor


namespace Go.Proofs.YtiigpncfmakgjaaGreatDoor
namespace T
open Go.RowKit

end T
end Go.Proofs.YtiigpncfmakgjaaGreatDoor


namespace Go.Proofs.YtiigpncfmakgjaaGreatDoor
namespace T
open Go.RowKit

end T
end Go.Proofs.YtiigpncfmakgjaaGreatDoor
