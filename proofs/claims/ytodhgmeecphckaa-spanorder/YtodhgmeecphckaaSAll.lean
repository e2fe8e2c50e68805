/-
  Stage 2, span: what the operations do to two spans.
-/
import Derived.Test.YtodhgmeecphckaaSCaps
import Derived.Laws.Shifts
import Derived.Deep.RegionWith
namespace Go.Proofs.Ytodhgmeecphckaa
open Go.RowKit

set_option maxHeartbeats 1000000 in
theorem sums_any (a b c d : Int) (w : World) (ha : W64 a) (hb : W64 b) (hc : W64 c) (hd : W64 d) :
    Calls Try.prog 37 #[.agg #[.int .u64 a, .int .u64 b], .agg #[.int .u64 c, .int .u64 d]] w fun x w' => x = .returned (.agg #[.int .u64 (sumLo a b c d), .int .u64 (sumHi a b c d)]) ∧ Gr w w' := by
  obtain ⟨a0, a1⟩ := ha; obtain ⟨b0, b1⟩ := hb; obtain ⟨c0, c1⟩ := hc; obtain ⟨d0, d1⟩ := hd
  have L1 := grow_cell
  have L2 := grow_frozen
  have L3 := grow_set
  have L4 := grow_lt
  have L5 := glt1
  have L6 := glt2
  have L7 := glt3
  have L8 := glt4
  have L9 := glt5
  have L10 := glt6
  have L11 := lt1
  have L12 := lt2
  have L13 := lt3
  have L14 := lt4
  have L15 := lt5
  have L16 := lt6
  have L17 := lt7
  have L18 := lt8
  unfold sumLo sumHi
  by_cases e : (a + c) / 18446744073709551616 = (b + d) / 18446744073709551616
  · have e' : ((a + c) / 18446744073709551616 != (b + d) / 18446744073709551616) = false := by simp [e]
    rw [if_pos e, if_pos e]
    clear e
    go_enter Try.func37, Try.ntmps37
    go_wp2_with (first | simp only [add64 a c a0 c0] | simp only [add64 b d b0 d0] | (go_at_call 35; refine (full_any _).mono ?_; rintro x w' ⟨rfl, rfl⟩))
    simp [bodyPost, results, Try.results37, go_sem, *]
    try (repeat (first | exact Gr.refl _ | refine Gr.alloc ?_ _ | refine Gr.grow ?_ _ | refine Gr.drew ?_))
  · have e' : ((a + c) / 18446744073709551616 != (b + d) / 18446744073709551616) = true := by simp [e]
    rw [if_neg e, if_neg e]
    clear e
    go_enter Try.func37, Try.ntmps37
    go_wp2_with (first | simp only [add64 a c a0 c0] | simp only [add64 b d b0 d0] | (go_at_call 35; refine (full_any _).mono ?_; rintro x w' ⟨rfl, rfl⟩))
    simp [bodyPost, results, Try.results37, go_sem, *]
    try (repeat (first | exact Gr.refl _ | refine Gr.alloc ?_ _ | refine Gr.grow ?_ _ | refine Gr.drew ?_))

set_option maxHeartbeats 1000000 in
theorem differences_any (a b c d : Int) (w : World) (ha : W64 a) (hb : W64 b) (hc : W64 c) (hd : W64 d) :
    Calls Try.prog 39 #[.agg #[.int .u64 a, .int .u64 b], .agg #[.int .u64 c, .int .u64 d]] w fun x w' => x = .returned (.agg #[.int .u64 (difLo a b c d), .int .u64 (difHi a b c d)]) ∧ Gr w w' := by
  obtain ⟨a0, a1⟩ := ha; obtain ⟨b0, b1⟩ := hb; obtain ⟨c0, c1⟩ := hc; obtain ⟨d0, d1⟩ := hd
  have L1 := grow_cell
  have L2 := grow_frozen
  have L3 := grow_set
  have L4 := grow_lt
  have L5 := glt1
  have L6 := glt2
  have L7 := glt3
  have L8 := glt4
  have L9 := glt5
  have L10 := glt6
  have L11 := lt1
  have L12 := lt2
  have L13 := lt3
  have L14 := lt4
  have L15 := lt5
  have L16 := lt6
  have L17 := lt7
  have L18 := lt8
  unfold difLo difHi
  by_cases e : bor a d = bor b c
  · have e' : (bor a d != bor b c) = false := by simp [e]
    rw [if_pos e, if_pos e]
    clear e
    go_enter Try.func39, Try.ntmps39
    go_wp2_with (first | simp only [sub64 a d a0 d0 d1] | simp only [sub64 b c b0 c0 c1] | (go_at_call 35; refine (full_any _).mono ?_; rintro x w' ⟨rfl, rfl⟩))
    simp [bodyPost, results, Try.results39, go_sem, *]
    try (repeat (first | exact Gr.refl _ | refine Gr.alloc ?_ _ | refine Gr.grow ?_ _ | refine Gr.drew ?_))
  · have e' : (bor a d != bor b c) = true := by simp [e]
    rw [if_neg e, if_neg e]
    clear e
    go_enter Try.func39, Try.ntmps39
    go_wp2_with (first | simp only [sub64 a d a0 d0 d1] | simp only [sub64 b c b0 c0 c1] | (go_at_call 35; refine (full_any _).mono ?_; rintro x w' ⟨rfl, rfl⟩))
    simp [bodyPost, results, Try.results39, go_sem, *]
    try (repeat (first | exact Gr.refl _ | refine Gr.alloc ?_ _ | refine Gr.grow ?_ _ | refine Gr.drew ?_))

set_option maxHeartbeats 1000000 in
theorem products_any (a b c d : Int) (w : World) (ha : W64 a) (hb : W64 b) (hc : W64 c) (hd : W64 d) :
    Calls Try.prog 41 #[.agg #[.int .u64 a, .int .u64 b], .agg #[.int .u64 c, .int .u64 d]] w fun x w' => x = .returned (.agg #[.int .u64 (proLo a b c d), .int .u64 (proHi b d)]) ∧ Gr w w' := by
  obtain ⟨a0, a1⟩ := ha; obtain ⟨b0, b1⟩ := hb; obtain ⟨c0, c1⟩ := hc; obtain ⟨d0, d1⟩ := hd
  have L1 := grow_cell
  have L2 := grow_frozen
  have L3 := grow_set
  have L4 := grow_lt
  have L5 := glt1
  have L6 := glt2
  have L7 := glt3
  have L8 := glt4
  have L9 := glt5
  have L10 := glt6
  have L11 := lt1
  have L12 := lt2
  have L13 := lt3
  have L14 := lt4
  have L15 := lt5
  have L16 := lt6
  have L17 := lt7
  have L18 := lt8
  unfold proLo proHi
  by_cases e : b * d / 18446744073709551616 = 0
  · have e' : (b * d / 18446744073709551616 != 0) = false := by simp [e]
    rw [if_pos e, if_pos e, ← IntKind.wrap_u64 (a * c)]
    clear e
    go_enter Try.func41, Try.ntmps41
    go_wp2_with (first | (go_at_call 63; refine (mul64 b d ⟨b0, b1⟩ ⟨d0, d1⟩ _).mono ?_; rintro x w' ⟨rfl, rfl⟩) | (go_at_call 35; refine (full_any _).mono ?_; rintro x w' ⟨rfl, rfl⟩))
    simp [bodyPost, results, Try.results41, go_sem, *]
    try (repeat (first | exact Gr.refl _ | refine Gr.alloc ?_ _ | refine Gr.grow ?_ _ | refine Gr.drew ?_))
  · have e' : (b * d / 18446744073709551616 != 0) = true := by simp [e]
    rw [if_neg e, if_neg e]
    clear e
    go_enter Try.func41, Try.ntmps41
    go_wp2_with (first | (go_at_call 63; refine (mul64 b d ⟨b0, b1⟩ ⟨d0, d1⟩ _).mono ?_; rintro x w' ⟨rfl, rfl⟩) | (go_at_call 35; refine (full_any _).mono ?_; rintro x w' ⟨rfl, rfl⟩))
    simp [bodyPost, results, Try.results41, go_sem, *]
    try (repeat (first | exact Gr.refl _ | refine Gr.alloc ?_ _ | refine Gr.grow ?_ _ | refine Gr.drew ?_))

set_option maxHeartbeats 1000000 in
theorem ands_any (a b c d : Int) (w : World) :
    Calls Try.prog 43 #[.agg #[.int .u64 a, .int .u64 b], .agg #[.int .u64 c, .int .u64 d]] w fun x w' => x = .returned (.agg #[.int .u64 (0), .int .u64 (minI b d)]) ∧ Gr w w' := by
  go_enter Try.func43, Try.ntmps43
  go_wp2
  all_goals
    simp [bodyPost, results, Try.results43, go_sem]
    refine ⟨by unfold minI; (repeat' split) <;> omega, ?_⟩
    repeat (first | exact Gr.refl _ | refine Gr.alloc ?_ _ | refine Gr.grow ?_ _ | refine Gr.drew ?_)

theorem ones_wrap (k : Nat) (h : k ≤ 64) : IntKind.u64.wrap (IntKind.u64.wrap (1 * 2 ^ k) - 1) = 2 ^ k - 1 := by
  have h1 : (2 : Int) ^ k ≤ 2 ^ 64 := by have := Nat.pow_le_pow_right (n := 2) (by omega) h; exact Int.ofNat_le.mpr this |> fun q => by simpa using q
  have h2 : (1 : Int) ≤ 2 ^ k := Int.pow_pos (by omega)
  rw [IntKind.wrap_u64, IntKind.wrap_u64]
  omega
set_option maxHeartbeats 1000000 in
theorem allOnes_any (a b c d : Int) (w : World) (hb : W64 b) (hd : W64 d) :
    Calls Try.prog 64 #[.agg #[.int .u64 a, .int .u64 b], .agg #[.int .u64 c, .int .u64 d]] w fun x w' => x = .returned (.int .u64 (ones b d)) ∧ (w.alloc (.cells #[.int .u64 a, .int .u64 b] 51)).alloc (.cells #[.int .u64 c, .int .u64 d] 51) = w' := by
  obtain ⟨b0, b1⟩ := hb; obtain ⟨d0, d1⟩ := hd
  have hor : bits .or .u64 b d = ((b.toNat ||| d.toNat : Nat) : Int) := u64_or b d b0 b1 d0 d1
  have hn : b.toNat ||| d.toNat < 18446744073709551616 := Nat.or_lt_two_pow (n := 64) (by omega) (by omega)
  have hk : Lib.bitLen (b.toNat ||| d.toNat) ≤ 64 := Lib.bitLen_le _ 64 (Nat.le_refl _) hn
  unfold ones
  generalize b.toNat ||| d.toNat = n at hor hn hk ⊢
  have hw := ones_wrap (Lib.bitLen n) hk
  have hl := len64 (n : Int) ⟨by omega, by omega⟩
  rw [Int.toNat_natCast] at hl
  generalize Lib.bitLen n = k at hk hw hl ⊢
  have k0 : (0 : Int) ≤ (k : Int) := by omega
  have k1 : (k : Int) ≤ 64 := by omega
  go_enter Try.func64, Try.ntmps64
  go_wp2_with (go_at_call 67; refine (hl _).mono ?_; rintro x w' ⟨rfl, rfl⟩)
  go_ret
  refine ⟨ret_u64 ?_, rfl⟩
  simpa using hw

set_option maxHeartbeats 1000000 in
theorem xors_any (a b c d : Int) (w : World) (hb : W64 b) (hd : W64 d) :
    Calls Try.prog 47 #[.agg #[.int .u64 a, .int .u64 b], .agg #[.int .u64 c, .int .u64 d]] w fun x w' => x = .returned (.agg #[.int .u64 (0), .int .u64 (ones b d)]) ∧ Gr w w' := by
  obtain ⟨b0, b1⟩ := hb; obtain ⟨d0, d1⟩ := hd
  have L1 := grow_cell
  have L2 := grow_frozen
  have L3 := grow_set
  have L4 := grow_lt
  have L5 := glt1
  have L6 := glt2
  have L7 := glt3
  have L8 := glt4
  have L9 := glt5
  have L10 := glt6
  have L11 := lt1
  have L12 := lt2
  have L13 := lt3
  have L14 := lt4
  have L15 := lt5
  have L16 := lt6
  have L17 := lt7
  have L18 := lt8
  go_enter Try.func47, Try.ntmps47
  go_wp2_with (go_at_call 64; refine (allOnes_any _ _ _ _ _ ⟨b0, b1⟩ ⟨d0, d1⟩).mono ?_; rintro x w' ⟨rfl, rfl⟩)
  simp [bodyPost, results, Try.results47, go_sem, *]
  repeat (first | exact Gr.refl _ | refine Gr.alloc ?_ _ | refine Gr.grow ?_ _ | refine Gr.drew ?_)

set_option maxHeartbeats 1000000 in
theorem belows_any (a b c d : Int) (w : World) :
    Calls Try.prog 54 #[.agg #[.int .u64 a, .int .u64 b], .agg #[.int .u64 c, .int .u64 d]] w fun x w' => x = .returned (.agg #[.int .u64 (bwLo b c), .int .u64 (bwHi a b c d)]) ∧ Gr w w' := by
  go_enter Try.func54, Try.ntmps54
  go_wp2
  all_goals
    simp [bodyPost, results, Try.results54, go_sem]
    refine ⟨by unfold bwLo bwHi; constructor <;> (repeat' split) <;> omega, ?_⟩
    repeat (first | exact Gr.refl _ | refine Gr.alloc ?_ _ | refine Gr.grow ?_ _ | refine Gr.drew ?_)

set_option maxHeartbeats 1000000 in
theorem equals_any (a b c d : Int) (w : World) :
    Calls Try.prog 56 #[.agg #[.int .u64 a, .int .u64 b], .agg #[.int .u64 c, .int .u64 d]] w fun x w' => x = .returned (.agg #[.int .u64 (0), .int .u64 (eqHi a b c d)]) ∧ Gr w w' := by
  have L1 := grow_cell
  have L2 := grow_frozen
  have L3 := grow_set
  have L4 := grow_lt
  have L5 := glt1
  have L6 := glt2
  have L7 := glt3
  have L8 := glt4
  have L9 := glt5
  have L10 := glt6
  have L11 := lt1
  have L12 := lt2
  have L13 := lt3
  have L14 := lt4
  have L15 := lt5
  have L16 := lt6
  have L17 := lt7
  have L18 := lt8
  go_enter Try.func56, Try.ntmps56
  go_wp2_with (first | (go_at_call 34; refine (meet_any _ _ _ _ _).mono ?_; rintro x w' ⟨rfl, rfl⟩) | (go_at_call 29; refine (empty_any _ _ _).mono ?_; rintro x w' ⟨rfl, rfl⟩))
  all_goals
    simp [bodyPost, results, Try.results56, go_sem, *]
    refine ⟨by unfold eqHi; (repeat' split) <;> omega, ?_⟩
    repeat (first | exact Gr.refl _ | refine Gr.alloc ?_ _ | refine Gr.grow ?_ _ | refine Gr.drew ?_)

end Go.Proofs.Ytodhgmeecphckaa
