/-
  Stage 6, tagmem: numbers in pages.
-/
import Derived.Test.YtijmjmefdedojaaGreatTGet
namespace Go.Proofs.YtijmjmefdedojaaGreat
namespace T
open Go.RowKit

/-- The number that lies at an address in so many bytes, the lowest first. -/
def leB (b : Nat → UInt8) (addr : Nat) : Nat → Nat
  | 0 => 0
  | k + 1 => leB b addr k + (b (addr + k)).toNat * 2 ^ (8 * k)
/-- The bytes when the lowest so many of a number are written. -/
def putB (b : Nat → UInt8) (addr n : Nat) : Nat → Nat → UInt8
  | 0 => b
  | k + 1 => upd (putB b addr n k) (addr + k) (UInt8.ofNat (n / 2 ^ (8 * k) % 256))
theorem leB_lt (b : Nat → UInt8) (addr k : Nat) : leB b addr k < 2 ^ (8 * k) := by
  induction k with
  | zero => simp [leB]
  | succ k ih =>
    have h := (b (addr + k)).toNat_lt
    have h1 : (b (addr + k)).toNat * 2 ^ (8 * k) ≤ 255 * 2 ^ (8 * k) := Nat.mul_le_mul_right _ (by omega)
    have h2 : 2 ^ (8 * (k + 1)) = 256 * 2 ^ (8 * k) := by rw [show 8 * (k + 1) = 8 + 8 * k by omega, Nat.pow_add]
    rw [leB, h2]
    omega
theorem or_add (a b k : Nat) (ha : a < 2 ^ k) : a ||| (b * 2 ^ k) = a + b * 2 ^ k := by
  rw [Nat.mul_comm b, Nat.or_comm, ← Nat.two_pow_add_eq_or_of_lt ha, Nat.add_comm]
theorem or_shift (x b k : Nat) (h1 : x < 2 ^ k) (hb : b < 256) (hk : k ≤ 56) : bits .or .u64 (x : Int) (IntKind.u64.wrap ((b : Int) * 2 ^ k)) = ((x + b * 2 ^ k : Nat) : Int) := by
  have hpk : 2 ^ k ≤ 2 ^ 56 := Nat.pow_le_pow_right (by omega) hk
  have hm : b * 2 ^ k ≤ 255 * 2 ^ 56 := Nat.mul_le_mul (by omega) hpk
  have ho := or_add x b k h1
  have e : (b : Int) * 2 ^ k = ((b * 2 ^ k : Nat) : Int) := by simp
  rw [e, IntKind.wrap_u64]
  generalize b * 2 ^ k = q at *
  have hq : (q : Int) % 18446744073709551616 = q := by omega
  rw [hq, u64_or (x : Int) q (by omega) (by omega) (by omega) (by omega), Int.toNat_natCast, Int.toNat_natCast, ho]
set_option maxHeartbeats 1000000 in
theorem number_any (S : Nat → Prop) (a addr size : Nat) (b : Nat → UInt8) (w : World) (h : PgIn S w a b) (ha : addr + size ≤ 65536) (hs : size ≤ 8) :
    Calls Tryz.prog 112 #[.pointer (some ⟨a, 0, none⟩), .int .u64 addr, .int .u64 size] w fun x w' => x = .returned (.int .u64 (leB b addr size)) ∧ w' = w := by
  have hG := fun j (hj : j < 65536) => get_any S a j b w h hj
  replace h := Hid.mk h
  go_enter Tryz.func112, Tryz.ntmps112
  go_wp2_with fail
  go_loopw [7, 10] (fun v i wr => ∃ j : Nat, v = .int .u64 (leB b addr j) ∧ i = .int .u64 j ∧ j ≤ size ∧ wr = w) (fun _ i _ => size - (intOf i).toNat)
  case atStart => exact ⟨0, rfl, rfl, by omega, rfl⟩
  case round =>
    obtain ⟨j, rfl, rfl, hj, rfl⟩ := hrel
    by_cases hlt : j < size
    · have jl : (j : Int) < size := by omega
      have hg := hG (addr + j) (by omega)
      have hb := (b (addr + j)).toNat_lt
      have hrg := leB_lt b addr j
      have hor := or_shift _ _ (8 * j) hrg hb (by omega)
      have hnx : leB b addr (j + 1) = leB b addr j + (b (addr + j)).toNat * 2 ^ (8 * j) := rfl
      rw [← hnx] at hor
      unfold bv at hg
      generalize hy : leB b addr (j + 1) = y at *
      generalize leB b addr j = x at *
      generalize (b (addr + j)).toNat = c at *
      have m0 : IntKind.u64.wrap ((addr : Int) + j) = ((addr + j : Nat) : Int) := by rw [IntKind.wrap_u64]; omega
      have m1 : IntKind.u64.wrap (8 * (j : Int)) = 8 * j := by rw [IntKind.wrap_u64]; omega
      have m2 : (0 : Int) ≤ 8 * (j : Int) := by omega
      have m3 : (8 * (j : Int)) ≤ 64 := by omega
      have m4 : IntKind.u64.wrap (c : Int) = c := by rw [IntKind.wrap_u64]; omega
      replace hrg := Hid.mk hrg
      replace hor := Hid.mk hor
      replace hy := Hid.mk hy
      clear hnx hG
      go_wp2_with fail
      refine hg.mono ?_
      rintro x w1 ⟨rfl, rfl⟩
      go_wp2_with fail
      exact ⟨⟨j + 1, by rw [hor.out, hy.out], by go_num, by omega, trivial⟩, by simp [intOf]; omega⟩
    · have jl : ¬ (j : Int) < size := by omega
      have : j = size := by omega
      subst this
      go_wp2_with fail
      go_ret
      exact ⟨rfl, rfl⟩
set_option maxHeartbeats 1000000 in
theorem setNumber_any (S : Nat → Prop) (a addr size n : Nat) (b : Nat → UInt8) (w : World) (h : PgIn S w a b) (ha : addr + size ≤ 65536) (hs : size ≤ 8) :
    Calls Tryz.prog 113 #[.pointer (some ⟨a, 0, none⟩), .int .u64 addr, .int .u64 size, .int .u64 n] w fun x w' => x = .returned (.tuple #[]) ∧ ∃ S', PgIn S' w' a (putB b addr n size) ∧ Fr S S' w w' a := by
  replace h := Hid.mk h
  go_enter Tryz.func113, Tryz.ntmps113
  go_wp2_with fail
  go_loopw [10] (fun i wr => ∃ j : Nat, i = .int .u64 j ∧ j ≤ size ∧ ∃ S', PgIn S' wr a (putB b addr n j) ∧ Fr S S' w wr a) (fun i _ => size - (intOf i).toNat)
  case atStart => exact ⟨0, rfl, by omega, S, h.out, Fr.refl S w a⟩
  case round =>
    obtain ⟨j, rfl, hj, S', h1, hf⟩ := hrel
    by_cases hlt : j < size
    · have jl : (j : Int) < size := by omega
      have hk := fun W q => set_any S' a (addr + j) (putB b addr n j) (UInt8.ofNat (n / 2 ^ (8 * j) % 256)) W q (by omega)
      have hnx : putB b addr n (j + 1) = upd (putB b addr n j) (addr + j) (UInt8.ofNat (n / 2 ^ (8 * j) % 256)) := rfl
      have e1 : bv (UInt8.ofNat (n / 2 ^ (8 * j) % 256)) = .int .u8 ((n : Int) / 2 ^ (8 * j) % 256) := by
        have : n / 2 ^ (8 * j) % 256 % 256 = n / 2 ^ (8 * j) % 256 := by omega
        simp [bv, UInt8.toNat_ofNat', this]
      rw [← hnx, e1, Int.natCast_add] at hk
      clear e1
      have m0 : IntKind.u64.wrap ((addr : Int) + j) = ((addr + j : Nat) : Int) := by rw [IntKind.wrap_u64]; omega
      have m1 : IntKind.u64.wrap (8 * (j : Int)) = 8 * j := by rw [IntKind.wrap_u64]; omega
      have m2 : (0 : Int) ≤ 8 * (j : Int) := by omega
      have m3 : (8 * (j : Int)) ≤ 64 := by omega
      generalize hb1 : putB b addr n (j + 1) = b1 at *
      replace hb1 := Hid.mk hb1
      generalize putB b addr n j = b0 at *
      clear hnx
      replace hf := Hid.mk hf
      replace h1 := Hid.mk h1
      go_wp2_with fail
      refine (hk _ h1.out).mono ?_
      rintro x w1 ⟨rfl, S1, h2, hf2⟩
      replace h2 := Hid.mk h2
      replace hf2 := Hid.mk hf2
      go_wp2_with fail
      exact ⟨⟨j + 1, by go_num, by omega, S1, by rw [hb1.out]; exact h2.out, hf.out.trans hf2.out⟩, by simp [intOf]; omega⟩
    · have jl : ¬ (j : Int) < size := by omega
      have : j = size := by omega
      subst this
      replace hf := Hid.mk hf
      replace h1 := Hid.mk h1
      go_wp2_with fail
      go_end0
      exact ⟨rfl, S', h1.out, hf.out⟩
end T
end Go.Proofs.YtijmjmefdedojaaGreat
