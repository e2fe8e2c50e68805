/-
  Stage 2, span: the library's Add64, Sub64, Mul64 and Len64 at this program: the library's contracts, laid by hand.
-/
import Derived.Test.YtodhgmeecphckaaChecked
import Derived.Shelf.Spec.BitsCarry
import Derived.Shelf.Bits.Mul64
import Derived.Shelf.Strconv.Itoa0
namespace Go.Proofs.Ytodhgmeecphckaa
open Go.RowKit Go.Shelf

theorem add64 (x y : Int) (hx : 0 ≤ x) (hy : 0 ≤ y) (w : World) : (callFunc 61 #[.int .u64 x, .int .u64 y, .int .u64 0]).run Try.prog w =
    .ok (.value (.tuple #[.int .u64 ((x + y) % 18446744073709551616), .int .u64 ((x + y) / 18446744073709551616)])) w := by
  rw [run_callFunc_extern Try.func61 (by kernel_rfl) (by kernel_rfl) (by kernel_rfl) (e := add64Entry) (by kernel_rfl), run_add64 x y 0 hx hy (by omega) (by omega)]
  simp [Result.andThen]
/-- What is borrowed. -/
def bor (x y : Int) : Int := if x < y then 1 else 0
theorem sub64 (x y : Int) (hx : 0 ≤ x) (hy : 0 ≤ y) (hy' : y < 18446744073709551616) (w : World) : (callFunc 62 #[.int .u64 x, .int .u64 y, .int .u64 0]).run Try.prog w =
    .ok (.value (.tuple #[.int .u64 ((x - y) % 18446744073709551616), .int .u64 (bor x y)])) w := by
  obtain ⟨x, rfl⟩ := Int.eq_ofNat_of_zero_le hx
  obtain ⟨y, rfl⟩ := Int.eq_ofNat_of_zero_le hy
  have k := run_sub64 (P := Try.prog) x y 0 (by omega) w
  have e1 : (((x + 18446744073709551616 - y - 0) % 18446744073709551616 : Nat) : Int) = ((x : Int) - y) % 18446744073709551616 := by omega
  have e2 : ((if x < y + 0 then 1 else 0 : Nat) : Int) = bor x y := by unfold bor; split <;> split <;> omega
  rw [e1, e2] at k
  rw [run_callFunc_extern Try.func62 (by kernel_rfl) (by kernel_rfl) (by kernel_rfl) (e := sub64Entry) (by kernel_rfl)]
  rw [show (Value.int IntKind.u64 0) = Value.int IntKind.u64 ((0 : Nat) : Int) from rfl, k]
  rfl

/-- The library's numbers at this program. -/
def ren : Ren := ⟨fun n => if n = 129 then 67 else 63, fun n => if n = 3 then 3 else if n = 4 then 4 else if n = 5 then 5 else if n = 9 then 9 else if n = 46 then 72 else 22, fun n => n⟩
theorem lays264 : Lays.n264 Try.prog ren :=
  ⟨by kernel_rfl, by kernel_rfl, by kernel_rfl, fun w => Try.isAgg72 w, fun w => Try.sizeOf72 w, fun w => Try.zeroValue72 w, by kernel_rfl, fun w => Try.isAgg22 w, fun w => Try.sizeOf22 w, fun w => Try.zeroValue22 w⟩
theorem lays129 : Lays.n129 Try.prog ren :=
  ⟨by kernel_rfl, by kernel_rfl,
   by kernel_rfl, fun w => Try.isAgg3 w, fun w => Try.sizeOf3 w, fun w => Try.zeroValue3 w,
   by kernel_rfl, fun w => Try.isAgg4 w, fun w => Try.sizeOf4 w, fun w => Try.zeroValue4 w,
   by kernel_rfl, fun w => Try.isAgg5 w, fun w => Try.sizeOf5 w, fun w => Try.zeroValue5 w,
   by kernel_rfl, fun w => Try.isAgg9 w, fun w => Try.sizeOf9 w, fun w => Try.zeroValue9 w,
   by kernel_rfl, fun w => Try.isAgg72 w, fun w => Try.sizeOf72 w, fun w => Try.zeroValue72 w,
   by kernel_rfl, fun w => Try.isAgg22 w, fun w => Try.sizeOf22 w, fun w => Try.zeroValue22 w⟩

theorem mul64 (x y : Int) (hx : 0 ≤ x ∧ x < 18446744073709551616) (hy : 0 ≤ y ∧ y < 18446744073709551616) (w : World) :
    Calls Try.prog 63 #[.int .u64 x, .int .u64 y] w fun e w' => e = .returned (.tuple #[.int .u64 (x * y / 18446744073709551616), .int .u64 (x * y % 18446744073709551616)]) ∧ w = w' := by
  obtain ⟨x, rfl⟩ := Int.eq_ofNat_of_zero_le hx.1
  obtain ⟨y, rfl⟩ := Int.eq_ofNat_of_zero_le hy.1
  have k := Any.bits_Mul64 lays264 x y (by omega) (by omega) w
  refine Calls.mono k ?_
  rintro e w' ⟨rfl, rfl⟩
  refine ⟨?_, rfl⟩
  rw [Int.natCast_ediv, Int.natCast_emod, Int.natCast_mul]
  rfl
theorem len64 (x : Int) (hx : 0 ≤ x ∧ x < 18446744073709551616) (w : World) :
    Calls Try.prog 67 #[.int .u64 x] w fun e w' => e = .returned (.int .i64 (Lib.bitLen x.toNat)) ∧ w = w' := by
  have k := Any.bits_Len64 lays129 x w hx.1 (by omega)
  refine Calls.mono k ?_
  rintro e w' ⟨rfl, rfl⟩
  exact ⟨rfl, rfl⟩
end Go.Proofs.Ytodhgmeecphckaa
