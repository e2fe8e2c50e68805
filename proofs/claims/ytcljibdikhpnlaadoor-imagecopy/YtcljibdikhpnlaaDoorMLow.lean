import Derived.Test.YtcljibdikhpnlaaDoorP16
import Derived.Test.YtcljibdikhpnlaaDoorP17
/-
  Stage 4, image: the document's bytes: low, small.
-/
namespace Go.Proofs.YtcljibdikhpnlaaDoor
open Go.RowKit

theorem low_bytes {n : Int} (h : 0 ≤ n) : n.tmod 256 = n % 256 ∧ IntKind.u8.wrap (n % 256) = n % 256 ∧ n.tdiv 256 = n / 256 ∧ 0 ≤ n / 256 ∧ byteV (UInt8.ofNat (n % 256).toNat) = .int .u8 (n % 256) :=
  ⟨Int.tmod_eq_emod_of_nonneg h, by rw [IntKind.wrap_u8]; omega, Int.tdiv_eq_ediv_of_nonneg h, by omega, byteV_of _ (by omega) (by omega)⟩
theorem low_wrap {n : Int} (h : W64 n) : IntKind.u64.wrap (n / 256) = n / 256 ∧ W64 (n / 256) := by
  unfold W64 at *
  exact ⟨by rw [IntKind.wrap_u64]; omega, by omega⟩
theorem u64_w (n : Int) : W64 (u64 n) := u64_in n
end Go.Proofs.YtcljibdikhpnlaaDoor
