import Derived.Test.YtcljibdikhpnlaaDoorMLow
import Derived.Test.YtcljibdikhpnlaaDoorP09
import Derived.Deep.RegionHeld3
import Derived.BigFrame
/-
  Stage 4, image: the document's bytes: typed, capped.
-/
namespace Go.Proofs.YtcljibdikhpnlaaDoor
open Go.RowKit

theorem At.underB {w w1 : World} {B k : Nat} {cs : Array Value} (h : At w k cs) (hb : Below B w w1) (hk : k < B) : At w1 k cs :=
  ⟨Nat.lt_of_lt_of_le h.1 hb.size, fun i => by rw [World.cell?_of_block (a := ⟨k, i, none⟩) (hb.block k hk)]; exact h.2.1 i, fun i => by rw [World.frozen?_of_block (a := ⟨k, i, none⟩) (hb.block k hk)]; exact h.2.2 i⟩
theorem cat_of (a b : List UInt8) (n m k : Nat) (ha : (str a).size = n) (hb : (str b).size = m) (hk : n + m = k) : ∃ c, a ++ b = c ∧ str a ++ str b = str c ∧ (str c).size = k := by
  refine ⟨a ++ b, rfl, ?_, ?_⟩
  · apply ByteArray.ext
    simp [str]
  · rw [str_size] at *
    rw [List.length_append, ha, hb, hk]
end Go.Proofs.YtcljibdikhpnlaaDoor
