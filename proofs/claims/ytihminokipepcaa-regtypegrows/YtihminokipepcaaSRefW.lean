/-
  Stage 2, span: the document's own Widen.
-/
import Derived.Test.YtihminokipepcaaSRefJ
namespace Go.Proofs.Ytihminokipepcaa
open Go.RowKit

theorem w_e (a b c d : Int) (e : b < a ∨ d < c) : wLo a b c d = jLo a b c d ∧ wHi a b c d = jHi a b c d := by
  unfold wLo wHi jLo jHi widLo widHi; rw [if_pos e, if_pos e]; exact ⟨rfl, rfl⟩
theorem w_ne (a b c d : Int) (ha : W64 a) (hb : W64 b) (hc : W64 c) (hd : W64 d) (h2 : a ≤ b) (h3 : c ≤ d) : wLo a b c d = (if jLo a b c d = a then a else 0) ∧ wHi a b c d = (if jHi a b c d = b then b else 18446744073709551615) := by
  obtain ⟨a0, a1⟩ := ha; obtain ⟨b0, b1⟩ := hb; obtain ⟨c0, c1⟩ := hc; obtain ⟨d0, d1⟩ := hd
  have e : ¬ (b < a ∨ d < c) := by omega
  have j1 : joinLo a b c d = minI a c := by unfold joinLo minI; (repeat' split) <;> omega
  have j2 : joinHi a b c d = maxI b d := by unfold joinHi maxI; (repeat' split) <;> omega
  unfold wLo wHi jLo jHi widLo widHi
  rw [if_neg e, if_neg e, j1, j2]
  have m1 : minI a c ≤ a := by unfold minI; split <;> omega
  have m2 : b ≤ maxI b d := by unfold maxI; split <;> omega
  have m3 : maxI b d < 18446744073709551616 := by unfold maxI; split <;> omega
  have m4 : 0 ≤ minI a c := by unfold minI; split <;> omega
  generalize minI a c = p at *
  generalize maxI b d = q at *
  unfold tLo tHi
  constructor <;> (repeat' split) <;> omega
end Go.Proofs.Ytihminokipepcaa
