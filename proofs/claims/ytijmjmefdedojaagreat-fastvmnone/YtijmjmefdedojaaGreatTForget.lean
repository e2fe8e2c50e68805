/-
  Stage 6, tagmem: capabilities in memory: forget.
-/
import Derived.Test.YtijmjmefdedojaaGreatTCapC
namespace Go.Proofs.YtijmjmefdedojaaGreat
namespace T
open Go.RowKit

/-- The granules of so many bytes lose their tags. -/
def offT (t : Nat → Option Cp) (addr e : Nat) : Nat → Option Cp := fun g => if addr < e ∧ addr / 16 ≤ g ∧ g * 16 < e then none else t g
theorem offT_done (t : Nat → Option Cp) (addr e : Nat) (h : ¬ addr < e) : offT t addr e = t := by
  funext g; simp [offT, h]
theorem offT_step (t : Nat → Option Cp) (addr e : Nat) (h : addr < e) : offT t addr e = offT (updT t (addr / 16) none) (addr + (16 - addr % 16)) e := by
  funext g
  unfold offT updT
  by_cases h1 : addr / 16 ≤ g ∧ g * 16 < e
  · rw [if_pos ⟨h, h1⟩]
    by_cases h2 : g = addr / 16
    · rw [if_pos h2]; split <;> rfl
    · rw [if_pos]; omega
  · rw [if_neg (by omega), if_neg (by omega), if_neg (by omega)]
theorem updT_none (t : Nat → Option Cp) (g : Nat) (h : t g = none) : updT t g none = t := by
  funext x; unfold updT; split
  · subst_vars; exact h.symm
  · rfl
end T
end Go.Proofs.YtijmjmefdedojaaGreat
