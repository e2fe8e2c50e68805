import Derived.Test.YtimiofkiadlnbaaP05
/-
  Stage 6, tagmem: capabilities in memory: hold, forget.
-/
namespace Go.Proofs.Ytimiofkiadlnbaa
namespace T
open Go.RowKit

theorem Gf.below {S : Nat → Prop} {w w' : World} {a : Nat} (h : Below w.heap.size w w') (ha : a < w.heap.size) : Gf S S w w' a :=
  ⟨fun _ q => q, fun _ q => .inl q, Kp.of_below h, fun o _ => ⟨h.cell (p := ⟨a, o, none⟩) ha, h.frozen (p := ⟨a, o, none⟩) ha⟩⟩
theorem Fr.below {S : Nat → Prop} {w w' : World} {a : Nat} (h : Below w.heap.size w w') (ha : a < w.heap.size) : Fr S S w w' a :=
  ⟨fun _ q => q, fun _ q => .inl q, Kp.of_below h, fun o _ => ⟨h.cell (p := ⟨a, o, none⟩) ha, h.frozen (p := ⟨a, o, none⟩) ha⟩⟩
/-- Ahead of the store of a capability: its page is there. -/
structure Rdy (S : Nat → Prop) (w W : World) (a i n : Nat) (c : Cp) (t : Nat → Option Cp) (k : Nat) : Prop where
  go : ∃ S' cg, Cg S' W a cg t ∧ cg i = some k ∧ Gf S S' w W a
  five : At W n #[.int .u64 c.b, .int .u64 c.e, .int .u64 c.c, .int .u8 c.p, .int .i64 c.s]
theorem Rdy.drew {S : Nat → Prop} {w W : World} {a i n : Nat} {c : Cp} {t : Nat → Option Cp} {k : Nat} (h : Rdy S w W a i n c t k) : Rdy S w W.drew a i n c t k := by
  obtain ⟨⟨S', cg, g1, g2, g3⟩, g4⟩ := h
  exact ⟨⟨S', cg, g1.gr (Below.drew (Below.refl _ _)), g2, g3.trans (Gf.below (Below.drew (Below.refl _ _)) g1.lt)⟩, g4.drew⟩
end T
end Go.Proofs.Ytimiofkiadlnbaa


/-
  Stage 6, tagmem: capabilities in memory: forget.
-/
namespace Go.Proofs.Ytimiofkiadlnbaa
namespace T
open Go.RowKit

/-- The granules of so many bytes lose their tags. -/
def offT (t : Nat → Option Cp) (addr e : Nat) : Nat → Option Cp := fun g => if addr < e ∧ addr / 16 ≤ g ∧ g * 16 < e then none else t g
theorem offT_done (t : Nat → Option Cp) (addr e : Nat) (h : ¬ addr < e) : offT t addr e = t := by
  funext g; simp [offT, h]
theorem offT_step (t : Nat → Option Cp) (addr e : Nat) (h : addr < e) : offT t addr e = offT (updT t (addr / 16) none) (addr + (16 - addr % 16)) e := by
  funext g
  unfold offT updT
  by_cases h1 : addr / 16 ≤ g ∧ g * 16 < e
  · rw [if_pos ⟨h, h1⟩]
    by_cases h2 : g = addr / 16
    · rw [if_pos h2]; split <;> rfl
    · rw [if_pos]; omega
  · rw [if_neg (by omega), if_neg (by omega), if_neg (by omega)]
theorem updT_none (t : Nat → Option Cp) (g : Nat) (h : t g = none) : updT t g none = t := by
  funext x; unfold updT; split
  · subst_vars; exact h.symm
  · rfl
end T
end Go.Proofs.Ytimiofkiadlnbaa
