/-
  Stage 6, tagmem: capabilities in memory: hold, forget.
-/
import Derived.Test.YtijmjmefdedojaaGreatTCapB
namespace Go.Proofs.YtijmjmefdedojaaGreat
namespace T
open Go.RowKit

theorem Gf.below {S : Nat → Prop} {w w' : World} {a : Nat} (h : Below w.heap.size w w') (ha : a < w.heap.size) : Gf S S w w' a :=
  ⟨fun _ q => q, fun _ q => .inl q, Kp.of_below h, fun o _ => ⟨h.cell (p := ⟨a, o, none⟩) ha, h.frozen (p := ⟨a, o, none⟩) ha⟩⟩
theorem Fr.below {S : Nat → Prop} {w w' : World} {a : Nat} (h : Below w.heap.size w w') (ha : a < w.heap.size) : Fr S S w w' a :=
  ⟨fun _ q => q, fun _ q => .inl q, Kp.of_below h, fun o _ => ⟨h.cell (p := ⟨a, o, none⟩) ha, h.frozen (p := ⟨a, o, none⟩) ha⟩⟩
/-- Ahead of the store of a capability: its page is there. -/
structure Rdy (S : Nat → Prop) (w W : World) (a i n : Nat) (c : Cp) (t : Nat → Option Cp) (k : Nat) : Prop where
  go : ∃ S' cg, Cg S' W a cg t ∧ cg i = some k ∧ Gf S S' w W a
  five : At W n #[.int .u64 c.b, .int .u64 c.e, .int .u64 c.c, .int .u8 c.p, .int .i64 c.s]
theorem Rdy.drew {S : Nat → Prop} {w W : World} {a i n : Nat} {c : Cp} {t : Nat → Option Cp} {k : Nat} (h : Rdy S w W a i n c t k) : Rdy S w W.drew a i n c t k := by
  obtain ⟨⟨S', cg, g1, g2, g3⟩, g4⟩ := h
  exact ⟨⟨S', cg, g1.gr (Below.drew (Below.refl _ _)), g2, g3.trans (Gf.below (Below.drew (Below.refl _ _)) g1.lt)⟩, g4.drew⟩
end T
end Go.Proofs.YtijmjmefdedojaaGreat
