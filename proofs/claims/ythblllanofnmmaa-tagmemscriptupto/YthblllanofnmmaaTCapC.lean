import Derived.Test.YthblllanofnmmaaP04
/-
  Stage 6, tagmem: capabilities in memory: hold, forget.
-/
namespace Go.Proofs.Ythblllanofnmmaa
namespace T
open Go.RowKit

theorem Gf.below {S : Nat → Prop} {w w' : World} {a : Nat} (h : Below w.heap.size w w') (ha : a < w.heap.size) : Gf S S w w' a :=
  ⟨fun _ q => q, fun _ q => .inl q, Kp.of_below h, fun o _ => ⟨h.cell (p := ⟨a, o, none⟩) ha, h.frozen (p := ⟨a, o, none⟩) ha⟩⟩
theorem Fr.below {S : Nat → Prop} {w w' : World} {a : Nat} (h : Below w.heap.size w w') (ha : a < w.heap.size) : Fr S S w w' a :=
  ⟨fun _ q => q, fun _ q => .inl q, Kp.of_below h, fun o _ => ⟨h.cell (p := ⟨a, o, none⟩) ha, h.frozen (p := ⟨a, o, none⟩) ha⟩⟩
/-- Ahead of the store of a capability: its page is there. -/
structure Rdy (S : Nat → Prop) (w W : World) (a i n : Nat) (c : Cp) (t : Nat → Option Cp) (k : Nat) : Prop where
  go : ∃ S' cg, Cg S' W a cg t ∧ cg i = some k ∧ Gf S S' w W a
  five : At W n #[.int .u64 c.b, .int .u64 c.e, .int .u64 c.c, .int .u8 c.p, .int .i64 c.s]
theorem Rdy.drew {S : Nat → Prop} {w W : World} {a i n : Nat} {c : Cp} {t : Nat → Option Cp} {k : Nat} (h : Rdy S w W a i n c t k) : Rdy S w W.drew a i n c t k := by
  obtain ⟨⟨S', cg, g1, g2, g3⟩, g4⟩ := h
  exact ⟨⟨S', cg, g1.gr (Below.drew (Below.refl _ _)), g2, g3.trans (Gf.below (Below.drew (Below.refl _ _)) g1.lt)⟩, g4.drew⟩
set_option maxHeartbeats 1000000 in
theorem hold_any (S : Nat → Prop) (a addr : Nat) (t : Nat → Option Cp) (c : Cp) (w : World) (h : CgIn S w a t) (ha : addr < 65536) :
    Calls Try.prog 33 #[.pointer (some ⟨a, 64, none⟩), .int .u64 addr, c.agg] w fun x w' => x = .returned (.tuple #[]) ∧ ∃ S', CgIn S' w' a (updT t (addr / 16) (some c)) ∧ Gf S S' w w' a := by
  obtain ⟨cg, h⟩ := h
  have h1 := (h.box (addr / 1024) (by omega)).1
  have f1 := (h.box (addr / 1024) (by omega)).2
  have hlt := h.lt
  have fin : ∀ k W, Rdy S w W a (addr / 1024) w.heap.size c t k → ∃ S', CgIn S' (set6 W k (addr % 1024 / 16 * 6) (some c)).drew a (updT t (addr / 16) (some c)) ∧ Gf S S' w (set6 W k (addr % 1024 / 16 * 6) (some c)).drew a := by
    rintro k W ⟨⟨S', cg', g1, g2, g3⟩, g4⟩
    have q1 := g1.put addr k (some c) ha g2
    exact ⟨S', ⟨cg', q1.gr (Below.drew (Below.refl _ _))⟩, (g3.trans (g1.put_gf addr k _ (some c) ha g2)).trans (Gf.below (Below.drew (Below.refl _ _)) q1.lt)⟩
  have hA : ∀ k W, Rdy S w W a (addr / 1024) w.heap.size c t k → Calls Try.prog 45 #[.pointer (some ⟨a, 64, none⟩), .int .u64 addr] W fun x w' => x = .returned (.pointer (some ⟨k, addr % 1024 / 16 * 6, none⟩)) ∧ w' = W := by
    rintro k W ⟨⟨S', cg', g1, g2, g3⟩, g4⟩
    exact at_some S' a addr k cg' t W g1 ha g2
  have hC : ∀ k W, Rdy S w W a (addr / 1024) w.heap.size c t k → (W.cell? ⟨w.heap.size, 0, none⟩ = some (.int .u64 c.b) ∧ W.cell? ⟨w.heap.size, 1, none⟩ = some (.int .u64 c.e) ∧ W.cell? ⟨w.heap.size, 2, none⟩ = some (.int .u64 c.c) ∧ W.cell? ⟨w.heap.size, 3, none⟩ = some (.int .u8 c.p) ∧ W.cell? ⟨w.heap.size, 4, none⟩ = some (.int .i64 c.s)) ∧ (∃ p, Six W k (addr % 1024 / 16 * 6) p) ∧ ∀ o, W.frozen? ⟨k, o, none⟩ = false := by
    rintro k W ⟨⟨S', cg', g1, g2, g3⟩, g4⟩
    have hp := g1.page _ k (by omega) g2
    exact ⟨⟨g4.2.1 0, g4.2.1 1, g4.2.1 2, g4.2.1 3, g4.2.1 4⟩, ⟨_, hp.2.2.1 (addr % 1024 / 16) (by omega)⟩, hp.2.2.2⟩
  cases e : cg (addr / 1024) with
  | none =>
    have r : Rdy S w (((w.setCell ⟨a, 64 + addr / 1024, none⟩ (.pointer (some ⟨w.heap.size + 1, 0, none⟩))).alloc (.cells #[.int .u64 c.b, .int .u64 c.e, .int .u64 c.c, .int .u8 c.p, .int .i64 c.s] 45)).alloc (.cells capZero 108)) a (addr / 1024) w.heap.size c t (w.heap.size + 1) := by
      have hB : Below w.heap.size w (w.alloc (.cells #[.int .u64 c.b, .int .u64 c.e, .int .u64 c.c, .int .u8 c.p, .int .i64 c.s] 45)) := (Below.refl _ w).alloc (Nat.le_refl _) _
      have g := h.gr hB
      have g1 := g.lay (addr / 1024) 108 (by omega) e
      have g2 := g.lay_gf (addr / 1024) (.cells capZero 108) (.pointer (some ⟨w.heap.size + 1, 0, none⟩))
      rw [World.size_alloc, World.setCell_alloc_past _ _ _ _ hlt] at g1
      rw [World.size_alloc, World.setCell_alloc_past _ _ _ _ hlt] at g2
      refine ⟨⟨_, _, g1, by simp, (Gf.below hB hlt).trans g2⟩, ?_⟩
      exact (At.at_ _ _ _ (by simp)).alloc _
    rw [e] at h1
    simp only [ptr, Option.map_none] at h1
    have pz := capPage_zero
    replace h := Hid.mk h
    replace fin := Hid.mk fin
    replace r := Hid.mk r
    unfold Cp.agg
    go_enter Try.func33, Try.ntmps33
    go_wp2_with fail
    refine wp_world (fun W => Hid (Rdy S w W a (addr / 1024) w.heap.size c t (w.heap.size + 1))) r ?_
    intro W r'
    obtain ⟨⟨d0, d1, d2, d3, d4⟩, ⟨p, q0, q1, q2, q3, q4, q5⟩, q6⟩ := hC _ W r'.out
    have hA' := hA _ W.drew r'.out.drew
    clear hA hC pz h1 f1
    go_region_with (refine hA'.mono ?_; rintro x w1 ⟨rfl, rfl⟩)
    all_goals
      go_wp2_with fail
      go_end0
      exact ⟨rfl, fin.out _ _ r'.out⟩
  | some k =>
    have hB : Below w.heap.size w (w.alloc (.cells #[.int .u64 c.b, .int .u64 c.e, .int .u64 c.c, .int .u8 c.p, .int .i64 c.s] 45)) := (Below.refl _ w).alloc (Nat.le_refl _) _
    have r : Rdy S w (w.alloc (.cells #[.int .u64 c.b, .int .u64 c.e, .int .u64 c.c, .int .u8 c.p, .int .i64 c.s] 45)) a (addr / 1024) w.heap.size c t k := ⟨⟨S, cg, h.gr hB, e, Gf.below hB hlt⟩, At.new w _ _⟩
    rw [e] at h1
    simp only [ptr, Option.map_some] at h1
    replace h := Hid.mk h
    replace fin := Hid.mk fin
    replace r := Hid.mk r
    unfold Cp.agg
    go_enter Try.func33, Try.ntmps33
    go_wp2_with fail
    refine wp_world (fun W => Hid (Rdy S w W a (addr / 1024) w.heap.size c t k)) r ?_
    intro W r'
    obtain ⟨⟨d0, d1, d2, d3, d4⟩, ⟨p, q0, q1, q2, q3, q4, q5⟩, q6⟩ := hC _ W r'.out
    have hA' := hA _ W.drew r'.out.drew
    clear hA hC h1 f1
    go_region_with (refine hA'.mono ?_; rintro x w1 ⟨rfl, rfl⟩)
    all_goals
      go_wp2_with fail
      go_end0
      exact ⟨rfl, fin.out _ _ r'.out⟩
end T
end Go.Proofs.Ythblllanofnmmaa
