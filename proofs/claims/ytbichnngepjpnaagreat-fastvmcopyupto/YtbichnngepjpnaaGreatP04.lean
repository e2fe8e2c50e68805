import Derived.Test.YtbichnngepjpnaaGreatP03
/-
  Stage 6, tagmem: capabilities in memory: one place read and written.
-/
namespace Go.Proofs.YtbichnngepjpnaaGreat
namespace T
open Go.RowKit

/-- One place more. -/
def updT (t : Nat → Option Cp) (g : Nat) (p : Option Cp) : Nat → Option Cp := fun x => if x = g then p else t x
/-- A place is written. -/
def set6 (w : World) (k o : Nat) (p : Option Cp) : World :=
  (((((w.setCell ⟨k, o, none⟩ (.bool (plTag p))).setCell ⟨k, o + 1, none⟩ (.int .u64 (plCap p).b)).setCell ⟨k, o + 1 + 1, none⟩ (.int .u64 (plCap p).e)).setCell ⟨k, o + 1 + 1 + 1, none⟩ (.int .u64 (plCap p).c)).setCell ⟨k, o + 1 + 1 + 1 + 1, none⟩ (.int .u8 (plCap p).p)).setCell ⟨k, o + 1 + 1 + 1 + 1 + 1, none⟩ (.int .i64 (plCap p).s)
theorem set6_size (w : World) (k o : Nat) (p : Option Cp) : (set6 w k o p).heap.size = w.heap.size := by simp [set6]
theorem set6_other (w : World) (k o k' o' : Nat) (p : Option Cp) (h : k = k' → o' < o ∨ o + 6 ≤ o') : (set6 w k o p).cell? ⟨k', o', none⟩ = w.cell? ⟨k', o', none⟩ := by
  unfold set6
  rw [cso (fun q => by have := h q; omega), cso (fun q => by have := h q; omega), cso (fun q => by have := h q; omega), cso (fun q => by have := h q; omega), cso (fun q => by have := h q; omega), cso (fun q => by have := h q; omega)]
theorem set6_frozen (w : World) (k o k' o' : Nat) (p : Option Cp) : (set6 w k o p).frozen? ⟨k', o', none⟩ = w.frozen? ⟨k', o', none⟩ := by simp [set6]
theorem css {w : World} {k o : Nat} {v u : Value} (h : w.cell? ⟨k, o, none⟩ = some u) : (w.setCell ⟨k, o, none⟩ v).cell? ⟨k, o, none⟩ = some v := World.cell?_setCell_same w _ v h
theorem set6_six {w : World} {k o : Nat} {q : Option Cp} (h : Six w k o q) (p : Option Cp) : Six (set6 w k o p) k o p := by
  obtain ⟨c0, c1, c2, c3, c4, c5⟩ := h
  unfold set6
  refine ⟨?_, ?_, ?_, ?_, ?_, ?_⟩
  · rw [cso (fun _ => by omega), cso (fun _ => by omega), cso (fun _ => by omega), cso (fun _ => by omega), cso (fun _ => by omega), css c0]
  · rw [cso (fun _ => by omega), cso (fun _ => by omega), cso (fun _ => by omega), cso (fun _ => by omega), css ((cso (fun _ => by omega)).trans c1)]
  · rw [cso (fun _ => by omega), cso (fun _ => by omega), cso (fun _ => by omega), css ((cso (fun _ => by omega)).trans ((cso (fun _ => by omega)).trans c2))]
  · rw [cso (fun _ => by omega), cso (fun _ => by omega), css ((cso (fun _ => by omega)).trans ((cso (fun _ => by omega)).trans ((cso (fun _ => by omega)).trans c3)))]
  · rw [cso (fun _ => by omega), css ((cso (fun _ => by omega)).trans ((cso (fun _ => by omega)).trans ((cso (fun _ => by omega)).trans ((cso (fun _ => by omega)).trans c4))))]
  · rw [css ((cso (fun _ => by omega)).trans ((cso (fun _ => by omega)).trans ((cso (fun _ => by omega)).trans ((cso (fun _ => by omega)).trans ((cso (fun _ => by omega)).trans c5)))))]
theorem set6_kp (S : Nat → Prop) (w : World) (k o : Nat) (p : Option Cp) (h : S k) : Kp S w (set6 w k o p) := by
  unfold set6
  exact (((((Kp.set w ⟨k, _, none⟩ _ h).trans (Kp.set _ ⟨k, _, none⟩ _ h) (fun _ q => .inl q)).trans (Kp.set _ ⟨k, _, none⟩ _ h) (fun _ q => .inl q)).trans (Kp.set _ ⟨k, _, none⟩ _ h) (fun _ q => .inl q)).trans (Kp.set _ ⟨k, _, none⟩ _ h) (fun _ q => .inl q)).trans (Kp.set _ ⟨k, _, none⟩ _ h) (fun _ q => .inl q)
theorem Cg.put {S : Nat → Prop} {w : World} {a : Nat} {cg : Nat → Option Nat} {t : Nat → Option Cp} (h : Cg S w a cg t) (addr k : Nat) (p : Option Cp) (ha : addr < 65536) (e : cg (addr / 1024) = some k) :
    Cg S (set6 w k (addr % 1024 / 16 * 6) p) a cg (updT t (addr / 16) p) := by
  have hp := h.page _ k (by omega) e
  have hka : k ≠ a := fun q => h.no (q ▸ hp.1)
  refine ⟨by rw [set6_size]; exact h.lt, h.no, fun k' q => by rw [set6_size]; exact h.own k' q, fun i hi => ⟨?_, ?_⟩, fun i k' hi he => ?_, fun i hi he j hj => ?_, h.inj⟩
  · rw [set6_other _ _ _ _ _ _ (fun q => absurd q hka)]; exact (h.box i hi).1
  · rw [set6_frozen]; exact (h.box i hi).2
  · obtain ⟨g1, g2, g3, g4⟩ := h.page i k' hi he
    refine ⟨g1, by rw [set6_size]; exact g2, fun j hj => ?_, fun o => by rw [set6_frozen]; exact g4 o⟩
    by_cases hq : k = k' ∧ addr % 1024 / 16 = j
    · obtain ⟨rfl, rfl⟩ := hq
      have hi' : i = addr / 1024 := h.inj i (addr / 1024) k hi (by omega) he e
      have : i * 64 + addr % 1024 / 16 = addr / 16 := by omega
      simp only [updT, this, if_true]
      exact set6_six (g3 _ hj) p
    · have hne : i * 64 + j ≠ addr / 16 := by
        intro q
        have e1 : i = addr / 1024 := by omega
        subst e1
        rw [e] at he
        exact hq ⟨by simpa using he, by omega⟩
      simp only [updT, hne, if_false]
      have g := g3 j hj
      have hh : ∀ r, r < 6 → k = k' → j * 6 + r < addr % 1024 / 16 * 6 ∨ addr % 1024 / 16 * 6 + 6 ≤ j * 6 + r := fun r hr q => by
        have : addr % 1024 / 16 ≠ j := fun e2 => hq ⟨q, e2⟩
        omega
      refine ⟨?_, ?_, ?_, ?_, ?_, ?_⟩
      · rw [set6_other _ _ _ _ _ _ (fun q => by have := hh 0 (by omega) q; omega)]; exact g.1
      · rw [set6_other _ _ _ _ _ _ (hh 1 (by omega))]; exact g.2.1
      · rw [set6_other _ _ _ _ _ _ (hh 2 (by omega))]; exact g.2.2.1
      · rw [set6_other _ _ _ _ _ _ (hh 3 (by omega))]; exact g.2.2.2.1
      · rw [set6_other _ _ _ _ _ _ (hh 4 (by omega))]; exact g.2.2.2.2.1
      · rw [set6_other _ _ _ _ _ _ (hh 5 (by omega))]; exact g.2.2.2.2.2
  · have hne : i * 64 + j ≠ addr / 16 := by
      intro q
      have e1 : i = addr / 1024 := by omega
      subst e1
      rw [e] at he
      simp at he
    simp only [updT, hne, if_false]
    exact h.zero i hi he j hj
theorem Cg.put_gf {S : Nat → Prop} {w : World} {a : Nat} {cg : Nat → Option Nat} {t : Nat → Option Cp} (h : Cg S w a cg t) (addr k o : Nat) (p : Option Cp) (ha : addr < 65536) (e : cg (addr / 1024) = some k) :
    Gf S S w (set6 w k o p) a := by
  have hp := h.page _ k (by omega) e
  have hka : k ≠ a := fun q => h.no (q ▸ hp.1)
  exact ⟨fun _ q => q, fun _ q => .inl q, set6_kp _ w _ _ _ (.inr hp.1), fun o' _ => ⟨set6_other _ _ _ _ _ _ (fun q => absurd q hka), set6_frozen _ _ _ _ _ _⟩⟩
def zc (r : Nat) : Value := if r = 0 then .bool false else if r = 4 then .int .u8 0 else if r = 5 then .int .i64 0 else .int .u64 0
def capZero : Array Value := ((List.range 384).map fun i => zc (i % 6)).toArray
theorem capZero_at (i : Nat) (h : i < 384) : capZero[i]? = some (zc (i % 6)) := by
  simp [capZero, h]
/-- A page of places is laid. -/
theorem Cg.lay {S : Nat → Prop} {w : World} {a : Nat} {cg : Nat → Option Nat} {t : Nat → Option Cp} (h : Cg S w a cg t) (i0 : Nat) (ty : TypeId) (hi0 : i0 < 64) (e : cg i0 = none) :
    Cg (fun k => S k ∨ k = w.heap.size) ((w.setCell ⟨a, 64 + i0, none⟩ (.pointer (some ⟨w.heap.size, 0, none⟩))).alloc (.cells capZero ty)) a (fun i => if i = i0 then some w.heap.size else cg i) t := by
  have hlt := h.lt
  have hB := (Below.refl _ (w.setCell ⟨a, 64 + i0, none⟩ (.pointer (some ⟨w.heap.size, 0, none⟩)))).alloc (Nat.le_refl _) (.cells capZero ty)
  have sz : (w.setCell ⟨a, 64 + i0, none⟩ (.pointer (some ⟨w.heap.size, 0, none⟩))).heap.size = w.heap.size := by simp
  rw [sz] at hB
  have hat := At.at_ (w.setCell ⟨a, 64 + i0, none⟩ (.pointer (some ⟨w.heap.size, 0, none⟩))) capZero ty sz
  refine ⟨by simp; omega, fun q => ?_, fun k q => ?_, fun i hi => ⟨?_, ?_⟩, fun i k hi he => ?_, fun i hi he j hj => ?_, fun i j k hi hj e1 e2 => ?_⟩
  · rcases q with q | q
    · exact h.no q
    · omega
  · rcases q with q | q
    · have := h.own k q; simp; omega
    · subst q; simp
  · rw [hB.cell (p := ⟨a, 64 + i, none⟩) hlt]
    by_cases hq : i = i0
    · subst hq
      rw [css (h.box i hi).1]
      simp [ptr]
    · rw [cso (fun _ => by omega), (h.box i hi).1]
      simp [hq]
  · rw [hB.frozen (p := ⟨a, 64 + i, none⟩) hlt]
    simpa using (h.box i hi).2
  · by_cases hq : i = i0
    · subst hq
      simp at he
      subst he
      refine ⟨.inr rfl, by simp, fun j hj => ?_, fun o => hat.2.2 o⟩
      rw [h.zero i hi e j hj]
      have hh : ∀ r, r < 6 → ((w.setCell ⟨a, 64 + i, none⟩ (.pointer (some ⟨w.heap.size, 0, none⟩))).alloc (.cells capZero ty)).cell? ⟨w.heap.size, j * 6 + r, none⟩ = some (zc r) := fun r hr => by
        rw [hat.2.1, capZero_at _ (by omega), show (j * 6 + r) % 6 = r by omega]
      exact ⟨hh 0 (by omega), hh 1 (by omega), hh 2 (by omega), hh 3 (by omega), hh 4 (by omega), hh 5 (by omega)⟩
    · simp only [hq, if_false] at he
      obtain ⟨g1, g2, g3, g4⟩ := h.page i k hi he
      have hka : a ≠ k := fun q => h.no (q ▸ g1)
      have hbk : ((w.setCell ⟨a, 64 + i0, none⟩ (.pointer (some ⟨w.heap.size, 0, none⟩))).alloc (.cells capZero ty)).heap[k]? = w.heap[k]? := (hB.block k g2).trans (heap_set w ⟨a, 64 + i0, none⟩ _ k hka)
      exact ⟨.inl g1, by simp; omega, fun j hj => (g3 j hj).of_block hbk, fun o => (frozen_of_block hbk o).trans (g4 o)⟩
  · by_cases hq : i = i0
    · subst hq; simp at he
    · simp only [hq, if_false] at he
      exact h.zero i hi he j hj
  · by_cases q1 : i = i0 <;> by_cases q2 : j = i0
    · omega
    · simp only [q1, q2, if_true, if_false] at e1 e2
      have := (h.page j k hj e2).2.1
      simp at e1; omega
    · simp only [q1, q2, if_true, if_false] at e1 e2
      have := (h.page i k hi e1).2.1
      simp at e2; omega
    · simp only [q1, q2, if_false] at e1 e2
      exact h.inj i j k hi hj e1 e2
theorem Cg.lay_gf {S : Nat → Prop} {w : World} {a : Nat} {cg : Nat → Option Nat} {t : Nat → Option Cp} (h : Cg S w a cg t) (i0 : Nat) (o : Obj) (v : Value) :
    Gf S (fun k => S k ∨ k = w.heap.size) w ((w.setCell ⟨a, 64 + i0, none⟩ v).alloc o) a := by
  have hlt := h.lt
  have sz : (w.setCell ⟨a, 64 + i0, none⟩ v).heap.size = w.heap.size := by simp
  have hB := (Below.refl _ (w.setCell ⟨a, 64 + i0, none⟩ v)).alloc (Nat.le_refl _) o
  rw [sz] at hB
  refine ⟨fun _ q => .inl q, fun k q => ?_, (Kp.set w ⟨a, 64 + i0, none⟩ v (.inl rfl)).trans (Kp.alloc (fun k => k = a ∨ S k) _ o) (fun k q => .inl q), fun x hx => ⟨?_, ?_⟩⟩
  · rcases q with q | q
    · exact .inl q
    · exact .inr (by omega)
  · rw [hB.cell (p := ⟨a, x, none⟩) hlt, cso (fun _ => by omega)]
  · rw [hB.frozen (p := ⟨a, x, none⟩) hlt]; simp
end T
end Go.Proofs.YtbichnngepjpnaaGreat


/-
  Stage 6, tagmem: capabilities in memory: hold, forget.
-/
namespace Go.Proofs.YtbichnngepjpnaaGreat
namespace T
open Go.RowKit

theorem Gf.below {S : Nat → Prop} {w w' : World} {a : Nat} (h : Below w.heap.size w w') (ha : a < w.heap.size) : Gf S S w w' a :=
  ⟨fun _ q => q, fun _ q => .inl q, Kp.of_below h, fun o _ => ⟨h.cell (p := ⟨a, o, none⟩) ha, h.frozen (p := ⟨a, o, none⟩) ha⟩⟩
theorem Fr.below {S : Nat → Prop} {w w' : World} {a : Nat} (h : Below w.heap.size w w') (ha : a < w.heap.size) : Fr S S w w' a :=
  ⟨fun _ q => q, fun _ q => .inl q, Kp.of_below h, fun o _ => ⟨h.cell (p := ⟨a, o, none⟩) ha, h.frozen (p := ⟨a, o, none⟩) ha⟩⟩
/-- Ahead of the store of a capability: its page is there. -/
structure Rdy (S : Nat → Prop) (w W : World) (a i n : Nat) (c : Cp) (t : Nat → Option Cp) (k : Nat) : Prop where
  go : ∃ S' cg, Cg S' W a cg t ∧ cg i = some k ∧ Gf S S' w W a
  five : At W n #[.int .u64 c.b, .int .u64 c.e, .int .u64 c.c, .int .u8 c.p, .int .i64 c.s]
theorem Rdy.drew {S : Nat → Prop} {w W : World} {a i n : Nat} {c : Cp} {t : Nat → Option Cp} {k : Nat} (h : Rdy S w W a i n c t k) : Rdy S w W.drew a i n c t k := by
  obtain ⟨⟨S', cg, g1, g2, g3⟩, g4⟩ := h
  exact ⟨⟨S', cg, g1.gr (Below.drew (Below.refl _ _)), g2, g3.trans (Gf.below (Below.drew (Below.refl _ _)) g1.lt)⟩, g4.drew⟩
end T
end Go.Proofs.YtbichnngepjpnaaGreat


/-
  Stage 6, tagmem: capabilities in memory: forget.
-/
namespace Go.Proofs.YtbichnngepjpnaaGreat
namespace T
open Go.RowKit

/-- The granules of so many bytes lose their tags. -/
def offT (t : Nat → Option Cp) (addr e : Nat) : Nat → Option Cp := fun g => if addr < e ∧ addr / 16 ≤ g ∧ g * 16 < e then none else t g
theorem offT_done (t : Nat → Option Cp) (addr e : Nat) (h : ¬ addr < e) : offT t addr e = t := by
  funext g; simp [offT, h]
theorem offT_step (t : Nat → Option Cp) (addr e : Nat) (h : addr < e) : offT t addr e = offT (updT t (addr / 16) none) (addr + (16 - addr % 16)) e := by
  funext g
  unfold offT updT
  by_cases h1 : addr / 16 ≤ g ∧ g * 16 < e
  · rw [if_pos ⟨h, h1⟩]
    by_cases h2 : g = addr / 16
    · rw [if_pos h2]; split <;> rfl
    · rw [if_pos]; omega
  · rw [if_neg (by omega), if_neg (by omega), if_neg (by omega)]
theorem updT_none (t : Nat → Option Cp) (g : Nat) (h : t g = none) : updT t g none = t := by
  funext x; unfold updT; split
  · subst_vars; exact h.symm
  · rfl
end T
end Go.Proofs.YtbichnngepjpnaaGreat
