/-
  Stage 6, tagmem: one byte of pages.
-/
import Derived.Test.YtijmjmefdedojaaGreatTBase
namespace Go.Proofs.YtijmjmefdedojaaGreat
namespace T
open Go.RowKit

set_option maxHeartbeats 1000000 in
theorem get_any (S : Nat → Prop) (a addr : Nat) (b : Nat → UInt8) (w : World) (h : PgIn S w a b) (ha : addr < 65536) :
    Calls Tryz.prog 114 #[.pointer (some ⟨a, 0, none⟩), .int .u64 addr] w fun x w' => x = .returned (bv (b addr)) ∧ w' = w := by
  obtain ⟨pg, h⟩ := h
  have h1 := (h.box (addr / 1024) (by omega)).1
  cases e : pg (addr / 1024) with
  | none =>
    rw [e] at h1
    have hz := h.zero (addr / 1024) (by omega) e (addr % 1024) (by omega)
    rw [show addr / 1024 * 1024 + addr % 1024 = addr by omega] at hz
    rw [hz]
    replace h := Hid.mk h
    simp only [ptr, Option.map_none] at h1
    go_enter Tryz.func114, Tryz.ntmps114
    go_wp2_with fail
    go_ret
    exact ⟨rfl, rfl⟩
  | some k =>
    rw [e] at h1
    have h2 := ((h.page (addr / 1024) k (by omega) e).2.2 (addr % 1024) (by omega)).1
    rw [show addr / 1024 * 1024 + addr % 1024 = addr by omega] at h2
    replace h := Hid.mk h
    simp only [ptr, Option.map_some] at h1
    unfold bv at *
    go_enter Tryz.func114, Tryz.ntmps114
    go_wp2_with fail
    go_ret
    exact ⟨rfl, rfl⟩

/-- A byte is written into a page that is there. -/
theorem Pg.put {S : Nat → Prop} {w : World} {a : Nat} {pg : Nat → Option Nat} {b : Nat → UInt8} (h : Pg S w a pg b) (addr k : Nat) (v : UInt8) (ha : addr < 65536) (e : pg (addr / 1024) = some k) :
    Pg S (w.setCell ⟨k, addr % 1024, none⟩ (bv v)) a pg (upd b addr v) := by
  have hp := h.page _ k (by omega) e
  have hka : k ≠ a := fun q => h.no (q ▸ hp.1)
  refine ⟨by simpa using h.lt, h.no, fun k' q => by simpa using h.own k' q, fun i hi => ⟨?_, ?_⟩, fun i k' hi he => ?_, fun i hi he j hj => ?_, h.inj⟩
  · rw [cso (fun q => absurd q hka)]; exact (h.box i hi).1
  · simpa using (h.box i hi).2
  · obtain ⟨g1, g2, g3⟩ := h.page i k' hi he
    refine ⟨g1, by simpa using g2, fun j hj => ⟨?_, by simpa using (g3 j hj).2⟩⟩
    by_cases hq : k = k' ∧ addr % 1024 = j
    · obtain ⟨rfl, rfl⟩ := hq
      have hi' : i = addr / 1024 := h.inj i (addr / 1024) k hi (by omega) he e
      rw [World.cell?_setCell_same _ _ _ (g3 _ hj).1]
      have : i * 1024 + addr % 1024 = addr := by omega
      simp [upd, this]
    · rw [cso (fun q r => hq ⟨q, r⟩), (g3 j hj).1]
      have : i * 1024 + j ≠ addr := by
        intro q
        have e1 : i = addr / 1024 := by omega
        subst e1
        rw [e] at he
        exact hq ⟨by simpa using he, by omega⟩
      simp [upd, this]
  · have : i * 1024 + j ≠ addr := by
      intro q
      have e1 : i = addr / 1024 := by omega
      subst e1
      rw [e] at he
      simp at he
    simp [upd, this, h.zero i hi he j hj]
theorem Pg.put_fr {S : Nat → Prop} {w : World} {a : Nat} {pg : Nat → Option Nat} {b : Nat → UInt8} (h : Pg S w a pg b) (addr k : Nat) (v : Value) (ha : addr < 65536) (e : pg (addr / 1024) = some k) :
    Fr S S w (w.setCell ⟨k, addr % 1024, none⟩ v) a := by
  have hp := h.page _ k (by omega) e
  have hka : k ≠ a := fun q => h.no (q ▸ hp.1)
  exact ⟨fun _ q => q, fun _ q => .inl q, Kp.set w _ _ (.inr hp.1), fun o _ => ⟨cso (fun q => absurd q hka), by simp⟩⟩
/-- A page is laid. -/
theorem Pg.lay {S : Nat → Prop} {w : World} {a : Nat} {pg : Nat → Option Nat} {b : Nat → UInt8} (h : Pg S w a pg b) (i0 : Nat) (t : TypeId) (hi0 : i0 < 64) (e : pg i0 = none) :
    Pg (fun k => S k ∨ k = w.heap.size) ((w.alloc (.cells (Array.replicate 1024 (.int .u8 0)) t)).setCell ⟨a, i0, none⟩ (.pointer (some ⟨w.heap.size, 0, none⟩))) a (fun i => if i = i0 then some w.heap.size else pg i) b := by
  have hlt := h.lt
  have hB : Below w.heap.size w (w.alloc (.cells (Array.replicate 1024 (.int .u8 0)) t)) := (Below.refl _ w).alloc (Nat.le_refl _) _
  have hna : w.heap.size ≠ a := by omega
  have hbox : ∀ i, i < 64 → (w.alloc (.cells (Array.replicate 1024 (.int .u8 0)) t)).cell? ⟨a, i, none⟩ = some (ptr (pg i)) := fun i hi => (hB.cell (p := ⟨a, i, none⟩) hlt).trans (h.box i hi).1
  refine ⟨by simp; omega, fun q => ?_, fun k q => ?_, fun i hi => ⟨?_, ?_⟩, fun i k hi he => ?_, fun i hi he j hj => ?_, fun i j k hi hj e1 e2 => ?_⟩
  · rcases q with q | q
    · exact h.no q
    · omega
  · rcases q with q | q
    · have := h.own k q; simp; omega
    · subst q; simp
  · by_cases hq : i = i0
    · subst hq
      rw [World.cell?_setCell_same _ _ _ (hbox i hi)]
      simp [ptr]
    · rw [cso (fun _ q => hq q.symm), hbox i hi]
      simp [hq]
  · have := (hB.frozen (p := ⟨a, i, none⟩) hlt).trans (h.box i hi).2
    simpa using this
  · by_cases hq : i = i0
    · subst hq
      simp at he
      subst he
      refine ⟨.inr rfl, by simp, fun j hj => ⟨?_, ?_⟩⟩
      · rw [cso (fun q => absurd q.symm hna)]
        rw [World.cell?_alloc_new]
        simp [hj, bv, h.zero i hi e j hj]
      · have := (At.new w (Array.replicate 1024 (.int .u8 0)) t).2.2 j
        rw [World.frozen?_setCell]
        exact this
    · simp only [hq, if_false] at he
      obtain ⟨g1, g2, g3⟩ := h.page i k hi he
      refine ⟨.inl g1, by simp; omega, fun j hj => ⟨?_, ?_⟩⟩
      · rw [cso (fun (q : a = k) => absurd (q ▸ g1) h.no)]
        exact (hB.cell (p := ⟨k, j, none⟩) g2).trans (g3 j hj).1
      · have := (hB.frozen (p := ⟨k, j, none⟩) g2).trans (g3 j hj).2
        simpa using this
  · by_cases hq : i = i0
    · subst hq; simp at he
    · simp only [hq, if_false] at he
      exact h.zero i hi he j hj
  · by_cases q1 : i = i0 <;> by_cases q2 : j = i0
    · omega
    · simp only [q1, q2, if_true, if_false] at e1 e2
      have := (h.page j k hj e2).2.1
      simp at e1; omega
    · simp only [q1, q2, if_true, if_false] at e1 e2
      have := (h.page i k hi e1).2.1
      simp at e2; omega
    · simp only [q1, q2, if_false] at e1 e2
      exact h.inj i j k hi hj e1 e2
theorem Pg.lay_fr {S : Nat → Prop} {w : World} {a : Nat} {pg : Nat → Option Nat} {b : Nat → UInt8} (h : Pg S w a pg b) (i0 : Nat) (o : Obj) (v : Value) (hi0 : i0 < 64) :
    Fr S (fun k => S k ∨ k = w.heap.size) w ((w.alloc o).setCell ⟨a, i0, none⟩ v) a := by
  have hB : Below w.heap.size w (w.alloc o) := (Below.refl _ w).alloc (Nat.le_refl _) _
  refine ⟨fun _ q => .inl q, fun k q => ?_, (Kp.alloc _ w o).trans (Kp.set (S := fun k => k = a) _ _ _ rfl) (fun k q => .inl (.inl q)), fun x hx => ⟨?_, ?_⟩⟩
  · rcases q with q | q
    · exact .inl q
    · exact .inr (by omega)
  · rw [cso (fun _ => by omega)]; exact hB.cell (p := ⟨a, x, none⟩) h.lt
  · simpa using hB.frozen (p := ⟨a, x, none⟩) h.lt

set_option maxHeartbeats 1000000 in
theorem set_any (S : Nat → Prop) (a addr : Nat) (b : Nat → UInt8) (v : UInt8) (w : World) (h : PgIn S w a b) (ha : addr < 65536) :
    Calls Tryz.prog 50 #[.pointer (some ⟨a, 0, none⟩), .int .u64 addr, bv v] w fun x w' => x = .returned (.tuple #[]) ∧ ∃ S', PgIn S' w' a (upd b addr v) ∧ Fr S S' w w' a := by
  obtain ⟨pg, h⟩ := h
  have h1 := (h.box (addr / 1024) (by omega)).1
  have f1 := (h.box (addr / 1024) (by omega)).2
  cases e : pg (addr / 1024) with
  | none =>
    have hl := h.lay (addr / 1024) 109 (by omega) e
    have hf := h.lay_fr (addr / 1024) (.cells (Array.replicate 1024 (.int .u8 0)) 109) (.pointer (some ⟨w.heap.size, 0, none⟩)) (by omega)
    have hp := hl.put addr w.heap.size v ha (by simp)
    have hg := hf.trans (hl.put_fr addr w.heap.size (bv v) ha (by simp))
    rw [e] at h1
    have hlt := h.lt
    replace h := Hid.mk h
    replace hl := Hid.mk hl
    replace hf := Hid.mk hf
    simp only [ptr, Option.map_none] at h1
    have pz := page_zero
    have sz : (w.setCell ⟨a, addr / 1024, none⟩ (.pointer (some ⟨w.heap.size, 0, none⟩))).heap.size = w.heap.size := by simp
    have ew : (w.alloc (.cells (Array.replicate 1024 (.int .u8 0)) 109)).setCell ⟨a, addr / 1024, none⟩ (.pointer (some ⟨w.heap.size, 0, none⟩)) = (w.setCell ⟨a, addr / 1024, none⟩ (.pointer (some ⟨w.heap.size, 0, none⟩))).alloc (.cells (Array.replicate 1024 (.int .u8 0)) 109) := World.setCell_alloc_past _ _ _ _ hlt
    have hat := At.at_ (w.setCell ⟨a, addr / 1024, none⟩ (.pointer (some ⟨w.heap.size, 0, none⟩))) (Array.replicate 1024 (.int .u8 0)) 109 sz
    have c9 := hat.2.1 (addr % 1024)
    have f9 := hat.2.2 (addr % 1024)
    rw [show (Array.replicate 1024 (Value.int .u8 0))[addr % 1024]? = some (.int .u8 0) by rw [Array.getElem?_replicate, if_pos (by omega)]] at c9
    rw [ew, World.setCell_alloc_at _ _ _ _ _ sz.symm] at hp hg
    unfold bv at hp hg ⊢
    replace hat := Hid.mk hat
    replace ew := Hid.mk ew
    replace hp := Hid.mk hp
    replace hg := Hid.mk hg
    go_enter Tryz.func50, Tryz.ntmps50
    go_wp2_with fail
    go_end0
    exact ⟨rfl, _, ⟨_, hp.out⟩, hg.out⟩
  | some k =>
    rw [e] at h1
    have h2 := ((h.page (addr / 1024) k (by omega) e).2.2 (addr % 1024) (by omega))
    have hp := h.put addr k v ha e
    have hf := h.put_fr addr k (bv v) ha e
    obtain ⟨h2, f2⟩ := h2
    unfold bv at h2 hp hf ⊢
    replace h := Hid.mk h
    replace hp := Hid.mk hp
    replace hf := Hid.mk hf
    simp only [ptr, Option.map_some] at h1
    go_enter Tryz.func50, Tryz.ntmps50
    go_wp2_with fail
    go_end0
    exact ⟨rfl, S, ⟨pg, hp.out⟩, hf.out⟩
end T
end Go.Proofs.YtijmjmefdedojaaGreat
