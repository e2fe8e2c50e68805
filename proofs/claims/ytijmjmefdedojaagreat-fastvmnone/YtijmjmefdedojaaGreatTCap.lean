/-
  Stage 6, tagmem: capabilities in memory.
-/
import Derived.Test.YtijmjmefdedojaaGreatTNum
namespace Go.Proofs.YtijmjmefdedojaaGreat
namespace T
open Go.RowKit

/-- A capability's five numbers. -/
structure Cp where
  b : Int
  e : Int
  c : Int
  p : Int
  s : Int
def Cp.agg (k : Cp) : Value := .agg #[.int .u64 k.b, .int .u64 k.e, .int .u64 k.c, .int .u8 k.p, .int .i64 k.s]
def Cp.zero : Cp := ⟨0, 0, 0, 0, 0⟩
/-- What a granule's place holds. -/
def plTag : Option Cp → Bool
  | none => false
  | some _ => true
def plCap : Option Cp → Cp
  | none => Cp.zero
  | some c => c
/-- The six cells of a place. -/
def Six (w : World) (k o : Nat) (p : Option Cp) : Prop :=
  w.cell? ⟨k, o, none⟩ = some (.bool (plTag p)) ∧ w.cell? ⟨k, o + 1, none⟩ = some (.int .u64 (plCap p).b) ∧ w.cell? ⟨k, o + 1 + 1, none⟩ = some (.int .u64 (plCap p).e) ∧ w.cell? ⟨k, o + 1 + 1 + 1, none⟩ = some (.int .u64 (plCap p).c) ∧ w.cell? ⟨k, o + 1 + 1 + 1 + 1, none⟩ = some (.int .u8 (plCap p).p) ∧ w.cell? ⟨k, o + 1 + 1 + 1 + 1 + 1, none⟩ = some (.int .i64 (plCap p).s)
theorem Six.of_block {w w' : World} {k o : Nat} {p : Option Cp} (h : Six w k o p) (hb : w'.heap[k]? = w.heap[k]?) : Six w' k o p := by
  unfold Six at *
  simp only [cell_of_block hb]
  exact h
/-- Places of capabilities: their box at 'a', behind the pages' 64 cells; the pages in blocks of 'S'. -/
structure Cg (S : Nat → Prop) (w : World) (a : Nat) (cg : Nat → Option Nat) (t : Nat → Option Cp) : Prop where
  lt : a < w.heap.size
  no : ¬ S a
  own : ∀ k, S k → k < w.heap.size
  box : ∀ i, i < 64 → w.cell? ⟨a, 64 + i, none⟩ = some (ptr (cg i)) ∧ w.frozen? ⟨a, 64 + i, none⟩ = false
  page : ∀ i k, i < 64 → cg i = some k → S k ∧ k < w.heap.size ∧ (∀ j, j < 64 → Six w k (j * 6) (t (i * 64 + j))) ∧ ∀ o, w.frozen? ⟨k, o, none⟩ = false
  zero : ∀ i, i < 64 → cg i = none → ∀ j, j < 64 → t (i * 64 + j) = none
  inj : ∀ i j k, i < 64 → j < 64 → cg i = some k → cg j = some k → i = j
def CgIn (S : Nat → Prop) (w : World) (a : Nat) (t : Nat → Option Cp) : Prop := ∃ cg, Cg S w a cg t
theorem Cg.keep {S : Nat → Prop} {w w' : World} {a : Nat} {cg : Nat → Option Nat} {t : Nat → Option Cp} (h : Cg S w a cg t) (hs : w.heap.size ≤ w'.heap.size)
    (hb : ∀ o, 64 ≤ o → w'.cell? ⟨a, o, none⟩ = w.cell? ⟨a, o, none⟩ ∧ w'.frozen? ⟨a, o, none⟩ = w.frozen? ⟨a, o, none⟩) (hk : ∀ k, S k → k < w.heap.size → w'.heap[k]? = w.heap[k]?) : Cg S w' a cg t :=
  ⟨Nat.lt_of_lt_of_le h.lt hs, h.no, fun k q => Nat.lt_of_lt_of_le (h.own k q) hs, fun i hi => ⟨(hb _ (by omega)).1.trans (h.box i hi).1, (hb _ (by omega)).2.trans (h.box i hi).2⟩,
   fun i k hi he => by
    obtain ⟨h1, h2, h3, h4⟩ := h.page i k hi he
    exact ⟨h1, Nat.lt_of_lt_of_le h2 hs, fun j hj => (h3 j hj).of_block (hk k h1 h2), fun o => (frozen_of_block (hk k h1 h2) o).trans (h4 o)⟩, h.zero, h.inj⟩
theorem CgIn.keep {S : Nat → Prop} {w w' : World} {a : Nat} {t : Nat → Option Cp} (h : CgIn S w a t) (hs : w.heap.size ≤ w'.heap.size)
    (hb : ∀ o, 64 ≤ o → w'.cell? ⟨a, o, none⟩ = w.cell? ⟨a, o, none⟩ ∧ w'.frozen? ⟨a, o, none⟩ = w.frozen? ⟨a, o, none⟩) (hk : ∀ k, S k → k < w.heap.size → w'.heap[k]? = w.heap[k]?) : CgIn S w' a t := by
  obtain ⟨cg, h⟩ := h
  exact ⟨cg, h.keep hs hb hk⟩
theorem Cg.gr {S : Nat → Prop} {w w' : World} {a : Nat} {cg : Nat → Option Nat} {t : Nat → Option Cp} (h : Cg S w a cg t) (hb : Below w.heap.size w w') : Cg S w' a cg t :=
  h.keep hb.size (fun o _ => ⟨hb.cell (p := ⟨a, o, none⟩) h.lt, hb.frozen (p := ⟨a, o, none⟩) h.lt⟩) (fun k _ hk => hb.block k hk)
theorem CgIn.gr {S : Nat → Prop} {w w' : World} {a : Nat} {t : Nat → Option Cp} (h : CgIn S w a t) (hb : Below w.heap.size w w') : CgIn S w' a t := by
  obtain ⟨cg, h⟩ := h
  exact ⟨cg, h.gr hb⟩
theorem PgIn.gr {S : Nat → Prop} {w w' : World} {a : Nat} {b : Nat → UInt8} (h : PgIn S w a b) (hb : Below w.heap.size w w') : PgIn S w' a b := by
  obtain ⟨pg, h⟩ := h
  exact ⟨pg, h.keep hb.size (fun o _ => ⟨hb.cell (p := ⟨a, o, none⟩) h.lt, hb.frozen (p := ⟨a, o, none⟩) h.lt⟩) (fun k _ hk => hb.block k hk)⟩
/-- What a call on places leaves. -/
structure Gf (S S' : Nat → Prop) (w w' : World) (a : Nat) : Prop where
  up : ∀ k, S k → S' k
  new : ∀ k, S' k → S k ∨ w.heap.size ≤ k
  kp : Kp (fun k => k = a ∨ S k) w w'
  rest : ∀ o, o < 64 → w'.cell? ⟨a, o, none⟩ = w.cell? ⟨a, o, none⟩ ∧ w'.frozen? ⟨a, o, none⟩ = w.frozen? ⟨a, o, none⟩
theorem Gf.refl (S : Nat → Prop) (w : World) (a : Nat) : Gf S S w w a := ⟨fun _ h => h, fun _ h => .inl h, Kp.refl _ w, fun _ _ => ⟨rfl, rfl⟩⟩
theorem Gf.trans {S S1 S2 : Nat → Prop} {w w1 w2 : World} {a : Nat} (h : Gf S S1 w w1 a) (g : Gf S1 S2 w1 w2 a) : Gf S S2 w w2 a :=
  ⟨fun k q => g.up k (h.up k q), fun k q => by
    rcases g.new k q with r | r
    · exact h.new k r
    · exact .inr (Nat.le_trans h.kp.size r),
   h.kp.trans g.kp (fun k q => by
    rcases q with q | q
    · exact .inl (.inl q)
    · rcases h.new k q with r | r
      · exact .inl (.inr r)
      · exact .inr r),
   fun o ho => ⟨(g.rest o ho).1.trans (h.rest o ho).1, (g.rest o ho).2.trans (h.rest o ho).2⟩⟩
end T
end Go.Proofs.YtijmjmefdedojaaGreat
