import Derived.Test.YtimiofkiadlnbaaP34
import Derived.Test.YtimiofkiadlnbaaP35
import Derived.Test.YtimiofkiadlnbaaP24
/-
  Stage 13, fastvm: how a machine begins is in order.
-/
namespace Go.Proofs.Ytimiofkiadlnbaa
namespace Z
open Go.RowKit
open T (Sep Ob Kp Mf FlIn boxOb)

/-- What values of their types are. -/
structure Rp.Wds (R : Rp) : Prop where
  code : R.Is
  root : ∀ g ∈ R.gates, ∀ j, Wd (g.r j)
theorem Rp.Wds.rr {R : Rp} (h : R.Wds) : R.pr.Rr := by
  intro k j
  unfold Pr.gate
  by_cases hk : k < R.gates.length
  · have e : R.pr.gates.getD k ⟨0, 0, 0, fun _ => 0⟩ = R.gates[k].fg := by simp [Rp.pr, hk]
    rw [e]
    exact h.root _ (List.getElem_mem hk) j
  · have e : R.pr.gates.getD k ⟨0, 0, 0, fun _ => 0⟩ = ⟨0, 0, 0, fun _ => 0⟩ := by
      have : R.pr.gates.length ≤ k := by simp [Rp.pr]; omega
      simp [this]
    rw [e]
    exact wd0
theorem start_okn (R : Rp) (m : Nat) (gate n : Nat) (A : Nat → Int) (L : List Int) (mem : List UInt8) (h : R.Wds) (ok : R.Ok m) (hg : gate < R.gates.length) (hA : ∀ j, Wd (A j)) (hL : ∀ x ∈ L, Wd x) (hl : L.length ≤ 2000000) : (start R.gates[gate].fg gate n A L mem).Okn R.pr 0 := by
  obtain ⟨h1, h2, h3⟩ := start_ok R m gate n A L mem ok (fun k hk j => h.root _ (List.getElem_mem hk) j) hg hA
  refine ⟨h1, h2, h3, ?_, fun f hf => ?_, hL, ?_, fun x hx => ?_, Nat.le_refl _, Nat.le_refl _, wd0⟩
  · show ((0 : Nat) : Int) ≤ R.dep
    have := ok.dp
    omega
  · cases hf
  · show L.length ≤ _
    omega
  · cases hx
/-- Run of fuel below 0. -/
theorem runM_zero (P : Pr) (s : Fm) : runM P s 0 = if s.e = 0 then sp s else s := rfl
/-- So many steps one by one. -/
def onesM (P : Pr) (s : Fm) : Nat → Fm
  | 0 => s
  | k + 1 => stepsM P (onesM P s k) 1
theorem ones_steps (P : Pr) (s : Fm) (k : Nat) : onesM P s k = stepsM P s k := by
  induction k with
  | zero => rfl
  | succ k ih =>
    show stepsM P (onesM P s k) 1 = _
    rw [ih]
    rfl
/-- Behind the end nothing changes. -/
theorem stepsM_end (P : Pr) (s : Fm) (n : Nat) (h : s.e ≠ 0) : stepsM P s n = s := by
  have := stepsM_over P s 0 n h
  rwa [Nat.zero_add] at this
theorem runM_end (P : Pr) (s : Fm) (n : Nat) (h : s.e ≠ 0) : runM P s n = s := by
  unfold runM
  rw [stepsM_end P s n h, if_neg h]
theorem runM_e (P : Pr) (s : Fm) (n : Nat) : (runM P s n).e ≠ 0 := by
  unfold runM
  split
  · show (4 : Int) ≠ 0
    decide
  · assumption
end Z
end Go.Proofs.Ytimiofkiadlnbaa


/-
  Stage 13, fastvm: lists that are the same.
-/
namespace Go.Proofs.Ytimiofkiadlnbaa
namespace Z
open Go.RowKit
open T (Sep Ob Kp Mf FlIn boxOb)

/-- Numbers that lie in a row. -/
def WIn (w : World) (a : Option Addr) (L : List Int) : Prop := ∀ i (h : i < L.length), ∃ b off : Nat, a = some ⟨b, off, none⟩ ∧ b < w.heap.size ∧ w.cell? ⟨b, off + i, none⟩ = some (.int .u64 L[i])
theorem WIn.gr {w W : World} {a : Option Addr} {L : List Int} (h : WIn w a L) (g : Gr w W) : WIn W a L := fun i hi => by
  obtain ⟨b, off, e1, e2, e3⟩ := h i hi
  exact ⟨b, off, e1, Nat.lt_of_lt_of_le e2 g.below.size, (T.cell_of_block (g.below.block b e2) _).trans e3⟩
end Z
end Go.Proofs.Ytimiofkiadlnbaa


/-
  Stage 13, fastvm: where a raw program begins.
-/
namespace Go.Proofs.Ytimiofkiadlnbaa
namespace Z
open Go.RowKit
open T (Sep Ob Kp Mf FlIn boxOb)

theorem own_monoZ {w : World} {lo lo2 e s n : Nat} {v : Value} {xs : List Value} (h : w.ownsRow lo e s v n xs) (hl : lo2 ≤ lo) : w.ownsRow lo2 e s v n xs := by
  refine ⟨h.1, ?_⟩
  rcases h.2 with q | ⟨g, cap, cur, e1, e2, e3⟩
  · exact .inl q
  · exact .inr ⟨g, cap, cur, e1, Nat.le_trans hl e2, e3⟩
def entL (A : List Int) (n : Nat) : List Int := (List.range n).map fun i => A.getD i (i : Int)
theorem entL_len (A : List Int) (n : Nat) : (entL A n).length = n := by simp [entL]
theorem entL_succ (A : List Int) (n : Nat) : entL A (n + 1) = entL A n ++ [A.getD n (n : Int)] := by simp [entL, List.range_succ]
end Z
end Go.Proofs.Ytimiofkiadlnbaa
