import Derived.Test.YthblllanofnmmaaTDocB
/-
  Stage 6, tagmem: the document's memory: capabilities.
-/
namespace Go.Proofs.Ythblllanofnmmaa
namespace T
open Go.RowKit

/-- What the document's LoadCap gives. -/
def dlV (b : Nat → UInt8) (tg : Nat → Bool) (cp : Nat → Cp) (addr : Nat) : Vl :=
  if granB addr then (if tg (addr / 16) then ⟨true, 0, cp (addr / 16)⟩ else ⟨false, leB b addr 8, Cp.zero⟩) else Vl.zero
theorem dlV_eq {b : Nat → UInt8} {t : Nat → Option Cp} {tg : Nat → Bool} {cp : Nat → Cp} (h : Rel t tg cp) (addr : Nat) : dlV b tg cp addr = lcV b t addr := by
  unfold dlV lcV
  rw [h (addr / 16)]
  cases tg (addr / 16) <;> rfl
theorem insB16 (addr : Nat) : (insB addr 16 && decide (addr % 16 = 0)) = granB addr := by
  unfold insB granB
  by_cases h1 : addr % 16 = 0
  · by_cases h2 : addr < 65536
    · have : addr + 16 ≤ 65536 := by omega
      simp [h1, h2, this]
    · simp [h1, h2]
  · simp [h1]
set_option maxHeartbeats 1000000 in
theorem dLoadCap_any (S : Nat → Prop) (d addr : Nat) (b : Nat → UInt8) (tg : Nat → Bool) (cp : Nat → Cp) (w : World) (h : DIn S w d b tg cp) :
    Calls Try.prog 22 #[.pointer (some ⟨d, 0, none⟩), .int .u64 addr] w fun x w' => x = .returned (.tuple #[(dlV b tg cp addr).agg, .int .i64 (lcE addr)]) ∧ Below w.heap.size w w' := by
  have hI : ∀ W, Calls Try.prog 40 #[.int .u64 addr, .int .u64 16] W fun x w' => x = .returned (.bool (insB addr 16)) ∧ w' = W := fun W => inside_any addr 16 W
  cases e : granB addr with
  | false =>
    simp only [dlV, lcE, e, Bool.false_eq_true, if_false]
    replace h := Hid.mk h
    by_cases h2 : addr % 16 = 0
    · have hi : insB addr 16 = false := by have := insB16 addr; rw [e, h2] at this; simpa using this
      rw [hi] at hI
      go_enter Try.func22, Try.ntmps22
      go_wp2_with (refine (hI _).mono ?_; rintro x w1 ⟨rfl, rfl⟩)
      simp [bodyPost, results, Try.results22, go_sem, Vl.zero, Vl.agg, Cp.zero]
      exact (Below.refl _ w).alloc (Nat.le_refl _) _
    · have d1 : ((addr : Int) % 16 == 0) = false := by simpa using (by omega : ¬ (addr : Int) % 16 = 0)
      clear h2
      generalize insB addr 16 = q at *
      cases q
      all_goals
        go_enter Try.func22, Try.ntmps22
        go_wp2_with (refine (hI _).mono ?_; rintro x w1 ⟨rfl, rfl⟩)
        simp [bodyPost, results, Try.results22, go_sem, Vl.zero, Vl.agg, Cp.zero]
        exact (Below.refl _ w).alloc (Nat.le_refl _) _
  | true =>
    have hg := granB_in e
    have hi : insB addr 16 = true := by simp [insB]; omega
    have d1 : (addr : Int) % 16 = 0 := by omega
    rw [hi] at hI
    obtain ⟨kb, kt, kc, hd, _⟩ := h.go
    have c1 := hd.c1
    have c2 := hd.c2
    have b0 := (hd.br.at_ (addr / 16) (by omega)).1
    obtain ⟨r0, r1, r2, r3, r4⟩ := hd.cr.at_ (addr / 16) (by omega)
    have n1 := hd.lt
    have n2 := hd.br.lt
    have n3 := hd.cr.lt
    have hL : ∀ W, Below w.heap.size w W → Calls Try.prog 19 #[.pointer (some ⟨d, 0, none⟩), .int .u64 addr, .int .u64 8] W fun x w' => x = .returned (.tuple #[.int .u64 (leB b addr 8), .int .i64 0]) ∧ Below W.heap.size W w' := fun W q => by
      have := dLoad_any S d addr 8 b tg cp W (h.gr q)
      have e1 : ldV b addr 8 = leB b addr 8 := by unfold ldV; rw [show wordB addr 8 = true by simp [wordB]; omega]; rfl
      have e2 : ldE addr 8 = 0 := by unfold ldE; rw [show wordB addr 8 = true by simp [wordB]; omega]; rfl
      rw [e1, e2] at this
      exact this
    simp only [dlV, lcE, e, if_true]
    replace h := Hid.mk h
    replace hd := Hid.mk hd
    replace hL := Hid.mk hL
    cases q : tg (addr / 16) with
    | true =>
      rw [q] at b0
      simp only [if_true, Vl.agg]
      go_enter Try.func22, Try.ntmps22
      go_wp2_with (refine (hI _).mono ?_; rintro x w1 ⟨rfl, rfl⟩)
      simp [bodyPost, results, Try.results22, go_sem]
      exact (Below.refl _ w).alloc (Nat.le_refl _) _
    | false =>
      rw [q] at b0
      simp only [Bool.false_eq_true, if_false, Vl.agg, Cp.zero]
      go_enter Try.func22, Try.ntmps22
      go_wp2_with (go_at_call 40; refine (hI _).mono ?_; rintro x w1 ⟨rfl, rfl⟩)
      refine (hL.out _ ((Below.refl _ w).alloc (Nat.le_refl _) _)).mono ?_
      rintro x w1 ⟨rfl, hB⟩
      have A0 := at_below (At.new w _ _) hB (by simp)
      replace hB := ((Below.refl _ w).alloc (Nat.le_refl _) _).trans (hB.mono (by simp))
      have hsz := A0.1
      have z0 : w1.cell? ⟨w.heap.size, 0, none⟩ = some (.bool false) := A0.2.1 0
      have z1 : w1.cell? ⟨w.heap.size, 1, none⟩ = some (.int .u64 0) := A0.2.1 1
      have z2 : w1.cell? ⟨w.heap.size, 2, none⟩ = some (.int .u64 0) := A0.2.1 2
      have z3 : w1.cell? ⟨w.heap.size, 3, none⟩ = some (.int .u64 0) := A0.2.1 3
      have z4 : w1.cell? ⟨w.heap.size, 4, none⟩ = some (.int .u64 0) := A0.2.1 4
      have z5 : w1.cell? ⟨w.heap.size, 5, none⟩ = some (.int .u8 0) := A0.2.1 5
      have z6 : w1.cell? ⟨w.heap.size, 6, none⟩ = some (.int .i64 0) := A0.2.1 6
      have zf := A0.2.2
      replace A0 := Hid.mk A0
      replace hB := Hid.mk hB
      go_wp2_with fail
      simp [bodyPost, results, Try.results22, go_sem, z0, z1, z2, z3, z4, z5, z6]
      exact ((((((hB.out.setCell (Nat.le_refl _) _).setCell (Nat.le_refl _) _).setCell (Nat.le_refl _) _).setCell (Nat.le_refl _) _).setCell (Nat.le_refl _) _).setCell (Nat.le_refl _) _).setCell (Nat.le_refl _) _
end T
end Go.Proofs.Ythblllanofnmmaa
