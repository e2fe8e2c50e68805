import Derived.Test.YtimiofkiadlnbaaP42
import Derived.Test.YtimiofkiadlnbaaP38
/-
  Stage 13, fastvm: two machines beside one another; how runs end; comparisons.
-/
namespace Go.Proofs.Ytimiofkiadlnbaa
namespace Z
open Go.RowKit
open T (Sep Ob Kp Mf FlIn boxOb)

/-- Two machines of one program, and what lies beside. -/
def M2 (B : Nat) (W : World) (P : Pr) (a : Nat) (s : Fm) (b : Nat) (t : Fm) (l : List Ob) : Prop := ∃ q, MIn B W a P s (obs B b P t q ++ l)
section
variable {B : Nat} {W W' : World} {a b : Nat} {P : Pr} {s s' t : Fm} {l : List Ob}
theorem M2.turn (h : M2 B W P a s b t l) : M2 B W P b t a s l := by
  obtain ⟨q, h⟩ := h
  exact h.turn
theorem M2.le (h : M2 B W P a s b t l) : B ≤ W.heap.size := by
  obtain ⟨q, h⟩ := h
  exact h.le
theorem M2.gr (h : M2 B W P a s b t l) (hb : Below W.heap.size W W') : M2 B W' P a s b t l := by
  obtain ⟨q, h⟩ := h
  exact ⟨q, h.gr hb⟩
theorem M2.new (h : M2 B W P a s b t l) (cs : Array Value) (ty : TypeId) : M2 B (W.alloc (.cells cs ty)) P a s b t (boxOb W.heap.size cs :: l) ∧ Below B W (W.alloc (.cells cs ty)) := by
  obtain ⟨q, h⟩ := h
  obtain ⟨h2, hb⟩ := h.new cs ty
  refine ⟨⟨q, ?_⟩, hb⟩
  obtain ⟨⟨q2, h3⟩, le⟩ := h2
  exact ⟨⟨q2, sep_perm h3 (List.Perm.append_left _ List.perm_middle.symm)⟩, le⟩
theorem M2.there (h : M2 B W P a s b t l) (o : Ob) (ho : o ∈ l) : o.In W := by
  obtain ⟨q, h⟩ := h
  exact h.there o (by simp [ho])
/-- The first thing beside them has changed. -/
theorem M2.side {o o' : Ob} (h : M2 B W P a s b t (o :: l)) (hi : o'.In W') (hk : Kp o.S W W') (hn : ∀ k, o'.S k → o.S k ∨ W.heap.size ≤ k) : M2 B W' P a s b t (o' :: l) ∧ Below B W W' := by
  obtain ⟨q, ⟨q2, h1⟩, le⟩ := h
  have e : ∀ x : Ob, obs B a P s q2 ++ (obs B b P t q ++ x :: l) = (obs B a P s q2 ++ obs B b P t q) ++ x :: l := fun x => (List.append_assoc _ _ _).symm
  rw [e] at h1
  refine ⟨⟨q, ⟨q2, ?_⟩, Nat.le_trans le hk.size⟩, sep_below (l1 := obs B a P s q2 ++ obs B b P t q) (o := o) (l2 := l) h1 hk le⟩
  rw [e]
  exact sep_change (l1 := obs B a P s q2 ++ obs B b P t q) (o := o) (o' := o') (l2 := l) h1 hi hk hn le
/-- A call of the first one. -/
theorem M2.call (h : M2 B W P a s b t l) {f : Nat} {args : Array Value} {r : Ending} (hc : ∀ l', MIn B W a P s l' → Calls Try.prog f args W fun x w' => x = r ∧ MIn B w' a P s' l' ∧ Below B W w') :
    Calls Try.prog f args W fun x w' => x = r ∧ M2 B w' P a s' b t l ∧ Below B W w' := by
  obtain ⟨q, h⟩ := h
  refine (hc _ h).mono ?_
  rintro x w' ⟨e, h1, h2⟩
  exact ⟨e, ⟨q, h1⟩, h2⟩
theorem M2.one (h : M2 B W P a s b t l) : ∃ l', MIn B W a P s l' := by
  obtain ⟨q, h⟩ := h
  exact ⟨_, h⟩
end
theorem stepI_e (P : Pr) (i : Fi) (s : Fm) (h : s.e = 0) : (stepI P i s).e ≠ 4 := by
  have h0 : s.e ≠ 4 := by rw [h]; decide
  refine stepI_cases P i s (fun r => r.e ≠ 4) ?_ ?_ ?_ ?_ ?_ ?_ ?_ ?_ ?_ ?_ ?_ ?_ ?_ ?_ ?_ ?_ ?_ ?_ ?_ ?_ ?_ ?_ ?_ ?_ ?_ ?_ ?_ ?_ ?_ ?_ ?_ ?_ ?_ ?_ ?_
  · intro _; exact h0
  · intro _; exact h0
  · intro _; exact h0
  · intro _; exact h0
  · intro _; exact h0
  · intro _; exact h0
  · intro _; exact h0
  · intro _; exact h0
  · intro _; exact h0
  · intro _; exact h0
  · intro _; exact h0
  · intro _; exact h0
  · intro _; exact h0
  · intro _; exact h0
  · intro _; exact h0
  · intro _; exact h0
  · intro _; exact h0
  · intro _; exact h0
  · intro _; exact h0
  · intro _; show (1 : Int) ≠ 4; decide
  · intro _; show (3 : Int) ≠ 4; decide
  · intro _; unfold stp29; split <;> first | exact h0 | (show (6 : Int) ≠ 4; decide)
  · intro _; exact h0
  · intro _; unfold stp31; split <;> first | exact h0 | (show (5 : Int) ≠ 4; decide)
  · intro _; unfold stp32; split <;> first | exact h0 | (show (1 : Int) ≠ 4; decide)
  · intro _; unfold stp60; split <;> first | exact h0 | (show (7 : Int) ≠ 4; decide)
  · intro _; unfold stp61; split <;> first | exact h0 | (show (7 : Int) ≠ 4; decide)
  · intro _; unfold stp62; split <;> first | exact h0 | (show (7 : Int) ≠ 4; decide)
  · intro _; unfold stp63; split <;> first | exact h0 | (show (7 : Int) ≠ 4; decide)
  · intro _; unfold stp64; split <;> first | exact h0 | (show (7 : Int) ≠ 4; decide)
  · intro _; unfold stp65; split <;> first | exact h0 | (show (7 : Int) ≠ 4; decide)
  · intro _; unfold stp70; split <;> first | exact h0 | (show (2 : Int) ≠ 4; decide)
  · intro _; unfold stp71; split <;> first | exact h0 | (show (2 : Int) ≠ 4; decide)
  · intro _; show (2 : Int) ≠ 4; decide
  · exact h0
theorem stepM_e (P : Pr) (s : Fm) (h : s.e = 0) : (stepM P s).e ≠ 4 := by
  unfold stepM
  split
  · exact stepI_e P _ s h
  · show (7 : Int) ≠ 4
    decide
theorem stepsM_e (P : Pr) (s : Fm) (h : s.e = 0) (k : Nat) : (stepsM P s k).e ≠ 4 := by
  induction k with
  | zero => show s.e ≠ 4; rw [h]; decide
  | succ k ih =>
    unfold stepsM
    split
    · rename_i q
      exact stepM_e P _ q
    · exact ih
/-- What is told of a state: the outcome's cells. -/
def Fm.oc (s : Fm) : List Value := [.int .i64 s.e, .int .u64 s.v, .int .i64 s.f, .int .i64 s.g, .int .i64 s.p]
theorem Fm.outc_eq (s : Fm) : s.outc = .agg s.oc.toArray := rfl
theorem oc_eql (s : Fm) (W : World) : (binOp .eql 41 (.agg s.oc.toArray) (.agg s.oc.toArray)).run Try.prog W = .ok (.bool true) W := by
  unfold Fm.oc
  simp [go_sem]
theorem oc_neq (s : Fm) (W : World) : (binOp .neq 41 (.agg s.oc.toArray) (.agg s.oc.toArray)).run Try.prog W = .ok (.bool false) W := by
  unfold Fm.oc
  simp [go_sem]
end Z
end Go.Proofs.Ytimiofkiadlnbaa
