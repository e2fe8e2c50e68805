/-
  Stage 8, flow: Blocks.
-/
import Derived.Test.YtjmknpkmbghgdaaFFirst
namespace Go.Proofs.Ytjmknpkmbghgdaa
namespace F
open Go.RowKit
open T

/-- A row of the code, in memory. -/
structure Bk where
  f : Nat
  l : Nat
  nx : Value
def Bk.vals (b : Bk) : List Value := [.int .i64 b.f, .int .i64 b.l, b.nx]
def Bk.fl (b : Bk) : Nat × Nat := (b.f, b.l)
def bfl (R : List Bk) : List Value := R.flatMap Bk.vals
theorem bfl_len (R : List Bk) : (bfl R).length = R.length * 3 := by
  induction R with
  | nil => rfl
  | cons a l ih => simp only [bfl, List.flatMap_cons, List.length_append] at ih ⊢; rw [ih]; simp [Bk.vals]; omega
theorem bfl_app (R S : List Bk) : bfl (R ++ S) = bfl R ++ bfl S := by simp [bfl]
/-- Rows of the code that the call owns. -/
def BR (w : World) (lo : Nat) (v : Value) (R : List Bk) : Prop := w.ownsRow lo 33 3 v R.length (bfl R)
theorem BR.slice {w : World} {lo : Nat} {v : Value} {R : List Bk} (h : BR w lo v R) : ∃ a cap, v = .slice a R.length cap := by
  rcases h.2 with ⟨rfl, h0⟩ | ⟨g, cap, cur, rfl, _⟩
  · exact ⟨none, 0, by rw [h0]⟩
  · exact ⟨_, cap, rfl⟩
theorem BR.here {w : World} {lo : Nat} {v : Value} {R : List Bk} (h : BR w lo v R) (hR : R ≠ []) : ∃ g cap, v = .slice (some ⟨g, 0, none⟩) R.length cap ∧ lo ≤ g ∧ g < w.heap.size := by
  rcases h.2 with ⟨_, h0⟩ | ⟨g, cap, cur, hv, hb, hh, _⟩
  · exact absurd (List.length_eq_zero_iff.1 h0) hR
  · exact ⟨g, cap, hv, hb, (Array.getElem?_eq_some_iff.1 hh).1⟩
theorem bfl_at (R0 : List Bk) (x : Bk) (R1 : List Bk) (j : Nat) (hj : j < 3) : (bfl (R0 ++ x :: R1))[R0.length * 3 + j]? = x.vals[j]? := by
  rw [bfl_app, List.getElem?_append_right (by rw [bfl_len]; omega), bfl_len, Nat.add_sub_cancel_left]
  show (x.vals ++ bfl R1)[j]? = _
  rw [List.getElem?_append_left (by simp [Bk.vals]; omega)]
theorem bfl_set (R0 : List Bk) (x y : Bk) (R1 : List Bk) (j : Nat) (hj : j < 3) (v : Value) (hy : y.vals = x.vals.set j v) : (bfl (R0 ++ x :: R1)).set (R0.length * 3 + j) v = bfl (R0 ++ y :: R1) := by
  rw [bfl_app, bfl_app, List.set_append_right _ _ (by rw [bfl_len]; omega), bfl_len, Nat.add_sub_cancel_left]
  congr 1
  show (x.vals ++ bfl R1).set j v = y.vals ++ bfl R1
  rw [List.set_append_left _ _ (by simp [Bk.vals]; omega), hy]
theorem BR.cell {w : World} {lo g n cap : Nat} {R0 R1 : List Bk} {x : Bk} (h : BR w lo (.slice (some ⟨g, 0, none⟩) n cap) (R0 ++ x :: R1)) (j : Nat) (hj : j < 3) : w.cell? ⟨g, R0.length * 3 + j, none⟩ = x.vals[j]? := by
  have hv : x.vals[j]? = some (x.vals[j]'(by simpa [Bk.vals] using hj)) := by simp
  have hc := World.ownsRow.cells h (g := g) rfl (R0.length * 3 + j) (x.vals[j]'(by simpa [Bk.vals] using hj)) (by rw [bfl_at R0 x R1 j hj, hv])
  rw [addr_add, Nat.zero_add] at hc
  rw [hc, hv]
theorem BR.put {w : World} {lo g cap : Nat} {R0 R1 : List Bk} {x : Bk} (h : BR w lo (.slice (some ⟨g, 0, none⟩) (R0 ++ x :: R1).length cap) (R0 ++ x :: R1)) (y : Bk) (j : Nat) (hj : j < 3) (v : Value) (hy : y.vals = x.vals.set j v) :
    BR (w.setCell ⟨g, R0.length * 3 + j, none⟩ v) lo (.slice (some ⟨g, 0, none⟩) (R0 ++ x :: R1).length cap) (R0 ++ y :: R1) := by
  have := (World.ownsRow.stored h (R0.length * 3 + j) v).1
  rw [bfl_set R0 x y R1 j hj v hy] at this
  have e : (R0 ++ y :: R1).length = (R0 ++ x :: R1).length := by simp
  unfold BR
  rw [e]
  exact this
theorem wpList_append_blk {ops : Array Oper} {rest : List Oper} {o : Oper} {a : Act} {Q : Exit → Act → World → Prop} {w : World} (hgd : o.guard = none) (s x : Operand)
    (ho : o.op = .call { callee := .builtin .append, args := #[s, x], argTypes := #[30, 30] })
    (base : Nat) (v : Value) (R : List Bk) (y : Bk) (hs : a.eval s = v) (hR : BR w base v R)
    (X : Nat) (hx : a.eval x = .slice (some ⟨X, 0, none⟩) 1 1) (hX : At w X y.vals.toArray) (h1 : y.nx.oneCell' = true) (hlen : R.length ≤ 8000000) (hbase : base ≤ w.heap.size)
    (h : ∀ g cap w', BR w' base (.slice (some ⟨g, 0, none⟩) (R.length + 1) cap) (R ++ [y]) → w.grownBy w' v.ownBlock → (v.ownBlock = some g ∨ g = w.heap.size) → g < w'.heap.size → wpList Try.prog ops Q rest (a.put o.dst (.slice (some ⟨g, 0, none⟩) (R.length + 1) cap)) w') :
    wpList Try.prog ops Q (o :: rest) a w := by
  obtain ⟨i0, hi, hz0, hz1, hz2⟩ := info_parts' (t := 33) (z := .agg #[.int .i64 0, .int .i64 0, .slice none 0 0]) (s := 3) (b := 40) (by kernel_rfl)
  have hn : ∀ j u, y.vals[j]? = some u → w.cell? ((⟨X, 0, none⟩ : Addr).add j) = some u := by
    intro j u hj
    rw [addr_add, hX.2.1]
    simpa using hj
  refine wpList_append_lies _ hgd s x 30 ho base 33 i0 (.agg #[.int .i64 0, .int .i64 0, .slice none 0 0]) 3 40 Try.underlying30 hi hz0 hz1 hz2 rfl (by decide) v R.length (bfl R) hs hR ⟨X, 0, none⟩ 1 1 y.vals hx rfl hn (fun u hu => by simp only [Bk.vals, List.mem_cons, List.not_mem_nil, or_false] at hu; rcases hu with rfl | rfl | rfl; (rfl); (rfl); exact h1) (by decide) (by unfold maxLen; omega) (by omega) hbase _ rfl ?_
  intro g cap w' h1 h2 h3 h4
  refine h g cap w' ?_ h2 h3 h4
  have e : bfl R ++ y.vals = bfl (R ++ [y]) := by rw [bfl_app]; simp [bfl]
  rw [e] at h1
  unfold BR
  rw [List.length_append]
  exact h1
def upL (j : Nat) : List (Nat × Nat) → List (Nat × Nat)
  | [] => []
  | [(a, _)] => [(a, j)]
  | x :: y :: r => x :: upL j (y :: r)
theorem upL_app (j : Nat) : ∀ (R : List (Nat × Nat)) (a b : Nat), upL j (R ++ [(a, b)]) = R ++ [(a, j)]
  | [], a, b => rfl
  | [x], a, b => rfl
  | x :: y :: r, a, b => by
    have := upL_app j (y :: r) a b
    show x :: upL j (y :: (r ++ [(a, b)])) = _
    rw [show y :: (r ++ [(a, b)]) = (y :: r) ++ [(a, b)] from rfl, this]
    rfl
/-- The rows of the code up to one. -/
def blF (f : Nat → Bool) : Nat → List (Nat × Nat)
  | 0 => []
  | j + 1 => if f j = true then blF f j ++ [(j, j)] else upL j (blF f j)
theorem blF_ne (f : Nat → Bool) (h0 : f 0 = true) : ∀ j, 0 < j → blF f j ≠ []
  | 1, _ => by simp [blF, h0]
  | j + 2, _ => by
    have := blF_ne f h0 (j + 1) (by omega)
    rw [blF]
    split
    · simp
    · intro e
      rcases List.eq_nil_or_concat (blF f (j + 1)) with r | ⟨R, x, r⟩
      · exact this r
      · rw [r, List.concat_eq_append] at e
        obtain ⟨a, b⟩ := x
        rw [upL_app] at e
        simp at e
theorem upL_len (j : Nat) (R : List (Nat × Nat)) : (upL j R).length = R.length := by
  rcases List.eq_nil_or_concat R with r | ⟨S, x, r⟩
  · subst r; rfl
  · subst r
    obtain ⟨a, b⟩ := x
    rw [List.concat_eq_append, upL_app]; simp
theorem blF_len (f : Nat → Bool) : ∀ j, (blF f j).length ≤ j
  | 0 => by simp [blF]
  | j + 1 => by
    have := blF_len f j
    rw [blF]
    split
    · simp; omega
    · rw [upL_len]; omega
theorem fir_zero (L : List Ins) (E : List Int) : firF L E 0 = true := by
  have h1 : ∀ (E : List Int) (s : Nat → Bool), s 0 = true → (E.foldl adS s) 0 = true := by
    intro E
    induction E with
    | nil => exact fun s h => h
    | cons x E ih => exact fun s h => ih _ (by simp [adS, h])
  have h2 : ∀ j, fsC L (fsE E E.length) j 0 = true := by
    intro j
    induction j with
    | zero => exact h1 _ _ (by simp [adS])
    | succ j ih =>
      rw [fsC]
      cases L[j]? with
      | none => exact ih
      | some i =>
        show fs3 j i (fsC L (fsE E E.length) j) 0 = true
        have g1 : fs1 i (fsC L (fsE E E.length) j) 0 = true := by unfold fs1; split <;> simp [ih]
        have g2 : fs2 i (fsC L (fsE E E.length) j) 0 = true := by unfold fs2; split <;> simp [adS, g1]
        unfold fs3
        split
        · exact g2
        · simp [adS, g2]
  exact h2 L.length
end F
end Go.Proofs.Ytjmknpkmbghgdaa
