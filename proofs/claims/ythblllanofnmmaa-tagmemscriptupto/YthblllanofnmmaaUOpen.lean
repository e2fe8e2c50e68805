import Derived.Test.YthblllanofnmmaaTRegs
import Derived.Test.YthblllanofnmmaaTOps
/-
  Stage 6, TagmemScript: scripts that came in: how long they are.
-/
namespace Go.Proofs.Ythblllanofnmmaa
namespace U
open Go.ChangeShapes Go.WideShapes Go.ChangeAt Go.RowKit Go.Deep

theorem bulk_seven {H : Type} (l : List (DataW H)) (h : ∀ e ∈ l, 7 ≤ Rows.uptoBulk e) : 7 * l.length ≤ Rows.uptoBulkAll l := by
  induction l with
  | nil => simp
  | cons x r ih => have := h x (by simp); have := ih (fun e he => h e (by simp [he])); simp only [Rows.uptoBulkAll, List.length_cons]; omega
theorem op_bulk {H : Type} {enc : TypeId × Value → H} {W : World} {b0 n : Nat} {spare : Nat → Bool} {held : Bool} {cs : List Value} {x : DataW H × List MemPlace}
    (hf : DataW.trod enc Try.prog W b0 spare held n 49 cs = some x) : 7 ≤ Rows.uptoBulk x.1 := by
  obtain ⟨xs, m, _, hxx, hcl, hl, hx⟩ := DataW.trod_struct Try.underlying49 hf
  rw [hxx]
  have := bulk_len (xs.map (·.1))
  rw [List.length_map, hl] at this
  have h6 : 6 ≤ Rows.uptoBulkAll (xs.map (·.1)) := this
  simp only [Rows.uptoBulk]
  omega
theorem ops_bulk {H : Type} {enc : TypeId × Value → H} {W : World} {spare : Nat → Bool} {held : Bool} {a : Option Addr} {len cap : Nat} {d : DataW H} {ps : List MemPlace}
    (h : DataW.Trod enc Try.prog W 0 spare held 23 (.slice a len cap) d ps) : 7 * len ≤ Rows.uptoBulk d := by
  obtain ⟨fuel, hf⟩ := h
  rcases open_slice Try.underlying23 hf with ⟨hcs, hx⟩ | ⟨x, l, c, m, n, D, Pl, hcs, _, hl, hm, hmm, hx2, hx⟩
  · simp [Value.cells] at hcs
    obtain ⟨rfl, rfl, rfl⟩ := hcs
    omega
  · simp [Value.cells] at hcs
    obtain ⟨rfl, rfl, rfl⟩ := hcs
    have hlm : len ≤ m := by rw [hmm]; split <;> omega
    simp only [Prod.mk.injEq] at hx2
    rw [hx2.1]
    have h7 := bulk_seven ((List.range len).map D) (fun e he => by
      obtain ⟨i, hi, rfl⟩ := List.mem_map.1 he
      obtain ⟨cs', e1, e2⟩ := hx i (by have := List.mem_range.1 hi; omega)
      exact op_bulk e2)
    rw [List.length_map, List.length_range] at h7
    simp only [Rows.uptoBulk]
    omega
end U
end Go.Proofs.Ythblllanofnmmaa
