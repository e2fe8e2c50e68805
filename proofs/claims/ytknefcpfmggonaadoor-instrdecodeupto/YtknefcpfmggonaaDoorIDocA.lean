/-
  Stage 3, instr: the document's find, within.
-/
import Derived.Test.YtknefcpfmggonaaDoorIRows
import Derived.Test.YtknefcpfmggonaaDoorIRight
namespace Go.Proofs.YtknefcpfmggonaaDoor
open Go.RowKit

theorem flat3 {α β : Type} (f g h : α → β) : ∀ (l : List α) (k : Nat), (l.map fun r => [f r, g r, h r]).flatten[k * 3]? = l[k]?.map f ∧ (l.map fun r => [f r, g r, h r]).flatten[k * 3 + 1]? = l[k]?.map g ∧ (l.map fun r => [f r, g r, h r]).flatten[k * 3 + 2]? = l[k]?.map h
  | [], k => by simp
  | r :: l, 0 => by simp
  | r :: l, k + 1 => by
    have := flat3 f g h l k
    have e : ∀ j, (List.map (fun r => [f r, g r, h r]) (r :: l)).flatten[(k + 1) * 3 + j]? = (List.map (fun r => [f r, g r, h r]) l).flatten[k * 3 + j]? := fun j => by
      have e2 : (k + 1) * 3 + j = (k * 3 + j) + 1 + 1 + 1 := by omega
      rw [e2]; simp
    refine ⟨?_, ?_, ?_⟩
    · have := e 0; simp only [Nat.add_zero] at this; rw [this]; simpa using (flat3 f g h l k).1
    · rw [e 1]; simpa using (flat3 f g h l k).2.1
    · rw [e 2]; simpa using (flat3 f g h l k).2.2
theorem row_at (k : Nat) (hk : k < 52) : rowCells[k * 3]? = some (.int .u8 (docRow k).1) ∧ rowCells[k * 3 + 1]? = some (.string (str (docRow k).2.1)) ∧ rowCells[k * 3 + 2]? = some (.string (str (docRow k).2.2)) := by
  have h := flat3 (fun r : Int × List UInt8 × List UInt8 => Value.int .u8 r.1) (fun r => Value.string (str r.2.1)) (fun r => Value.string (str r.2.2)) docL k
  have hl : k < docL.length := by rw [docL_len]; exact hk
  have e : docL[k]? = some (docRow k) := by simp [docRow, List.getD_eq_getElem?_getD, hl]
  rw [e] at h
  unfold rowCells
  simpa using h
theorem drop_docL {k : Nat} (hk : k < 52) : docL.drop k = docRow k :: docL.drop (k + 1) := by
  have hl : k < docL.length := by rw [docL_len]; exact hk
  rw [List.drop_eq_getElem_cons hl]
  simp [docRow, List.getD_eq_getElem?_getD, hl]
theorem find_here {op : Int} {k : Nat} (hk : k < 52) (h : (docRow k).1 = op) : findAt op (docL.drop k) k = k := by
  rw [drop_docL hk, findAt, if_pos h]
theorem find_next {op : Int} {k : Nat} (hk : k < 52) (h : ¬ (docRow k).1 = op) : findAt op (docL.drop k) k = findAt op (docL.drop (k + 1)) (k + 1) := by
  rw [drop_docL hk, findAt, if_neg h]
theorem find_end {op : Int} {k : Nat} (hk : ¬ k < 52) : findAt op (docL.drop k) k = -1 := by
  have : docL.drop k = [] := by rw [List.drop_eq_nil_iff, docL_len]; omega
  rw [this]; rfl
theorem findF_range (op : Int) : findF op = -1 ∨ (0 ≤ findF op ∧ findF op < 52) := by
  have : ∀ (l : List (Int × List UInt8 × List UInt8)) (k : Nat), findAt op l k = -1 ∨ (k ≤ findAt op l k ∧ findAt op l k < k + l.length) := by
    intro l
    induction l with
    | nil => intro k; exact Or.inl rfl
    | cons r l ih =>
      intro k
      rw [findAt]
      split
      · right; simp; omega
      · rcases ih (k + 1) with h | h
        · exact Or.inl h
        · right; simp; omega
  have := this docL 0
  rw [docL_len] at this
  simpa [findF] using this
theorem ret_int {k : IntKind} {a b : Int} (h : a = b) : Ending.returned (.int k a) = .returned (.int k b) := by rw [h]
theorem ret_str {a b : List UInt8} (h : a = b) : Ending.returned (.string (str a)) = .returned (.string (str b)) := by rw [h]
set_option maxHeartbeats 400000 in
theorem find_any (op : Int) (w : World) :
    Calls Tryd.prog 13 #[.int .u8 op] w fun x w' => x = .returned (.int .i64 (findF op)) ∧ Gr w w' := by
  go_enter Tryd.func13, Tryd.ntmps13
  go_wp2_with (go_at_call 14; refine (Rows_any _).mono ?_; rintro x w' ⟨rfl, rfl⟩)
  go_loop [4] (fun i => ∃ k : Nat, i = .int .i64 k ∧ k ≤ 52 ∧ Hid (findAt op (docL.drop k) k = findF op)) (fun i => 52 - (intOf i).toNat)
  case atStart => exact ⟨0, rfl, by omega, ⟨rfl⟩⟩
  case round =>
    obtain ⟨k, rfl, hk, hf⟩ := hrel
    by_cases hlt : k < 52
    · have c : ∀ t, (w.alloc (.cells rowCells t)).cell? ⟨w.heap.size, k * 3, none⟩ = some (.int .u8 (docRow k).1) := fun t => (World.cell?_alloc_new w rowCells t (k * 3)).trans (row_at k hlt).1
      have kl : (k : Int) < 52 := by omega
      by_cases he : (docRow k).1 = op
      · have g : ((docRow k).1 == op) = true := by simpa using he
        rw [find_here hlt he] at hf
        replace he := Hid.mk he
        generalize (docRow k).1 = y at *
        go_wp2_with fail
        go_ret
        exact ⟨ret_int hf.out, (Gr.refl w).alloc _⟩
      · have g : ((docRow k).1 == op) = false := by simpa using he
        rw [find_next hlt he] at hf
        replace he := Hid.mk he
        generalize (docRow k).1 = y at *
        go_wp2_with fail
        go_round
        case rel => exact ⟨k + 1, by simp, by omega, hf⟩
        case measure => simp [intOf]; omega
    · have kl : ¬ (k : Int) < 52 := by omega
      rw [find_end hlt] at hf
      go_wp2_with fail
      go_ret
      exact ⟨ret_int hf.out, (Gr.refl w).alloc _⟩

set_option maxHeartbeats 400000 in
theorem within_any (n a b : Int) (w : World) :
    Calls Tryd.prog 15 #[.int .i64 n, .int .i64 a, .int .i64 b] w fun x w' => x = .returned (.bool (decide (a ≤ n) && decide (n ≤ b))) ∧ w = w' := by
  by_cases h : a ≤ n
  · have g : decide (a ≤ n) = true := by simpa using h
    go_enter Tryd.func15, Tryd.ntmps15
    go_wp2_with fail
    go_ret
    exact ⟨ret_bool (by simp [g]), rfl⟩
  · have g : decide (a ≤ n) = false := by simpa using h
    go_enter Tryd.func15, Tryd.ntmps15
    go_wp2_with fail
    go_ret
    exact ⟨ret_bool (by simp), rfl⟩
end Go.Proofs.YtknefcpfmggonaaDoor
