/-
  Stage 3, instr: the document's find, Name, Shape, Find, within.
-/
import Derived.Test.YtehjikjpgdnjdaaDoorIRows
import Derived.Test.YtehjikjpgdnjdaaDoorIRight
namespace Go.Proofs.YtehjikjpgdnjdaaDoor
open Go.RowKit

theorem flat3 {α β : Type} (f g h : α → β) : ∀ (l : List α) (k : Nat), (l.map fun r => [f r, g r, h r]).flatten[k * 3]? = l[k]?.map f ∧ (l.map fun r => [f r, g r, h r]).flatten[k * 3 + 1]? = l[k]?.map g ∧ (l.map fun r => [f r, g r, h r]).flatten[k * 3 + 2]? = l[k]?.map h
  | [], k => by simp
  | r :: l, 0 => by simp
  | r :: l, k + 1 => by
    have := flat3 f g h l k
    have e : ∀ j, (List.map (fun r => [f r, g r, h r]) (r :: l)).flatten[(k + 1) * 3 + j]? = (List.map (fun r => [f r, g r, h r]) l).flatten[k * 3 + j]? := fun j => by
      have e2 : (k + 1) * 3 + j = (k * 3 + j) + 1 + 1 + 1 := by omega
      rw [e2]; simp
    refine ⟨?_, ?_, ?_⟩
    · have := e 0; simp only [Nat.add_zero] at this; rw [this]; simpa using (flat3 f g h l k).1
    · rw [e 1]; simpa using (flat3 f g h l k).2.1
    · rw [e 2]; simpa using (flat3 f g h l k).2.2
theorem row_at (k : Nat) (hk : k < 52) : rowCells[k * 3]? = some (.int .u8 (docRow k).1) ∧ rowCells[k * 3 + 1]? = some (.string (str (docRow k).2.1)) ∧ rowCells[k * 3 + 2]? = some (.string (str (docRow k).2.2)) := by
  have h := flat3 (fun r : Int × List UInt8 × List UInt8 => Value.int .u8 r.1) (fun r => Value.string (str r.2.1)) (fun r => Value.string (str r.2.2)) docL k
  have hl : k < docL.length := by rw [docL_len]; exact hk
  have e : docL[k]? = some (docRow k) := by simp [docRow, List.getD_eq_getElem?_getD, hl]
  rw [e] at h
  unfold rowCells
  simpa using h
theorem drop_docL {k : Nat} (hk : k < 52) : docL.drop k = docRow k :: docL.drop (k + 1) := by
  have hl : k < docL.length := by rw [docL_len]; exact hk
  rw [List.drop_eq_getElem_cons hl]
  simp [docRow, List.getD_eq_getElem?_getD, hl]
theorem find_here {op : Int} {k : Nat} (hk : k < 52) (h : (docRow k).1 = op) : findAt op (docL.drop k) k = k := by
  rw [drop_docL hk, findAt, if_pos h]
theorem find_next {op : Int} {k : Nat} (hk : k < 52) (h : ¬ (docRow k).1 = op) : findAt op (docL.drop k) k = findAt op (docL.drop (k + 1)) (k + 1) := by
  rw [drop_docL hk, findAt, if_neg h]
theorem find_end {op : Int} {k : Nat} (hk : ¬ k < 52) : findAt op (docL.drop k) k = -1 := by
  have : docL.drop k = [] := by rw [List.drop_eq_nil_iff, docL_len]; omega
  rw [this]; rfl
theorem findF_range (op : Int) : findF op = -1 ∨ (0 ≤ findF op ∧ findF op < 52) := by
  have : ∀ (l : List (Int × List UInt8 × List UInt8)) (k : Nat), findAt op l k = -1 ∨ (k ≤ findAt op l k ∧ findAt op l k < k + l.length) := by
    intro l
    induction l with
    | nil => intro k; exact Or.inl rfl
    | cons r l ih =>
      intro k
      rw [findAt]
      split
      · right; simp; omega
      · rcases ih (k + 1) with h | h
        · exact Or.inl h
        · right; simp; omega
  have := this docL 0
  rw [docL_len] at this
  simpa [findF] using this
theorem ret_int {k : IntKind} {a b : Int} (h : a = b) : Ending.returned (.int k a) = .returned (.int k b) := by rw [h]
theorem ret_str {a b : List UInt8} (h : a = b) : Ending.returned (.string (str a)) = .returned (.string (str b)) := by rw [h]
set_option maxHeartbeats 400000 in
theorem find_any (op : Int) (w : World) :
    Calls Tryd.prog 25 #[.int .u8 op] w fun x w' => x = .returned (.int .i64 (findF op)) ∧ Gr w w' := by
  go_enter Tryd.func25, Tryd.ntmps25
  go_wp2_with (go_at_call 26; refine (Rows_any _).mono ?_; rintro x w' ⟨rfl, rfl⟩)
  go_loop [4] (fun i => ∃ k : Nat, i = .int .i64 k ∧ k ≤ 52 ∧ Hid (findAt op (docL.drop k) k = findF op)) (fun i => 52 - (intOf i).toNat)
  case atStart => exact ⟨0, rfl, by omega, ⟨rfl⟩⟩
  case round =>
    obtain ⟨k, rfl, hk, hf⟩ := hrel
    by_cases hlt : k < 52
    · have c : ∀ t, (w.alloc (.cells rowCells t)).cell? ⟨w.heap.size, k * 3, none⟩ = some (.int .u8 (docRow k).1) := fun t => (World.cell?_alloc_new w rowCells t (k * 3)).trans (row_at k hlt).1
      have kl : (k : Int) < 52 := by omega
      by_cases he : (docRow k).1 = op
      · have g : ((docRow k).1 == op) = true := by simpa using he
        rw [find_here hlt he] at hf
        replace he := Hid.mk he
        generalize (docRow k).1 = y at *
        go_wp2_with fail
        go_ret
        exact ⟨ret_int hf.out, (Gr.refl w).alloc _⟩
      · have g : ((docRow k).1 == op) = false := by simpa using he
        rw [find_next hlt he] at hf
        replace he := Hid.mk he
        generalize (docRow k).1 = y at *
        go_wp2_with fail
        go_round
        case rel => exact ⟨k + 1, by simp, by omega, hf⟩
        case measure => simp [intOf]; omega
    · have kl : ¬ (k : Int) < 52 := by omega
      rw [find_end hlt] at hf
      go_wp2_with fail
      go_ret
      exact ⟨ret_int hf.out, (Gr.refl w).alloc _⟩

set_option maxHeartbeats 400000 in
theorem refName_any (op : Int) (w : World) :
    Calls Tryd.prog 11 #[.int .u8 op] w fun x w' => x = .returned (.string (str (docName op))) ∧ Gr w w' := by
  have hr := findF_range op
  unfold docName
  by_cases hn : findF op < 0
  · rw [if_pos hn]
    have g : decide (findF op < 0) = true := by simpa using hn
    go_enter Tryd.func11, Tryd.ntmps11
    go_wp2_with (first | (go_at_call 25; refine (find_any _ _).mono ?_; rintro x w' ⟨rfl, hG⟩))
    go_ret
    exact ⟨rfl, hG⟩
  · rw [if_neg hn]
    have g : decide (findF op < 0) = false := by simpa using hn
    have h0 : 0 ≤ findF op := by omega
    have h1 : (findF op).toNat < 52 := by omega
    have h2 : findF op < 52 := by omega
    have ra := (row_at _ h1).2.1
    have e : (((findF op).toNat : Nat) : Int) = findF op := Int.toNat_of_nonneg h0
    rw [e] at ra
    have c : ∀ (W : World) t, (W.alloc (.cells rowCells t)).cell? ⟨W.heap.size, (findF op).toNat * 3 + 1, none⟩ = some (.string (str (docRow (findF op)).2.1)) := fun W t => (World.cell?_alloc_new W rowCells t _).trans ra
    clear ra e h1 hr
    replace hn := Hid.mk hn
    generalize (docRow (findF op)).2.1 = nm at *
    go_enter Tryd.func11, Tryd.ntmps11
    go_wp2_with (first | (go_at_call 25; refine (find_any _ _).mono ?_; rintro x w' ⟨rfl, hG⟩) | (go_at_call 26; refine (Rows_any _).mono ?_; rintro x w' ⟨rfl, rfl⟩))
    go_ret
    exact ⟨rfl, hG.alloc _⟩

set_option maxHeartbeats 400000 in
theorem refShape_any (op : Int) (w : World) :
    Calls Tryd.prog 12 #[.int .u8 op] w fun x w' => x = .returned (.string (str (docShape op))) ∧ Gr w w' := by
  have hr := findF_range op
  unfold docShape
  by_cases hn : findF op < 0
  · rw [if_pos hn]
    have g : decide (findF op < 0) = true := by simpa using hn
    go_enter Tryd.func12, Tryd.ntmps12
    go_wp2_with (first | (go_at_call 25; refine (find_any _ _).mono ?_; rintro x w' ⟨rfl, hG⟩))
    go_ret
    exact ⟨rfl, hG⟩
  · rw [if_neg hn]
    have g : decide (findF op < 0) = false := by simpa using hn
    have h0 : 0 ≤ findF op := by omega
    have h1 : (findF op).toNat < 52 := by omega
    have h2 : findF op < 52 := by omega
    have ra := (row_at _ h1).2.2
    have e : (((findF op).toNat : Nat) : Int) = findF op := Int.toNat_of_nonneg h0
    rw [e] at ra
    have c : ∀ (W : World) t, (W.alloc (.cells rowCells t)).cell? ⟨W.heap.size, (findF op).toNat * 3 + 2, none⟩ = some (.string (str (docRow (findF op)).2.2)) := fun W t => (World.cell?_alloc_new W rowCells t _).trans ra
    clear ra e h1 hr
    replace hn := Hid.mk hn
    generalize (docRow (findF op)).2.2 = nm at *
    go_enter Tryd.func12, Tryd.ntmps12
    go_wp2_with (first | (go_at_call 25; refine (find_any _ _).mono ?_; rintro x w' ⟨rfl, hG⟩) | (go_at_call 26; refine (Rows_any _).mono ?_; rintro x w' ⟨rfl, rfl⟩))
    go_ret
    exact ⟨rfl, hG.alloc _⟩

/-- The operation of a name, among the document's rows. -/
def opAt (nm : List UInt8) : List (Int × List UInt8 × List UInt8) → Int
  | [] => 0
  | r :: l => if r.2.1 = nm then r.1 else opAt nm l
def docOp (nm : List UInt8) : Int := opAt nm docL
set_option maxHeartbeats 400000 in
theorem refFind_any (nm : List UInt8) (w : World) :
    Calls Tryd.prog 14 #[.string (str nm)] w fun x w' => x = .returned (.int .u8 (docOp nm)) ∧ Gr w w' := by
  have sl := str_list
  go_enter Tryd.func14, Tryd.ntmps14
  go_wp2_with (go_at_call 26; refine (Rows_any _).mono ?_; rintro x w' ⟨rfl, rfl⟩)
  go_loop [4] (fun i => ∃ k : Nat, i = .int .i64 k ∧ k ≤ 52 ∧ Hid (opAt nm (docL.drop k) = docOp nm)) (fun i => 52 - (intOf i).toNat)
  case atStart => exact ⟨0, rfl, by omega, ⟨rfl⟩⟩
  case round =>
    obtain ⟨k, rfl, hk, hf⟩ := hrel
    by_cases hlt : k < 52
    · have c : ∀ t, (w.alloc (.cells rowCells t)).cell? ⟨w.heap.size, k * 3, none⟩ = some (.int .u8 (docRow k).1) := fun t => (World.cell?_alloc_new w rowCells t (k * 3)).trans (row_at k hlt).1
      have c1 : ∀ t, (w.alloc (.cells rowCells t)).cell? ⟨w.heap.size, k * 3 + 1, none⟩ = some (.string (str (docRow k).2.1)) := fun t => (World.cell?_alloc_new w rowCells t (k * 3 + 1)).trans (row_at k hlt).2.1
      have kl : (k : Int) < 52 := by omega
      have st : opAt nm (docL.drop k) = if (docRow k).2.1 = nm then (docRow k).1 else opAt nm (docL.drop (k + 1)) := by rw [drop_docL hlt, opAt]
      rw [st] at hf
      clear st
      by_cases he : (docRow k).2.1 = nm
      · have g : ((docRow k).2.1 == nm) = true := by simpa using he
        rw [if_pos he] at hf
        replace he := Hid.mk he
        generalize (docRow k).1 = y at *
        generalize (docRow k).2.1 = z at *
        go_wp2_with fail
        go_ret
        exact ⟨ret_int hf.out, (Gr.refl w).alloc _⟩
      · have g : ((docRow k).2.1 == nm) = false := by simpa using he
        rw [if_neg he] at hf
        replace he := Hid.mk he
        generalize (docRow k).1 = y at *
        generalize (docRow k).2.1 = z at *
        go_wp2_with fail
        go_round
        case rel => exact ⟨k + 1, by simp, by omega, hf⟩
        case measure => simp [intOf]; omega
    · have kl : ¬ (k : Int) < 52 := by omega
      have : docL.drop k = [] := by rw [List.drop_eq_nil_iff, docL_len]; omega
      rw [this] at hf
      clear this
      go_wp2_with fail
      go_ret
      exact ⟨ret_int hf.out, (Gr.refl w).alloc _⟩
set_option maxHeartbeats 400000 in
theorem within_any (n a b : Int) (w : World) :
    Calls Tryd.prog 28 #[.int .i64 n, .int .i64 a, .int .i64 b] w fun x w' => x = .returned (.bool (decide (a ≤ n) && decide (n ≤ b))) ∧ w = w' := by
  by_cases h : a ≤ n
  · have g : decide (a ≤ n) = true := by simpa using h
    go_enter Tryd.func28, Tryd.ntmps28
    go_wp2_with fail
    go_ret
    exact ⟨ret_bool (by simp [g]), rfl⟩
  · have g : decide (a ≤ n) = false := by simpa using h
    go_enter Tryd.func28, Tryd.ntmps28
    go_wp2_with fail
    go_ret
    exact ⟨ret_bool (by simp), rfl⟩
end Go.Proofs.YtehjikjpgdnjdaaDoor
