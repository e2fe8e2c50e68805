import Derived.Test.YtmmakknhaacplaaGreatDoorP03
import Derived.Great.Walk
import Derived.Test.YtmmakknhaacplaaGreatDoorP06
/-
  Stage 3, instr: the document's rows.
-/
namespace Go.Proofs.YtmmakknhaacplaaGreatDoor
open Go.RowKit

def rowCells : Array Value := (docL.map fun r => [Value.int .u8 r.1, .string (str r.2.1), .string (str r.2.2)]).flatten.toArray
set_option maxRecDepth 1000000 in
set_option maxHeartbeats 8000000 in
theorem Rows_any (w : World) :
    Calls Tryz.prog 67 #[] w fun x w' => x = .returned (.slice (some ⟨w.heap.size, 0, none⟩) 52 52) ∧ w.alloc (.cells rowCells 120) = w' := by
  go_enter Tryz.func67, Tryz.ntmps67
  go_upto_region 1 with fail
  refine wp_region_lit ?_
  refine Great.wpList_readTo rfl (some 1) rfl (.agg #[.int .u8 1, .string ⟨#[108, 105]⟩, .string ⟨#[114, 105]⟩]) (by kernel_rfl) ?_
  refine Great.wpList_readTo rfl (some 2) rfl (.agg #[.int .u8 2, .string ⟨#[109, 111, 118]⟩, .string ⟨#[114, 114]⟩]) (by kernel_rfl) ?_
  refine Great.wpList_readTo rfl (some 3) rfl (.agg #[.int .u8 3, .string ⟨#[97, 100, 100]⟩, .string ⟨#[114, 114, 114]⟩]) (by kernel_rfl) ?_
  refine Great.wpList_readTo rfl (some 4) rfl (.agg #[.int .u8 4, .string ⟨#[115, 117, 98]⟩, .string ⟨#[114, 114, 114]⟩]) (by kernel_rfl) ?_
  refine Great.wpList_readTo rfl (some 5) rfl (.agg #[.int .u8 5, .string ⟨#[109, 117, 108]⟩, .string ⟨#[114, 114, 114]⟩]) (by kernel_rfl) ?_
  refine Great.wpList_readTo rfl (some 6) rfl (.agg #[.int .u8 6, .string ⟨#[97, 110, 100]⟩, .string ⟨#[114, 114, 114]⟩]) (by kernel_rfl) ?_
  refine Great.wpList_readTo rfl (some 7) rfl (.agg #[.int .u8 7, .string ⟨#[111, 114]⟩, .string ⟨#[114, 114, 114]⟩]) (by kernel_rfl) ?_
  refine Great.wpList_readTo rfl (some 8) rfl (.agg #[.int .u8 8, .string ⟨#[120, 111, 114]⟩, .string ⟨#[114, 114, 114]⟩]) (by kernel_rfl) ?_
  refine Great.wpList_readTo rfl (some 9) rfl (.agg #[.int .u8 9, .string ⟨#[115, 104, 108]⟩, .string ⟨#[114, 114, 114]⟩]) (by kernel_rfl) ?_
  refine Great.wpList_readTo rfl (some 10) rfl (.agg #[.int .u8 10, .string ⟨#[115, 104, 114]⟩, .string ⟨#[114, 114, 114]⟩]) (by kernel_rfl) ?_
  refine Great.wpList_readTo rfl (some 11) rfl (.agg #[.int .u8 11, .string ⟨#[97, 100, 100, 105]⟩, .string ⟨#[114, 114, 105]⟩]) (by kernel_rfl) ?_
  refine Great.wpList_readTo rfl (some 12) rfl (.agg #[.int .u8 12, .string ⟨#[115, 108, 116]⟩, .string ⟨#[114, 114, 114]⟩]) (by kernel_rfl) ?_
  refine Great.wpList_readTo rfl (some 13) rfl (.agg #[.int .u8 13, .string ⟨#[115, 101, 113]⟩, .string ⟨#[114, 114, 114]⟩]) (by kernel_rfl) ?_
  refine Great.wpList_readTo rfl (some 14) rfl (.agg #[.int .u8 20, .string ⟨#[106, 109, 112]⟩, .string ⟨#[116]⟩]) (by kernel_rfl) ?_
  refine Great.wpList_readTo rfl (some 15) rfl (.agg #[.int .u8 21, .string ⟨#[98, 101, 113]⟩, .string ⟨#[114, 114, 116]⟩]) (by kernel_rfl) ?_
  refine Great.wpList_readTo rfl (some 16) rfl (.agg #[.int .u8 22, .string ⟨#[98, 110, 101]⟩, .string ⟨#[114, 114, 116]⟩]) (by kernel_rfl) ?_
  refine Great.wpList_readTo rfl (some 17) rfl (.agg #[.int .u8 23, .string ⟨#[98, 108, 116]⟩, .string ⟨#[114, 114, 116]⟩]) (by kernel_rfl) ?_
  refine Great.wpList_readTo rfl (some 18) rfl (.agg #[.int .u8 24, .string ⟨#[98, 103, 101]⟩, .string ⟨#[114, 114, 116]⟩]) (by kernel_rfl) ?_
  refine Great.wpList_readTo rfl (some 19) rfl (.agg #[.int .u8 25, .string ⟨#[99, 112, 99]⟩, .string ⟨#[114, 116]⟩]) (by kernel_rfl) ?_
  refine Great.wpList_readTo rfl (some 20) rfl (.agg #[.int .u8 26, .string ⟨#[106, 99]⟩, .string ⟨#[114]⟩]) (by kernel_rfl) ?_
  refine Great.wpList_readTo rfl (some 21) rfl (.agg #[.int .u8 27, .string ⟨#[104, 97, 108, 116]⟩, .string ⟨#[114]⟩]) (by kernel_rfl) ?_
  refine Great.wpList_readTo rfl (some 22) rfl (.agg #[.int .u8 28, .string ⟨#[116, 114, 97, 112]⟩, .string ⟨#[99]⟩]) (by kernel_rfl) ?_
  refine Great.wpList_readTo rfl (some 23) rfl (.agg #[.int .u8 29, .string ⟨#[105, 110]⟩, .string ⟨#[114]⟩]) (by kernel_rfl) ?_
  refine Great.wpList_readTo rfl (some 24) rfl (.agg #[.int .u8 30, .string ⟨#[111, 117, 116]⟩, .string ⟨#[114]⟩]) (by kernel_rfl) ?_
  refine Great.wpList_readTo rfl (some 25) rfl (.agg #[.int .u8 31, .string ⟨#[99, 97, 108, 108]⟩, .string ⟨#[103]⟩]) (by kernel_rfl) ?_
  refine Great.wpList_readTo rfl (some 26) rfl (.agg #[.int .u8 32, .string ⟨#[114, 101, 116]⟩, .string ⟨#[]⟩]) (by kernel_rfl) ?_
  refine Great.wpList_readTo rfl (some 27) rfl (.agg #[.int .u8 40, .string ⟨#[99, 105, 110, 99]⟩, .string ⟨#[114, 114, 114]⟩]) (by kernel_rfl) ?_
  refine Great.wpList_readTo rfl (some 28) rfl (.agg #[.int .u8 41, .string ⟨#[99, 105, 110, 99, 105]⟩, .string ⟨#[114, 114, 105]⟩]) (by kernel_rfl) ?_
  refine Great.wpList_readTo rfl (some 29) rfl (.agg #[.int .u8 42, .string ⟨#[99, 115, 101, 116, 98]⟩, .string ⟨#[114, 114, 114]⟩]) (by kernel_rfl) ?_
  refine Great.wpList_readTo rfl (some 30) rfl (.agg #[.int .u8 43, .string ⟨#[99, 115, 101, 116, 98, 105]⟩, .string ⟨#[114, 114, 110]⟩]) (by kernel_rfl) ?_
  refine Great.wpList_readTo rfl (some 31) rfl (.agg #[.int .u8 44, .string ⟨#[99, 97, 110, 100, 112]⟩, .string ⟨#[114, 114, 112]⟩]) (by kernel_rfl) ?_
  refine Great.wpList_readTo rfl (some 32) rfl (.agg #[.int .u8 45, .string ⟨#[99, 115, 101, 97, 108]⟩, .string ⟨#[114, 114, 114]⟩]) (by kernel_rfl) ?_
  refine Great.wpList_readTo rfl (some 33) rfl (.agg #[.int .u8 46, .string ⟨#[99, 117, 110, 115, 101, 97, 108]⟩, .string ⟨#[114, 114, 114]⟩]) (by kernel_rfl) ?_
  refine Great.wpList_readTo rfl (some 34) rfl (.agg #[.int .u8 50, .string ⟨#[99, 97, 100, 100, 114]⟩, .string ⟨#[114, 114]⟩]) (by kernel_rfl) ?_
  refine Great.wpList_readTo rfl (some 35) rfl (.agg #[.int .u8 51, .string ⟨#[99, 98, 97, 115, 101]⟩, .string ⟨#[114, 114]⟩]) (by kernel_rfl) ?_
  refine Great.wpList_readTo rfl (some 36) rfl (.agg #[.int .u8 52, .string ⟨#[99, 101, 110, 100]⟩, .string ⟨#[114, 114]⟩]) (by kernel_rfl) ?_
  refine Great.wpList_readTo rfl (some 37) rfl (.agg #[.int .u8 53, .string ⟨#[99, 112, 101, 114, 109]⟩, .string ⟨#[114, 114]⟩]) (by kernel_rfl) ?_
  refine Great.wpList_readTo rfl (some 38) rfl (.agg #[.int .u8 54, .string ⟨#[99, 115, 101, 97, 108, 101, 100]⟩, .string ⟨#[114, 114]⟩]) (by kernel_rfl) ?_
  refine Great.wpList_readTo rfl (some 39) rfl (.agg #[.int .u8 55, .string ⟨#[99, 116, 97, 103]⟩, .string ⟨#[114, 114]⟩]) (by kernel_rfl) ?_
  refine Great.wpList_readTo rfl (some 40) rfl (.agg #[.int .u8 56, .string ⟨#[99, 115, 97, 109, 101]⟩, .string ⟨#[114, 114, 114]⟩]) (by kernel_rfl) ?_
  refine Great.wpList_readTo rfl (some 41) rfl (.agg #[.int .u8 60, .string ⟨#[108, 98]⟩, .string ⟨#[114, 114, 105]⟩]) (by kernel_rfl) ?_
  refine Great.wpList_readTo rfl (some 42) rfl (.agg #[.int .u8 61, .string ⟨#[108, 119]⟩, .string ⟨#[114, 114, 105]⟩]) (by kernel_rfl) ?_
  refine Great.wpList_readTo rfl (some 43) rfl (.agg #[.int .u8 62, .string ⟨#[115, 98]⟩, .string ⟨#[114, 114, 105]⟩]) (by kernel_rfl) ?_
  refine Great.wpList_readTo rfl (some 44) rfl (.agg #[.int .u8 63, .string ⟨#[115, 119]⟩, .string ⟨#[114, 114, 105]⟩]) (by kernel_rfl) ?_
  refine Great.wpList_readTo rfl (some 45) rfl (.agg #[.int .u8 64, .string ⟨#[108, 99]⟩, .string ⟨#[114, 114, 105]⟩]) (by kernel_rfl) ?_
  refine Great.wpList_readTo rfl (some 46) rfl (.agg #[.int .u8 65, .string ⟨#[115, 99]⟩, .string ⟨#[114, 114, 105]⟩]) (by kernel_rfl) ?_
  refine Great.wpList_readTo rfl (some 47) rfl (.agg #[.int .u8 70, .string ⟨#[103, 108, 116]⟩, .string ⟨#[114, 105, 99]⟩]) (by kernel_rfl) ?_
  refine Great.wpList_readTo rfl (some 48) rfl (.agg #[.int .u8 71, .string ⟨#[103, 103, 101]⟩, .string ⟨#[114, 105, 99]⟩]) (by kernel_rfl) ?_
  refine Great.wpList_readTo rfl (some 49) rfl (.agg #[.int .u8 72, .string ⟨#[103, 116, 97, 103]⟩, .string ⟨#[114, 99]⟩]) (by kernel_rfl) ?_
  refine Great.wpList_readTo rfl (some 50) rfl (.agg #[.int .u8 73, .string ⟨#[103, 105, 110]⟩, .string ⟨#[114, 110, 99]⟩]) (by kernel_rfl) ?_
  refine Great.wpList_readTo rfl (some 51) rfl (.agg #[.int .u8 74, .string ⟨#[103, 112, 101, 114, 109]⟩, .string ⟨#[114, 112, 99]⟩]) (by kernel_rfl) ?_
  refine Great.wpList_readTo rfl (some 52) rfl (.agg #[.int .u8 75, .string ⟨#[103, 115, 101, 97, 108]⟩, .string ⟨#[114, 115, 99]⟩]) (by kernel_rfl) ?_
  refine Great.wpList_buildSliceTo rfl 121 120 52 _ rfl w.heap.size rfl (some 53) rfl (by kernel_rfl) rowCells (by kernel_rfl) ?_
  refine Great.wpList_readTo rfl (some 0) rfl (.slice (some ⟨w.heap.size, 0, none⟩) 52 52) (by kernel_rfl) ?_
  refine wpList_nil ?_
  rename_i K hK
  refine hK _ _ (wp_ret ?_)
  refine bodyPost_ret (results_tmp rfl _ _ _) (by kernel_rfl) ⟨?_, rfl⟩
  have : ∀ v, Value.slice (some ⟨w.heap.size, 0, none⟩) 52 52 = v → Ending.returned v = Ending.returned (Value.slice (some ⟨w.heap.size, 0, none⟩) 52 52) := fun v h => by rw [h]
  exact this _ (by kernel_rfl)
end Go.Proofs.YtmmakknhaacplaaGreatDoor


/-
  Stage 3, instr: the document's find, within.
-/
namespace Go.Proofs.YtmmakknhaacplaaGreatDoor
open Go.RowKit

theorem flat3 {α β : Type} (f g h : α → β) : ∀ (l : List α) (k : Nat), (l.map fun r => [f r, g r, h r]).flatten[k * 3]? = l[k]?.map f ∧ (l.map fun r => [f r, g r, h r]).flatten[k * 3 + 1]? = l[k]?.map g ∧ (l.map fun r => [f r, g r, h r]).flatten[k * 3 + 2]? = l[k]?.map h
  | [], k => by simp
  | r :: l, 0 => by simp
  | r :: l, k + 1 => by
    have := flat3 f g h l k
    have e : ∀ j, (List.map (fun r => [f r, g r, h r]) (r :: l)).flatten[(k + 1) * 3 + j]? = (List.map (fun r => [f r, g r, h r]) l).flatten[k * 3 + j]? := fun j => by
      have e2 : (k + 1) * 3 + j = (k * 3 + j) + 1 + 1 + 1 := by omega
      rw [e2]; simp
    refine ⟨?_, ?_, ?_⟩
    · have := e 0; simp only [Nat.add_zero] at this; rw [this]; simpa using (flat3 f g h l k).1
    · rw [e 1]; simpa using (flat3 f g h l k).2.1
    · rw [e 2]; simpa using (flat3 f g h l k).2.2
theorem row_at (k : Nat) (hk : k < 52) : rowCells[k * 3]? = some (.int .u8 (docRow k).1) ∧ rowCells[k * 3 + 1]? = some (.string (str (docRow k).2.1)) ∧ rowCells[k * 3 + 2]? = some (.string (str (docRow k).2.2)) := by
  have h := flat3 (fun r : Int × List UInt8 × List UInt8 => Value.int .u8 r.1) (fun r => Value.string (str r.2.1)) (fun r => Value.string (str r.2.2)) docL k
  have hl : k < docL.length := by rw [docL_len]; exact hk
  have e : docL[k]? = some (docRow k) := by simp [docRow, List.getD_eq_getElem?_getD, hl]
  rw [e] at h
  unfold rowCells
  simpa using h
theorem drop_docL {k : Nat} (hk : k < 52) : docL.drop k = docRow k :: docL.drop (k + 1) := by
  have hl : k < docL.length := by rw [docL_len]; exact hk
  rw [List.drop_eq_getElem_cons hl]
  simp [docRow, List.getD_eq_getElem?_getD, hl]
theorem find_here {op : Int} {k : Nat} (hk : k < 52) (h : (docRow k).1 = op) : findAt op (docL.drop k) k = k := by
  rw [drop_docL hk, findAt, if_pos h]
theorem find_next {op : Int} {k : Nat} (hk : k < 52) (h : ¬ (docRow k).1 = op) : findAt op (docL.drop k) k = findAt op (docL.drop (k + 1)) (k + 1) := by
  rw [drop_docL hk, findAt, if_neg h]
theorem find_end {op : Int} {k : Nat} (hk : ¬ k < 52) : findAt op (docL.drop k) k = -1 := by
  have : docL.drop k = [] := by rw [List.drop_eq_nil_iff, docL_len]; omega
  rw [this]; rfl
theorem findF_range (op : Int) : findF op = -1 ∨ (0 ≤ findF op ∧ findF op < 52) := by
  have : ∀ (l : List (Int × List UInt8 × List UInt8)) (k : Nat), findAt op l k = -1 ∨ (k ≤ findAt op l k ∧ findAt op l k < k + l.length) := by
    intro l
    induction l with
    | nil => intro k; exact Or.inl rfl
    | cons r l ih =>
      intro k
      rw [findAt]
      split
      · right; simp; omega
      · rcases ih (k + 1) with h | h
        · exact Or.inl h
        · right; simp; omega
  have := this docL 0
  rw [docL_len] at this
  simpa [findF] using this
theorem ret_int {k : IntKind} {a b : Int} (h : a = b) : Ending.returned (.int k a) = .returned (.int k b) := by rw [h]
theorem ret_str {a b : List UInt8} (h : a = b) : Ending.returned (.string (str a)) = .returned (.string (str b)) := by rw [h]
set_option maxHeartbeats 400000 in
theorem find_any (op : Int) (w : World) :
    Calls Tryz.prog 66 #[.int .u8 op] w fun x w' => x = .returned (.int .i64 (findF op)) ∧ Gr w w' := by
  go_enter Tryz.func66, Tryz.ntmps66
  go_wp2_with (go_at_call 67; refine (Rows_any _).mono ?_; rintro x w' ⟨rfl, rfl⟩)
  go_loop [4] (fun i => ∃ k : Nat, i = .int .i64 k ∧ k ≤ 52 ∧ Hid (findAt op (docL.drop k) k = findF op)) (fun i => 52 - (intOf i).toNat)
  case atStart => exact ⟨0, rfl, by omega, ⟨rfl⟩⟩
  case round =>
    obtain ⟨k, rfl, hk, hf⟩ := hrel
    by_cases hlt : k < 52
    · have c : ∀ t, (w.alloc (.cells rowCells t)).cell? ⟨w.heap.size, k * 3, none⟩ = some (.int .u8 (docRow k).1) := fun t => (World.cell?_alloc_new w rowCells t (k * 3)).trans (row_at k hlt).1
      have kl : (k : Int) < 52 := by omega
      by_cases he : (docRow k).1 = op
      · have g : ((docRow k).1 == op) = true := by simpa using he
        rw [find_here hlt he] at hf
        replace he := Hid.mk he
        generalize (docRow k).1 = y at *
        go_wp2_with fail
        go_ret
        exact ⟨ret_int hf.out, (Gr.refl w).alloc _⟩
      · have g : ((docRow k).1 == op) = false := by simpa using he
        rw [find_next hlt he] at hf
        replace he := Hid.mk he
        generalize (docRow k).1 = y at *
        go_wp2_with fail
        go_round
        case rel => exact ⟨k + 1, by simp, by omega, hf⟩
        case measure => simp [intOf]; omega
    · have kl : ¬ (k : Int) < 52 := by omega
      rw [find_end hlt] at hf
      go_wp2_with fail
      go_ret
      exact ⟨ret_int hf.out, (Gr.refl w).alloc _⟩

set_option maxHeartbeats 400000 in
theorem within_any (n a b : Int) (w : World) :
    Calls Tryz.prog 68 #[.int .i64 n, .int .i64 a, .int .i64 b] w fun x w' => x = .returned (.bool (decide (a ≤ n) && decide (n ≤ b))) ∧ w = w' := by
  by_cases h : a ≤ n
  · have g : decide (a ≤ n) = true := by simpa using h
    go_enter Tryz.func68, Tryz.ntmps68
    go_wp2_with fail
    go_ret
    exact ⟨ret_bool (by simp [g]), rfl⟩
  · have g : decide (a ≤ n) = false := by simpa using h
    go_enter Tryz.func68, Tryz.ntmps68
    go_wp2_with fail
    go_ret
    exact ⟨ret_bool (by simp), rfl⟩
end Go.Proofs.YtmmakknhaacplaaGreatDoor
