import Derived.Test.YtdlcphinjnnhcaaGreatDoorK02
import Derived.Great.Walk
import Derived.Test.YtdlcphinjnnhcaaGreatDoorK03
import Derived.Test.YtdlcphinjnnhcaaGreatDoorK22
import Derived.Test.YtdlcphinjnnhcaaGreatDoorK23
import Derived.OrdersHeld
namespace Go.Proofs.YtdlcphinjnnhcaaGreatDoor
set_option maxRecDepth 100000
set_option maxHeartbeats 40000000
open Go.RowKit

def rowCells : Array Value := (docL.map fun r => [Value.int .u8 r.1, .string (str r.2.1), .string (str r.2.2)]).flatten.toArray
theorem Rows_any (w : World) :
   Calls Tryz.prog 75 #[] w fun x w' => x = .returned (.slice (some ⟨w.heap.size, 0, none⟩) 52 52) ∧ w.alloc (.cells rowCells 142) = w' := by
 go_enter Tryz.func75, Tryz.ntmps75
 go_upto_region 1 with fail
 refine wp_region_lit ?_
 refine Great.wpList_readTo rfl (some 1) rfl (.agg #[.int .u8 1, .string ⟨#[108, 105]⟩, .string ⟨#[114, 105]⟩]) (by kernel_rfl) ?_
 refine Great.wpList_readTo rfl (some 2) rfl (.agg #[.int .u8 2, .string ⟨#[109, 111, 118]⟩, .string ⟨#[114, 114]⟩]) (by kernel_rfl) ?_
 refine Great.wpList_readTo rfl (some 3) rfl (.agg #[.int .u8 3, .string ⟨#[97, 100, 100]⟩, .string ⟨#[114, 114, 114]⟩]) (by kernel_rfl) ?_
 refine Great.wpList_readTo rfl (some 4) rfl (.agg #[.int .u8 4, .string ⟨#[115, 117, 98]⟩, .string ⟨#[114, 114, 114]⟩]) (by kernel_rfl) ?_
 refine Great.wpList_readTo rfl (some 5) rfl (.agg #[.int .u8 5, .string ⟨#[109, 117, 108]⟩, .string ⟨#[114, 114, 114]⟩]) (by kernel_rfl) ?_
 refine Great.wpList_readTo rfl (some 6) rfl (.agg #[.int .u8 6, .string ⟨#[97, 110, 100]⟩, .string ⟨#[114, 114, 114]⟩]) (by kernel_rfl) ?_
 refine Great.wpList_readTo rfl (some 7) rfl (.agg #[.int .u8 7, .string ⟨#[111, 114]⟩, .string ⟨#[114, 114, 114]⟩]) (by kernel_rfl) ?_
 refine Great.wpList_readTo rfl (some 8) rfl (.agg #[.int .u8 8, .string ⟨#[120, 111, 114]⟩, .string ⟨#[114, 114, 114]⟩]) (by kernel_rfl) ?_
 refine Great.wpList_readTo rfl (some 9) rfl (.agg #[.int .u8 9, .string ⟨#[115, 104, 108]⟩, .string ⟨#[114, 114, 114]⟩]) (by kernel_rfl) ?_
 refine Great.wpList_readTo rfl (some 10) rfl (.agg #[.int .u8 10, .string ⟨#[115, 104, 114]⟩, .string ⟨#[114, 114, 114]⟩]) (by kernel_rfl) ?_
 refine Great.wpList_readTo rfl (some 11) rfl (.agg #[.int .u8 11, .string ⟨#[97, 100, 100, 105]⟩, .string ⟨#[114, 114, 105]⟩]) (by kernel_rfl) ?_
 refine Great.wpList_readTo rfl (some 12) rfl (.agg #[.int .u8 12, .string ⟨#[115, 108, 116]⟩, .string ⟨#[114, 114, 114]⟩]) (by kernel_rfl) ?_
 refine Great.wpList_readTo rfl (some 13) rfl (.agg #[.int .u8 13, .string ⟨#[115, 101, 113]⟩, .string ⟨#[114, 114, 114]⟩]) (by kernel_rfl) ?_
 refine Great.wpList_readTo rfl (some 14) rfl (.agg #[.int .u8 20, .string ⟨#[106, 109, 112]⟩, .string ⟨#[116]⟩]) (by kernel_rfl) ?_
 refine Great.wpList_readTo rfl (some 15) rfl (.agg #[.int .u8 21, .string ⟨#[98, 101, 113]⟩, .string ⟨#[114, 114, 116]⟩]) (by kernel_rfl) ?_
 refine Great.wpList_readTo rfl (some 16) rfl (.agg #[.int .u8 22, .string ⟨#[98, 110, 101]⟩, .string ⟨#[114, 114, 116]⟩]) (by kernel_rfl) ?_
 refine Great.wpList_readTo rfl (some 17) rfl (.agg #[.int .u8 23, .string ⟨#[98, 108, 116]⟩, .string ⟨#[114, 114, 116]⟩]) (by kernel_rfl) ?_
 refine Great.wpList_readTo rfl (some 18) rfl (.agg #[.int .u8 24, .string ⟨#[98, 103, 101]⟩, .string ⟨#[114, 114, 116]⟩]) (by kernel_rfl) ?_
 refine Great.wpList_readTo rfl (some 19) rfl (.agg #[.int .u8 25, .string ⟨#[99, 112, 99]⟩, .string ⟨#[114, 116]⟩]) (by kernel_rfl) ?_
 refine Great.wpList_readTo rfl (some 20) rfl (.agg #[.int .u8 26, .string ⟨#[106, 99]⟩, .string ⟨#[114]⟩]) (by kernel_rfl) ?_
 refine Great.wpList_readTo rfl (some 21) rfl (.agg #[.int .u8 27, .string ⟨#[104, 97, 108, 116]⟩, .string ⟨#[114]⟩]) (by kernel_rfl) ?_
 refine Great.wpList_readTo rfl (some 22) rfl (.agg #[.int .u8 28, .string ⟨#[116, 114, 97, 112]⟩, .string ⟨#[99]⟩]) (by kernel_rfl) ?_
 refine Great.wpList_readTo rfl (some 23) rfl (.agg #[.int .u8 29, .string ⟨#[105, 110]⟩, .string ⟨#[114]⟩]) (by kernel_rfl) ?_
 refine Great.wpList_readTo rfl (some 24) rfl (.agg #[.int .u8 30, .string ⟨#[111, 117, 116]⟩, .string ⟨#[114]⟩]) (by kernel_rfl) ?_
 refine Great.wpList_readTo rfl (some 25) rfl (.agg #[.int .u8 31, .string ⟨#[99, 97, 108, 108]⟩, .string ⟨#[103]⟩]) (by kernel_rfl) ?_
 refine Great.wpList_readTo rfl (some 26) rfl (.agg #[.int .u8 32, .string ⟨#[114, 101, 116]⟩, .string ⟨#[]⟩]) (by kernel_rfl) ?_
 refine Great.wpList_readTo rfl (some 27) rfl (.agg #[.int .u8 40, .string ⟨#[99, 105, 110, 99]⟩, .string ⟨#[114, 114, 114]⟩]) (by kernel_rfl) ?_
 refine Great.wpList_readTo rfl (some 28) rfl (.agg #[.int .u8 41, .string ⟨#[99, 105, 110, 99, 105]⟩, .string ⟨#[114, 114, 105]⟩]) (by kernel_rfl) ?_
 refine Great.wpList_readTo rfl (some 29) rfl (.agg #[.int .u8 42, .string ⟨#[99, 115, 101, 116, 98]⟩, .string ⟨#[114, 114, 114]⟩]) (by kernel_rfl) ?_
 refine Great.wpList_readTo rfl (some 30) rfl (.agg #[.int .u8 43, .string ⟨#[99, 115, 101, 116, 98, 105]⟩, .string ⟨#[114, 114, 110]⟩]) (by kernel_rfl) ?_
 refine Great.wpList_readTo rfl (some 31) rfl (.agg #[.int .u8 44, .string ⟨#[99, 97, 110, 100, 112]⟩, .string ⟨#[114, 114, 112]⟩]) (by kernel_rfl) ?_
 refine Great.wpList_readTo rfl (some 32) rfl (.agg #[.int .u8 45, .string ⟨#[99, 115, 101, 97, 108]⟩, .string ⟨#[114, 114, 114]⟩]) (by kernel_rfl) ?_
 refine Great.wpList_readTo rfl (some 33) rfl (.agg #[.int .u8 46, .string ⟨#[99, 117, 110, 115, 101, 97, 108]⟩, .string ⟨#[114, 114, 114]⟩]) (by kernel_rfl) ?_
 refine Great.wpList_readTo rfl (some 34) rfl (.agg #[.int .u8 50, .string ⟨#[99, 97, 100, 100, 114]⟩, .string ⟨#[114, 114]⟩]) (by kernel_rfl) ?_
 refine Great.wpList_readTo rfl (some 35) rfl (.agg #[.int .u8 51, .string ⟨#[99, 98, 97, 115, 101]⟩, .string ⟨#[114, 114]⟩]) (by kernel_rfl) ?_
 refine Great.wpList_readTo rfl (some 36) rfl (.agg #[.int .u8 52, .string ⟨#[99, 101, 110, 100]⟩, .string ⟨#[114, 114]⟩]) (by kernel_rfl) ?_
 refine Great.wpList_readTo rfl (some 37) rfl (.agg #[.int .u8 53, .string ⟨#[99, 112, 101, 114, 109]⟩, .string ⟨#[114, 114]⟩]) (by kernel_rfl) ?_
 refine Great.wpList_readTo rfl (some 38) rfl (.agg #[.int .u8 54, .string ⟨#[99, 115, 101, 97, 108, 101, 100]⟩, .string ⟨#[114, 114]⟩]) (by kernel_rfl) ?_
 refine Great.wpList_readTo rfl (some 39) rfl (.agg #[.int .u8 55, .string ⟨#[99, 116, 97, 103]⟩, .string ⟨#[114, 114]⟩]) (by kernel_rfl) ?_
 refine Great.wpList_readTo rfl (some 40) rfl (.agg #[.int .u8 56, .string ⟨#[99, 115, 97, 109, 101]⟩, .string ⟨#[114, 114, 114]⟩]) (by kernel_rfl) ?_
 refine Great.wpList_readTo rfl (some 41) rfl (.agg #[.int .u8 60, .string ⟨#[108, 98]⟩, .string ⟨#[114, 114, 105]⟩]) (by kernel_rfl) ?_
 refine Great.wpList_readTo rfl (some 42) rfl (.agg #[.int .u8 61, .string ⟨#[108, 119]⟩, .string ⟨#[114, 114, 105]⟩]) (by kernel_rfl) ?_
 refine Great.wpList_readTo rfl (some 43) rfl (.agg #[.int .u8 62, .string ⟨#[115, 98]⟩, .string ⟨#[114, 114, 105]⟩]) (by kernel_rfl) ?_
 refine Great.wpList_readTo rfl (some 44) rfl (.agg #[.int .u8 63, .string ⟨#[115, 119]⟩, .string ⟨#[114, 114, 105]⟩]) (by kernel_rfl) ?_
 refine Great.wpList_readTo rfl (some 45) rfl (.agg #[.int .u8 64, .string ⟨#[108, 99]⟩, .string ⟨#[114, 114, 105]⟩]) (by kernel_rfl) ?_
 refine Great.wpList_readTo rfl (some 46) rfl (.agg #[.int .u8 65, .string ⟨#[115, 99]⟩, .string ⟨#[114, 114, 105]⟩]) (by kernel_rfl) ?_
 refine Great.wpList_readTo rfl (some 47) rfl (.agg #[.int .u8 70, .string ⟨#[103, 108, 116]⟩, .string ⟨#[114, 105, 99]⟩]) (by kernel_rfl) ?_
 refine Great.wpList_readTo rfl (some 48) rfl (.agg #[.int .u8 71, .string ⟨#[103, 103, 101]⟩, .string ⟨#[114, 105, 99]⟩]) (by kernel_rfl) ?_
 refine Great.wpList_readTo rfl (some 49) rfl (.agg #[.int .u8 72, .string ⟨#[103, 116, 97, 103]⟩, .string ⟨#[114, 99]⟩]) (by kernel_rfl) ?_
 refine Great.wpList_readTo rfl (some 50) rfl (.agg #[.int .u8 73, .string ⟨#[103, 105, 110]⟩, .string ⟨#[114, 110, 99]⟩]) (by kernel_rfl) ?_
 refine Great.wpList_readTo rfl (some 51) rfl (.agg #[.int .u8 74, .string ⟨#[103, 112, 101, 114, 109]⟩, .string ⟨#[114, 112, 99]⟩]) (by kernel_rfl) ?_
 refine Great.wpList_readTo rfl (some 52) rfl (.agg #[.int .u8 75, .string ⟨#[103, 115, 101, 97, 108]⟩, .string ⟨#[114, 115, 99]⟩]) (by kernel_rfl) ?_
 refine Great.wpList_buildSliceTo rfl 143 142 52 _ rfl w.heap.size rfl (some 53) rfl (by kernel_rfl) rowCells (by kernel_rfl) ?_
 refine Great.wpList_readTo rfl (some 0) rfl (.slice (some ⟨w.heap.size, 0, none⟩) 52 52) (by kernel_rfl) ?_
 refine wpList_nil ?_
 rename_i K hK
 refine hK _ _ (wp_ret ?_)
 refine bodyPost_ret (results_tmp rfl _ _ _) (by kernel_rfl) ⟨?_, rfl⟩
 have : ∀ v, Value.slice (some ⟨w.heap.size, 0, none⟩) 52 52 = v → Ending.returned v = Ending.returned (Value.slice (some ⟨w.heap.size, 0, none⟩) 52 52) := fun v h => by rw [h]
 exact this _ (by kernel_rfl)
end Go.Proofs.YtdlcphinjnnhcaaGreatDoor


namespace Go.Proofs.YtdlcphinjnnhcaaGreatDoor
set_option maxRecDepth 100000
set_option maxHeartbeats 40000000
open Go.RowKit

theorem flat3 {α β : Type} (f g h : α → β) : ∀ (l : List α) (k : Nat), (l.map fun r => [f r, g r, h r]).flatten[k * 3]? = l[k]?.map f ∧ (l.map fun r => [f r, g r, h r]).flatten[k * 3 + 1]? = l[k]?.map g ∧ (l.map fun r => [f r, g r, h r]).flatten[k * 3 + 2]? = l[k]?.map h
 | [], k => by simp
 | r :: l, 0 => by simp
 | r :: l, k + 1 => by
   have := flat3 f g h l k
   have e : ∀ j, (List.map (fun r => [f r, g r, h r]) (r :: l)).flatten[(k + 1) * 3 + j]? = (List.map (fun r => [f r, g r, h r]) l).flatten[k * 3 + j]? := fun j => by
     have e2 : (k + 1) * 3 + j = (k * 3 + j) + 1 + 1 + 1 := by omega
     rw [e2]; simp
   refine ⟨?_, ?_, ?_⟩
   · have := e 0; simp only [Nat.add_zero] at this; rw [this]; simpa using (flat3 f g h l k).1
   · rw [e 1]; simpa using (flat3 f g h l k).2.1
   · rw [e 2]; simpa using (flat3 f g h l k).2.2
theorem row_at (k : Nat) (hk : k < 52) : rowCells[k * 3]? = some (.int .u8 (docRow k).1) ∧ rowCells[k * 3 + 1]? = some (.string (str (docRow k).2.1)) ∧ rowCells[k * 3 + 2]? = some (.string (str (docRow k).2.2)) := by
 have h := flat3 (fun r : Int × List UInt8 × List UInt8 => Value.int .u8 r.1) (fun r => Value.string (str r.2.1)) (fun r => Value.string (str r.2.2)) docL k
 have hl : k < docL.length := by rw [docL_len]; exact hk
 have e : docL[k]? = some (docRow k) := by simp [docRow, List.getD_eq_getElem?_getD, hl]
 rw [e] at h
 unfold rowCells
 simpa using h
theorem drop_docL {k : Nat} (hk : k < 52) : docL.drop k = docRow k :: docL.drop (k + 1) := by
 have hl : k < docL.length := by rw [docL_len]; exact hk
 rw [List.drop_eq_getElem_cons hl]
 simp [docRow, List.getD_eq_getElem?_getD, hl]
theorem find_here {op : Int} {k : Nat} (hk : k < 52) (h : (docRow k).1 = op) : findAt op (docL.drop k) k = k := by
 rw [drop_docL hk, findAt, if_pos h]
theorem find_next {op : Int} {k : Nat} (hk : k < 52) (h : ¬ (docRow k).1 = op) : findAt op (docL.drop k) k = findAt op (docL.drop (k + 1)) (k + 1) := by
 rw [drop_docL hk, findAt, if_neg h]
theorem find_end {op : Int} {k : Nat} (hk : ¬ k < 52) : findAt op (docL.drop k) k = -1 := by
 have : docL.drop k = [] := by rw [List.drop_eq_nil_iff, docL_len]; omega
 rw [this]; rfl
theorem findF_range (op : Int) : findF op = -1 ∨ (0 ≤ findF op ∧ findF op < 52) := by
 have : ∀ (l : List (Int × List UInt8 × List UInt8)) (k : Nat), findAt op l k = -1 ∨ (k ≤ findAt op l k ∧ findAt op l k < k + l.length) := by
   intro l
   induction l with
   | nil => intro k; exact Or.inl rfl
   | cons r l ih =>
     intro k
     rw [findAt]
     split
     · right; simp; omega
     · rcases ih (k + 1) with h | h
       · exact Or.inl h
       · right; simp; omega
 have := this docL 0
 rw [docL_len] at this
 simpa [findF] using this
theorem ret_int {k : IntKind} {a b : Int} (h : a = b) : Ending.returned (.int k a) = .returned (.int k b) := by rw [h]
theorem find_any (op : Int) (w : World) :
   Calls Tryz.prog 74 #[.int .u8 op] w fun x w' => x = .returned (.int .i64 (findF op)) ∧ Gr w w' := by
 go_enter Tryz.func74, Tryz.ntmps74
 go_wp2_with (go_at_call 75; refine (Rows_any _).mono ?_; rintro x w' ⟨rfl, rfl⟩)
 go_loop [4] (fun i => ∃ k : Nat, i = .int .i64 k ∧ k ≤ 52 ∧ Hid (findAt op (docL.drop k) k = findF op)) (fun i => 52 - (intOf i).toNat)
 case atStart => exact ⟨0, rfl, by omega, ⟨rfl⟩⟩
 case round =>
   obtain ⟨k, rfl, hk, hf⟩ := hrel
   by_cases hlt : k < 52
   · have c : ∀ t, (w.alloc (.cells rowCells t)).cell? ⟨w.heap.size, k * 3, none⟩ = some (.int .u8 (docRow k).1) := fun t => (World.cell?_alloc_new w rowCells t (k * 3)).trans (row_at k hlt).1
     have kl : (k : Int) < 52 := by omega
     by_cases he : (docRow k).1 = op
     · have g : ((docRow k).1 == op) = true := by simpa using he
       rw [find_here hlt he] at hf
       replace he := Hid.mk he
       generalize (docRow k).1 = y at *
       go_wp2_with fail
       go_ret
       exact ⟨ret_int hf.out, (Gr.refl w).alloc _⟩
     · have g : ((docRow k).1 == op) = false := by simpa using he
       rw [find_next hlt he] at hf
       replace he := Hid.mk he
       generalize (docRow k).1 = y at *
       go_wp2_with fail
       go_round
       case rel => exact ⟨k + 1, by simp, by omega, hf⟩
       case measure => simp [intOf]; omega
   · have kl : ¬ (k : Int) < 52 := by omega
     rw [find_end hlt] at hf
     go_wp2_with fail
     go_ret
     exact ⟨ret_int hf.out, (Gr.refl w).alloc _⟩

theorem within_any (n a b : Int) (w : World) :
   Calls Tryz.prog 76 #[.int .i64 n, .int .i64 a, .int .i64 b] w fun x w' => x = .returned (.bool (decide (a ≤ n) && decide (n ≤ b))) ∧ w = w' := by
 by_cases h : a ≤ n
 · have g : decide (a ≤ n) = true := by simpa using h
   go_enter Tryz.func76, Tryz.ntmps76
   go_wp2_with fail
   go_ret
   exact ⟨ret_bool (by simp [g]), rfl⟩
 · have g : decide (a ≤ n) = false := by simpa using h
   go_enter Tryz.func76, Tryz.ntmps76
   go_wp2_with fail
   go_ret
   exact ⟨ret_bool (by simp), rfl⟩
end Go.Proofs.YtdlcphinjnnhcaaGreatDoor


namespace Go.Proofs.YtdlcphinjnnhcaaGreatDoor
set_option maxRecDepth 100000
set_option maxHeartbeats 40000000
open Go.RowKit

theorem rR_step (op a b c m : Int) (l : UInt8) (r : List UInt8) (n n' : Int) (imm code ok imm' code' : Bool) (one : Bool)
   (hn : (if (l.toNat : Int) = 114 then n + 1 else n) = n') (hi : (imm || immD op l.toNat) = imm') (hc : (code || codeD op l.toNat) = code') (ho : oneD op l.toNat n a b c m = one) :
   rR op a b c m (l :: r) n imm code ok = rR op a b c m r n' imm' code' (ok && one) := by
 subst hn hi hc ho; rfl
theorem regAt_cell (n a b c : Int) (h0 : 0 ≤ n) (h1 : n < 3) : #[Value.int .i64 a, Value.int .i64 b, Value.int .i64 c][n.toNat]? = some (.int .i64 (regAt n a b c)) := by
 have : n = 0 ∨ n = 1 ∨ n = 2 := by omega
 rcases this with rfl | rfl | rfl <;> rfl
theorem tail_step (n a b c : Int) (code ok : Bool) (h0 : 0 ≤ n) (h1 : n < 3) : tailD n a b c code ok = tailD (n + 1) a b c code (ok && (decide (regAt n a b c = 0) || (decide (n = 2) && code))) := by
 have : n = 0 ∨ n = 1 ∨ n = 2 := by omega
 rcases this with rfl | rfl | rfl <;> cases ok <;> cases code <;> simp [tailD, regAt]
theorem tail_end (n a b c : Int) (code ok : Bool) (h : 3 ≤ n) : tailD n a b c code ok = ok := by
 have h0 : 0 < n := by omega
 have h1 : 1 < n := by omega
 have h2 : 2 < n := by omega
 simp [tailD, h0, h1, h2]
theorem refRight_any (op a b c m : Int) (w : World) (h0 : 0 ≤ op) (h1 : op < 256) :
   Calls Tryz.prog 55 #[.agg #[.int .u8 op, .int .i64 a, .int .i64 b, .int .i64 c, .int .i64 m]] w fun x w' => x = .returned (.int .i64 (rightD op a b c m)) ∧ Gr w w' := by
 have hr := findF_range op
 have hsh := shape_in op h1
 rw [← shape_doc op h0 h1] at hsh
 unfold rightD
 unfold docShape at hsh
 by_cases hn : findF op < 0
 · rw [if_pos hn]
   have g : decide (findF op < 0) = true := by simpa using hn
   go_enter Tryz.func55, Tryz.ntmps55
   go_wp2_with (first | (go_at_call 74; refine (find_any _ _).mono ?_; rintro x w' ⟨rfl, hG⟩))
   go_ret
   exact ⟨rfl, hG.of_alloc⟩
 · rw [if_neg hn]
   rw [if_neg hn] at hsh
   obtain ⟨hl3, -⟩ := letters_small _ hsh
   clear hsh
   have g : decide (findF op < 0) = false := by simpa using hn
   have h0' : 0 ≤ findF op := by omega
   have h1' : (findF op).toNat < 52 := by omega
   have h2' : findF op < 52 := by omega
   have ra := (row_at _ h1').2.2
   have e : (((findF op).toNat : Nat) : Int) = findF op := Int.toNat_of_nonneg h0'
   rw [e] at ra
   have ce : ∀ (W : World) t, (W.alloc (.cells rowCells t)).cell? ⟨W.heap.size, (findF op).toNat * 3 + 2, none⟩ = some (.string (str (docRow (findF op)).2.2)) := fun W t => (World.cell?_alloc_new W rowCells t _).trans ra
   clear ra e h1' hr
   replace hn := Hid.mk hn
   generalize (docRow (findF op)).2.2 = s at *
   generalize hk : findF op = fo at *
   have hfi := find_any op
   rw [hk] at hfi
   clear hk
   go_enter Tryz.func55, Tryz.ntmps55
   go_upto_region 4 with (first | (go_at_call 74; refine (hfi _).mono ?_; rintro x w1 ⟨rfl, hG⟩))
   have A1 : At w1 w.heap.size #[.int .u8 op, .int .i64 a, .int .i64 b, .int .i64 c, .int .i64 m] := (At.new w _ _).gr hG
   refine wp_world (fun W => Gr w W ∧ At W w.heap.size #[.int .u8 op, .int .i64 a, .int .i64 b, .int .i64 c, .int .i64 m]) ⟨hG.of_alloc, A1⟩ ?_
   clear A1 hG
   rintro W ⟨hG, A1⟩
   have hlt : w.heap.size < W.heap.size := A1.1
   have q0 : ∀ o, W.cell? ⟨w.heap.size, o, none⟩ = #[Value.int .u8 op, .int .i64 a, .int .i64 b, .int .i64 c, .int .i64 m][o]? := A1.2.1
   go_upto_region 10 with (first | (go_at_call 75; refine (Rows_any _).mono ?_; rintro x w' ⟨rfl, rfl⟩))
   refine wp_world (fun V => Gr w V ∧ At V w.heap.size #[.int .u8 op, .int .i64 a, .int .i64 b, .int .i64 c, .int .i64 m] ∧ At V (W.heap.size + 1) #[.int .i64 a, .int .i64 b, .int .i64 c]) ⟨(hG.alloc _).alloc _, (A1.alloc _).alloc _, At.next W _ _ _⟩ ?_
   clear hG A1 q0 ce hfi
   rintro V ⟨hG, A1, A2⟩
   have q0 : ∀ o, V.cell? ⟨w.heap.size, o, none⟩ = #[Value.int .u8 op, .int .i64 a, .int .i64 b, .int .i64 c, .int .i64 m][o]? := A1.2.1
   have q1 : ∀ o, V.cell? ⟨W.heap.size + 1, o, none⟩ = #[Value.int .i64 a, .int .i64 b, .int .i64 c][o]? := A2.2.1
   have ss := str_size s
   generalize W.heap.size + 1 = kr at *
   go_wp2_with fail
   go_loop [6, 7, 8, 9, 10] (fun n i cd ok k => ∃ (n0 : Int) (i0 cd0 ok0 : Bool) (k0 : Nat), n = .int .i64 n0 ∧ i = .bool i0 ∧ cd = .bool cd0 ∧ ok = .bool ok0 ∧ k = .int .i64 k0 ∧ 0 ≤ n0 ∧ n0 ≤ k0 ∧ k0 ≤ s.length ∧ Hid (rR op a b c m (s.drop k0) n0 i0 cd0 ok0 = rR op a b c m s 0 false false true)) (fun _ _ _ _ k => s.length - (intOf k).toNat)
   case atStart => exact ⟨0, false, false, true, 0, rfl, rfl, rfl, rfl, rfl, by omega, by omega, by omega, ⟨rfl⟩⟩
   case round =>
     obtain ⟨n0, i0, cd0, ok0, k0, rfl, rfl, rfl, rfl, rfl, hn0, hnk, hkl, hf⟩ := hrel
     by_cases hlt' : k0 < s.length
     · obtain ⟨l, hl⟩ : ∃ l, s[k0] = l := ⟨_, rfl⟩
       obtain ⟨L, hL⟩ : ∃ L, (l.toNat : Int) = L := ⟨_, rfl⟩
       have ix : ∀ h, ((((str s)[k0]'h).toNat : Nat) : Int) = L := fun h => by rw [str_at s k0 h hlt', hl, hL]
       obtain ⟨r', hr', hr2⟩ := drop_cons (s := s) (pos := k0) rfl hlt'
       rw [hl] at hr'
       rw [hr'] at hf
       clear hr'
       have hr3 := Hid.mk hr2
       clear hr2
       have n3 : n0 < 3 := by omega
       clear hl
       have lt1 : (k0 : Int) < s.length := by omega
       by_cases e114 : (l.toNat : Int) = 114
       · have st := rR_step op a b c m l r' n0 (n0 + 1) i0 cd0 ok0 i0 cd0 (decide (0 ≤ regAt n0 a b c) && decide (regAt n0 a b c ≤ 15)) (by rw [if_pos e114]) (by simp [immD, e114]) (by simp [codeD, e114]) (by simp [oneD, e114])
         rw [st] at hf
         clear st
         have b114 : ((l.toNat : Int) == 114) = true := by simpa using e114
         have rc : ∀ (W : World), W.cell? ⟨kr, n0.toNat, none⟩ = #[Value.int .i64 a, .int .i64 b, .int .i64 c][n0.toNat]? → W.cell? ⟨kr, n0.toNat, none⟩ = some (.int .i64 (regAt n0 a b c)) := fun W h => h.trans (regAt_cell n0 a b c hn0 n3)
         replace rc := rc V (q1 _)
         clear q1
         generalize regAt n0 a b c = y at *
         rw [hL] at b114 e114
         replace hL := Hid.mk hL
         replace e114 := Hid.mk e114
         cases ok0
         · go_wp2_with (go_at_call 76; refine (within_any _ _ _ _).mono ?_; rintro x w' ⟨rfl, rfl⟩)
           go_round
           case rel => exact ⟨(n0 + 1), i0, cd0, false, k0 + 1, rfl, rfl, rfl, rfl, by simp, by omega, by omega, by omega, ⟨by rw [hr3.out]; exact hf.out⟩⟩
           case measure => simp [intOf]; omega
         · go_wp2_with (go_at_call 76; refine (within_any _ _ _ _).mono ?_; rintro x w' ⟨rfl, rfl⟩)
           go_round
           case rel => exact ⟨(n0 + 1), i0, cd0, (decide (0 ≤ y) && decide (y ≤ 15)), k0 + 1, rfl, rfl, rfl, rfl, by simp, by omega, by omega, by omega, ⟨by rw [hr3.out]; exact hf.out⟩⟩
           case measure => simp [intOf]; omega
       · skip
         by_cases e105 : (l.toNat : Int) = 105
         · by_cases p70 : op = 70
           · have st := rR_step op a b c m l r' n0 n0 i0 cd0 ok0 true cd0 (decide (0 ≤ m) && decide (m ≤ 2147483647)) (by rw [if_neg e114]) (by simp [immD, e105, p70]) (by simp [codeD, e105, p70]) (by simp [oneD, e105, p70])
             rw [st] at hf
             clear st
             have b114 : ((l.toNat : Int) == 114) = false := by simpa using e114
             have b105 : ((l.toNat : Int) == 105) = true := by simpa using e105
             have c70 : (op == 70) = true := by simpa using p70
             rw [hL] at b114 b105 e114 e105
             replace hL := Hid.mk hL
             replace e114 := Hid.mk e114
             replace e105 := Hid.mk e105
             replace p70 := Hid.mk p70
             cases ok0
             · go_wp2_with (go_at_call 76; refine (within_any _ _ _ _).mono ?_; rintro x w' ⟨rfl, rfl⟩)
               go_round
               case rel => exact ⟨n0, true, cd0, false, k0 + 1, rfl, rfl, rfl, rfl, by simp, by omega, by omega, by omega, ⟨by rw [hr3.out]; exact hf.out⟩⟩
               case measure => simp [intOf]; omega
             · go_wp2_with (go_at_call 76; refine (within_any _ _ _ _).mono ?_; rintro x w' ⟨rfl, rfl⟩)
               go_round
               case rel => exact ⟨n0, true, cd0, (decide (0 ≤ m) && decide (m ≤ 2147483647)), k0 + 1, rfl, rfl, rfl, rfl, by simp, by omega, by omega, by omega, ⟨by rw [hr3.out]; exact hf.out⟩⟩
               case measure => simp [intOf]; omega
           · by_cases p71 : op = 71
             · have st := rR_step op a b c m l r' n0 n0 i0 cd0 ok0 true cd0 (decide (0 ≤ m) && decide (m ≤ 2147483647)) (by rw [if_neg e114]) (by simp [immD, e105, p71]) (by simp [codeD, e105, p71]) (by simp [oneD, e105, p71])
               rw [st] at hf
               clear st
               have b114 : ((l.toNat : Int) == 114) = false := by simpa using e114
               have b105 : ((l.toNat : Int) == 105) = true := by simpa using e105
               have c70 : (op == 70) = false := by simpa using p70
               have c71 : (op == 71) = true := by simpa using p71
               rw [hL] at b114 b105 e114 e105
               replace hL := Hid.mk hL
               replace e114 := Hid.mk e114
               replace e105 := Hid.mk e105
               replace p70 := Hid.mk p70
               replace p71 := Hid.mk p71
               cases ok0
               · go_wp2_with (go_at_call 76; refine (within_any _ _ _ _).mono ?_; rintro x w' ⟨rfl, rfl⟩)
                 go_round
                 case rel => exact ⟨n0, true, cd0, false, k0 + 1, rfl, rfl, rfl, rfl, by simp, by omega, by omega, by omega, ⟨by rw [hr3.out]; exact hf.out⟩⟩
                 case measure => simp [intOf]; omega
               · go_wp2_with (go_at_call 76; refine (within_any _ _ _ _).mono ?_; rintro x w' ⟨rfl, rfl⟩)
                 go_round
                 case rel => exact ⟨n0, true, cd0, (decide (0 ≤ m) && decide (m ≤ 2147483647)), k0 + 1, rfl, rfl, rfl, rfl, by simp, by omega, by omega, by omega, ⟨by rw [hr3.out]; exact hf.out⟩⟩
                 case measure => simp [intOf]; omega
             · have st := rR_step op a b c m l r' n0 n0 i0 cd0 ok0 true cd0 (decide (-2147483648 ≤ m) && decide (m ≤ 2147483647)) (by rw [if_neg e114]) (by simp [immD, e105]) (by simp [codeD, e105]) (by simp [oneD, e105, p70, p71])
               rw [st] at hf
               clear st
               have b114 : ((l.toNat : Int) == 114) = false := by simpa using e114
               have b105 : ((l.toNat : Int) == 105) = true := by simpa using e105
               have c70 : (op == 70) = false := by simpa using p70
               have c71 : (op == 71) = false := by simpa using p71
               rw [hL] at b114 b105 e114 e105
               replace hL := Hid.mk hL
               replace e114 := Hid.mk e114
               replace e105 := Hid.mk e105
               replace p70 := Hid.mk p70
               replace p71 := Hid.mk p71
               cases ok0
               · go_wp2_with (go_at_call 76; refine (within_any _ _ _ _).mono ?_; rintro x w' ⟨rfl, rfl⟩)
                 go_round
                 case rel => exact ⟨n0, true, cd0, false, k0 + 1, rfl, rfl, rfl, rfl, by simp, by omega, by omega, by omega, ⟨by rw [hr3.out]; exact hf.out⟩⟩
                 case measure => simp [intOf]; omega
               · go_wp2_with (go_at_call 76; refine (within_any _ _ _ _).mono ?_; rintro x w' ⟨rfl, rfl⟩)
                 go_round
                 case rel => exact ⟨n0, true, cd0, (decide (-2147483648 ≤ m) && decide (m ≤ 2147483647)), k0 + 1, rfl, rfl, rfl, rfl, by simp, by omega, by omega, by omega, ⟨by rw [hr3.out]; exact hf.out⟩⟩
                 case measure => simp [intOf]; omega
         · skip
           by_cases e110 : (l.toNat : Int) = 110
           · have st := rR_step op a b c m l r' n0 n0 i0 cd0 ok0 true cd0 (decide (0 ≤ m) && decide (m ≤ 65536)) (by rw [if_neg e114]) (by simp [immD, e110]) (by simp [codeD, e110]) (by simp [oneD, e110])
             rw [st] at hf
             clear st
             have b114 : ((l.toNat : Int) == 114) = false := by simpa using e114
             have b105 : ((l.toNat : Int) == 105) = false := by simpa using e105
             have b110 : ((l.toNat : Int) == 110) = true := by simpa using e110
             rw [hL] at b114 b105 b110 e114 e105 e110
             replace hL := Hid.mk hL
             replace e114 := Hid.mk e114
             replace e105 := Hid.mk e105
             replace e110 := Hid.mk e110
             cases ok0
             · go_wp2_with (go_at_call 76; refine (within_any _ _ _ _).mono ?_; rintro x w' ⟨rfl, rfl⟩)
               go_round
               case rel => exact ⟨n0, true, cd0, false, k0 + 1, rfl, rfl, rfl, rfl, by simp, by omega, by omega, by omega, ⟨by rw [hr3.out]; exact hf.out⟩⟩
               case measure => simp [intOf]; omega
             · go_wp2_with (go_at_call 76; refine (within_any _ _ _ _).mono ?_; rintro x w' ⟨rfl, rfl⟩)
               go_round
               case rel => exact ⟨n0, true, cd0, (decide (0 ≤ m) && decide (m ≤ 65536)), k0 + 1, rfl, rfl, rfl, rfl, by simp, by omega, by omega, by omega, ⟨by rw [hr3.out]; exact hf.out⟩⟩
               case measure => simp [intOf]; omega
           · skip
             by_cases e112 : (l.toNat : Int) = 112
             · have st := rR_step op a b c m l r' n0 n0 i0 cd0 ok0 true cd0 (decide (0 ≤ m) && decide (m ≤ 127)) (by rw [if_neg e114]) (by simp [immD, e112]) (by simp [codeD, e112]) (by simp [oneD, e112])
               rw [st] at hf
               clear st
               have b114 : ((l.toNat : Int) == 114) = false := by simpa using e114
               have b105 : ((l.toNat : Int) == 105) = false := by simpa using e105
               have b110 : ((l.toNat : Int) == 110) = false := by simpa using e110
               have b112 : ((l.toNat : Int) == 112) = true := by simpa using e112
               rw [hL] at b114 b105 b110 b112 e114 e105 e110 e112
               replace hL := Hid.mk hL
               replace e114 := Hid.mk e114
               replace e105 := Hid.mk e105
               replace e110 := Hid.mk e110
               replace e112 := Hid.mk e112
               cases ok0
               · go_wp2_with (go_at_call 76; refine (within_any _ _ _ _).mono ?_; rintro x w' ⟨rfl, rfl⟩)
                 go_round
                 case rel => exact ⟨n0, true, cd0, false, k0 + 1, rfl, rfl, rfl, rfl, by simp, by omega, by omega, by omega, ⟨by rw [hr3.out]; exact hf.out⟩⟩
                 case measure => simp [intOf]; omega
               · go_wp2_with (go_at_call 76; refine (within_any _ _ _ _).mono ?_; rintro x w' ⟨rfl, rfl⟩)
                 go_round
                 case rel => exact ⟨n0, true, cd0, (decide (0 ≤ m) && decide (m ≤ 127)), k0 + 1, rfl, rfl, rfl, rfl, by simp, by omega, by omega, by omega, ⟨by rw [hr3.out]; exact hf.out⟩⟩
                 case measure => simp [intOf]; omega
             · skip
               by_cases e115 : (l.toNat : Int) = 115
               · have st := rR_step op a b c m l r' n0 n0 i0 cd0 ok0 true cd0 (decide (0 ≤ m) && decide (m ≤ 15)) (by rw [if_neg e114]) (by simp [immD, e115]) (by simp [codeD, e115]) (by simp [oneD, e115])
                 rw [st] at hf
                 clear st
                 have b114 : ((l.toNat : Int) == 114) = false := by simpa using e114
                 have b105 : ((l.toNat : Int) == 105) = false := by simpa using e105
                 have b110 : ((l.toNat : Int) == 110) = false := by simpa using e110
                 have b112 : ((l.toNat : Int) == 112) = false := by simpa using e112
                 have b115 : ((l.toNat : Int) == 115) = true := by simpa using e115
                 rw [hL] at b114 b105 b110 b112 b115 e114 e105 e110 e112 e115
                 replace hL := Hid.mk hL
                 replace e114 := Hid.mk e114
                 replace e105 := Hid.mk e105
                 replace e110 := Hid.mk e110
                 replace e112 := Hid.mk e112
                 replace e115 := Hid.mk e115
                 cases ok0
                 · go_wp2_with (go_at_call 76; refine (within_any _ _ _ _).mono ?_; rintro x w' ⟨rfl, rfl⟩)
                   go_round
                   case rel => exact ⟨n0, true, cd0, false, k0 + 1, rfl, rfl, rfl, rfl, by simp, by omega, by omega, by omega, ⟨by rw [hr3.out]; exact hf.out⟩⟩
                   case measure => simp [intOf]; omega
                 · go_wp2_with (go_at_call 76; refine (within_any _ _ _ _).mono ?_; rintro x w' ⟨rfl, rfl⟩)
                   go_round
                   case rel => exact ⟨n0, true, cd0, (decide (0 ≤ m) && decide (m ≤ 15)), k0 + 1, rfl, rfl, rfl, rfl, by simp, by omega, by omega, by omega, ⟨by rw [hr3.out]; exact hf.out⟩⟩
                   case measure => simp [intOf]; omega
               · skip
                 by_cases e116 : (l.toNat : Int) = 116
                 · have st := rR_step op a b c m l r' n0 n0 i0 cd0 ok0 true cd0 (decide (0 ≤ m) && decide (m ≤ 2147483647)) (by rw [if_neg e114]) (by simp [immD, e116]) (by simp [codeD, e116]) (by simp [oneD, e116])
                   rw [st] at hf
                   clear st
                   have b114 : ((l.toNat : Int) == 114) = false := by simpa using e114
                   have b105 : ((l.toNat : Int) == 105) = false := by simpa using e105
                   have b110 : ((l.toNat : Int) == 110) = false := by simpa using e110
                   have b112 : ((l.toNat : Int) == 112) = false := by simpa using e112
                   have b115 : ((l.toNat : Int) == 115) = false := by simpa using e115
                   have b116 : ((l.toNat : Int) == 116) = true := by simpa using e116
                   rw [hL] at b114 b105 b110 b112 b115 b116 e114 e105 e110 e112 e115 e116
                   replace hL := Hid.mk hL
                   replace e114 := Hid.mk e114
                   replace e105 := Hid.mk e105
                   replace e110 := Hid.mk e110
                   replace e112 := Hid.mk e112
                   replace e115 := Hid.mk e115
                   replace e116 := Hid.mk e116
                   cases ok0
                   · go_wp2_with (go_at_call 76; refine (within_any _ _ _ _).mono ?_; rintro x w' ⟨rfl, rfl⟩)
                     go_round
                     case rel => exact ⟨n0, true, cd0, false, k0 + 1, rfl, rfl, rfl, rfl, by simp, by omega, by omega, by omega, ⟨by rw [hr3.out]; exact hf.out⟩⟩
                     case measure => simp [intOf]; omega
                   · go_wp2_with (go_at_call 76; refine (within_any _ _ _ _).mono ?_; rintro x w' ⟨rfl, rfl⟩)
                     go_round
                     case rel => exact ⟨n0, true, cd0, (decide (0 ≤ m) && decide (m ≤ 2147483647)), k0 + 1, rfl, rfl, rfl, rfl, by simp, by omega, by omega, by omega, ⟨by rw [hr3.out]; exact hf.out⟩⟩
                     case measure => simp [intOf]; omega
                 · skip
                   by_cases e103 : (l.toNat : Int) = 103
                   · have st := rR_step op a b c m l r' n0 n0 i0 cd0 ok0 true cd0 (decide (0 ≤ m) && decide (m ≤ 2147483647)) (by rw [if_neg e114]) (by simp [immD, e103]) (by simp [codeD, e103]) (by simp [oneD, e103])
                     rw [st] at hf
                     clear st
                     have b114 : ((l.toNat : Int) == 114) = false := by simpa using e114
                     have b105 : ((l.toNat : Int) == 105) = false := by simpa using e105
                     have b110 : ((l.toNat : Int) == 110) = false := by simpa using e110
                     have b112 : ((l.toNat : Int) == 112) = false := by simpa using e112
                     have b115 : ((l.toNat : Int) == 115) = false := by simpa using e115
                     have b116 : ((l.toNat : Int) == 116) = false := by simpa using e116
                     have b103 : ((l.toNat : Int) == 103) = true := by simpa using e103
                     rw [hL] at b114 b105 b110 b112 b115 b116 b103 e114 e105 e110 e112 e115 e116 e103
                     replace hL := Hid.mk hL
                     replace e114 := Hid.mk e114
                     replace e105 := Hid.mk e105
                     replace e110 := Hid.mk e110
                     replace e112 := Hid.mk e112
                     replace e115 := Hid.mk e115
                     replace e116 := Hid.mk e116
                     replace e103 := Hid.mk e103
                     cases ok0
                     · go_wp2_with (go_at_call 76; refine (within_any _ _ _ _).mono ?_; rintro x w' ⟨rfl, rfl⟩)
                       go_round
                       case rel => exact ⟨n0, true, cd0, false, k0 + 1, rfl, rfl, rfl, rfl, by simp, by omega, by omega, by omega, ⟨by rw [hr3.out]; exact hf.out⟩⟩
                       case measure => simp [intOf]; omega
                     · go_wp2_with (go_at_call 76; refine (within_any _ _ _ _).mono ?_; rintro x w' ⟨rfl, rfl⟩)
                       go_round
                       case rel => exact ⟨n0, true, cd0, (decide (0 ≤ m) && decide (m ≤ 2147483647)), k0 + 1, rfl, rfl, rfl, rfl, by simp, by omega, by omega, by omega, ⟨by rw [hr3.out]; exact hf.out⟩⟩
                       case measure => simp [intOf]; omega
                   · skip
                     by_cases e99 : (l.toNat : Int) = 99
                     · by_cases p28 : op = 28
                       · have st := rR_step op a b c m l r' n0 n0 i0 cd0 ok0 true cd0 (decide (0 ≤ m) && decide (m ≤ 255)) (by rw [if_neg e114]) (by simp [immD, e99, p28]) (by simp [codeD, e99, p28]) (by simp [oneD, e99, p28])
                         rw [st] at hf
                         clear st
                         have b114 : ((l.toNat : Int) == 114) = false := by simpa using e114
                         have b105 : ((l.toNat : Int) == 105) = false := by simpa using e105
                         have b110 : ((l.toNat : Int) == 110) = false := by simpa using e110
                         have b112 : ((l.toNat : Int) == 112) = false := by simpa using e112
                         have b115 : ((l.toNat : Int) == 115) = false := by simpa using e115
                         have b116 : ((l.toNat : Int) == 116) = false := by simpa using e116
                         have b103 : ((l.toNat : Int) == 103) = false := by simpa using e103
                         have b99 : ((l.toNat : Int) == 99) = true := by simpa using e99
                         have c28 : (op == 28) = true := by simpa using p28
                         rw [hL] at b114 b105 b110 b112 b115 b116 b103 b99 e114 e105 e110 e112 e115 e116 e103 e99
                         replace hL := Hid.mk hL
                         replace e114 := Hid.mk e114
                         replace e105 := Hid.mk e105
                         replace e110 := Hid.mk e110
                         replace e112 := Hid.mk e112
                         replace e115 := Hid.mk e115
                         replace e116 := Hid.mk e116
                         replace e103 := Hid.mk e103
                         replace e99 := Hid.mk e99
                         replace p28 := Hid.mk p28
                         cases ok0
                         · go_wp2_with (go_at_call 76; refine (within_any _ _ _ _).mono ?_; rintro x w' ⟨rfl, rfl⟩)
                           go_round
                           case rel => exact ⟨n0, true, cd0, false, k0 + 1, rfl, rfl, rfl, rfl, by simp, by omega, by omega, by omega, ⟨by rw [hr3.out]; exact hf.out⟩⟩
                           case measure => simp [intOf]; omega
                         · go_wp2_with (go_at_call 76; refine (within_any _ _ _ _).mono ?_; rintro x w' ⟨rfl, rfl⟩)
                           go_round
                           case rel => exact ⟨n0, true, cd0, (decide (0 ≤ m) && decide (m ≤ 255)), k0 + 1, rfl, rfl, rfl, rfl, by simp, by omega, by omega, by omega, ⟨by rw [hr3.out]; exact hf.out⟩⟩
                           case measure => simp [intOf]; omega
                       · have st := rR_step op a b c m l r' n0 n0 i0 cd0 ok0 i0 true (decide (0 ≤ c) && decide (c ≤ 255)) (by rw [if_neg e114]) (by simp [immD, e99, p28]) (by simp [codeD, e99, p28]) (by simp [oneD, e99, p28])
                         rw [st] at hf
                         clear st
                         have b114 : ((l.toNat : Int) == 114) = false := by simpa using e114
                         have b105 : ((l.toNat : Int) == 105) = false := by simpa using e105
                         have b110 : ((l.toNat : Int) == 110) = false := by simpa using e110
                         have b112 : ((l.toNat : Int) == 112) = false := by simpa using e112
                         have b115 : ((l.toNat : Int) == 115) = false := by simpa using e115
                         have b116 : ((l.toNat : Int) == 116) = false := by simpa using e116
                         have b103 : ((l.toNat : Int) == 103) = false := by simpa using e103
                         have b99 : ((l.toNat : Int) == 99) = true := by simpa using e99
                         have c28 : (op == 28) = false := by simpa using p28
                         rw [hL] at b114 b105 b110 b112 b115 b116 b103 b99 e114 e105 e110 e112 e115 e116 e103 e99
                         replace hL := Hid.mk hL
                         replace e114 := Hid.mk e114
                         replace e105 := Hid.mk e105
                         replace e110 := Hid.mk e110
                         replace e112 := Hid.mk e112
                         replace e115 := Hid.mk e115
                         replace e116 := Hid.mk e116
                         replace e103 := Hid.mk e103
                         replace e99 := Hid.mk e99
                         replace p28 := Hid.mk p28
                         cases ok0
                         · go_wp2_with (go_at_call 76; refine (within_any _ _ _ _).mono ?_; rintro x w' ⟨rfl, rfl⟩)
                           go_round
                           case rel => exact ⟨n0, i0, true, false, k0 + 1, rfl, rfl, rfl, rfl, by simp, by omega, by omega, by omega, ⟨by rw [hr3.out]; exact hf.out⟩⟩
                           case measure => simp [intOf]; omega
                         · go_wp2_with (go_at_call 76; refine (within_any _ _ _ _).mono ?_; rintro x w' ⟨rfl, rfl⟩)
                           go_round
                           case rel => exact ⟨n0, i0, true, (decide (0 ≤ c) && decide (c ≤ 255)), k0 + 1, rfl, rfl, rfl, rfl, by simp, by omega, by omega, by omega, ⟨by rw [hr3.out]; exact hf.out⟩⟩
                           case measure => simp [intOf]; omega
                     · skip
                       have st := rR_step op a b c m l r' n0 n0 i0 cd0 ok0 i0 cd0 true (by rw [if_neg e114]) (by simp [immD, e105, e110, e112, e115, e116, e103, e99]) (by simp [codeD, e99]) (by simp [oneD, e114, e105, e110, e112, e115, e116, e103, e99])
                       rw [st] at hf
                       clear st
                       have b114 : ((l.toNat : Int) == 114) = false := by simpa using e114
                       have b105 : ((l.toNat : Int) == 105) = false := by simpa using e105
                       have b110 : ((l.toNat : Int) == 110) = false := by simpa using e110
                       have b112 : ((l.toNat : Int) == 112) = false := by simpa using e112
                       have b115 : ((l.toNat : Int) == 115) = false := by simpa using e115
                       have b116 : ((l.toNat : Int) == 116) = false := by simpa using e116
                       have b103 : ((l.toNat : Int) == 103) = false := by simpa using e103
                       have b99 : ((l.toNat : Int) == 99) = false := by simpa using e99
                       rw [hL] at b114 b105 b110 b112 b115 b116 b103 b99 e114 e105 e110 e112 e115 e116 e103 e99
                       replace hL := Hid.mk hL
                       replace e114 := Hid.mk e114
                       replace e105 := Hid.mk e105
                       replace e110 := Hid.mk e110
                       replace e112 := Hid.mk e112
                       replace e115 := Hid.mk e115
                       replace e116 := Hid.mk e116
                       replace e103 := Hid.mk e103
                       replace e99 := Hid.mk e99
                       cases ok0
                       · go_wp2_with (go_at_call 76; refine (within_any _ _ _ _).mono ?_; rintro x w' ⟨rfl, rfl⟩)
                         go_round
                         case rel => exact ⟨n0, i0, cd0, false, k0 + 1, rfl, rfl, rfl, rfl, by simp, by omega, by omega, by omega, ⟨by rw [hr3.out]; exact hf.out⟩⟩
                         case measure => simp [intOf]; omega
                       · go_wp2_with (go_at_call 76; refine (within_any _ _ _ _).mono ?_; rintro x w' ⟨rfl, rfl⟩)
                         go_round
                         case rel => exact ⟨n0, i0, cd0, true, k0 + 1, rfl, rfl, rfl, rfl, by simp, by omega, by omega, by omega, ⟨by rw [hr3.out]; exact hf.out⟩⟩
                         case measure => simp [intOf]; omega
     · have ge1 : decide ((k0 : Int) < s.length) = false := by simp; omega
       have hd : s.drop k0 = [] := by rw [List.drop_eq_nil_iff]; omega
       rw [hd] at hf
       clear hd
       have n3 : n0 ≤ 3 := by omega
       go_wp2_with fail
       go_loop [9, 12] (fun ok j => ∃ (ok1 : Bool) (j1 : Int), ok = .bool ok1 ∧ j = .int .i64 j1 ∧ 0 ≤ j1 ∧ j1 ≤ 3 ∧ Hid (tailD j1 a b c cd0 ok1 = tailD n0 a b c cd0 ok0)) (fun _ j => 3 - (intOf j).toNat)
       case atStart => exact ⟨ok0, n0, rfl, rfl, hn0, n3, ⟨rfl⟩⟩
       case round =>
         obtain ⟨ok1, j1, rfl, rfl, hj0, hj3, ht⟩ := hrel
         by_cases hj : j1 < 3
         · have rc : V.cell? ⟨kr, j1.toNat, none⟩ = some (.int .i64 (regAt j1 a b c)) := (q1 _).trans (regAt_cell j1 a b c hj0 hj)
           rw [tail_step j1 a b c cd0 ok1 hj0 hj] at ht
           clear q1
           have hj' : decide (j1 < 3) = true := by simpa using hj
           generalize regAt j1 a b c = y at *
           cases ok1
           · go_wp2_with fail
             go_round
             case rel => exact ⟨false, j1 + 1, rfl, by simp, by omega, by omega, ht⟩
             case measure => simp [intOf]; omega
           · by_cases hy : y = 0
             · have y0 : (y == 0) = true := by simpa using hy
               have e : decide (y = 0) = true := by simpa using hy
               rw [e] at ht
               replace hy := Hid.mk hy
               clear e
               go_wp2_with fail
               go_round
               case rel => exact ⟨true, j1 + 1, rfl, by simp, by omega, by omega, ht⟩
               case measure => simp [intOf]; omega
             · have y0 : (y == 0) = false := by simpa using hy
               have e : decide (y = 0) = false := by simpa using hy
               rw [e] at ht
               replace hy := Hid.mk hy
               clear e
               by_cases h2 : j1 = 2
               · have j2 : (j1 == 2) = true := by simpa using h2
                 have e : decide (j1 = 2) = true := by simpa using h2
                 rw [e] at ht
                 replace h2 := Hid.mk h2
                 clear e
                 go_wp2_with fail
                 go_round
                 case rel => exact ⟨cd0, j1 + 1, rfl, by simp, by omega, by omega, ht⟩
                 case measure => simp [intOf]; omega
               · have j2 : (j1 == 2) = false := by simpa using h2
                 have e : decide (j1 = 2) = false := by simpa using h2
                 rw [e] at ht
                 replace h2 := Hid.mk h2
                 clear e
                 go_wp2_with fail
                 go_round
                 case rel => exact ⟨false, j1 + 1, rfl, by simp, by omega, by omega, ht⟩
                 case measure => simp [intOf]; omega
         · have hj' : decide (j1 < 3) = false := by simpa using hj
           rw [tail_end j1 a b c cd0 ok1 (by omega)] at ht
           have fin : (ok1 && (i0 || decide (m = 0))) = rR op a b c m s 0 false false true := by rw [ht.out]; exact hf.out
           clear ht hf q1
           replace fin := Hid.mk fin
           cases ok1
           · go_wp2_with fail
             go_ret
             exact ⟨ret_int (a := 32) (by rw [← fin.out]; rfl), hG⟩
           · cases i0
             · by_cases hm : m = 0
               · have m0 : (m != 0) = false := by simpa using hm
                 have fin2 : true = rR op a b c m s 0 false false true := by rw [← fin.out]; simp [hm]
                 replace hm := Hid.mk hm
                 replace fin2 := Hid.mk fin2
                 go_wp2_with fail
                 go_ret
                 exact ⟨ret_int (a := 0) (by rw [← fin2.out]; rfl), hG⟩
               · have m0 : (m != 0) = true := by simpa using hm
                 have fin2 : false = rR op a b c m s 0 false false true := by rw [← fin.out]; simp [hm]
                 replace hm := Hid.mk hm
                 replace fin2 := Hid.mk fin2
                 go_wp2_with fail
                 go_ret
                 exact ⟨ret_int (a := 32) (by rw [← fin2.out]; rfl), hG⟩
             · go_wp2_with fail
               go_ret
               exact ⟨ret_int (a := 0) (by rw [← fin.out]; rfl), hG⟩
end Go.Proofs.YtdlcphinjnnhcaaGreatDoor


namespace Go.Proofs.YtdlcphinjnnhcaaGreatDoor
set_option maxRecDepth 100000
set_option maxHeartbeats 40000000
open Go.RowKit

def compE (g : Int) (c : PComp) : Int := if rootsR c.roots 7 then codeR c.code g else 46
theorem compsR_E (g : Int) (c : PComp) (L : List PComp) : compsR g (c :: L) = if compE g c = 0 then compsR g L else compE g c := by
 rw [compsR]
 unfold compE
 split
 · rfl
 · simp
theorem Jumps_any (op : Int) (w : World) :
   Calls Tryz.prog 56 #[.int .u8 op] w fun x w' => x = .returned (.bool (decide (20 ≤ op ∧ op ≤ 25))) ∧ w = w' := by
 go_enter Tryz.func56, Tryz.ntmps56
 go_wp2
 all_goals
   go_ret
   exact ⟨ret_bool (by simp_all <;> omega), rfl⟩
theorem refComp_any (c : PComp) (ra ka : Option Addr) (rc kc : Nat) (g : Int) (w : World) (hs : FIn 6 PRoot.vals w.heap.size w ra c.roots) (hc : LIn w.heap.size w ka c.code) (hr : c.Rng) :
   Calls Tryz.prog 38 #[.agg #[.slice ra c.roots.length rc, .slice ka c.code.length kc], .int .i64 g] w fun x w' => x = .returned (.int .i64 (compE g c)) ∧ Gr w w' := by
 obtain ⟨hl1, hl2, hops, hrr⟩ := hr
 have l1 : (c.roots.length : Int) ≤ 140737488355328 := by unfold maxG at hl1; omega
 have l2 : (c.code.length : Int) ≤ 140737488355328 := by unfold maxI at hl2; omega
 have X := Hid.mk (Box.new w #[.slice ra c.roots.length rc, .slice ka c.code.length kc] 54)
 have hGR := Hid.mk ((Gr.refl w).alloc (.cells #[.slice ra c.roots.length rc, .slice ka c.code.length kc] 54))
 replace hs := Hid.mk hs
 replace hc := Hid.mk hc
 replace hrr := Hid.mk hrr
 replace hops := Hid.mk hops
 clear hl1 hl2
 go_enter Tryz.func38, Tryz.ntmps38
 go_wp2_with fail
 generalize w.alloc (.cells #[.slice ra c.roots.length rc, .slice ka c.code.length kc] 54) = R0 at *
 replace hs := Hid.mk ((hs.out.below hGR.out.below).mono (gr_size hGR.out))
 replace hc := Hid.mk ((hc.out.below hGR.out.below).mono (gr_size hGR.out))
 go_loopw [5, 6] (fun l i wr => ∃ (k : Nat) (f : Int), l = .int .i64 f ∧ i = .int .i64 k ∧ k ≤ c.roots.length ∧ Hid (rootsR (c.roots.drop k) f = rootsR c.roots 7 ∧ Gr R0 wr)) (fun _ i _ => c.roots.length - (intOf i).toNat)
 case atStart => exact ⟨0, 7, rfl, rfl, by omega, ⟨rfl, Gr.refl _⟩⟩
 case round =>
   obtain ⟨k, f, rfl, rfl, hkk, ⟨hsf, hG⟩⟩ := hrel
   have X1 := X.out.gr hG
   have ⟨z0, p0, f0⟩ := X1.at
   replace X1 := Hid.mk X1
   by_cases hkl : k < c.roots.length
   · have kl : (k : Int) < c.roots.length := by omega
     obtain ⟨b2, off2, rfl, hb3, hb4, hcc⟩ := (hs.out.below hG.below) k hkl
     obtain ⟨d0, d1, d2, d3, d4, d5⟩ := root_cells hcc
     clear hcc
     have htr := hrr.out c.roots[k] (List.getElem_mem hkl)
     have hT := fun W => refFit_any c.roots[k].b c.roots[k].e c.roots[k].c c.roots[k].p c.roots[k].s W htr.2.2.2.2.1
     have hy := rootsR_yes (f := f) hkl
     have hno := rootsR_no (f := f) hkl
     generalize c.roots[k] = t at *
     generalize dataB t.b t.e t.p t.s = q at *
     clear htr
     by_cases q1 : f < t.r
     case neg =>
       rw [hno (fun q => q1 q.1)] at hsf
       have q1' : t.r ≤ f := by omega
       clear hy hno
       replace q1 := Hid.mk q1
       replace hG := Hid.mk hG
       replace hsf := Hid.mk hsf
       go_wp2_with fail
       refine (hT _).mono ?_
       rintro x w2 ⟨rfl, hG2⟩
       have X2 := X1.out.gr hG2
       have d0' := (hG2.cell hb4 _).trans d0
       have hb5 : b2 < w2.heap.size := Nat.lt_of_lt_of_le hb4 (gr_size hG2)
       replace hG := Hid.mk (hG.out.trans hG2)
       clear z0 p0 f0 hG2 hT d0 d1 d2 d3 d4 d5 hb4 X1
       have ⟨z1, p1, f1⟩ := X2.at
       replace X2 := Hid.mk X2
       go_wp2_with fail
       go_ret
       exact ⟨retI (by unfold compE; rw [← hsf.out]; rfl), hGR.out.trans hG.out⟩
     have q1' : ¬ t.r ≤ f := by omega
     by_cases q2 : t.r < 16
     case neg =>
       rw [hno (fun q => q2 q.2.1)] at hsf
       have q2' : (16 : Int) ≤ t.r := by omega
       clear hy hno
       replace q1 := Hid.mk q1
       replace q2 := Hid.mk q2
       replace hG := Hid.mk hG
       replace hsf := Hid.mk hsf
       go_wp2_with fail
       refine (hT _).mono ?_
       rintro x w2 ⟨rfl, hG2⟩
       have X2 := X1.out.gr hG2
       have d0' := (hG2.cell hb4 _).trans d0
       have hb5 : b2 < w2.heap.size := Nat.lt_of_lt_of_le hb4 (gr_size hG2)
       replace hG := Hid.mk (hG.out.trans hG2)
       clear z0 p0 f0 hG2 hT d0 d1 d2 d3 d4 d5 hb4 X1
       have ⟨z1, p1, f1⟩ := X2.at
       replace X2 := Hid.mk X2
       go_wp2_with fail
       go_ret
       exact ⟨retI (by unfold compE; rw [← hsf.out]; rfl), hGR.out.trans hG.out⟩
     have q2' : ¬ (16 : Int) ≤ t.r := by omega
     cases q with
     | false =>
       rw [hno (fun q => by have := q.2.2; simp at this)] at hsf
       clear hy hno
       replace q1 := Hid.mk q1
       replace q2 := Hid.mk q2
       replace hG := Hid.mk hG
       replace hsf := Hid.mk hsf
       go_wp2_with fail
       refine (hT _).mono ?_
       rintro x w2 ⟨rfl, hG2⟩
       have X2 := X1.out.gr hG2
       have d0' := (hG2.cell hb4 _).trans d0
       have hb5 : b2 < w2.heap.size := Nat.lt_of_lt_of_le hb4 (gr_size hG2)
       replace hG := Hid.mk (hG.out.trans hG2)
       clear z0 p0 f0 hG2 hT d0 d1 d2 d3 d4 d5 hb4 X1
       have ⟨z1, p1, f1⟩ := X2.at
       replace X2 := Hid.mk X2
       go_wp2_with fail
       go_ret
       exact ⟨retI (by unfold compE; rw [← hsf.out]; rfl), hGR.out.trans hG.out⟩
     | true =>
       rw [hy q1 q2 rfl] at hsf
       clear hy hno
       replace q1 := Hid.mk q1
       replace q2 := Hid.mk q2
       replace hG := Hid.mk hG
       replace hsf := Hid.mk hsf
       go_wp2_with fail
       refine (hT _).mono ?_
       rintro x w2 ⟨rfl, hG2⟩
       have X2 := X1.out.gr hG2
       have d0' := (hG2.cell hb4 _).trans d0
       have hb5 : b2 < w2.heap.size := Nat.lt_of_lt_of_le hb4 (gr_size hG2)
       replace hG := Hid.mk (hG.out.trans hG2)
       clear z0 p0 f0 hG2 hT d0 d1 d2 d3 d4 d5 hb4 X1
       have ⟨z1, p1, f1⟩ := X2.at
       replace X2 := Hid.mk X2
       go_wp2_with fail
       go_roundw
       case rel => exact ⟨k + 1, t.r, rfl, by simp, by omega, ⟨hsf.out, hG.out⟩⟩
       case measure => simp [intOf]; omega
   · have kl : ¬ (k : Int) < c.roots.length := by omega
     rw [drop_end hkl] at hsf
     have hro : rootsR c.roots 7 = true := by rw [← hsf]; rfl
     have hq : compE g c = codeR c.code g := by unfold compE; rw [if_pos hro]
     replace hq := Hid.mk hq
     clear hsf hro
     replace hG := Hid.mk hG
     by_cases n1 : c.code.length < 1 ∨ 400 < c.code.length
     · have hz : codeR c.code g = 42 := if_pos n1
       replace hz := Hid.mk hz
       by_cases n2 : c.code.length < 1
       · have n2' : (c.code.length : Int) < 1 := by omega
         clear n1
         go_wp2_with fail
         go_ret
         exact ⟨retI (by rw [hq.out, hz.out]), hGR.out.trans hG.out⟩
       · have n2' : ¬ (c.code.length : Int) < 1 := by omega
         have n3' : (400 : Int) < c.code.length := by omega
         clear n1
         go_wp2_with fail
         go_ret
         exact ⟨retI (by rw [hq.out, hz.out]), hGR.out.trans hG.out⟩
     have hz : codeR c.code g = codeF c.code.length g c.code := if_neg n1
     have n2' : ¬ (c.code.length : Int) < 1 := by omega
     have n3' : ¬ (400 : Int) < c.code.length := by omega
     rw [hz] at hq
     clear hz
     go_wp2_with fail
     clear n1 n2' n3' z0 p0 f0 kl hkl hkk X1
     replace hc := Hid.mk ((hc.out.below hG.out.below).mono (gr_size hG.out))
     replace X := Hid.mk (X.out.gr hG.out)
     replace hGR := Hid.mk (hGR.out.trans hG.out)
     clear hG
     generalize wr = R1 at *
     go_loopw [8] (fun i wr => ∃ k2 : Nat, i = .int .i64 k2 ∧ k2 ≤ c.code.length ∧ Hid (codeF c.code.length g (c.code.drop k2) = codeF c.code.length g c.code ∧ Gr R1 wr)) (fun i _ => c.code.length - (intOf i).toNat)
     case atStart => exact ⟨0, rfl, by omega, ⟨rfl, Gr.refl _⟩⟩
     case round =>
       obtain ⟨k2, rfl, hkk, ⟨hsf, hG⟩⟩ := hrel
       have X1 := X.out.gr hG
       have ⟨z0, p0, f0⟩ := X1.at
       replace X1 := Hid.mk X1
       by_cases hkl : k2 < c.code.length
       · have kl : (k2 : Int) < c.code.length := by omega
         obtain ⟨b2, off2, rfl, hb3, hb4, c0, c1, c2, c3, c4⟩ := (hc.out.below hG.below) k2 hkl
         obtain ⟨ho0, ho1⟩ := hops.out c.code[k2] (List.getElem_mem hkl)
         have hT := fun W => refRight_any c.code[k2].op c.code[k2].a c.code[k2].b c.code[k2].c c.code[k2].m W ho0 ho1
         rw [right_doc _ _ _ _ _ ho0 ho1] at hT
         have hJ := fun W => Jumps_any c.code[k2].op W
         rw [List.drop_eq_getElem_cons hkl, codeF] at hsf
         have hri : c.code[k2].right = rightF c.code[k2].op c.code[k2].a c.code[k2].b c.code[k2].c c.code[k2].m := rfl
         rw [hri] at hsf
         generalize c.code[k2] = t at *
         generalize rightF t.op t.a t.b t.c t.m = e at *
         clear hri
         by_cases e0 : e = 0
         case neg =>
           rw [if_neg e0] at hsf
           have e0' : (e != 0) = true := by simpa using e0
           clear hJ
           replace e0 := Hid.mk e0
           replace hG := Hid.mk hG
           replace hsf := Hid.mk hsf
           go_wp2_with fail
           refine (hT _).mono ?_
           rintro x w2 ⟨rfl, hG2⟩
           have X2 := X1.out.gr hG2
           have c0' := (hG2.cell hb4 _).trans c0
           have c4' := (hG2.cell hb4 _).trans c4
           have hb5 : b2 < w2.heap.size := Nat.lt_of_lt_of_le hb4 (gr_size hG2)
           replace hG := Hid.mk (hG.out.trans hG2)
           clear z0 p0 f0 hG2 hT c0 c1 c2 c3 c4 hb4 X1
           have ⟨z1, p1, f1⟩ := X2.at
           replace X2 := Hid.mk X2
           go_wp2_with fail
           go_ret
           exact ⟨retI (by rw [hq.out, ← hsf.out]), hGR.out.trans hG.out⟩
         have e0' : (e != 0) = false := by simpa using e0
         rw [if_pos e0] at hsf
         replace e0 := Hid.mk e0
         by_cases j1 : 20 ≤ t.op ∧ t.op ≤ 25
         · have jd : decide (20 ≤ t.op ∧ t.op ≤ 25) = true := by simpa using j1
           rw [jd] at hJ
           have o31 : (t.op == 31) = false := beq_false_of_ne (by omega)
           have htg : tgtB t.op t.m c.code.length g = decide (t.m < c.code.length) := if_pos j1
           rw [htg] at hsf
           clear htg jd
           replace j1 := Hid.mk j1
           by_cases j2 : t.m < c.code.length
           · have j2' : ¬ (c.code.length : Int) ≤ t.m := by omega
             rw [if_pos (by simpa using j2)] at hsf
             replace j2 := Hid.mk j2
             replace hG := Hid.mk hG
             replace hsf := Hid.mk hsf
             go_wp2_with fail
             refine (hT _).mono ?_
             rintro x w2 ⟨rfl, hG2⟩
             have X2 := X1.out.gr hG2
             have c0' := (hG2.cell hb4 _).trans c0
             have c4' := (hG2.cell hb4 _).trans c4
             have hb5 : b2 < w2.heap.size := Nat.lt_of_lt_of_le hb4 (gr_size hG2)
             replace hG := Hid.mk (hG.out.trans hG2)
             clear z0 p0 f0 hG2 hT c0 c1 c2 c3 c4 hb4 X1
             have ⟨z1, p1, f1⟩ := X2.at
             replace X2 := Hid.mk X2
             go_wp2_with fail
             refine (hJ _).mono ?_
             rintro x w3 ⟨rfl, rfl⟩
             go_wp2_with fail
             have KS : ∀ W, Gr w2 W → W.cell? ⟨w.heap.size, 1, none⟩ = some (.slice (some ⟨b2, off2, none⟩) c.code.length kc) ∧ W.cell? ⟨b2, off2 + k2 * 5, none⟩ = some (.int .u8 t.op) ∧ W.cell? ⟨b2, off2 + k2 * 5 + 1 + 1 + 1 + 1, none⟩ = some (.int .i64 t.m) := fun W hW => ⟨(hW.cell z1 1).trans (p1 1), (hW.cell hb5 _).trans c0', (hW.cell hb5 _).trans c4'⟩
             replace KS := Hid.mk KS
             have hG0 : Gr w2 w2.drew := (Gr.refl _).drew
             refine wp_region_held_drew (S := fun W => W.cell? ⟨w.heap.size, 1, none⟩ = some (.slice (some ⟨b2, off2, none⟩) c.code.length kc) ∧ W.cell? ⟨b2, off2 + k2 * 5, none⟩ = some (.int .u8 t.op) ∧ W.cell? ⟨b2, off2 + k2 * 5 + 1 + 1 + 1 + 1, none⟩ = some (.int .i64 t.m)) (by kernel_rfl) (KS.out _ hG0) (fun hHeld => ?_)
             refine xso 0 ?_ rfl ?_ (xso 1 ?_ rfl ?_ ?_)
             iterate 2 (rotate_left; focus ((try simp only [xap]); intro w hSw; (try dsimp only at hSw); go_simp; first | done | with_reducible rfl))
             try simp only [xap]
             refine xso 2 ?_ rfl ?_ ?_
             rotate_left
             · intro w hSw; (try dsimp only at hSw); go_simp; first | done | with_reducible rfl
             try simp only [xap]
             refine xso 3 ?_ rfl ?_ ?_
             rotate_left
             · intro w hSw; (try dsimp only at hSw); go_simp; first | done | with_reducible rfl
             try simp only [xap]
             refine xso 4 ?_ rfl ?_ ?_
             rotate_left
             · intro w hSw; (try dsimp only at hSw); go_simp; first | done | with_reducible rfl
             try simp only [xap]
             refine xso 5 ?_ rfl ?_ ?_
             rotate_left
             · intro w hSw; (try dsimp only at hSw); go_simp; first | done | with_reducible rfl
             try simp only [xap]
             refine xso 6 ?_ rfl ?_ ?_
             rotate_left
             · intro w hSw; (try dsimp only at hSw); go_simp; first | done | with_reducible rfl
             try simp only [xap]
             refine xso 7 ?_ rfl ?_ ?_
             rotate_left
             · intro w hSw; (try dsimp only at hSw); go_simp; first | done | with_reducible rfl
             try simp only [xap]
             refine xso 8 ?_ rfl ?_ ?_
             rotate_left
             · intro w hSw; (try dsimp only at hSw); go_simp; first | done | with_reducible rfl
             try simp only [xap]
             refine xso 9 ?_ rfl ?_ ?_
             rotate_left
             · intro w hSw; (try dsimp only at hSw); go_simp; first | done | with_reducible rfl
             try simp only [xap]
             refine xso 10 ?_ rfl ?_ ?_
             rotate_left
             · intro w hSw; (try dsimp only at hSw); go_simp; first | done | with_reducible rfl
             try simp only [xap]
             refine xtk 11 (v := .bool false) rfl (Or.inl ⟨by rfl, ?_⟩) ?_
             · intro w hSw; (try dsimp only at hSw); first | (go_simp; done) | (go_simp; simp_all; done) | (go_simp; omega)
             try simp only [xap]
             refine xso 12 ?_ rfl ?_ (xso 13 ?_ rfl ?_ ?_)
             iterate 2 (rotate_left; focus ((try simp only [xap]); intro w hSw; (try dsimp only at hSw); go_simp; first | done | with_reducible rfl))
             try simp only [xap]
             refine xso 14 ?_ rfl ?_ ?_
             rotate_left
             · intro w hSw; (try dsimp only at hSw); go_simp; first | done | with_reducible rfl
             try simp only [xap]
             refine xso 15 ?_ rfl ?_ ?_
             rotate_left
             · intro w hSw; (try dsimp only at hSw); go_simp; first | done | with_reducible rfl
             try simp only [xap]
             refine xso 16 ?_ rfl ?_ ?_
             rotate_left
             · intro w hSw; (try dsimp only at hSw); go_simp; first | done | with_reducible rfl
             try simp only [xap]
             refine xso 17 ?_ rfl ?_ ?_
             rotate_left
             · intro w hSw; (try dsimp only at hSw); go_simp; first | done | with_reducible rfl
             try simp only [xap]
             refine xso 18 ?_ rfl ?_ ?_
             rotate_left
             · intro w hSw; (try dsimp only at hSw); go_simp; first | done | with_reducible rfl
             try simp only [xap]
             refine xso 19 ?_ rfl ?_ ?_
             rotate_left
             · intro w hSw; (try dsimp only at hSw); go_simp; first | done | with_reducible rfl
             try simp only [xap]
             refine xtk 20 (v := .bool false) rfl (Or.inl ⟨by rfl, ?_⟩) ?_
             · intro w hSw; (try dsimp only at hSw); first | (go_simp; done) | (go_simp; simp_all; done) | (go_simp; omega)
             try simp only [xap]
             refine xso 21 ?_ rfl ?_ ?_
             rotate_left
             · intro w hSw; (try dsimp only at hSw); go_simp; first | done | with_reducible rfl
             try simp only [xap]
             refine xtk 22 (v := undef) rfl (Or.inr ⟨by rfl, rfl⟩) ?_
             try simp only [xap]
             refine xtk 23 (v := undef) rfl (Or.inr ⟨by rfl, rfl⟩) ?_
             try simp only [xap]
             refine xtk 24 (v := undef) rfl (Or.inr ⟨by rfl, rfl⟩) ?_
             try simp only [xap]
             refine xtk 25 (v := undef) rfl (Or.inr ⟨by rfl, rfl⟩) ?_
             try simp only [xap]
             refine xtk 26 (v := undef) rfl (Or.inr ⟨by rfl, rfl⟩) ?_
             try simp only [xap]
             refine xtk 27 (v := undef) rfl (Or.inr ⟨by rfl, rfl⟩) ?_
             try simp only [xap]
             refine xtk 28 (v := undef) rfl (Or.inr ⟨by rfl, rfl⟩) ?_
             try simp only [xap]
             refine xtk 29 (v := undef) rfl (Or.inr ⟨by rfl, rfl⟩) ?_
             try simp only [xap]
             refine xso 30 ?_ rfl ?_ (xso 31 ?_ rfl ?_ ?_)
             iterate 2 (rotate_left; focus ((try simp only [xap]); intro w hSw; (try dsimp only at hSw); go_simp; first | done | with_reducible rfl))
             try simp only [xap]
             refine xdn ?_ _
             clear KS hHeld
             go_wp2_with fail
             replace hG := Hid.mk (hG.out.trans hG0)
             go_roundw
             case rel => exact ⟨k2 + 1, by simp, by omega, ⟨hsf.out, hG.out⟩⟩
             case measure => simp [intOf]; omega
           · have j2' : (c.code.length : Int) ≤ t.m := by omega
             rw [if_neg (by simpa using j2)] at hsf
             replace j2 := Hid.mk j2
             replace hG := Hid.mk hG
             replace hsf := Hid.mk hsf
             go_wp2_with fail
             refine (hT _).mono ?_
             rintro x w2 ⟨rfl, hG2⟩
             have X2 := X1.out.gr hG2
             have c0' := (hG2.cell hb4 _).trans c0
             have c4' := (hG2.cell hb4 _).trans c4
             have hb5 : b2 < w2.heap.size := Nat.lt_of_lt_of_le hb4 (gr_size hG2)
             replace hG := Hid.mk (hG.out.trans hG2)
             clear z0 p0 f0 hG2 hT c0 c1 c2 c3 c4 hb4 X1
             have ⟨z1, p1, f1⟩ := X2.at
             replace X2 := Hid.mk X2
             go_wp2_with fail
             refine (hJ _).mono ?_
             rintro x w3 ⟨rfl, rfl⟩
             go_wp2_with fail
             have KS : ∀ W, Gr w2 W → W.cell? ⟨w.heap.size, 1, none⟩ = some (.slice (some ⟨b2, off2, none⟩) c.code.length kc) ∧ W.cell? ⟨b2, off2 + k2 * 5, none⟩ = some (.int .u8 t.op) ∧ W.cell? ⟨b2, off2 + k2 * 5 + 1 + 1 + 1 + 1, none⟩ = some (.int .i64 t.m) := fun W hW => ⟨(hW.cell z1 1).trans (p1 1), (hW.cell hb5 _).trans c0', (hW.cell hb5 _).trans c4'⟩
             replace KS := Hid.mk KS
             have hG0 : Gr w2 w2.drew := (Gr.refl _).drew
             refine wp_region_held_drew (S := fun W => W.cell? ⟨w.heap.size, 1, none⟩ = some (.slice (some ⟨b2, off2, none⟩) c.code.length kc) ∧ W.cell? ⟨b2, off2 + k2 * 5, none⟩ = some (.int .u8 t.op) ∧ W.cell? ⟨b2, off2 + k2 * 5 + 1 + 1 + 1 + 1, none⟩ = some (.int .i64 t.m)) (by kernel_rfl) (KS.out _ hG0) (fun hHeld => ?_)
             refine xso 0 ?_ rfl ?_ (xso 1 ?_ rfl ?_ ?_)
             iterate 2 (rotate_left; focus ((try simp only [xap]); intro w hSw; (try dsimp only at hSw); go_simp; first | done | with_reducible rfl))
             try simp only [xap]
             refine xso 2 ?_ rfl ?_ ?_
             rotate_left
             · intro w hSw; (try dsimp only at hSw); go_simp; first | done | with_reducible rfl
             try simp only [xap]
             refine xso 3 ?_ rfl ?_ ?_
             rotate_left
             · intro w hSw; (try dsimp only at hSw); go_simp; first | done | with_reducible rfl
             try simp only [xap]
             refine xso 4 ?_ rfl ?_ ?_
             rotate_left
             · intro w hSw; (try dsimp only at hSw); go_simp; first | done | with_reducible rfl
             try simp only [xap]
             refine xso 5 ?_ rfl ?_ ?_
             rotate_left
             · intro w hSw; (try dsimp only at hSw); go_simp; first | done | with_reducible rfl
             try simp only [xap]
             refine xso 6 ?_ rfl ?_ ?_
             rotate_left
             · intro w hSw; (try dsimp only at hSw); go_simp; first | done | with_reducible rfl
             try simp only [xap]
             refine xso 7 ?_ rfl ?_ ?_
             rotate_left
             · intro w hSw; (try dsimp only at hSw); go_simp; first | done | with_reducible rfl
             try simp only [xap]
             refine xso 8 ?_ rfl ?_ ?_
             rotate_left
             · intro w hSw; (try dsimp only at hSw); go_simp; first | done | with_reducible rfl
             try simp only [xap]
             refine xso 9 ?_ rfl ?_ ?_
             rotate_left
             · intro w hSw; (try dsimp only at hSw); go_simp; first | done | with_reducible rfl
             try simp only [xap]
             refine xso 10 ?_ rfl ?_ ?_
             rotate_left
             · intro w hSw; (try dsimp only at hSw); go_simp; first | done | with_reducible rfl
             try simp only [xap]
             refine xtk 11 (v := .bool true) rfl (Or.inl ⟨by rfl, ?_⟩) ?_
             · intro w hSw; (try dsimp only at hSw); first | (go_simp; done) | (go_simp; simp_all; done) | (go_simp; omega)
             try simp only [xap]
             refine xso 12 ?_ rfl ?_ (xso 13 ?_ rfl ?_ ?_)
             iterate 2 (rotate_left; focus ((try simp only [xap]); intro w hSw; (try dsimp only at hSw); go_simp; first | done | with_reducible rfl))
             try simp only [xap]
             refine xtk 14 (v := undef) rfl (Or.inr ⟨by rfl, rfl⟩) ?_
             try simp only [xap]
             refine xtk 15 (v := undef) rfl (Or.inr ⟨by rfl, rfl⟩) ?_
             try simp only [xap]
             refine xtk 16 (v := undef) rfl (Or.inr ⟨by rfl, rfl⟩) ?_
             try simp only [xap]
             refine xtk 17 (v := undef) rfl (Or.inr ⟨by rfl, rfl⟩) ?_
             try simp only [xap]
             refine xtk 18 (v := undef) rfl (Or.inr ⟨by rfl, rfl⟩) ?_
             try simp only [xap]
             refine xtk 19 (v := undef) rfl (Or.inr ⟨by rfl, rfl⟩) ?_
             try simp only [xap]
             refine xtk 20 (v := undef) rfl (Or.inr ⟨by rfl, rfl⟩) ?_
             try simp only [xap]
             refine xtk 21 (v := undef) rfl (Or.inr ⟨by rfl, rfl⟩) ?_
             try simp only [xap]
             refine xtk 22 (v := undef) rfl (Or.inr ⟨by rfl, rfl⟩) ?_
             try simp only [xap]
             refine xtk 23 (v := undef) rfl (Or.inr ⟨by rfl, rfl⟩) ?_
             try simp only [xap]
             refine xtk 24 (v := undef) rfl (Or.inr ⟨by rfl, rfl⟩) ?_
             try simp only [xap]
             refine xtk 25 (v := undef) rfl (Or.inr ⟨by rfl, rfl⟩) ?_
             try simp only [xap]
             refine xtk 26 (v := undef) rfl (Or.inr ⟨by rfl, rfl⟩) ?_
             try simp only [xap]
             refine xtk 27 (v := undef) rfl (Or.inr ⟨by rfl, rfl⟩) ?_
             try simp only [xap]
             refine xtk 28 (v := undef) rfl (Or.inr ⟨by rfl, rfl⟩) ?_
             try simp only [xap]
             refine xtk 29 (v := undef) rfl (Or.inr ⟨by rfl, rfl⟩) ?_
             try simp only [xap]
             refine xtk 30 (v := undef) rfl (Or.inr ⟨by rfl, rfl⟩) ?_
             try simp only [xap]
             refine xso 31 ?_ rfl ?_ ?_
             rotate_left
             · intro w hSw; (try dsimp only at hSw); go_simp; first | done | with_reducible rfl
             try simp only [xap]
             refine xdn ?_ _
             clear KS hHeld
             go_wp2_with fail
             replace hG := Hid.mk (hG.out.trans hG0)
             go_ret
             exact ⟨retI (by rw [hq.out, ← hsf.out]), hGR.out.trans hG.out⟩
         · have jd : decide (20 ≤ t.op ∧ t.op ≤ 25) = false := by simpa using j1
           rw [jd] at hJ
           clear jd
           by_cases j3 : t.op = 31
           · have o31 : (t.op == 31) = true := by simpa using j3
             have htg : tgtB t.op t.m c.code.length g = decide (t.m < g) := by unfold tgtB; rw [if_neg j1, if_pos j3]
             rw [htg] at hsf
             clear htg
             replace j1 := Hid.mk j1
             replace j3 := Hid.mk j3
             by_cases j2 : t.m < g
             · have j2' : ¬ g ≤ t.m := by omega
               rw [if_pos (by simpa using j2)] at hsf
               replace j2 := Hid.mk j2
               replace hG := Hid.mk hG
               replace hsf := Hid.mk hsf
               go_wp2_with fail
               refine (hT _).mono ?_
               rintro x w2 ⟨rfl, hG2⟩
               have X2 := X1.out.gr hG2
               have c0' := (hG2.cell hb4 _).trans c0
               have c4' := (hG2.cell hb4 _).trans c4
               have hb5 : b2 < w2.heap.size := Nat.lt_of_lt_of_le hb4 (gr_size hG2)
               replace hG := Hid.mk (hG.out.trans hG2)
               clear z0 p0 f0 hG2 hT c0 c1 c2 c3 c4 hb4 X1
               have ⟨z1, p1, f1⟩ := X2.at
               replace X2 := Hid.mk X2
               go_wp2_with fail
               refine (hJ _).mono ?_
               rintro x w3 ⟨rfl, rfl⟩
               go_wp2_with fail
               have KS : ∀ W, Gr w2 W → W.cell? ⟨w.heap.size, 1, none⟩ = some (.slice (some ⟨b2, off2, none⟩) c.code.length kc) ∧ W.cell? ⟨b2, off2 + k2 * 5, none⟩ = some (.int .u8 t.op) ∧ W.cell? ⟨b2, off2 + k2 * 5 + 1 + 1 + 1 + 1, none⟩ = some (.int .i64 t.m) := fun W hW => ⟨(hW.cell z1 1).trans (p1 1), (hW.cell hb5 _).trans c0', (hW.cell hb5 _).trans c4'⟩
               replace KS := Hid.mk KS
               have hG0 : Gr w2 w2.drew := (Gr.refl _).drew
               refine wp_region_held_drew (S := fun W => W.cell? ⟨w.heap.size, 1, none⟩ = some (.slice (some ⟨b2, off2, none⟩) c.code.length kc) ∧ W.cell? ⟨b2, off2 + k2 * 5, none⟩ = some (.int .u8 t.op) ∧ W.cell? ⟨b2, off2 + k2 * 5 + 1 + 1 + 1 + 1, none⟩ = some (.int .i64 t.m)) (by kernel_rfl) (KS.out _ hG0) (fun hHeld => ?_)
               refine xso 0 ?_ rfl ?_ (xso 1 ?_ rfl ?_ ?_)
               iterate 2 (rotate_left; focus ((try simp only [xap]); intro w hSw; (try dsimp only at hSw); go_simp; first | done | with_reducible rfl))
               try simp only [xap]
               refine xtk 2 (v := undef) rfl (Or.inr ⟨by rfl, rfl⟩) ?_
               try simp only [xap]
               refine xtk 3 (v := undef) rfl (Or.inr ⟨by rfl, rfl⟩) ?_
               try simp only [xap]
               refine xtk 4 (v := undef) rfl (Or.inr ⟨by rfl, rfl⟩) ?_
               try simp only [xap]
               refine xtk 5 (v := undef) rfl (Or.inr ⟨by rfl, rfl⟩) ?_
               try simp only [xap]
               refine xtk 6 (v := undef) rfl (Or.inr ⟨by rfl, rfl⟩) ?_
               try simp only [xap]
               refine xtk 7 (v := undef) rfl (Or.inr ⟨by rfl, rfl⟩) ?_
               try simp only [xap]
               refine xtk 8 (v := undef) rfl (Or.inr ⟨by rfl, rfl⟩) ?_
               try simp only [xap]
               refine xtk 9 (v := undef) rfl (Or.inr ⟨by rfl, rfl⟩) ?_
               try simp only [xap]
               refine xtk 10 (v := undef) rfl (Or.inr ⟨by rfl, rfl⟩) ?_
               try simp only [xap]
               refine xtk 11 (v := undef) rfl (Or.inr ⟨by rfl, rfl⟩) ?_
               try simp only [xap]
               refine xso 12 ?_ rfl ?_ (xso 13 ?_ rfl ?_ ?_)
               iterate 2 (rotate_left; focus ((try simp only [xap]); intro w hSw; (try dsimp only at hSw); go_simp; first | done | with_reducible rfl))
               try simp only [xap]
               refine xso 14 ?_ rfl ?_ ?_
               rotate_left
               · intro w hSw; (try dsimp only at hSw); go_simp; first | done | with_reducible rfl
               try simp only [xap]
               refine xso 15 ?_ rfl ?_ ?_
               rotate_left
               · intro w hSw; (try dsimp only at hSw); go_simp; first | done | with_reducible rfl
               try simp only [xap]
               refine xso 16 ?_ rfl ?_ ?_
               rotate_left
               · intro w hSw; (try dsimp only at hSw); go_simp; first | done | with_reducible rfl
               try simp only [xap]
               refine xso 17 ?_ rfl ?_ ?_
               rotate_left
               · intro w hSw; (try dsimp only at hSw); go_simp; first | done | with_reducible rfl
               try simp only [xap]
               refine xso 18 ?_ rfl ?_ ?_
               rotate_left
               · intro w hSw; (try dsimp only at hSw); go_simp; first | done | with_reducible rfl
               try simp only [xap]
               refine xso 19 ?_ rfl ?_ ?_
               rotate_left
               · intro w hSw; (try dsimp only at hSw); go_simp; first | done | with_reducible rfl
               try simp only [xap]
               refine xtk 20 (v := .bool true) rfl (Or.inl ⟨by rfl, ?_⟩) ?_
               · intro w hSw; (try dsimp only at hSw); first | (go_simp; done) | (go_simp; simp_all; done) | (go_simp; omega)
               try simp only [xap]
               refine xso 21 ?_ rfl ?_ ?_
               rotate_left
               · intro w hSw; (try dsimp only at hSw); go_simp; first | done | with_reducible rfl
               try simp only [xap]
               refine xso 22 ?_ rfl ?_ ?_
               rotate_left
               · intro w hSw; (try dsimp only at hSw); go_simp; first | done | with_reducible rfl
               try simp only [xap]
               refine xso 23 ?_ rfl ?_ ?_
               rotate_left
               · intro w hSw; (try dsimp only at hSw); go_simp; first | done | with_reducible rfl
               try simp only [xap]
               refine xso 24 ?_ rfl ?_ ?_
               rotate_left
               · intro w hSw; (try dsimp only at hSw); go_simp; first | done | with_reducible rfl
               try simp only [xap]
               refine xso 25 ?_ rfl ?_ ?_
               rotate_left
               · intro w hSw; (try dsimp only at hSw); go_simp; first | done | with_reducible rfl
               try simp only [xap]
               refine xso 26 ?_ rfl ?_ ?_
               rotate_left
               · intro w hSw; (try dsimp only at hSw); go_simp; first | done | with_reducible rfl
               try simp only [xap]
               refine xso 27 ?_ rfl ?_ ?_
               rotate_left
               · intro w hSw; (try dsimp only at hSw); go_simp; first | done | with_reducible rfl
               try simp only [xap]
               refine xso 28 ?_ rfl ?_ ?_
               rotate_left
               · intro w hSw; (try dsimp only at hSw); go_simp; first | done | with_reducible rfl
               try simp only [xap]
               refine xtk 29 (v := .bool false) rfl (Or.inl ⟨by rfl, ?_⟩) ?_
               · intro w hSw; (try dsimp only at hSw); first | (go_simp; done) | (go_simp; simp_all; done) | (go_simp; omega)
               try simp only [xap]
               refine xso 30 ?_ rfl ?_ (xso 31 ?_ rfl ?_ ?_)
               iterate 2 (rotate_left; focus ((try simp only [xap]); intro w hSw; (try dsimp only at hSw); go_simp; first | done | with_reducible rfl))
               try simp only [xap]
               refine xdn ?_ _
               clear KS hHeld
               go_wp2_with fail
               replace hG := Hid.mk (hG.out.trans hG0)
               go_roundw
               case rel => exact ⟨k2 + 1, by simp, by omega, ⟨hsf.out, hG.out⟩⟩
               case measure => simp [intOf]; omega
             · have j2' : g ≤ t.m := by omega
               rw [if_neg (by simpa using j2)] at hsf
               replace j2 := Hid.mk j2
               replace hG := Hid.mk hG
               replace hsf := Hid.mk hsf
               go_wp2_with fail
               refine (hT _).mono ?_
               rintro x w2 ⟨rfl, hG2⟩
               have X2 := X1.out.gr hG2
               have c0' := (hG2.cell hb4 _).trans c0
               have c4' := (hG2.cell hb4 _).trans c4
               have hb5 : b2 < w2.heap.size := Nat.lt_of_lt_of_le hb4 (gr_size hG2)
               replace hG := Hid.mk (hG.out.trans hG2)
               clear z0 p0 f0 hG2 hT c0 c1 c2 c3 c4 hb4 X1
               have ⟨z1, p1, f1⟩ := X2.at
               replace X2 := Hid.mk X2
               go_wp2_with fail
               refine (hJ _).mono ?_
               rintro x w3 ⟨rfl, rfl⟩
               go_wp2_with fail
               have KS : ∀ W, Gr w2 W → W.cell? ⟨w.heap.size, 1, none⟩ = some (.slice (some ⟨b2, off2, none⟩) c.code.length kc) ∧ W.cell? ⟨b2, off2 + k2 * 5, none⟩ = some (.int .u8 t.op) ∧ W.cell? ⟨b2, off2 + k2 * 5 + 1 + 1 + 1 + 1, none⟩ = some (.int .i64 t.m) := fun W hW => ⟨(hW.cell z1 1).trans (p1 1), (hW.cell hb5 _).trans c0', (hW.cell hb5 _).trans c4'⟩
               replace KS := Hid.mk KS
               have hG0 : Gr w2 w2.drew := (Gr.refl _).drew
               refine wp_region_held_drew (S := fun W => W.cell? ⟨w.heap.size, 1, none⟩ = some (.slice (some ⟨b2, off2, none⟩) c.code.length kc) ∧ W.cell? ⟨b2, off2 + k2 * 5, none⟩ = some (.int .u8 t.op) ∧ W.cell? ⟨b2, off2 + k2 * 5 + 1 + 1 + 1 + 1, none⟩ = some (.int .i64 t.m)) (by kernel_rfl) (KS.out _ hG0) (fun hHeld => ?_)
               refine xso 0 ?_ rfl ?_ (xso 1 ?_ rfl ?_ ?_)
               iterate 2 (rotate_left; focus ((try simp only [xap]); intro w hSw; (try dsimp only at hSw); go_simp; first | done | with_reducible rfl))
               try simp only [xap]
               refine xtk 2 (v := undef) rfl (Or.inr ⟨by rfl, rfl⟩) ?_
               try simp only [xap]
               refine xtk 3 (v := undef) rfl (Or.inr ⟨by rfl, rfl⟩) ?_
               try simp only [xap]
               refine xtk 4 (v := undef) rfl (Or.inr ⟨by rfl, rfl⟩) ?_
               try simp only [xap]
               refine xtk 5 (v := undef) rfl (Or.inr ⟨by rfl, rfl⟩) ?_
               try simp only [xap]
               refine xtk 6 (v := undef) rfl (Or.inr ⟨by rfl, rfl⟩) ?_
               try simp only [xap]
               refine xtk 7 (v := undef) rfl (Or.inr ⟨by rfl, rfl⟩) ?_
               try simp only [xap]
               refine xtk 8 (v := undef) rfl (Or.inr ⟨by rfl, rfl⟩) ?_
               try simp only [xap]
               refine xtk 9 (v := undef) rfl (Or.inr ⟨by rfl, rfl⟩) ?_
               try simp only [xap]
               refine xtk 10 (v := undef) rfl (Or.inr ⟨by rfl, rfl⟩) ?_
               try simp only [xap]
               refine xtk 11 (v := undef) rfl (Or.inr ⟨by rfl, rfl⟩) ?_
               try simp only [xap]
               refine xso 12 ?_ rfl ?_ (xso 13 ?_ rfl ?_ ?_)
               iterate 2 (rotate_left; focus ((try simp only [xap]); intro w hSw; (try dsimp only at hSw); go_simp; first | done | with_reducible rfl))
               try simp only [xap]
               refine xso 14 ?_ rfl ?_ ?_
               rotate_left
               · intro w hSw; (try dsimp only at hSw); go_simp; first | done | with_reducible rfl
               try simp only [xap]
               refine xso 15 ?_ rfl ?_ ?_
               rotate_left
               · intro w hSw; (try dsimp only at hSw); go_simp; first | done | with_reducible rfl
               try simp only [xap]
               refine xso 16 ?_ rfl ?_ ?_
               rotate_left
               · intro w hSw; (try dsimp only at hSw); go_simp; first | done | with_reducible rfl
               try simp only [xap]
               refine xso 17 ?_ rfl ?_ ?_
               rotate_left
               · intro w hSw; (try dsimp only at hSw); go_simp; first | done | with_reducible rfl
               try simp only [xap]
               refine xso 18 ?_ rfl ?_ ?_
               rotate_left
               · intro w hSw; (try dsimp only at hSw); go_simp; first | done | with_reducible rfl
               try simp only [xap]
               refine xso 19 ?_ rfl ?_ ?_
               rotate_left
               · intro w hSw; (try dsimp only at hSw); go_simp; first | done | with_reducible rfl
               try simp only [xap]
               refine xtk 20 (v := .bool true) rfl (Or.inl ⟨by rfl, ?_⟩) ?_
               · intro w hSw; (try dsimp only at hSw); first | (go_simp; done) | (go_simp; simp_all; done) | (go_simp; omega)
               try simp only [xap]
               refine xso 21 ?_ rfl ?_ ?_
               rotate_left
               · intro w hSw; (try dsimp only at hSw); go_simp; first | done | with_reducible rfl
               try simp only [xap]
               refine xso 22 ?_ rfl ?_ ?_
               rotate_left
               · intro w hSw; (try dsimp only at hSw); go_simp; first | done | with_reducible rfl
               try simp only [xap]
               refine xso 23 ?_ rfl ?_ ?_
               rotate_left
               · intro w hSw; (try dsimp only at hSw); go_simp; first | done | with_reducible rfl
               try simp only [xap]
               refine xso 24 ?_ rfl ?_ ?_
               rotate_left
               · intro w hSw; (try dsimp only at hSw); go_simp; first | done | with_reducible rfl
               try simp only [xap]
               refine xso 25 ?_ rfl ?_ ?_
               rotate_left
               · intro w hSw; (try dsimp only at hSw); go_simp; first | done | with_reducible rfl
               try simp only [xap]
               refine xso 26 ?_ rfl ?_ ?_
               rotate_left
               · intro w hSw; (try dsimp only at hSw); go_simp; first | done | with_reducible rfl
               try simp only [xap]
               refine xso 27 ?_ rfl ?_ ?_
               rotate_left
               · intro w hSw; (try dsimp only at hSw); go_simp; first | done | with_reducible rfl
               try simp only [xap]
               refine xso 28 ?_ rfl ?_ ?_
               rotate_left
               · intro w hSw; (try dsimp only at hSw); go_simp; first | done | with_reducible rfl
               try simp only [xap]
               refine xtk 29 (v := .bool true) rfl (Or.inl ⟨by rfl, ?_⟩) ?_
               · intro w hSw; (try dsimp only at hSw); first | (go_simp; done) | (go_simp; simp_all; done) | (go_simp; omega)
               try simp only [xap]
               refine xso 30 ?_ rfl ?_ (xso 31 ?_ rfl ?_ ?_)
               iterate 2 (rotate_left; focus ((try simp only [xap]); intro w hSw; (try dsimp only at hSw); go_simp; first | done | with_reducible rfl))
               try simp only [xap]
               refine xdn ?_ _
               clear KS hHeld
               go_wp2_with fail
               replace hG := Hid.mk (hG.out.trans hG0)
               go_ret
               exact ⟨retI (by rw [hq.out, ← hsf.out]), hGR.out.trans hG.out⟩
           · have o31 : (t.op == 31) = false := beq_false_of_ne j3
             have htg : tgtB t.op t.m c.code.length g = true := by unfold tgtB; rw [if_neg j1, if_neg j3]
             rw [htg, if_pos rfl] at hsf
             clear htg
             replace j1 := Hid.mk j1
             replace j3 := Hid.mk j3
             replace hG := Hid.mk hG
             replace hsf := Hid.mk hsf
             go_wp2_with fail
             refine (hT _).mono ?_
             rintro x w2 ⟨rfl, hG2⟩
             have X2 := X1.out.gr hG2
             have c0' := (hG2.cell hb4 _).trans c0
             have c4' := (hG2.cell hb4 _).trans c4
             have hb5 : b2 < w2.heap.size := Nat.lt_of_lt_of_le hb4 (gr_size hG2)
             replace hG := Hid.mk (hG.out.trans hG2)
             clear z0 p0 f0 hG2 hT c0 c1 c2 c3 c4 hb4 X1
             have ⟨z1, p1, f1⟩ := X2.at
             replace X2 := Hid.mk X2
             go_wp2_with fail
             refine (hJ _).mono ?_
             rintro x w3 ⟨rfl, rfl⟩
             go_wp2_with fail
             have KS : ∀ W, Gr w2 W → W.cell? ⟨w.heap.size, 1, none⟩ = some (.slice (some ⟨b2, off2, none⟩) c.code.length kc) ∧ W.cell? ⟨b2, off2 + k2 * 5, none⟩ = some (.int .u8 t.op) ∧ W.cell? ⟨b2, off2 + k2 * 5 + 1 + 1 + 1 + 1, none⟩ = some (.int .i64 t.m) := fun W hW => ⟨(hW.cell z1 1).trans (p1 1), (hW.cell hb5 _).trans c0', (hW.cell hb5 _).trans c4'⟩
             replace KS := Hid.mk KS
             have hG0 : Gr w2 w2.drew := (Gr.refl _).drew
             refine wp_region_held_drew (S := fun W => W.cell? ⟨w.heap.size, 1, none⟩ = some (.slice (some ⟨b2, off2, none⟩) c.code.length kc) ∧ W.cell? ⟨b2, off2 + k2 * 5, none⟩ = some (.int .u8 t.op) ∧ W.cell? ⟨b2, off2 + k2 * 5 + 1 + 1 + 1 + 1, none⟩ = some (.int .i64 t.m)) (by kernel_rfl) (KS.out _ hG0) (fun hHeld => ?_)
             refine xso 0 ?_ rfl ?_ (xso 1 ?_ rfl ?_ ?_)
             iterate 2 (rotate_left; focus ((try simp only [xap]); intro w hSw; (try dsimp only at hSw); go_simp; first | done | with_reducible rfl))
             try simp only [xap]
             refine xtk 2 (v := undef) rfl (Or.inr ⟨by rfl, rfl⟩) ?_
             try simp only [xap]
             refine xtk 3 (v := undef) rfl (Or.inr ⟨by rfl, rfl⟩) ?_
             try simp only [xap]
             refine xtk 4 (v := undef) rfl (Or.inr ⟨by rfl, rfl⟩) ?_
             try simp only [xap]
             refine xtk 5 (v := undef) rfl (Or.inr ⟨by rfl, rfl⟩) ?_
             try simp only [xap]
             refine xtk 6 (v := undef) rfl (Or.inr ⟨by rfl, rfl⟩) ?_
             try simp only [xap]
             refine xtk 7 (v := undef) rfl (Or.inr ⟨by rfl, rfl⟩) ?_
             try simp only [xap]
             refine xtk 8 (v := undef) rfl (Or.inr ⟨by rfl, rfl⟩) ?_
             try simp only [xap]
             refine xtk 9 (v := undef) rfl (Or.inr ⟨by rfl, rfl⟩) ?_
             try simp only [xap]
             refine xtk 10 (v := undef) rfl (Or.inr ⟨by rfl, rfl⟩) ?_
             try simp only [xap]
             refine xtk 11 (v := undef) rfl (Or.inr ⟨by rfl, rfl⟩) ?_
             try simp only [xap]
             refine xso 12 ?_ rfl ?_ (xso 13 ?_ rfl ?_ ?_)
             iterate 2 (rotate_left; focus ((try simp only [xap]); intro w hSw; (try dsimp only at hSw); go_simp; first | done | with_reducible rfl))
             try simp only [xap]
             refine xso 14 ?_ rfl ?_ ?_
             rotate_left
             · intro w hSw; (try dsimp only at hSw); go_simp; first | done | with_reducible rfl
             try simp only [xap]
             refine xso 15 ?_ rfl ?_ ?_
             rotate_left
             · intro w hSw; (try dsimp only at hSw); go_simp; first | done | with_reducible rfl
             try simp only [xap]
             refine xso 16 ?_ rfl ?_ ?_
             rotate_left
             · intro w hSw; (try dsimp only at hSw); go_simp; first | done | with_reducible rfl
             try simp only [xap]
             refine xso 17 ?_ rfl ?_ ?_
             rotate_left
             · intro w hSw; (try dsimp only at hSw); go_simp; first | done | with_reducible rfl
             try simp only [xap]
             refine xso 18 ?_ rfl ?_ ?_
             rotate_left
             · intro w hSw; (try dsimp only at hSw); go_simp; first | done | with_reducible rfl
             try simp only [xap]
             refine xso 19 ?_ rfl ?_ ?_
             rotate_left
             · intro w hSw; (try dsimp only at hSw); go_simp; first | done | with_reducible rfl
             try simp only [xap]
             refine xtk 20 (v := .bool false) rfl (Or.inl ⟨by rfl, ?_⟩) ?_
             · intro w hSw; (try dsimp only at hSw); first | (go_simp; done) | (go_simp; simp_all; done) | (go_simp; omega)
             try simp only [xap]
             refine xso 21 ?_ rfl ?_ ?_
             rotate_left
             · intro w hSw; (try dsimp only at hSw); go_simp; first | done | with_reducible rfl
             try simp only [xap]
             refine xtk 22 (v := undef) rfl (Or.inr ⟨by rfl, rfl⟩) ?_
             try simp only [xap]
             refine xtk 23 (v := undef) rfl (Or.inr ⟨by rfl, rfl⟩) ?_
             try simp only [xap]
             refine xtk 24 (v := undef) rfl (Or.inr ⟨by rfl, rfl⟩) ?_
             try simp only [xap]
             refine xtk 25 (v := undef) rfl (Or.inr ⟨by rfl, rfl⟩) ?_
             try simp only [xap]
             refine xtk 26 (v := undef) rfl (Or.inr ⟨by rfl, rfl⟩) ?_
             try simp only [xap]
             refine xtk 27 (v := undef) rfl (Or.inr ⟨by rfl, rfl⟩) ?_
             try simp only [xap]
             refine xtk 28 (v := undef) rfl (Or.inr ⟨by rfl, rfl⟩) ?_
             try simp only [xap]
             refine xtk 29 (v := undef) rfl (Or.inr ⟨by rfl, rfl⟩) ?_
             try simp only [xap]
             refine xso 30 ?_ rfl ?_ (xso 31 ?_ rfl ?_ ?_)
             iterate 2 (rotate_left; focus ((try simp only [xap]); intro w hSw; (try dsimp only at hSw); go_simp; first | done | with_reducible rfl))
             try simp only [xap]
             refine xdn ?_ _
             clear KS hHeld
             go_wp2_with fail
             replace hG := Hid.mk (hG.out.trans hG0)
             go_roundw
             case rel => exact ⟨k2 + 1, by simp, by omega, ⟨hsf.out, hG.out⟩⟩
             case measure => simp [intOf]; omega
       · have kl : ¬ (k2 : Int) < c.code.length := by omega
         rw [drop_end hkl] at hsf
         have hz : codeF c.code.length g c.code = 0 := by rw [← hsf]; rfl
         replace hz := Hid.mk hz
         replace hG := Hid.mk hG
         clear hsf
         go_wp2_with fail
         go_ret
         exact ⟨retI (by rw [hq.out, hz.out]), hGR.out.trans hG.out⟩
end Go.Proofs.YtdlcphinjnnhcaaGreatDoor
