/-
  Stage 3, instr: Find.
-/
import Derived.Test.YtehjikjpgdnjdaaDoorIDoc
import Derived.Deep.WholeRow
namespace Go.Proofs.YtehjikjpgdnjdaaDoor
open Go.RowKit

def nameCells : Array Value := (nameL.map fun b => Value.string (str b)).toArray
theorem nameCells_size : nameCells.size = 76 := by kernel_rfl
theorem nameCells_at (i : Nat) (hi : i < 76) : nameCells[i]? = some (.string (str (nameL.getD i []))) := by
  have hl : i < nameL.length := by rw [nameL_len]; exact hi
  simp [nameCells, hl]
theorem load_names (w : World) (ht : TabIn w) : (loadCellsFrom ⟨0, 0, none⟩ 0 76 #[]).run Tryd.prog w = .ok nameCells w := by
  have := run_loadCells_list (P := Tryd.prog) w ⟨0, 0, none⟩ nameCells.toList (fun j v hv => by
    have hadd : (⟨0, 0, none⟩ : Addr).add j = ⟨0, j, none⟩ := by unfold Addr.add; split <;> simp_all
    have hj : j < 76 := by
      have := (List.getElem?_eq_some_iff.1 hv).1
      simpa [nameCells_size] using this
    rw [hadd, ht.name j hj, ← nameCells_at j hj]
    simpa using hv)
  simpa [loadCells, nameCells_size] using this
theorem index_name (w : World) (k : Nat) (hk : k < 76) : (Instr.index 53 (.agg nameCells) (.int .i64 k)).run Tryd.prog w = .ok (.string (str (nameL.getD k []))) w := by
  have c := nameCells_at k hk
  have a1 : (Tryd.prog.info? 9).map (·.size) = some 1 := by kernel_rfl
  obtain ⟨i, hi, hs⟩ := Option.map_eq_some_iff.1 a1
  simp [Instr.index, asIntOf, run_underlying Tryd.underlying53, run_underlying Tryd.underlying9, part, isAgg, sizeOf, typeInfo, go_sem, hi, hs, c]
  intro h
  omega
/-- The operation of a name, among the program's names from a place on. -/
def nameAt (nm : List UInt8) : List (List UInt8) → Nat → Int
  | [], _ => 0
  | r :: l, k => if r = nm then k else nameAt nm l (k + 1)
def opOf (nm : List UInt8) : Int := nameAt nm nameL 0
theorem nameAt_none (nm : List UInt8) : ∀ (l : List (List UInt8)) (k : Nat), nm ∉ l → nameAt nm l k = 0
  | [], _, _ => rfl
  | r :: l, k, h => by
    rw [nameAt, if_neg (fun e => h (by simp [e])), nameAt_none nm l (k + 1) (fun e => h (by simp [e]))]
theorem opAt_none (nm : List UInt8) : ∀ (l : List (Int × List UInt8 × List UInt8)), (∀ r ∈ l, r.2.1 ≠ nm) → opAt nm l = 0
  | [], _ => rfl
  | r :: l, h => by
    rw [opAt, if_neg (h r (by simp)), opAt_none nm l (fun q hq => h q (by simp [hq]))]
theorem op_doc (nm : List UInt8) : docOp nm = opOf nm := by
  by_cases h : nm ∈ nameL
  · have : nameL.all (fun x => docOp x == opOf x) = true := by kernel_rfl
    simpa using List.all_eq_true.1 this nm h
  · have : docL.all (fun r => decide (r.2.1 ∈ nameL)) = true := by kernel_rfl
    rw [opOf, nameAt_none nm _ _ h, docOp, opAt_none]
    intro r hr e
    exact h (e ▸ (by simpa using List.all_eq_true.1 this r hr))
theorem op_name (n : Int) (h0 : 0 ≤ n) (h1 : n < 256) (h : nameOf n ≠ []) : opOf (nameOf n) = n := by
  have := all_bytes (fun k => decide (nameOf k = []) || (opOf (nameOf k) == k)) (by kernel_rfl) n h1
  simpa [Int.toNat_of_nonneg h0, h] using this
set_option maxHeartbeats 400000 in
theorem Find_any (nm : List UInt8) (w : World) (ht : TabIn w) :
    Calls Tryd.prog 13 #[.string (str nm)] w fun x w' => x = .returned (.int .u8 (opOf nm)) ∧ w = w' := by
  have sl := str_list
  have hl := load_names w ht
  go_enter Tryd.func13, Tryd.ntmps13
  go_upto_region 1 with fail
  refine wp_region_lit ?_
  refine Great.wpList_loadVarTo rfl (some 5) rfl 53 0 rfl (.agg nameCells) (fun ρ hρ => ?_) ?_
  · have a1 : (Tryd.prog.info? 53).map (·.size) = some 76 := by kernel_rfl
    obtain ⟨i, hi, hs⟩ := Option.map_eq_some_iff.1 a1
    simp [execOp, hρ, Instr.loadAt, Instr.sureAddr, loadVar, isAgg, run_underlying Tryd.underlying53, sizeOf, typeInfo, loadCells, go_sem]
    rw [hi]
    simp only [Sem.run_pure, Result.andThen_ok, hs, hl]
  clear hl
  refine Great.wpList_readTo rfl (some 6) rfl (.int .i64 0) (by kernel_rfl) ?_
  refine wpList_nil ?_
  rename_i K hK
  refine hK _ _ ?_
  clear hK
  show Code.wp Tryd.prog _ _ ⟨#[.string (str nm), undef, .int .u8 0, undef, undef, .agg nameCells, .int .i64 0, undef, undef, undef, undef, undef, undef, undef, undef, undef], []⟩ w
  go_wp2_with fail
  go_loop [6] (fun i => ∃ k : Nat, i = .int .i64 k ∧ k ≤ 76 ∧ Hid (nameAt nm (nameL.drop k) k = opOf nm)) (fun i => 76 - (intOf i).toNat)
  case atStart => exact ⟨0, rfl, by omega, ⟨rfl⟩⟩
  case round =>
    obtain ⟨k, rfl, hk, hf⟩ := hrel
    by_cases hlt : k < 76
    · have kl : (k : Int) < 76 := by omega
      have c := index_name w k hlt
      have st : nameAt nm (nameL.drop k) k = if nameL.getD k [] = nm then (k : Int) else nameAt nm (nameL.drop (k + 1)) (k + 1) := by
        have hl : k < nameL.length := by rw [nameL_len]; exact hlt
        rw [List.drop_eq_getElem_cons hl, nameAt]
        simp [hl]
      rw [st] at hf
      clear st
      by_cases he : nameL.getD k [] = nm
      · have g : (nameL.getD k [] == nm) = true := by simpa using he
        rw [if_pos he] at hf
        replace he := Hid.mk he
        generalize nameL.getD k [] = z at *
        go_wp2_with fail
        go_ret
        exact ⟨ret_int hf.out, rfl⟩
      · have g : (nameL.getD k [] == nm) = false := by simpa using he
        rw [if_neg he] at hf
        replace he := Hid.mk he
        generalize nameL.getD k [] = z at *
        go_wp2_with fail
        go_round
        case rel => exact ⟨k + 1, by simp, by omega, hf⟩
        case measure => simp [intOf]; omega
    · have kl : ¬ (k : Int) < 76 := by omega
      have : nameL.drop k = [] := by rw [List.drop_eq_nil_iff, nameL_len]; omega
      rw [this] at hf
      clear this
      go_wp2_with fail
      go_ret
      exact ⟨ret_int hf.out, rfl⟩
end Go.Proofs.YtehjikjpgdnjdaaDoor
