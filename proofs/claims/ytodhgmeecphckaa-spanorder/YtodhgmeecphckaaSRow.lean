/-
  Stage 2, span: the table of the operations' functions.
-/
import Derived.Test.YtodhgmeecphckaaChecked
import Derived.Test.YtodhgmeecphckaaSGrow
import Derived.WalkKit
import Derived.WalkSpells
import Derived.WalkLawsBesides
import Derived.Laws.Shifts
import Derived.Laws.EntriesVeiled
import Derived.Deep.DeepCutAuto
import Derived.Deep.WholeRow
namespace Go.Proofs.Ytodhgmeecphckaa
open Go.RowKit
def fn (n : Nat) : Value := .func (.func n) #[] #[]
/-- The table's cells: three functions a row. -/
def tab : Array Value := ((List.range 25).map fun k => match k with
  | 3 => [fn 36, fn 37, .nilFunc] | 4 => [fn 38, fn 39, .nilFunc] | 5 => [fn 40, fn 41, .nilFunc] | 6 => [fn 42, fn 43, .nilFunc] | 7 => [fn 44, fn 45, .nilFunc]
  | 8 => [fn 46, fn 47, .nilFunc] | 9 => [fn 48, fn 49, .nilFunc] | 10 => [fn 50, fn 51, .nilFunc] | 12 => [fn 52, fn 54, .nilFunc] | 13 => [fn 55, fn 56, .nilFunc]
  | 21 => [.nilFunc, .nilFunc, fn 57] | 22 => [.nilFunc, .nilFunc, fn 58] | 23 => [.nilFunc, .nilFunc, fn 59] | 24 => [.nilFunc, .nilFunc, fn 60]
  | _ => [.nilFunc, .nilFunc, .nilFunc]).flatten.toArray
theorem tab_size : tab.size = 75 := by kernel_rfl
theorem store_tab (w : World) (l : List Value) (hl : l.toArray = tab) :
    (storeCells ⟨w.heap.size, 0, none⟩ l 0).run Try.prog (w.alloc (.cells Try.zeroCells67 67)) = .ok () (w.alloc (.cells tab 67)) := by
  have := Go.run_storeCells_new (P := Try.prog) w 67 Try.zeroCells67 l.toArray (by rw [hl]; kernel_rfl) (by rw [hl]; kernel_rfl) (by rw [hl]; kernel_rfl)
  rw [hl] at this
  rw [← this, ← hl]
def rowV (op : Int) (i : Nat) : Value := tab.getD (op.toNat * 3 + i) .nilFunc
theorem tab_one : ∀ v ∈ tab.toList, v.oneCell' = true := by
  have : tab.toList.all (·.oneCell') = true := by kernel_rfl
  exact fun v hv => List.all_eq_true.mp this v hv
theorem row_one (op : Int) (i : Nat) : (rowV op i).oneCell' = true := by
  unfold rowV
  rw [Array.getD_eq_getD_getElem?]
  cases h : tab[op.toNat * 3 + i]? with
  | none => rfl
  | some v => exact tab_one v (by simpa using Array.mem_of_getElem? h)
theorem row_cell (op : Int) (i : Nat) (h1 : op < 25) (hi : i < 3) : tab[op.toNat * 3 + i]? = some (rowV op i) := by
  have : op.toNat * 3 + i < tab.size := by rw [tab_size]; omega
  simp [rowV, this]
theorem row_past (op : Int) (i : Nat) (h1 : 25 ≤ op) : rowV op i = .nilFunc := by
  have : tab.size ≤ op.toNat * 3 + i := by rw [tab_size]; omega
  simp [rowV, this]
set_option maxHeartbeats 4000000 in
theorem rowOf_any (op : Int) (w : World) (h0 : 0 ≤ op) (h3 : op < 256) :
    Calls Try.prog 28 #[.int .u8 op] w fun x w' => x = .returned (.agg #[rowV op 0, rowV op 1, rowV op 2]) ∧ Gr w w' := by
  go_enter Try.func28, Try.ntmps28
  go_upto_region 2 with fail
  rw [← World.size_alloc w (Obj.cells #[Value.nilFunc, Value.nilFunc, Value.nilFunc] 60)]
  rw [store_tab _ _ (by kernel_rfl)]
  simp only [Result.andThen]
  rw [Oper.upon_skip]
  generalize Value.agg (Array.setIfInBounds _ 74 _) = big
  rename_i K1 a1 K2 a2
  apply a2
  clear a2
  by_cases h1 : op < 25
  · have c0 : ((w.alloc (Obj.cells #[Value.nilFunc, Value.nilFunc, Value.nilFunc] 60)).alloc (Obj.cells tab 67)).cell? ⟨w.heap.size + 1, op.toNat * 3, none⟩ = some (rowV op 0) := by
      rw [← World.size_alloc w (Obj.cells #[Value.nilFunc, Value.nilFunc, Value.nilFunc] 60), World.cell?_alloc_new]; exact row_cell op 0 h1 (by omega)
    have c1 : ((w.alloc (Obj.cells #[Value.nilFunc, Value.nilFunc, Value.nilFunc] 60)).alloc (Obj.cells tab 67)).cell? ⟨w.heap.size + 1, op.toNat * 3 + 1, none⟩ = some (rowV op 1) := by
      rw [← World.size_alloc w (Obj.cells #[Value.nilFunc, Value.nilFunc, Value.nilFunc] 60), World.cell?_alloc_new]; exact row_cell op 1 h1 (by omega)
    have c2 : ((w.alloc (Obj.cells #[Value.nilFunc, Value.nilFunc, Value.nilFunc] 60)).alloc (Obj.cells tab 67)).cell? ⟨w.heap.size + 1, op.toNat * 3 + 2, none⟩ = some (rowV op 2) := by
      rw [← World.size_alloc w (Obj.cells #[Value.nilFunc, Value.nilFunc, Value.nilFunc] 60), World.cell?_alloc_new]; exact row_cell op 2 h1 (by omega)
    have s0 := fun a m w => run_store Try.prog w a (rowV op 0) m (row_one op 0)
    have s1 := fun a m w => run_store Try.prog w a (rowV op 1) m (row_one op 1)
    have s2 := fun a m w => run_store Try.prog w a (rowV op 2) m (row_one op 2)
    go_wp2_with fail
    simp [bodyPost, results, Try.results28, go_sem]
    exact ((Gr.refl _).alloc _).alloc _
  · have h2 : 25 ≤ op := by omega
    go_wp2_with fail
    simp [bodyPost, results, Try.results28, go_sem, row_past op _ h2]
    exact ((Gr.refl _).alloc _).alloc _
end Go.Proofs.Ytodhgmeecphckaa
