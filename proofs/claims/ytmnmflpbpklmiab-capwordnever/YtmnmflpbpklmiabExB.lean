/-
  Stage 1, capword: the chapter's examples, which each statement asks first.
-/
import Derived.Test.YtmnmflpbpklmiabEx
namespace Go.Proofs.Ytmnmflpbpklmiab
open Go.RowKit

theorem acc_ex : accessF 64 128 96 3 0 0 33 1 = 5 := by decide +kernel
theorem und_ex : underB 96 128 3 0 64 128 3 0 = true := by decide +kernel
theorem rig_ex : rightB 64 128 3 0 = true := by decide +kernel

set_option maxHeartbeats 1000000 in
theorem examples_any (w : World) :
    Calls Try.prog 7 #[] w fun x w' => x = .returned (.bool true) ∧ Below w.heap.size w w' := by
  go_enter Try.func7, Try.ntmps7
  go_wp2_with fail
  refine (ex_set32 _).mono ?_
  rintro x w' ⟨rfl, rfl⟩
  go_wp2_with fail
  refine (ex_set33 _).mono ?_
  rintro x w' ⟨rfl, rfl⟩
  go_wp2_with fail
  refine (ex_seal _).mono ?_
  rintro x w' ⟨rfl, rfl⟩
  go_wp2_with fail
  refine (access_any _ _ _ _ _ _ _ _ _).mono ?_
  rintro x w1 ⟨rfl, hb⟩
  rw [acc_ex]
  obtain ⟨c1, f1⟩ := bat hb w.heap.size (by simp <;> omega)
  obtain ⟨c2, f2⟩ := bat hb (w.heap.size + 1 + 1 + 1 + 1 + 1 + 1) (by simp <;> omega)
  obtain ⟨c3, f3⟩ := bat hb (w.heap.size + 1 + 1 + 1 + 1 + 1 + 1 + 1 + 1 + 1 + 1 + 1 + 1 + 1 + 1 + 1 + 1 + 1 + 1) (by simp <;> omega)
  have hz : w.heap.size + 18 < w1.heap.size := by have := hb.size; simp at this; omega
  have hB : Below w.heap.size w w1 := by
    refine Below.trans ?_ (hb.mono (by simp <;> omega))
    repeat (refine Below.alloc ?_ (by simp <;> omega) _)
    exact Below.refl _ _
  clear hb
  go_wp2_with fail
  refine (under_any _ _ _ _ _ _ _ _ _ _ _).mono ?_
  rintro x w' ⟨rfl, rfl⟩
  rw [und_ex]
  have z0 : w.heap.size < w1.heap.size := by omega
  have z1 : w.heap.size + 1 + 1 + 1 + 1 + 1 + 1 < w1.heap.size := by omega
  have z2 : w.heap.size + 1 + 1 + 1 + 1 + 1 + 1 + 1 + 1 + 1 + 1 + 1 + 1 + 1 + 1 + 1 + 1 + 1 + 1 < w1.heap.size := by omega
  go_wp2_with fail
  refine (right_any _ _ _ _ _ _).mono ?_
  rintro x w3 ⟨rfl, hw⟩
  rw [rig_ex]
  have hb3 : Below w1.heap.size w1 w3 := by
    rw [← hw]
    repeat (refine Below.alloc ?_ (by simp <;> omega) _)
    exact Below.refl _ _
  have a0 : w3.cell? ⟨w.heap.size + 1 + 1 + 1 + 1 + 1 + 1, 0, none⟩ = some (.int .u64 96) := by rw [(bat hb3 _ z1).1, c2]; simp [go_sem]
  have a1 : w3.cell? ⟨w.heap.size + 1 + 1 + 1 + 1 + 1 + 1, 1, none⟩ = some (.int .u64 128) := by rw [(bat hb3 _ z1).1, c2]; simp [go_sem]
  have b4 : w3.cell? ⟨w.heap.size + 1 + 1 + 1 + 1 + 1 + 1 + 1 + 1 + 1 + 1 + 1 + 1 + 1 + 1 + 1 + 1 + 1 + 1, 4, none⟩ = some (.int .i64 5) := by rw [(bat hb3 _ z2).1, c3]; simp [go_sem]
  have hB3 : Below w.heap.size w w3 := hB.trans (hb3.mono hB.size)
  clear hw hb3 c1 c2 c3 f1 f2 f3
  go_wp2
  go_ret
  exact ⟨rfl, hB3⟩
end Go.Proofs.Ytmnmflpbpklmiab
