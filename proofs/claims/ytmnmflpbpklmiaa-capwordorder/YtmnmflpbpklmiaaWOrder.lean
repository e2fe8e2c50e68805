/-
  Stage 1, capword: the walk of the statement on Order.
-/
import Derived.Test.YtmnmflpbpklmiaaExB
import Derived.Test.YtmnmflpbpklmiaaPlainB
import Derived.Test.YtmnmflpbpklmiaaOpen
namespace Go.Proofs.Ytmnmflpbpklmiaa
open Go.RowKit

set_option maxHeartbeats 1000000 in
theorem walk_CapwordOrder (b e c p s b' e' c' p' s' b2 e2 c2 p2 s2 : Int) (hr : InR b e c p s) (hr' : InR b' e' c' p' s') (hr2 : InR b2 e2 c2 p2 s2) (w : World) :
    Calls Try.prog 3 #[.agg #[.int .u64 b, .int .u64 e, .int .u64 c, .int .u8 p, .int .i64 s], .agg #[.int .u64 b', .int .u64 e', .int .u64 c', .int .u8 p', .int .i64 s'], .agg #[.int .u64 b2, .int .u64 e2, .int .u64 c2, .int .u8 p2, .int .i64 s2]] w fun x w' => x = .returned (.bool true) ∧ Below w.heap.size w w' := by
  obtain ⟨_, _, _, hp, _⟩ := hr
  obtain ⟨_, _, _, hp', _⟩ := hr'
  obtain ⟨_, _, _, hp2, _⟩ := hr2
  have haa := underB_refl b e p s hp.1 hp.2
  have HT : Hid (underB b e p s b' e' p' s' = true → underB b' e' p' s' b2 e2 p2 s2 = true → underB b e p s b2 e2 p2 s2 = true) := underB_trans hp hp' hp2
  have HE : Hid (underB b e p s b' e' p' s' = true → underB b' e' p' s' b e p s = true → b = b' ∧ e = e' ∧ p = p' ∧ s = s') := underB_antisymm hp hp'
  go_enter Try.func3, Try.ntmps3
  go_wp2_with fail
  refine (examples_any _).mono ?_
  rintro x w1 ⟨rfl, hb⟩
  obtain ⟨k0, f0⟩ := bat hb w.heap.size (by simp <;> omega)
  obtain ⟨k1, f1⟩ := bat hb (w.heap.size + 1) (by simp <;> omega)
  obtain ⟨k2, f2⟩ := bat hb (w.heap.size + 1 + 1) (by simp <;> omega)
  go_wp2_with fail
  refine (under_any _ _ _ _ _ _ _ _ _ _ _).mono ?_
  rintro x w2 ⟨rfl, hw⟩
  replace hb := bstep hb (hw ▸ below_two _ _ _ : Below w1.heap.size w1 w2)
  clear hw k0 k1 k2 f0 f1 f2
  obtain ⟨k0, f0⟩ := bat hb w.heap.size (by simp <;> omega)
  obtain ⟨k1, f1⟩ := bat hb (w.heap.size + 1) (by simp <;> omega)
  obtain ⟨k2, f2⟩ := bat hb (w.heap.size + 1 + 1) (by simp <;> omega)
  go_wp2_with fail
  refine (under_any _ _ _ _ _ _ _ _ _ _ _).mono ?_
  rintro x w3 ⟨rfl, hw⟩
  replace hb := bstep hb (hw ▸ below_two _ _ _ : Below w2.heap.size w2 w3)
  clear hw k0 k1 k2 f0 f1 f2
  obtain ⟨k0, f0⟩ := bat hb w.heap.size (by simp <;> omega)
  obtain ⟨k1, f1⟩ := bat hb (w.heap.size + 1) (by simp <;> omega)
  obtain ⟨k2, f2⟩ := bat hb (w.heap.size + 1 + 1) (by simp <;> omega)
  go_wp2_with fail
  refine (under_any _ _ _ _ _ _ _ _ _ _ _).mono ?_
  rintro x w4 ⟨rfl, hw⟩
  replace hb := bstep hb (hw ▸ below_two _ _ _ : Below w3.heap.size w3 w4)
  clear hw k0 k1 k2 f0 f1 f2
  obtain ⟨k0, f0⟩ := bat hb w.heap.size (by simp <;> omega)
  obtain ⟨k1, f1⟩ := bat hb (w.heap.size + 1) (by simp <;> omega)
  obtain ⟨k2, f2⟩ := bat hb (w.heap.size + 1 + 1) (by simp <;> omega)
  go_wp2_with fail
  refine (under_any _ _ _ _ _ _ _ _ _ _ _).mono ?_
  rintro x w5 ⟨rfl, hw⟩
  replace hb := bstep hb (hw ▸ below_two _ _ _ : Below w4.heap.size w4 w5)
  clear hw k0 k1 k2 f0 f1 f2
  obtain ⟨k0, f0⟩ := bat hb w.heap.size (by simp <;> omega)
  obtain ⟨k1, f1⟩ := bat hb (w.heap.size + 1) (by simp <;> omega)
  obtain ⟨k2, f2⟩ := bat hb (w.heap.size + 1 + 1) (by simp <;> omega)
  go_wp2_with fail
  refine (under_any _ _ _ _ _ _ _ _ _ _ _).mono ?_
  rintro x w6 ⟨rfl, hw⟩
  replace hb := bstep hb (hw ▸ below_two _ _ _ : Below w5.heap.size w5 w6)
  clear hw k0 k1 k2 f0 f1 f2
  obtain ⟨k0, f0⟩ := bat hb w.heap.size (by simp <;> omega)
  obtain ⟨k1, f1⟩ := bat hb (w.heap.size + 1) (by simp <;> omega)
  obtain ⟨k2, f2⟩ := bat hb (w.heap.size + 1 + 1) (by simp <;> omega)
  have z1 : w.heap.size + 1 < w6.heap.size := by have := hb.size; simp at this; omega
  have hB : Below w.heap.size w w6 := (below_three w _ _ _).trans (hb.mono (by simp <;> omega))
  clear hb
  by_cases hab : underB b e p s b' e' p' s' = true
  · by_cases hba : underB b' e' p' s' b e p s = true
    · obtain ⟨rfl, rfl, rfl, rfl⟩ := HE.out hab hba
      by_cases hbc : underB b e p s b2 e2 p2 s2 = true
      · go_wp2
        go_ret
        exact ⟨rfl, hB.setCell (by simp) _⟩
      · have hbc' : underB b e p s b2 e2 p2 s2 = false := by simpa using hbc
        go_wp2
        go_ret
        exact ⟨rfl, hB.setCell (by simp) _⟩
    · have hba' : underB b' e' p' s' b e p s = false := by simpa using hba
      by_cases hbc : underB b' e' p' s' b2 e2 p2 s2 = true
      · have hac := HT.out hab hbc
        go_wp2
        go_ret
        exact ⟨rfl, hB⟩
      · have hbc' : underB b' e' p' s' b2 e2 p2 s2 = false := by simpa using hbc
        go_wp2
        go_ret
        exact ⟨rfl, hB⟩
  · have hab' : underB b e p s b' e' p' s' = false := by simpa using hab
    go_wp2
    go_ret
    exact ⟨rfl, hB⟩
end Go.Proofs.Ytmnmflpbpklmiaa
