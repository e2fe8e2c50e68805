/-
  Stage 3, instr: two rows of instructions, compared.
-/
import Derived.Test.YtknefcpfmggonaaDoorIDec
namespace Go.Proofs.YtknefcpfmggonaaDoor
open Go.RowKit

set_option maxHeartbeats 1000000 in
theorem sameList_any (L M : List Ins) (cl cm : Nat) (al am : Option Addr) (w : World) (hL : LIn w.heap.size w al L) (hM : LIn w.heap.size w am M) (hl : L.length ≤ maxLen) :
    Calls Tryd.prog 6 #[.slice al L.length cl, .slice am M.length cm] w fun x w' => x = .returned (.bool (sameB L M)) ∧ Gr w w' := by
  have hl1 : (L.length : Int) ≤ 9223372036854775807 := by unfold maxLen at hl; omega
  replace hL := Hid.mk hL
  replace hM := Hid.mk hM
  by_cases hlen : L.length = M.length
  · have g : ((L.length : Int) != M.length) = false := by simp; omega
    go_enter Tryd.func6, Tryd.ntmps6
    go_wp2_with fail
    go_loopw [5] (fun i wr => ∃ j : Nat, i = .int .i64 j ∧ j ≤ L.length ∧ Hid (L.take j = M.take j ∧ Gr w wr)) (fun i _ => L.length - (intOf i).toNat)
    case atStart => exact ⟨0, rfl, by omega, ⟨rfl, Gr.refl w⟩⟩
    case round =>
      obtain ⟨j, rfl, hj, ⟨hf, hG⟩⟩ := hrel
      by_cases hlt : j < L.length
      · have jl : (j : Int) < L.length := by omega
        have jm : (j : Int) < M.length := by omega
        have hltm : j < M.length := by omega
        obtain ⟨b, off, rfl, hb, hb2, c0, c1, c2, c3, c4⟩ := hL.out.below hG.below j hlt
        obtain ⟨b', off', rfl, hb', hb2', d0, d1, d2, d3, d4⟩ := hM.out.below hG.below j hltm
        have hnx : L[j] = M[j] → L.take (j + 1) = M.take (j + 1) := fun h => by
          rw [List.take_succ_eq_append_getElem hlt, List.take_succ_eq_append_getElem hltm, hf, h]
        have hne : L[j] ≠ M[j] → L ≠ M := fun h e => h (by subst e; rfl)
        generalize L[j] = k at *
        generalize M[j] = m at *
        replace hf := Hid.mk hf
        replace hlen := Hid.mk hlen
        replace hG := Hid.mk hG
        by_cases hkm : k = m
        · subst hkm
          replace hnx := Hid.mk (hnx rfl)
          clear hne
          go_wp2_with fail
          go_quiet (fail)
          go_wp2_with fail
          go_roundw
          case rel => exact ⟨j + 1, by simp, by omega, ⟨hnx.out, hG.out.drewN _⟩⟩
          case measure => simp [intOf]; omega
        · replace hne := Hid.mk (hne hkm)
          clear hnx
          have hkm2 : ¬ (k.op = m.op ∧ k.a = m.a ∧ k.b = m.b ∧ k.c = m.c ∧ k.m = m.m) := fun h => hkm (by
            cases k; cases m; simp only [Ins.mk.injEq]; exact h)
          clear hkm
          by_cases q0 : k.op = m.op
          · skip
            by_cases q1 : k.a = m.a
            · skip
              by_cases q2 : k.b = m.b
              · skip
                by_cases q3 : k.c = m.c
                · skip
                  have q4 : ¬ k.m = m.m := fun h => hkm2 ⟨q0, q1, q2, q3, h⟩
                  clear hkm2
                  go_wp2_with fail
                  go_quiet (fail)
                  go_wp2_with fail
                  go_ret
                  exact ⟨ret_bool (sameB_ne hne.out).symm, hG.out.drewN _⟩
                · clear hkm2
                  go_wp2_with fail
                  go_quiet (fail)
                  go_wp2_with fail
                  go_ret
                  exact ⟨ret_bool (sameB_ne hne.out).symm, hG.out.drewN _⟩
              · clear hkm2
                go_wp2_with fail
                go_quiet (fail)
                go_wp2_with fail
                go_ret
                exact ⟨ret_bool (sameB_ne hne.out).symm, hG.out.drewN _⟩
            · clear hkm2
              go_wp2_with fail
              go_quiet (fail)
              go_wp2_with fail
              go_ret
              exact ⟨ret_bool (sameB_ne hne.out).symm, hG.out.drewN _⟩
          · clear hkm2
            go_wp2_with fail
            go_quiet (fail)
            go_wp2_with fail
            go_ret
            exact ⟨ret_bool (sameB_ne hne.out).symm, hG.out.drewN _⟩
      · have jl : ¬ (j : Int) < L.length := by omega
        have : j = L.length := by omega
        subst this
        have e : L = M := by
          rw [List.take_of_length_le (by omega), List.take_of_length_le (by omega)] at hf
          exact hf
        replace e := Hid.mk e
        replace hlen := Hid.mk hlen
        replace hf := Hid.mk hf
        replace hG := Hid.mk hG
        go_wp2_with fail
        go_ret
        exact ⟨ret_bool (sameB_eq e.out).symm, hG.out⟩
  · have g : ((L.length : Int) != M.length) = true := by simp; omega
    have e : L ≠ M := fun e => hlen (by rw [e])
    replace hlen := Hid.mk hlen
    replace e := Hid.mk e
    go_enter Tryd.func6, Tryd.ntmps6
    go_wp2_with fail
    go_ret
    exact ⟨ret_bool (sameB_ne e.out).symm, Gr.refl w⟩
end Go.Proofs.YtknefcpfmggonaaDoor
