/-
  Stage 3, instr: the walk of the statement that what may be by its shape is right, and comes back as it was.
-/
import Derived.Test.YtehjikjpgdnjdaaDoorIMade
import Derived.Test.YtehjikjpgdnjdaaDoorISame
import Derived.Test.YtehjikjpgdnjdaaDoorIOpenR
namespace Go.Proofs.YtehjikjpgdnjdaaDoor
open Go.RowKit

set_option maxRecDepth 100000 in
set_option maxHeartbeats 2000000 in
theorem walk_InstrBack (R : List Ins) (cap : Nat) (a : Option Addr) (w : World) (ht : TabIn w) (hR : RIn w.heap.size w a R) (hlen : R.length ≤ maxI) :
    Calls Tryd.prog 8 #[.slice a R.length cap] w fun x w' => x = .returned (.bool true) ∧ Below w.heap.size w w' := by
  have ss := str_size
  have hm := made_any R cap a w ht hR hlen
  have hA := made_allR R
  have hO := made_ops R
  have hl : (R.map madeR).length = R.length := List.length_map madeR
  have hl1 : (R.length : Int) ≤ 3518437208883 := by unfold maxI at hlen; omega
  rw [← hl] at hlen hl1
  clear hl hR
  generalize R.map madeR = L at *
  go_enter Tryd.func8, Tryd.ntmps8
  go_wp2_with fail
  refine hm.mono ?_
  rintro x w1 ⟨v, rfl, hLo, hB1⟩
  clear hm
  obtain ⟨a1, c1, rfl, hLi⟩ := hLo.form
  clear hLo
  have tab1 := Hid.mk (ht.below hB1 ht.size)
  replace hB1 := Hid.mk hB1
  replace hLi := Hid.mk hLi
  replace hA := Hid.mk hA
  replace hO := Hid.mk hO
  go_wp2_with fail
  go_loopw [5] (fun n wr => ∃ j : Nat, n = .int .i64 j ∧ j ≤ L.length ∧ Hid (Below w1.heap.size w1 wr)) (fun n _ => L.length - (intOf n).toNat)
  case atStart => exact ⟨0, rfl, by omega, ⟨Below.refl _ _⟩⟩
  case round =>
    obtain ⟨j, rfl, hj, ⟨hW⟩⟩ := hrel
    have tabr := tab1.out.below hW tab1.out.size
    by_cases hlt : j < L.length
    · have jl : (j : Int) < L.length := by omega
      obtain ⟨b, off, rfl, hb, hb2, c0, c1', c2, c3, c4⟩ := hLi.out.below hW j hlt
      have hop := hO.out L[j] (List.getElem_mem hlt)
      have hri := hA.out L[j] (List.getElem_mem hlt)
      generalize L[j] = k at *
      have e := Right_any k.op k.a k.b k.c k.m wr tabr hop.1 hop.2
      have e2 : rightF k.op k.a k.b k.c k.m = 0 := hri
      rw [e2] at e
      clear e2 hri
      replace hW := Hid.mk hW
      go_wp2_with fail
      refine e.mono ?_
      rintro x w2 ⟨rfl, hG⟩
      have hW2 := Hid.mk (hW.out.trans (hG.below.mono hW.out.size))
      clear e hG
      go_wp2_with fail
      go_roundw
      case rel => exact ⟨j + 1, by simp, by omega, ⟨hW2.out⟩⟩
      case measure => simp [intOf]; omega
    · have jl : ¬ (j : Int) < L.length := by omega
      have hEn := Encode_any L c1 a1 wr tabr ((hLi.out.below hW).mono hW.size) hO.out hlen
      rw [enc_all L hA.out 0 []] at hEn
      simp only [List.nil_append] at hEn
      have belr := Hid.mk (hB1.out.trans (hW.mono hB1.out.size))
      replace tabr := Hid.mk tabr
      have hLr := Hid.mk ((hLi.out.below hW).mono hW.size)
      clear hW
      have hcl : ((code L).length : Int) = 8 * L.length := by rw [code_length]; omega
      have hdec := dec_all L hA.out hO.out
      have hcs : (code L).length ≤ 8 * maxI := by rw [code_length]; omega
      go_wp2_with fail
      refine hEn.mono ?_
      rintro x w2 ⟨rfl, hB2⟩
      have bel2 := Hid.mk (belr.out.trans (hB2.mono belr.out.size))
      have tab2 := Hid.mk (tabr.out.below hB2 tabr.out.size)
      have hL2 := Hid.mk ((hLr.out.below hB2).mono hB2.size)
      have hD := Decode_any (code L) w2 tab2.out hcs
      rw [hdec] at hD
      clear hEn hB2 belr tabr hLr hcs hdec
      generalize code L = T at *
      go_wp2_with fail
      refine hD.mono ?_
      rintro x w3 ⟨v3, rfl, hLo3, hB3⟩
      obtain ⟨a3, c3, rfl, hL3⟩ := hLo3.form
      have bel3 := Hid.mk (bel2.out.trans (hB3.mono bel2.out.size))
      have hSm := sameList_any L L c1 c3 a1 a3 w3 ((hL2.out.below hB3).mono hB3.size) hL3 (by unfold maxI at hlen; unfold maxLen; omega)
      rw [sameB_eq rfl] at hSm
      clear hD hLo3 hB3 bel2 tab2 hL2 hL3
      go_wp2_with fail
      refine hSm.mono ?_
      rintro x w4 ⟨rfl, hG4⟩
      have bel4 := Hid.mk (bel3.out.trans (hG4.below.mono bel3.out.size))
      clear hSm hG4 bel3
      go_wp2_with fail
      go_ret
      exact ⟨by simp, bel4.out⟩
end Go.Proofs.YtehjikjpgdnjdaaDoor
