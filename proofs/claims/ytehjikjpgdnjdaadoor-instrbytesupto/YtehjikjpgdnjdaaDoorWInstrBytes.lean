/-
  Stage 3, instr: the walk of the statement that what bytes say is written so again.
-/
import Derived.Test.YtehjikjpgdnjdaaDoorIMadeOne
import Derived.Test.YtehjikjpgdnjdaaDoorIOpenL
namespace Go.Proofs.YtehjikjpgdnjdaaDoor
open Go.RowKit

set_option maxRecDepth 100000 in
set_option maxHeartbeats 2000000 in
theorem walk_InstrBytes (S : List UInt8) (w : World) (ht : TabIn w) (_ : S.length ≤ maxLen) (hs : S.length ≤ 1048576) :
    Calls Tryd.prog 6 #[.string (str S)] w fun x w' => x = .returned (.bool true) ∧ Below w.heap.size w w' := by
  have sl := str_list
  have ss := str_size
  have hs1 : (S.length : Int) ≤ 1048576 := by omega
  have hD := Decode_any S w ht (by unfold maxI; omega)
  go_enter Tryd.func6, Tryd.ntmps6
  go_wp2_with fail
  refine hD.mono ?_
  rintro x w1 ⟨v, rfl, hLo, hB1⟩
  clear hD
  obtain ⟨a1, c1, rfl, hLi⟩ := hLo.form
  have hm := made_one ⟨7, 0, 0, 0, 0⟩ w1 (ht.below hB1 ht.size) (by unfold InRaw R64; decide)
  clear hLo
  replace hLi := Hid.mk hLi
  replace hB1 := Hid.mk hB1
  go_wp2_with fail
  refine hm.mono ?_
  rintro x w2 ⟨a2, c2, rfl, -, hB2⟩
  clear hm
  have hLi2 := Hid.mk ((hLi.out.below hB2).mono hB2.size)
  have tab2 := Hid.mk ((ht.below hB1.out ht.size).below hB2 (Nat.le_trans ht.size hB1.out.size))
  have bel2 := Hid.mk (hB1.out.trans (hB2.mono hB1.out.size))
  clear hLi hB1 hB2
  by_cases hd : (decA S).2.1 = 0
  · obtain ⟨M, hM, hA, hO, hc⟩ := decA_ok hd
    rw [hM] at hLi2 ⊢
    have henc := enc_all M hA 0 []
    rw [hc] at henc
    have hml : 8 * M.length = S.length := by rw [← hc, code_length]
    have hEn := Encode_any M c1 a1 w2 tab2.out hLi2.out hO (by unfold maxI; omega)
    rw [henc] at hEn
    simp only [List.nil_append] at hEn
    have hml2 : ((M.length : Int) * 8) = S.length := by omega
    clear hM hA hO hc hd henc hLi2 tab2 hml
    have e0 : ((S.length : Int) == S.length) = true := by simp
    go_wp2_with fail
    refine hEn.mono ?_
    rintro x w3 ⟨rfl, hB3⟩
    have bel3 := Hid.mk (bel2.out.trans (hB3.mono bel2.out.size))
    clear hEn hB3
    go_wp2_with fail
    go_ret
    exact ⟨rfl, bel3.out⟩
  · obtain ⟨he, m0, hat, hm0⟩ := decA_bad hd
    rw [hat, he]
    have d0 : ((decA S).2.1 != 0) = true := by simpa using hd
    generalize (decA S).2.1 = ee at *
    clear hd hat he hLi2
    have g5 : 0 ≤ ((8 * m0 : Nat) : Int) := Int.natCast_nonneg _
    have g7 : ((8 * m0 : Nat) : Int) < S.length := Int.ofNat_lt.mpr hm0
    have g6 : ((8 * m0 : Nat) : Int) % 8 = 0 := by omega
    clear hm0
    generalize ((8 * m0 : Nat) : Int) = at_ at *
    have g3 : at_.tmod 8 = 0 := (Int.tmod_eq_emod_of_nonneg g5).trans g6
    go_wp2_with fail
    go_ret
    exact ⟨by simp, bel2.out⟩
end Go.Proofs.YtehjikjpgdnjdaaDoor
