/-
  Stage 3, instr: the walk of the statement on code there and back.
-/
import Derived.Test.YtehjikjpgdnjdabDoorICode
import Derived.Test.YtehjikjpgdnjdabDoorISameT
import Derived.Test.YtehjikjpgdnjdabDoorIOpenL
import Derived.Laws.Concat
namespace Go.Proofs.YtehjikjpgdnjdabDoor
open Go.RowKit

def oneI : Ins := ⟨1, 1, 0, 0, -1⟩
theorem one_code : encF [oneI] 0 [] = ([1, 1, 0, 0, 255, 255, 255, 255], 0, 0) := by kernel_rfl
theorem one_enc (w : World) (ht : TabIn w) : Calls Tryd.prog 8 #[.slice (some ⟨w.heap.size, 0, none⟩) 1 1] (w.alloc (.cells #[.int .u8 1, .int .i64 1, .int .i64 0, .int .i64 0, .int .i64 (-1)] 40)) fun x w' =>
    x = .returned (.tuple #[.string (str [1, 1, 0, 0, 255, 255, 255, 255]), .int .i64 0, .int .i64 0]) ∧ Below w.heap.size w w' := by
  have hA := At.new w #[.int .u8 1, .int .i64 1, .int .i64 0, .int .i64 0, .int .i64 (-1)] 40
  have hL : LIn (w.alloc (.cells #[.int .u8 1, .int .i64 1, .int .i64 0, .int .i64 0, .int .i64 (-1)] 40)).heap.size (w.alloc (.cells #[.int .u8 1, .int .i64 1, .int .i64 0, .int .i64 0, .int .i64 (-1)] 40)) (some ⟨w.heap.size, 0, none⟩) [oneI] := fun i hi => by
    obtain rfl : i = 0 := by simpa using hi
    exact ⟨w.heap.size, 0, rfl, hA.1, hA.1, hA.2.1 0, hA.2.1 1, hA.2.1 2, hA.2.1 3, hA.2.1 4⟩
  have h := Encode_any [oneI] 1 (some ⟨w.heap.size, 0, none⟩) _ (ht.gr ((Gr.refl w).alloc _)) hL (fun k hk => by rw [List.mem_singleton] at hk; rw [hk]; decide) (by decide)
  rw [one_code] at h
  refine h.mono ?_
  rintro x w' ⟨rfl, hB⟩
  exact ⟨rfl, (((Gr.refl w).alloc _).below).trans (hB.mono (by simp))⟩
set_option maxRecDepth 100000 in
set_option maxHeartbeats 4000000 in
theorem walk_TopCode (L : List Ins) (cap : Nat) (a : Option Addr) (S : List UInt8) (w : World) (ht : TabIn w) (hL : LIn w.heap.size w a L ∧ OpsIn L) (_ : S.length ≤ maxLen) (hl : L.length ≤ 174763) (hs : S.length ≤ 1048576) :
    Calls Tryd.prog 6 #[.slice a L.length cap, .string (str S)] w fun x w' => x = .returned (.bool true) ∧ Below w.heap.size w w' := by
  obtain ⟨hLi, hO⟩ := hL
  have sl := str_list
  have ss := str_size
  have hE := Encode_any L cap a w ht hLi hO (by unfold maxI; omega)
  have hl1 : (L.length : Int) ≤ 174763 := by omega
  have hs1 : (S.length : Int) ≤ 1048576 := by omega
  go_enter Tryd.func6, Tryd.ntmps6
  go_wp2_with fail
  refine hE.mono ?_
  rintro x w1 ⟨rfl, hB1⟩
  clear hE
  have tab1 := Hid.mk (ht.below hB1 ht.size)
  have bel1 := Hid.mk hB1
  by_cases he : (encF L 0 []).2.1 = 0
  · have hA := enc_ok L 0 [] he
    rw [enc_all L hA 0 []]
    simp only [List.nil_append]
    have hD := Decode_any (code L) w1 tab1.out (by rw [code_length]; unfold maxI; omega)
    rw [dec_all L hA hO] at hD
    have hAA : AllR (L ++ L) := fun k hk => by rcases List.mem_append.1 hk with h | h <;> exact hA k h
    have hOO : OpsIn (L ++ L) := fun k hk => by rcases List.mem_append.1 hk with h | h <;> exact hO k h
    have hD2 := fun W tab => Decode_any (code (L ++ L)) W tab (by rw [code_length, List.length_append]; unfold maxI; omega)
    rw [dec_all (L ++ L) hAA hOO, code_app] at hD2
    have hcl := code_length L
    have hadd : ∀ W : World, (Op.stringOp .add (str (code L)) (str (code L))).run Tryd.prog W = .ok (.string (str (code L ++ code L))) W := fun W => by
      have := run_string_add_sum (P := Tryd.prog) (w := W) (str (code L)) (str (code L)) (by rw [str_size, hcl]; omega)
      rw [this]
      congr 2
    have hcl2 : ((code L).length : Int) = 8 * L.length := by omega
    clear hAA hOO hcl he
    generalize code L = T at *
    replace hA := Hid.mk hA
    replace hO := Hid.mk hO
    replace hLi := Hid.mk hLi
    replace ht := Hid.mk ht
    clear hB1
    go_wp2_with fail
    refine hD.mono ?_
    rintro x w2 ⟨v, rfl, hLo, hB2⟩
    obtain ⟨am, cm, rfl, hLm⟩ := hLo.form
    have bel2 := Hid.mk (bel1.out.trans (hB2.mono bel1.out.size))
    have tab2 := Hid.mk (tab1.out.below hB2 tab1.out.size)
    have hSm := sameInsts_any L L cap cm a am w2 ((hLi.out.below bel2.out).mono bel2.out.size) hLm (by unfold maxLen; omega)
    rw [sameB_eq rfl] at hSm
    clear hD hLo hB2 hLm
    clear bel1 tab1
    go_wp2_with fail
    refine hSm.mono ?_
    rintro x w3 ⟨rfl, hG3⟩
    have bel3 := Hid.mk (bel2.out.trans (hG3.below.mono bel2.out.size))
    have tab3 := Hid.mk (tab2.out.gr hG3)
    clear hSm hG3 bel2 tab2
    have g0 : decide ((1000000 : Int) < L.length) = false := by simp; omega
    go_wp2_with fail
    refine (hD2 w3 tab3.out).mono ?_
    rintro x w4 ⟨v4, rfl, hLo4, hB4⟩
    obtain ⟨a4, c4, rfl, -⟩ := hLo4.form
    have bel4 := Hid.mk (bel3.out.trans (hB4.mono bel3.out.size))
    have tab4 := Hid.mk (tab3.out.below hB4 tab3.out.size)
    clear hD2 hLo4 hB4 bel3 tab3 hadd
    have hll : ((L ++ L).length : Int) = 2 * L.length := by rw [List.length_append]; omega
    go_wp2_with fail
    refine (Decode_any S w4 tab4.out (by unfold maxI; omega)).mono ?_
    rintro x wd ⟨v, rfl, hLo, hBd⟩
    have hsz : w.heap.size ≤ w4.heap.size := bel4.out.size
    have tabd := Hid.mk (tab4.out.below hBd tab4.out.size)
    have beld := Hid.mk (bel4.out.trans (hBd.mono hsz))
    by_cases hd : (decA S).2.1 = 0
    · obtain ⟨M, hM, hA, hO, hc⟩ := decA_ok hd
      rw [hM] at hLo ⊢
      obtain ⟨am, cm, rfl, hLi⟩ := hLo.form
      have henc := enc_all M hA 0 []
      rw [hc] at henc
      have hEn := Encode_any M cm am wd tabd.out hLi hO (by have := code_length M; rw [hc] at this; unfold maxI; omega)
      rw [henc] at hEn
      simp only [List.nil_append] at hEn
      have hml : (M.length : Int) ≤ 1048576 := by have := code_length M; rw [hc] at this; omega
      clear hM hA hO hc hd hLo hLi henc
      clear hBd
      go_wp2_with fail
      refine hEn.mono ?_
      rintro x we ⟨rfl, hBe⟩
      have tabe := Hid.mk (tabd.out.below hBe tabd.out.size)
      have bele := Hid.mk (beld.out.trans (hBe.mono beld.out.size))
      clear hEn hBe
      have h1 := one_enc we tabe.out
      clear tabd beld
      go_wp2_with fail
      refine h1.mono ?_
      rintro x wf ⟨rfl, hBf⟩
      have belf := Hid.mk (bele.out.trans (hBf.mono bele.out.size))
      clear h1 hBf
      go_wp2_with fail
      go_ret
      exact ⟨rfl, belf.out⟩
    · obtain ⟨he, m0, hat, hm0⟩ := decA_bad hd
      rw [hat]
      have d0 : ((decA S).2.1 == 0) = false := by simpa using hd
      generalize (decA S).2.1 = ee at *
      clear hd hat he hLo hBd
      have g5 : 0 ≤ ((8 * m0 : Nat) : Int) := Int.natCast_nonneg _
      have g7 : ((8 * m0 : Nat) : Int) < S.length := Int.ofNat_lt.mpr hm0
      have g6 : ((8 * m0 : Nat) : Int) % 8 = 0 := by omega
      clear hm0
      generalize ((8 * m0 : Nat) : Int) = at_ at *
      have g1 : decide (at_ < 0) = false := decide_eq_false (by omega)
      have g2 : decide ((S.length : Int) < at_) = false := decide_eq_false (by omega)
      have g3 : at_.tmod 8 = 0 := (Int.tmod_eq_emod_of_nonneg g5).trans g6
      have g4 : at_ ≤ 1048576 := by omega
      have h1 := one_enc wd tabd.out
      go_wp2_with fail
      refine h1.mono ?_
      rintro x wf ⟨rfl, hBf⟩
      have belf := Hid.mk (beld.out.trans (hBf.mono beld.out.size))
      clear h1 hBf
      go_wp2_with fail
      go_ret
      exact ⟨rfl, belf.out⟩
  · have e0 : ((encF L 0 []).2.1 == 0) = false := by simpa using he
    generalize encF L 0 [] = r at *
    clear he hB1
    go_wp2_with fail
    refine (Decode_any S w1 tab1.out (by unfold maxI; omega)).mono ?_
    rintro x wd ⟨v, rfl, hLo, hBd⟩
    have hsz : w.heap.size ≤ w1.heap.size := bel1.out.size
    have tabd := Hid.mk (tab1.out.below hBd tab1.out.size)
    have beld := Hid.mk (bel1.out.trans (hBd.mono hsz))
    by_cases hd : (decA S).2.1 = 0
    · obtain ⟨M, hM, hA, hO, hc⟩ := decA_ok hd
      rw [hM] at hLo ⊢
      obtain ⟨am, cm, rfl, hLi⟩ := hLo.form
      have henc := enc_all M hA 0 []
      rw [hc] at henc
      have hEn := Encode_any M cm am wd tabd.out hLi hO (by have := code_length M; rw [hc] at this; unfold maxI; omega)
      rw [henc] at hEn
      simp only [List.nil_append] at hEn
      have hml : (M.length : Int) ≤ 1048576 := by have := code_length M; rw [hc] at this; omega
      clear hM hA hO hc hd hLo hLi henc
      clear hBd
      go_wp2_with fail
      refine hEn.mono ?_
      rintro x we ⟨rfl, hBe⟩
      have tabe := Hid.mk (tabd.out.below hBe tabd.out.size)
      have bele := Hid.mk (beld.out.trans (hBe.mono beld.out.size))
      clear hEn hBe
      have h1 := one_enc we tabe.out
      clear tabd beld
      go_wp2_with fail
      refine h1.mono ?_
      rintro x wf ⟨rfl, hBf⟩
      have belf := Hid.mk (bele.out.trans (hBf.mono bele.out.size))
      clear h1 hBf
      go_wp2_with fail
      go_ret
      exact ⟨rfl, belf.out⟩
    · obtain ⟨he, m0, hat, hm0⟩ := decA_bad hd
      rw [hat]
      have d0 : ((decA S).2.1 == 0) = false := by simpa using hd
      generalize (decA S).2.1 = ee at *
      clear hd hat he hLo hBd
      have g5 : 0 ≤ ((8 * m0 : Nat) : Int) := Int.natCast_nonneg _
      have g7 : ((8 * m0 : Nat) : Int) < S.length := Int.ofNat_lt.mpr hm0
      have g6 : ((8 * m0 : Nat) : Int) % 8 = 0 := by omega
      clear hm0
      generalize ((8 * m0 : Nat) : Int) = at_ at *
      have g1 : decide (at_ < 0) = false := decide_eq_false (by omega)
      have g2 : decide ((S.length : Int) < at_) = false := decide_eq_false (by omega)
      have g3 : at_.tmod 8 = 0 := (Int.tmod_eq_emod_of_nonneg g5).trans g6
      have g4 : at_ ≤ 1048576 := by omega
      have h1 := one_enc wd tabd.out
      go_wp2_with fail
      refine h1.mono ?_
      rintro x wf ⟨rfl, hBf⟩
      have belf := Hid.mk (beld.out.trans (hBf.mono beld.out.size))
      clear h1 hBf
      go_wp2_with fail
      go_ret
      exact ⟨rfl, belf.out⟩
end Go.Proofs.YtehjikjpgdnjdabDoor
