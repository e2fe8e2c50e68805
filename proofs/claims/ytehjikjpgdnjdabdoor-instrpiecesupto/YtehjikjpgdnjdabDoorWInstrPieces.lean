/-
  Stage 3, instr: the walk of the statement on rows behind one another.
-/
import Derived.Test.YtehjikjpgdnjdabDoorIAppL
import Derived.Test.YtehjikjpgdnjdabDoorWInstrTurned
namespace Go.Proofs.YtehjikjpgdnjdabDoor
open Go.RowKit

set_option maxRecDepth 100000 in
set_option maxHeartbeats 4000000 in
theorem walk_InstrPieces (R : List Ins) (cap : Nat) (a : Option Addr) (L : List Ins) (capl : Nat) (al : Option Addr) (S : List UInt8) (w : World) (ht : TabIn w) (hR : RIn w.heap.size w a R) (hL : LIn w.heap.size w al L ∧ OpsIn L) (_ : S.length ≤ maxLen) (hlR : R.length ≤ 174763) (hlL : L.length ≤ 174763) (hs : S.length ≤ 1048576) :
    Calls Tryd.prog 4 #[.slice a R.length cap, .slice al L.length capl, .string (str S)] w fun x w' => x = .returned (.bool true) ∧ Below w.heap.size w w' := by
  obtain ⟨hLi, hOL⟩ := hL
  have sl := str_list
  have ss := str_size
  have hm := made_any R cap a w ht hR (by unfold maxI; omega)
  have hA := made_allR R
  have hO := made_ops R
  have hl : (R.map madeR).length = R.length := List.length_map madeR
  rw [← hl] at hlR
  clear hl hR
  generalize R.map madeR = F at *
  have hF1 : (F.length : Int) ≤ 174763 := by omega
  have hL1 : (L.length : Int) ≤ 174763 := by omega
  have hS1 : (S.length : Int) ≤ 1048576 := by omega
  go_enter Tryd.func4, Tryd.ntmps4
  go_wp2_with fail
  refine hm.mono ?_
  rintro x w1 ⟨v, rfl, hLo, hB1⟩
  clear hm
  obtain ⟨aF, cF, rfl, hFi⟩ := hLo.form
  clear hLo
  have hE := Encode_any F cF aF w1 (ht.below hB1 ht.size) hFi hO (by unfold maxI; omega)
  rw [enc_all F hA 0 []] at hE
  simp only [List.nil_append] at hE
  have tab1 := Hid.mk (ht.below hB1 ht.size)
  have bel1 := Hid.mk hB1
  replace hFi := Hid.mk hFi
  clear hB1
  go_wp2_with fail
  refine hE.mono ?_
  rintro x w2 ⟨rfl, hB2⟩
  have bel2 := Hid.mk (bel1.out.trans (hB2.mono bel1.out.size))
  have tab2 := Hid.mk (tab1.out.below hB2 tab1.out.size)
  have hF2 := Hid.mk ((hFi.out.below hB2).mono hB2.size)
  clear hE hB2 tab1 hFi bel1
  have hE2 := Encode_any L capl al w2 tab2.out ((hLi.below bel2.out).mono bel2.out.size) hOL (by unfold maxI; omega)
  go_wp2_with fail
  refine hE2.mono ?_
  rintro x w3 ⟨rfl, hB3⟩
  have bel3 := Hid.mk (bel2.out.trans (hB3.mono bel2.out.size))
  have tab3 := Hid.mk (tab2.out.below hB3 tab2.out.size)
  have hF3 := Hid.mk ((hF2.out.below hB3).mono hB3.size)
  clear hE2 hB3 tab2 hF2 bel2
  have hL3 := Hid.mk ((hLi.below bel3.out).mono bel3.out.size)
  have hN3 := LOwn.nil w3 w3.heap.size
  have hbl : ([] : List Ins).length + F.length ≤ maxI := by unfold maxI; simp; omega
  go_wp2_with (at_builtin; refine wpList_append_list rfl (.const (.slice none 0 0)) (.tmp 44) rfl w3.heap.size (.slice none 0 0) [] F rfl hN3 aF cF rfl w3.heap.size hF3.out hbl (Nat.le_refl _) ?_)
  intro v4 w4 hL4 hg4 _
  have hb4 : Below w3.heap.size w3 w4 := Below.of_grown hg4 (Nat.le_refl _) (fun g h => by cases h)
  have hbl2 : F.length + L.length ≤ maxI := by unfold maxI; omega
  have hLl4 := Hid.mk (hL3.out.below hb4)
  have hob4 := Hid.mk (own_block hL4)
  replace hL4 := Hid.mk hL4
  have hbs4 := hb4.size
  replace hb4 := Hid.mk hb4
  clear hg4 hN3
  go_wp2_with (at_builtin; refine wpList_append_list rfl (.tmp 45) (.tmp 46) rfl w3.heap.size v4 F L rfl hL4.out al capl rfl w3.heap.size hLl4.out hbl2 hbs4 ?_)
  intro v5 w5 hL5 hg5 _
  have hb5 : Below w3.heap.size w3 w5 := hb4.out.trans (Below.of_grown hg5 hbs4 (fun q hq => (hob4.out q hq).1))
  obtain ⟨FL, hFL⟩ : ∃ FL, FL = F ++ L := ⟨_, rfl⟩
  rw [← hFL] at hL5
  obtain ⟨a5, c5, rfl, hFL5⟩ := hL5.form
  have bel5 := Hid.mk (bel3.out.trans (hb5.mono bel3.out.size))
  have tab5 := Hid.mk (tab3.out.below hb5 tab3.out.size)
  have hF5 := Hid.mk ((hF3.out.below hb5).mono hb5.size)
  have hOF : OpsIn FL := fun k hk => by rw [hFL] at hk; rcases List.mem_append.1 hk with h | h; exact hO k h; exact hOL k h
  have hE3 := Encode_any FL c5 a5 w5 tab5.out hFL5 hOF (by rw [hFL, List.length_append]; unfold maxI; omega)
  have henc := enc_app F L hA 0 []
  rw [enc_shift L] at henc
  rw [← hFL] at henc
  rw [henc] at hE3
  clear henc hFL hL5 hg5 hb5 hFL5 hL4 hob4 hb4 hLl4 hL3 hF3 bel3 tab3 hOF hLi
  have hrl : (encF L 0 []).2.1 = 0 → (encF L 0 []).1.length ≤ 1398104 := fun h => by
    rw [enc_all L (enc_ok L 0 [] h) 0 [], List.nil_append, code_length]; omega
  have hrk : (encF L 0 []).2.1 ≠ 0 → 0 ≤ (encF L 0 []).2.2 ∧ (encF L 0 []).2.2 ≤ 174763 := fun h => by
    have := enc_bad L 0 [] h
    omega
  by_cases he : (encF L 0 []).2.1 = 0
  · rw [if_pos he] at hE3
    rw [he]
    replace hrl := hrl he
    clear hrk
    generalize (encF L 0 []).1 = TB at *
    generalize (encF L 0 []).2.2 = kb at *
    have hclF := code_length F
    have adF := fun W => add_str (code F) TB (by omega) W
    clear he hclF
    simp only [List.nil_append] at hE3
    go_wp2_with fail
    refine hE3.mono ?_
    rintro x w6 ⟨rfl, hB6⟩
    have belW := Hid.mk (bel5.out.trans (hB6.mono bel5.out.size))
    have tabW := Hid.mk (tab5.out.below hB6 tab5.out.size)
    have hFW := Hid.mk ((hF5.out.below hB6).mono hB6.size)
    clear hE3 hB6 bel5 tab5 hF5
    have hD1 := Decode_any S w6 tabW.out (by unfold maxI; omega)
    go_wp2_with fail
    refine hD1.mono ?_
    rintro x w7 ⟨v7, rfl, hLo7, hB7⟩
    obtain ⟨a7, c7, rfl, hM7⟩ := hLo7.form
    have bel7 := Hid.mk (belW.out.trans (hB7.mono belW.out.size))
    have tab7 := Hid.mk (tabW.out.below hB7 tabW.out.size)
    have hF7 := Hid.mk ((hFW.out.below hB7).mono hB7.size)
    replace hM7 := Hid.mk hM7
    clear hD1 hLo7 hB7 belW tabW hFW
    have hD2 := Decode_any (code F ++ S) w7 tab7.out (by rw [List.length_append, code_length]; unfold maxI; omega)
    have hb := dec_behind F S hA hO
    obtain ⟨hb1, hb2, hb3⟩ := hb
    rw [hb1] at hD2
    have hcl := code_length F
    have adS := fun W => add_str (code F) S (by omega) W
    have hcl1 : ((code F).length : Int) = 8 * F.length := by omega
    clear hb1
    by_cases hd : (decA S).2.1 = 0
    · obtain ⟨M, hM, -, -, hcM⟩ := decA_ok hd
      have hMl : M.length ≤ 131072 := by have := code_length M; rw [hcM] at this; omega
      have hb4' := hb2 hd
      rw [hM] at hb4' hM7 hD2 ⊢
      simp only at hb4' hM7 hD2 ⊢
      rw [hb4'] at hD2
      clear hb2 hb3 hb4' hd hM hcM hcl
      generalize (decA (code F ++ S)).2.2 = pl at *
      generalize code F ++ S = FS at *
      generalize code F = T at *
      go_wp2_with fail
      refine hD2.mono ?_
      rintro x w8 ⟨v8, rfl, hLo8, hB8⟩
      obtain ⟨FM, hFM⟩ : ∃ FM, FM = F ++ M := ⟨_, rfl⟩
      rw [← hFM] at hLo8
      obtain ⟨a8, c8, rfl, hN8⟩ := hLo8.form
      have bel8 := Hid.mk (bel7.out.trans (hB8.mono bel7.out.size))
      have hF8 := Hid.mk ((hF7.out.below hB8).mono hB8.size)
      have hM8 := Hid.mk ((hM7.out.below hB8).mono hB8.size)
      replace hN8 := Hid.mk hN8
      replace hFM := Hid.mk hFM
      clear hD2 hLo8 hB8 bel7 tab7 hF7 hM7 adS
      have hn0 := LOwn.nil w8 w8.heap.size
      have bl1 : ([] : List Ins).length + F.length ≤ maxI := by unfold maxI; simp; omega
      have bl2 : F.length + M.length ≤ maxI := by unfold maxI; omega
      go_wp2_with (at_builtin; refine wpList_append_list rfl (.const (.slice none 0 0)) (.tmp 119) rfl w8.heap.size (.slice none 0 0) [] F rfl hn0 aF cF rfl w8.heap.size hF8.out bl1 (Nat.le_refl _) ?_)
      intro v9 w9 hL9 hg9 _
      have hb9 : Below w8.heap.size w8 w9 := Below.of_grown hg9 (Nat.le_refl _) (fun g h => by cases h)
      have hM9 := Hid.mk (hM8.out.below hb9)
      have hob9 := Hid.mk (own_block hL9)
      have hbs9 := hb9.size
      replace hL9 := Hid.mk hL9
      replace hb9 := Hid.mk hb9
      clear hg9 hn0 bl1
      go_wp2_with (at_builtin; refine wpList_append_list rfl (.tmp 120) (.tmp 121) rfl w8.heap.size v9 F M rfl hL9.out a7 c7 rfl w8.heap.size hM9.out bl2 hbs9 ?_)
      intro v10 w10 hL10 hg10 _
      have hb10 : Below w8.heap.size w8 w10 := hb9.out.trans (Below.of_grown hg10 hbs9 (fun q hq => (hob9.out q hq).1))
      rw [← hFM.out] at hL10
      obtain ⟨a10, c10, rfl, hL10'⟩ := hL10.form
      have hSm := sameList_any FM FM c8 c10 a8 a10 w10 ((hN8.out.below hb10).mono hb10.size) hL10' (by rw [hFM.out, List.length_append]; unfold maxLen; omega)
      rw [sameB_eq rfl] at hSm
      have bel10 := Hid.mk (bel8.out.trans (hb10.mono bel8.out.size))
      clear hL10 hg10 hL10' hb10 hb9 hL9 hob9
      go_wp2_with fail
      refine hSm.mono ?_
      rintro x w11 ⟨rfl, hG⟩
      have bel11 := Hid.mk (bel10.out.trans (hG.below.mono bel10.out.size))
      clear hSm hG
      go_wp2_with fail
      go_ret
      exact ⟨rfl, bel11.out⟩
    · obtain ⟨hb3a, hb3b⟩ := hb3 hd
      rw [hb3a, hb3b] at hD2
      obtain ⟨-, m0, hat, hm0⟩ := decA_bad hd
      have d0 : ((decA S).2.1 != 0) = true := by simpa using hd
      rw [hat] at hD2 ⊢
      have q1 : ((8 * F.length : Nat) : Int) + ((8 * m0 : Nat) : Int) = ((code F).length : Int) + ((8 * m0 : Nat) : Int) := by rw [hcl]
      rw [q1] at hD2
      have q2 : (0 : Int) ≤ ((8 * m0 : Nat) : Int) := Int.natCast_nonneg _
      have q3 : ((8 * m0 : Nat) : Int) < S.length := Int.ofNat_lt.mpr hm0
      clear hb2 hb3 hb3a hb3b hd hat hm0 q1 hM7 hF7
      generalize ((8 * m0 : Nat) : Int) = fr at *
      generalize (decA S).2.1 = hh at *
      generalize code F ++ S = FS at *
      generalize code F = T at *
      clear hcl
      go_wp2_with fail
      refine hD2.mono ?_
      rintro x w8 ⟨v8, rfl, hLo8, hB8⟩
      obtain ⟨a8, c8, rfl, -⟩ := hLo8.form
      have bel8 := Hid.mk (bel7.out.trans (hB8.mono bel7.out.size))
      clear hD2 hLo8 hB8 bel7 tab7 adS
      go_wp2_with fail
      go_ret
      exact ⟨by simp, bel8.out⟩
  · rw [if_neg he] at hE3
    have f0 : ((encF L 0 []).2.1 == 0) = false := by simpa using he
    have f1 : ((encF L 0 []).2.1 != 0) = true := by simpa using he
    obtain ⟨r0, r1⟩ := hrk he
    clear hrl hrk
    generalize (encF L 0 []).1 = TB at *
    generalize (encF L 0 []).2.1 = eb at *
    generalize (encF L 0 []).2.2 = kb at *
    replace he := Hid.mk he
    simp only [Nat.zero_add] at hE3
    go_wp2_with fail
    refine hE3.mono ?_
    rintro x w6 ⟨rfl, hB6⟩
    have belW := Hid.mk (bel5.out.trans (hB6.mono bel5.out.size))
    have tabW := Hid.mk (tab5.out.below hB6 tab5.out.size)
    have hFW := Hid.mk ((hF5.out.below hB6).mono hB6.size)
    clear hE3 hB6 bel5 tab5 hF5
    have hD1 := Decode_any S w6 tabW.out (by unfold maxI; omega)
    go_wp2_with fail
    refine hD1.mono ?_
    rintro x w7 ⟨v7, rfl, hLo7, hB7⟩
    obtain ⟨a7, c7, rfl, hM7⟩ := hLo7.form
    have bel7 := Hid.mk (belW.out.trans (hB7.mono belW.out.size))
    have tab7 := Hid.mk (tabW.out.below hB7 tabW.out.size)
    have hF7 := Hid.mk ((hFW.out.below hB7).mono hB7.size)
    replace hM7 := Hid.mk hM7
    clear hD1 hLo7 hB7 belW tabW hFW
    have hD2 := Decode_any (code F ++ S) w7 tab7.out (by rw [List.length_append, code_length]; unfold maxI; omega)
    have hb := dec_behind F S hA hO
    obtain ⟨hb1, hb2, hb3⟩ := hb
    rw [hb1] at hD2
    have hcl := code_length F
    have adS := fun W => add_str (code F) S (by omega) W
    have hcl1 : ((code F).length : Int) = 8 * F.length := by omega
    clear hb1
    by_cases hd : (decA S).2.1 = 0
    · obtain ⟨M, hM, -, -, hcM⟩ := decA_ok hd
      have hMl : M.length ≤ 131072 := by have := code_length M; rw [hcM] at this; omega
      have hb4' := hb2 hd
      rw [hM] at hb4' hM7 hD2 ⊢
      simp only at hb4' hM7 hD2 ⊢
      rw [hb4'] at hD2
      clear hb2 hb3 hb4' hd hM hcM hcl
      generalize (decA (code F ++ S)).2.2 = pl at *
      generalize code F ++ S = FS at *
      generalize code F = T at *
      go_wp2_with fail
      refine hD2.mono ?_
      rintro x w8 ⟨v8, rfl, hLo8, hB8⟩
      obtain ⟨FM, hFM⟩ : ∃ FM, FM = F ++ M := ⟨_, rfl⟩
      rw [← hFM] at hLo8
      obtain ⟨a8, c8, rfl, hN8⟩ := hLo8.form
      have bel8 := Hid.mk (bel7.out.trans (hB8.mono bel7.out.size))
      have hF8 := Hid.mk ((hF7.out.below hB8).mono hB8.size)
      have hM8 := Hid.mk ((hM7.out.below hB8).mono hB8.size)
      replace hN8 := Hid.mk hN8
      replace hFM := Hid.mk hFM
      clear hD2 hLo8 hB8 bel7 tab7 hF7 hM7 adS
      have hn0 := LOwn.nil w8 w8.heap.size
      have bl1 : ([] : List Ins).length + F.length ≤ maxI := by unfold maxI; simp; omega
      have bl2 : F.length + M.length ≤ maxI := by unfold maxI; omega
      go_wp2_with (at_builtin; refine wpList_append_list rfl (.const (.slice none 0 0)) (.tmp 119) rfl w8.heap.size (.slice none 0 0) [] F rfl hn0 aF cF rfl w8.heap.size hF8.out bl1 (Nat.le_refl _) ?_)
      intro v9 w9 hL9 hg9 _
      have hb9 : Below w8.heap.size w8 w9 := Below.of_grown hg9 (Nat.le_refl _) (fun g h => by cases h)
      have hM9 := Hid.mk (hM8.out.below hb9)
      have hob9 := Hid.mk (own_block hL9)
      have hbs9 := hb9.size
      replace hL9 := Hid.mk hL9
      replace hb9 := Hid.mk hb9
      clear hg9 hn0 bl1
      go_wp2_with (at_builtin; refine wpList_append_list rfl (.tmp 120) (.tmp 121) rfl w8.heap.size v9 F M rfl hL9.out a7 c7 rfl w8.heap.size hM9.out bl2 hbs9 ?_)
      intro v10 w10 hL10 hg10 _
      have hb10 : Below w8.heap.size w8 w10 := hb9.out.trans (Below.of_grown hg10 hbs9 (fun q hq => (hob9.out q hq).1))
      rw [← hFM.out] at hL10
      obtain ⟨a10, c10, rfl, hL10'⟩ := hL10.form
      have hSm := sameList_any FM FM c8 c10 a8 a10 w10 ((hN8.out.below hb10).mono hb10.size) hL10' (by rw [hFM.out, List.length_append]; unfold maxLen; omega)
      rw [sameB_eq rfl] at hSm
      have bel10 := Hid.mk (bel8.out.trans (hb10.mono bel8.out.size))
      clear hL10 hg10 hL10' hb10 hb9 hL9 hob9
      go_wp2_with fail
      refine hSm.mono ?_
      rintro x w11 ⟨rfl, hG⟩
      have bel11 := Hid.mk (bel10.out.trans (hG.below.mono bel10.out.size))
      clear hSm hG
      go_wp2_with fail
      go_ret
      exact ⟨rfl, bel11.out⟩
    · obtain ⟨hb3a, hb3b⟩ := hb3 hd
      rw [hb3a, hb3b] at hD2
      obtain ⟨-, m0, hat, hm0⟩ := decA_bad hd
      have d0 : ((decA S).2.1 != 0) = true := by simpa using hd
      rw [hat] at hD2 ⊢
      have q1 : ((8 * F.length : Nat) : Int) + ((8 * m0 : Nat) : Int) = ((code F).length : Int) + ((8 * m0 : Nat) : Int) := by rw [hcl]
      rw [q1] at hD2
      have q2 : (0 : Int) ≤ ((8 * m0 : Nat) : Int) := Int.natCast_nonneg _
      have q3 : ((8 * m0 : Nat) : Int) < S.length := Int.ofNat_lt.mpr hm0
      clear hb2 hb3 hb3a hb3b hd hat hm0 q1 hM7 hF7
      generalize ((8 * m0 : Nat) : Int) = fr at *
      generalize (decA S).2.1 = hh at *
      generalize code F ++ S = FS at *
      generalize code F = T at *
      clear hcl
      go_wp2_with fail
      refine hD2.mono ?_
      rintro x w8 ⟨v8, rfl, hLo8, hB8⟩
      obtain ⟨a8, c8, rfl, -⟩ := hLo8.form
      have bel8 := Hid.mk (bel7.out.trans (hB8.mono bel7.out.size))
      clear hD2 hLo8 hB8 bel7 tab7 adS
      go_wp2_with fail
      go_ret
      exact ⟨by simp, bel8.out⟩
end Go.Proofs.YtehjikjpgdnjdabDoor
