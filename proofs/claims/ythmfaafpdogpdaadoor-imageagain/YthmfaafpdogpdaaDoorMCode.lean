/-
  Stage 4, image: codeRight.
-/
import Derived.Test.YthmfaafpdogpdaaDoorMTypes
namespace Go.Proofs.YthmfaafpdogpdaaDoor
open Go.RowKit

theorem codeF_at {L : List Ins} {j : Nat} {n g : Int} (h : j < L.length) : codeF n g (L.drop j) = if L[j].right = 0 then (if tgtB L[j].op L[j].m n g then codeF n g (L.drop (j + 1)) else 48) else L[j].right := by
  rw [List.drop_eq_getElem_cons h, codeF]
set_option maxHeartbeats 1000000 in
theorem codeRight_any (L : List Ins) (gates : Int) (c : Nat) (a : Option Addr) (w : World) (ht : TabIn w) (hL : LIn w.heap.size w a L) (ho : OpsIn L) (hl : L.length ≤ 140737488355328) :
    Calls Tryd.prog 57 #[.slice a L.length c, .int .i64 gates] w fun x w' => x = .returned (.int .i64 (codeR L gates)) ∧ Gr w w' := by
  replace hL := Hid.mk hL
  unfold codeR
  by_cases h1 : L.length < 1
  · rw [if_pos (.inl h1)]
    have h1' : (L.length : Int) < 1 := by omega
    go_enter Tryd.func57, Tryd.ntmps57
    go_wp2_with fail
    go_ret
    exact ⟨rfl, Gr.refl _⟩
  by_cases h2 : 400 < L.length
  · rw [if_pos (.inr h2)]
    have h1' : ¬ (L.length : Int) < 1 := by omega
    have h2' : (400 : Int) < L.length := by omega
    go_enter Tryd.func57, Tryd.ntmps57
    go_wp2_with fail
    go_ret
    exact ⟨rfl, Gr.refl _⟩
  rw [if_neg (by omega)]
  have h1' : ¬ (L.length : Int) < 1 := by omega
  have h2' : ¬ (400 : Int) < L.length := by omega
  generalize hR : codeF L.length gates L = R
  go_enter Tryd.func57, Tryd.ntmps57
  go_wp2_with fail
  go_loopw [18] (fun i wr => ∃ j : Nat, i = .int .i64 j ∧ j ≤ L.length ∧ Hid (codeF L.length gates (L.drop j) = R ∧ Gr w wr)) (fun i _ => L.length - (intOf i).toNat)
  case atStart => exact ⟨0, rfl, by omega, ⟨hR, Gr.refl w⟩⟩
  case round =>
    clear hR
    obtain ⟨j, rfl, hj, ⟨hf, hG⟩⟩ := hrel
    by_cases hlt : j < L.length
    · have jl : (j : Int) < L.length := by omega
      obtain ⟨b, off, rfl, hb, hb2, c0, c1, c2, c3, c4⟩ := hL.out.below hG.below j hlt
      rw [codeF_at hlt] at hf
      have hop := ho L[j] (List.getElem_mem hlt)
      generalize L[j] = k at *
      have hR := fun w ht => Right_any k.op k.a k.b k.c k.m w ht hop.1 hop.2
      have hT := fun w => targetThere_any k L.length gates w hop.1 hop.2
      have hR2 : k.right = rightF k.op k.a k.b k.c k.m := rfl
      rw [← hR2] at hR
      clear hR2
      generalize tgtB k.op k.m L.length gates = tb at hf hT
      generalize k.right = kr at hf hR
      replace hf := Hid.mk hf
      have htr : TabIn wr := ht.gr hG
      replace hG := Hid.mk hG
      go_wp2_with fail
      refine (hR _ (htr.gr ((Gr.refl wr).alloc _))).mono ?_
      rintro x w2 ⟨rfl, hG2⟩
      have A1 : At w2 wr.heap.size #[.int .u8 k.op, .int .i64 k.a, .int .i64 k.b, .int .i64 k.c, .int .i64 k.m] := (At.new wr _ _).gr hG2
      replace hG := hG.out.trans hG2.of_alloc
      clear hG2
      replace hG := Hid.mk hG
      have ⟨z1, q1, _⟩ := A1
      by_cases hk : kr = 0
      · have e0 : (kr != 0) = false := by simpa using hk
        replace hk := Hid.mk hk
        cases tb
        all_goals
          go_wp2_with fail
          refine (hT _).mono ?_
          rintro x w3 ⟨rfl, hG3⟩
          replace hG := hG.out.trans hG3
          clear hG3 z1 q1 A1
          replace hG := Hid.mk hG
          go_wp2_with fail
        · go_ret
          exact ⟨retI (by rw [← hf.out, if_pos hk.out]; simp), hG.out⟩
        · go_roundw
          case rel => exact ⟨j + 1, by simp, by omega, ⟨by rw [← hf.out, if_pos hk.out]; simp, hG.out⟩⟩
          case measure => simp [intOf]; omega
      · have e0 : (kr != 0) = true := by simpa using hk
        replace hk := Hid.mk hk
        go_wp2_with fail
        go_ret
        exact ⟨retI (by rw [← hf.out, if_neg hk.out]), hG.out⟩
    · have jl : ¬ (j : Int) < L.length := by omega
      rw [drop_end hlt, codeF] at hf
      replace hf := Hid.mk hf
      replace hG := Hid.mk hG
      go_wp2_with fail
      go_ret
      exact ⟨retI hf.out, hG.out⟩
end Go.Proofs.YthmfaafpdogpdaaDoor
