import Derived.Test.YtdmkedpnkejpbaaDoorMRdM
/-
  Stage 4, image: the reader's small calls, of any state.
-/
namespace Go.Proofs.YtdmkedpnkejpbaaDoor
open Go.RowKit

/-- The reader's box, of a state. -/
def RIn (w : World) (kr : Nat) (S : List UInt8) (σ : RS) : Prop := RBox w kr S σ.i σ.e σ.p
set_option maxHeartbeats 1000000 in
theorem fail_any (S : List UInt8) (kr : Nat) (σ : RS) (e p : Int) (w : World) (h : RIn w kr S σ) :
    Calls Tryd.prog 26 #[.pointer (some ⟨kr, 0, none⟩), .int .i64 e, .int .i64 p] w fun x w' => x = .returned (.tuple #[]) ∧ RIn w' kr S (failS e p σ) ∧ w.grownBy w' (some kr) := by
  obtain ⟨i, e0, q0⟩ := σ
  unfold RIn at *
  simp only at h
  have ⟨z0, p0, f0⟩ := h.at
  by_cases he : e0 = 0
  · have r1 : failS e p ⟨i, e0, q0⟩ = ⟨i, e, p⟩ := if_pos he
    rw [r1]
    have he' : (e0 == 0) = true := by simpa using he
    replace he := Hid.mk he
    replace h := Hid.mk h
    clear r1
    go_enter Tryd.func26, Tryd.ntmps26
    go_wp2_with fail
    simp [bodyPost, results, Tryd.results26, go_sem]
    exact ⟨(h.out.set 2 _).set 3 _, (grown_set _ _ _ _).trans (grown_set _ _ _ _)⟩
  · have r1 : failS e p ⟨i, e0, q0⟩ = ⟨i, e0, q0⟩ := if_neg he
    rw [r1]
    have he' : (e0 == 0) = false := by simpa using he
    replace he := Hid.mk he
    replace h := Hid.mk h
    clear r1
    go_enter Tryd.func26, Tryd.ntmps26
    go_wp2_with fail
    simp [bodyPost, results, Tryd.results26, go_sem]
    exact ⟨h.out, grown_of (Below.refl _ _) _⟩
set_option maxRecDepth 10000 in
set_option maxHeartbeats 1000000 in
theorem take_any (S : List UInt8) (kr : Nat) (n : Nat) (σ : RS) (w : World) (h : RIn w kr S σ) (hi : σ.In S) (hS : S.length ≤ 140737488355328) (hn : n ≤ 1000000) :
    Calls Tryd.prog 55 #[.pointer (some ⟨kr, 0, none⟩), .int .i64 n] w fun x w' => x = .returned (.string (str (takeV S n σ))) ∧ RIn w' kr S (takeS S n σ) ∧ w.grownBy w' (some kr) := by
  have hF := fun W h1 => fail_any S kr σ 41 S.length W h1
  obtain ⟨i, e0, q0⟩ := σ
  unfold RS.In at hi
  simp only at hi
  have ss := str_size S
  have ⟨z0, p0, f0⟩ := h.at
  by_cases he : e0 = 0
  · by_cases hc : i + n ≤ S.length
    · have r1 : takeS S n ⟨i, e0, q0⟩ = ⟨i + n, 0, q0⟩ := by unfold takeS; rw [if_pos he, if_pos hc]
      have r2 : takeV S n ⟨i, e0, q0⟩ = sub S i n := by unfold takeV; rw [if_pos he, if_pos hc]
      rw [r1, r2]
      subst he
      exact take_ok S kr i n q0 w h hc hS
    · have r1 : takeS S n ⟨i, e0, q0⟩ = ⟨i, 41, S.length⟩ := by unfold takeS; rw [if_pos he, if_neg hc]
      have r2 : takeV S n ⟨i, e0, q0⟩ = [] := by unfold takeV; rw [if_pos he, if_neg hc]
      have r3 : failS 41 S.length ⟨i, e0, q0⟩ = ⟨i, 41, S.length⟩ := if_pos he
      rw [r1, r2]
      rw [r3] at hF
      have d1 : ((S.length : Int) - i) < n := by omega
      clear r1 r2 r3 he hc
      replace h := Hid.mk h
      go_enter Tryd.func55, Tryd.ntmps55
      go_wp2_with fail
      go_quiet (fail)
      go_wp2_with fail
      refine (hF _ (h.out.gr ((Gr.refl w).drewN _))).mono ?_
      rintro x w1 ⟨rfl, h1, hg⟩
      have ⟨z1, p1, f1⟩ := h1.at
      replace hg := (grown_of ((Gr.refl w).drewN _).below (some kr)).trans hg
      replace h1 := Hid.mk h1
      replace hg := Hid.mk hg
      clear z0 p0 f0 hF h
      go_wp2_with fail
      go_ret
      exact ⟨rfl, h1.out, hg.out⟩
  · have r1 : takeS S n ⟨i, e0, q0⟩ = ⟨i, e0, q0⟩ := by unfold takeS; rw [if_neg he]
    have r2 : takeV S n ⟨i, e0, q0⟩ = [] := by unfold takeV; rw [if_neg he]
    have r3 : failS 41 S.length ⟨i, e0, q0⟩ = ⟨i, e0, q0⟩ := if_neg he
    rw [r1, r2]
    rw [r3] at hF
    have he' : (e0 != 0) = true := by simpa using he
    replace he := Hid.mk he
    clear r1 r2 r3
    by_cases hc : ((S.length : Int) - i) < n
    · replace h := Hid.mk h
      go_enter Tryd.func55, Tryd.ntmps55
      go_wp2_with fail
      go_quiet (fail)
      go_wp2_with fail
      refine (hF _ (h.out.gr ((Gr.refl w).drewN _))).mono ?_
      rintro x w1 ⟨rfl, h1, hg⟩
      have ⟨z1, p1, f1⟩ := h1.at
      replace hg := (grown_of ((Gr.refl w).drewN _).below (some kr)).trans hg
      replace h1 := Hid.mk h1
      replace hg := Hid.mk hg
      clear z0 p0 f0 hF h
      go_wp2_with fail
      go_ret
      exact ⟨rfl, h1.out, hg.out⟩
    · replace h := Hid.mk h
      clear hF
      go_enter Tryd.func55, Tryd.ntmps55
      go_wp2_with fail
      go_quiet (fail)
      go_wp2_with fail
      go_ret
      exact ⟨rfl, h.out.gr ((Gr.refl w).drewN _), grown_of ((Gr.refl w).drewN _).below _⟩
set_option maxRecDepth 10000 in
set_option maxHeartbeats 1000000 in
theorem number_any (S : List UInt8) (kr : Nat) (n : Nat) (σ : RS) (w : World) (h : RIn w kr S σ) (hi : σ.In S) (hS : S.length ≤ 140737488355328) (h8 : n ≤ 8) :
    Calls Tryd.prog 51 #[.pointer (some ⟨kr, 0, none⟩), .int .i64 n] w fun x w' => x = .returned (.int .u64 (numV S n σ)) ∧ RIn w' kr S (takeS S n σ) ∧ w.grownBy w' (some kr) := by
  have hl := takeV_len S n σ
  have hK := take_any S kr n σ w h hi hS (by omega)
  unfold numV
  go_enter Tryd.func51, Tryd.ntmps51
  go_wp2_with fail
  refine hK.mono ?_
  rintro x w1 ⟨rfl, h1, hg⟩
  generalize hT : takeV S n σ = T at *
  replace hT := Hid.mk hT
  obtain ⟨c, W, hcv, hG, hcs⟩ := bytes_of T w1
  replace h1 : RIn W kr S _ := h1.gr hG
  replace hg := hg.trans (grown_of hG.below _)
  replace h1 := Hid.mk h1
  replace hg := Hid.mk hg
  replace hcs := Hid.mk hcs
  clear hG h
  go_wp2_with fail
  go_loopw [5, 13] (fun v i wr => ∃ j : Nat, v = .int .u64 (leN (T.take j)) ∧ i = .int .i64 j ∧ j ≤ T.length ∧ wr = W) (fun _ i _ => T.length - (intOf i).toNat)
  case atStart => exact ⟨0, rfl, rfl, by omega, rfl⟩
  case round =>
    obtain ⟨j, rfl, rfl, hj, rfl⟩ := hrel
    by_cases hlt : j < T.length
    · have jl : (j : Int) < T.length := by omega
      have c0 := hcs.out j hlt
      have hnx := leN_snoc (T.take j) T[j]
      rw [← List.take_succ_eq_append_getElem hlt, List.length_take, Nat.min_eq_left (by omega)] at hnx
      have hrg := leN_range (T.take j)
      rw [List.length_take, Nat.min_eq_left (by omega)] at hrg
      have hb := T[j].toNat_lt
      generalize T[j].toNat = b at *
      generalize leN (T.take j) = x0 at *
      have m1 : IntKind.i64.wrap (8 * (j : Int)) = 8 * j := by rw [IntKind.wrap_i64]; omega
      have m2 : (0 : Int) ≤ 8 * (j : Int) := by omega
      have m3 : (8 * (j : Int)) ≤ 64 := by omega
      have m4 : IntKind.u64.wrap (b : Int) = b := by rw [IntKind.wrap_u64]; omega
      have hor := or_shift x0 b (8 * j) hrg.1 hrg.2 hb (by omega)
      rw [← hnx] at hor
      replace hrg := Hid.mk hrg
      replace hor := Hid.mk hor
      clear hnx
      go_wp2_with fail
      exact ⟨⟨j + 1, by rw [hor.out], by go_num, by omega, trivial⟩, by simp [intOf]; omega⟩
    · have jl : ¬ (j : Int) < T.length := by omega
      rw [List.take_of_length_le (by omega)]
      go_wp2_with fail
      go_ret
      exact ⟨by rw [hT.out]; rfl, h1.out, hg.out⟩
theorem count_w {S : List UInt8} {n : Nat} {σ : RS} (h8 : n ≤ 7) : IntKind.i64.wrap (numV S n σ) = numV S n σ := by
  have hr := numV_range S n σ
  have hp : (2 : Int) ^ (8 * n) ≤ 2 ^ 56 := by
    have h1 := Nat.pow_le_pow_right (n := 2) (by omega) (show 8 * n ≤ 56 by omega)
    have e1 : (2 : Int) ^ (8 * n) = ((2 ^ (8 * n) : Nat) : Int) := by simp
    rw [e1]
    omega
  rw [IntKind.wrap_i64]
  omega
set_option maxHeartbeats 1000000 in
theorem count_any (S : List UInt8) (kr : Nat) (n : Nat) (σ : RS) (w : World) (h : RIn w kr S σ) (hi : σ.In S) (hS : S.length ≤ 140737488355328) (h8 : n ≤ 7) :
    Calls Tryd.prog 27 #[.pointer (some ⟨kr, 0, none⟩), .int .i64 n] w fun x w' => x = .returned (.int .i64 (numV S n σ)) ∧ RIn w' kr S (takeS S n σ) ∧ w.grownBy w' (some kr) := by
  have hq := number_any S kr n σ w h hi hS (by omega)
  have hw := count_w (S := S) (σ := σ) h8
  generalize numV S n σ = y at *
  generalize takeS S n σ = σ' at *
  go_enter Tryd.func27, Tryd.ntmps27
  go_wp2_with fail
  refine hq.mono ?_
  rintro x w1 ⟨rfl, h1, hg⟩
  replace h1 := Hid.mk h1
  replace hg := Hid.mk hg
  go_wp2_with fail
  go_ret
  exact ⟨rfl, h1.out, hg.out⟩
set_option maxHeartbeats 1000000 in
theorem perms_any (S : List UInt8) (kr : Nat) (σ : RS) (w : World) (h : RIn w kr S σ) (hi : σ.In S) (hS : S.length ≤ 140737488355328) :
    Calls Tryd.prog 77 #[.pointer (some ⟨kr, 0, none⟩)] w fun x w' => x = .returned (.int .u8 (numV S 1 σ)) ∧ RIn w' kr S (takeS S 1 σ) ∧ w.grownBy w' (some kr) := by
  have hq := number_any S kr 1 σ w h hi hS (by omega)
  have hr := num1 S σ
  have hw : IntKind.u8.wrap (numV S 1 σ) = numV S 1 σ := by rw [IntKind.wrap_u8]; omega
  generalize numV S 1 σ = y at *
  generalize takeS S 1 σ = σ' at *
  clear hr
  go_enter Tryd.func77, Tryd.ntmps77
  go_wp2_with fail
  refine hq.mono ?_
  rintro x w1 ⟨rfl, h1, hg⟩
  replace h1 := Hid.mk h1
  replace hg := Hid.mk hg
  go_wp2_with fail
  go_ret
  exact ⟨rfl, h1.out, hg.out⟩
end Go.Proofs.YtdmkedpnkejpbaaDoor
