import Derived.Test.YtdmkedpnkejpbaaDoorMRdA
/-
  Stage 4, image: the document's reader, its small calls, of any state.
-/
namespace Go.Proofs.YtdmkedpnkejpbaaDoor
open Go.RowKit

/-- The document's reader in memory. -/
def DIn (w : World) (kr : Nat) (S : List UInt8) (σ : RS) : Prop := Box w kr #[.string (str S), .int .i64 σ.i, .int .i64 σ.e, .int .i64 σ.p] 48
set_option maxHeartbeats 1000000 in
theorem dno_any (S : List UInt8) (kr : Nat) (σ : RS) (e p : Int) (w : World) (h : DIn w kr S σ) :
    Calls Tryd.prog 18 #[.pointer (some ⟨kr, 0, none⟩), .int .i64 e, .int .i64 p] w fun x w' => x = .returned (.tuple #[]) ∧ DIn w' kr S (failS e p σ) ∧ w.grownBy w' (some kr) := by
  obtain ⟨i, e0, q0⟩ := σ
  unfold DIn at *
  simp only at h
  have ⟨z0, p0, f0⟩ := h.at
  by_cases he : e0 = 0
  · have r1 : failS e p ⟨i, e0, q0⟩ = ⟨i, e, p⟩ := if_pos he
    rw [r1]
    have he' : (e0 == 0) = true := by simpa using he
    replace he := Hid.mk he
    replace h := Hid.mk h
    clear r1
    go_enter Tryd.func18, Tryd.ntmps18
    go_wp2_with fail
    simp [bodyPost, results, Tryd.results18, go_sem]
    exact ⟨(h.out.set 2 _).set 3 _, (grown_set _ _ _ _).trans (grown_set _ _ _ _)⟩
  · have r1 : failS e p ⟨i, e0, q0⟩ = ⟨i, e0, q0⟩ := if_neg he
    rw [r1]
    have he' : (e0 == 0) = false := by simpa using he
    replace he := Hid.mk he
    replace h := Hid.mk h
    clear r1
    go_enter Tryd.func18, Tryd.ntmps18
    go_wp2_with fail
    simp [bodyPost, results, Tryd.results18, go_sem]
    exact ⟨h.out, grown_of (Below.refl _ _) _⟩
set_option maxRecDepth 10000 in
set_option maxHeartbeats 1000000 in
theorem dtake_any (S : List UInt8) (kr : Nat) (n : Nat) (σ : RS) (w : World) (h : DIn w kr S σ) (hi : σ.In S) (hS : S.length ≤ 140737488355328) (hn : n ≤ 1000000) :
    Calls Tryd.prog 39 #[.pointer (some ⟨kr, 0, none⟩), .int .i64 n] w fun x w' => x = .returned (.string (str (takeV S n σ))) ∧ DIn w' kr S (takeS S n σ) ∧ w.grownBy w' (some kr) := by
  have hF := fun W h1 => dno_any S kr σ 41 S.length W h1
  obtain ⟨i, e0, q0⟩ := σ
  unfold RS.In at hi
  simp only at hi
  have ss := str_size S
  have ⟨z0, p0, f0⟩ := h.at
  by_cases he : e0 = 0
  · by_cases hc : i + n ≤ S.length
    · have r1 : takeS S n ⟨i, e0, q0⟩ = ⟨i + n, 0, q0⟩ := by unfold takeS; rw [if_pos he, if_pos hc]
      have r2 : takeV S n ⟨i, e0, q0⟩ = sub S i n := by unfold takeV; rw [if_pos he, if_pos hc]
      rw [r1, r2]
      subst he
      have d1 : ¬ ((S.length : Int) - i) < n := by omega
      have d2 : (i : Int) ≤ S.length := by omega
      have he := extract_any S i (i + n)
      have hsub : str ((S.take (i + n)).drop i) = str (sub S i n) := rfl
      rw [hsub] at he
      clear hsub r1 r2 hF
      replace h := Hid.mk h
      go_enter Tryd.func39, Tryd.ntmps39
      go_wp2_with fail
      go_quiet (fail)
      go_upto_region 6 with fail
      refine wp_world (fun W => DIn W kr S ⟨i + n, 0, q0⟩ ∧ w.grownBy W (some kr)) ⟨?_, ?_⟩ ?_
      · have := (h.out.below (w1 := w.drewN nq) ((Gr.refl w).drewN nq).below h.out.lt).set 1 (.int .i64 ((i + n : Nat) : Int))
        unfold DIn
        simpa using this
      · exact (grown_of ((Gr.refl w).drewN nq).below _).trans (grown_set _ _ _ _)
      clear z0 p0 f0 h
      rintro W ⟨h, hg⟩
      have ⟨z0, p0, f0⟩ := h.at
      have d3 : (i : Int) ≤ i + n := by omega
      have d4 : ((i : Int) + n) ≤ S.length := by omega
      have d5 : IntKind.i64.wrap ((i : Int) + n - n) = i := by rw [IntKind.wrap_i64]; omega
      have d6 : ((i : Int) + n).toNat = i + n := by omega
      replace h := Hid.mk h
      replace hg := Hid.mk hg
      go_quiet (fail)
      go_wp2_with fail
      go_ret
      exact ⟨by simp, h.out.below ((Gr.refl W).drewN _).below h.out.lt, hg.out.trans (grown_of ((Gr.refl W).drewN _).below _)⟩
    · have r1 : takeS S n ⟨i, e0, q0⟩ = ⟨i, 41, S.length⟩ := by unfold takeS; rw [if_pos he, if_neg hc]
      have r2 : takeV S n ⟨i, e0, q0⟩ = [] := by unfold takeV; rw [if_pos he, if_neg hc]
      have r3 : failS 41 S.length ⟨i, e0, q0⟩ = ⟨i, 41, S.length⟩ := if_pos he
      rw [r1, r2]
      rw [r3] at hF
      subst he
      have d1 : ((S.length : Int) - i) < n := by omega
      clear r1 r2 r3 hc
      replace h := Hid.mk h
      go_enter Tryd.func39, Tryd.ntmps39
      go_wp2_with fail
      go_quiet (fail)
      go_wp2_with fail
      refine (hF _ (h.out.gr ((Gr.refl w).drewN _))).mono ?_
      rintro x w1 ⟨rfl, h1, hg⟩
      have ⟨z1, p1, f1⟩ := h1.at
      replace hg := (grown_of ((Gr.refl w).drewN _).below (some kr)).trans hg
      replace h1 := Hid.mk h1
      replace hg := Hid.mk hg
      clear z0 p0 f0 hF h
      go_wp2_with fail
      go_ret
      exact ⟨rfl, h1.out, hg.out⟩
  · have r1 : takeS S n ⟨i, e0, q0⟩ = ⟨i, e0, q0⟩ := by unfold takeS; rw [if_neg he]
    have r2 : takeV S n ⟨i, e0, q0⟩ = [] := by unfold takeV; rw [if_neg he]
    rw [r1, r2]
    have he' : (e0 != 0) = true := by simpa using he
    have he2 : (e0 == 0) = false := by simpa using he
    replace he := Hid.mk he
    clear r1 r2 hF
    replace h := Hid.mk h
    go_enter Tryd.func39, Tryd.ntmps39
    go_wp2_with fail
    go_quiet (fail)
    go_wp2_with fail
    go_ret
    exact ⟨rfl, h.out.gr ((Gr.refl w).drewN _), grown_of ((Gr.refl w).drewN _).below _⟩
theorem leN_drop (T : List UInt8) (m : Nat) (h : m < T.length) : leN (T.drop m) = byteAt T m + 256 * leN (T.drop (m + 1)) := by
  rw [List.drop_eq_getElem_cons h]
  unfold byteAt
  rw [List.getD_eq_getElem?_getD, List.getElem?_eq_getElem h]
  rfl
set_option maxRecDepth 10000 in
set_option maxHeartbeats 1000000 in
theorem dnumber_any (S : List UInt8) (kr : Nat) (n : Nat) (σ : RS) (w : World) (h : DIn w kr S σ) (hi : σ.In S) (hS : S.length ≤ 140737488355328) (h8 : n ≤ 8) :
    Calls Tryd.prog 38 #[.pointer (some ⟨kr, 0, none⟩), .int .i64 n] w fun x w' => x = .returned (.int .u64 (numV S n σ)) ∧ DIn w' kr S (takeS S n σ) ∧ w.grownBy w' (some kr) := by
  have hl := takeV_len S n σ
  have hK := dtake_any S kr n σ w h hi hS (by omega)
  unfold numV
  generalize takeS S n σ = σ1 at *
  generalize takeV S n σ = T at *
  have ss := str_size T
  have e0 : IntKind.i64.wrap ((T.length : Int) - 1) = (T.length : Int) - 1 := by rw [IntKind.wrap_i64]; omega
  go_enter Tryd.func38, Tryd.ntmps38
  go_wp2_with fail
  refine hK.mono ?_
  rintro x w1 ⟨rfl, h1, hg⟩
  replace h1 := Hid.mk h1
  replace hg := Hid.mk hg
  clear h hi hK
  go_wp2_with fail
  clear e0
  go_loopw [6, 7] (fun v i wr => ∃ j : Nat, v = .int .u64 (leN (T.drop j)) ∧ i = .int .i64 ((j : Int) - 1) ∧ j ≤ T.length ∧ wr = w1) (fun _ i _ => (intOf i + 1).toNat)
  case atStart => exact ⟨T.length, by rw [List.drop_of_length_le (Nat.le_refl _)]; rfl, rfl, by omega, rfl⟩
  case round =>
    obtain ⟨j, rfl, rfl, hj, rfl⟩ := hrel
    cases j with
    | zero =>
      have j0 : ((0 : Nat) : Int) - 1 = -1 := by omega
      rw [j0]
      clear j0
      go_wp2_with fail
      go_ret
      exact ⟨by simp, h1.out, hg.out⟩
    | succ m =>
      have j0 : ((m + 1 : Nat) : Int) - 1 = m := by omega
      rw [j0]
      clear j0
      have jl : (m : Int) < T.length := by omega
      have hx := str_byte T m (by omega)
      have hnx := leN_drop T m (by omega)
      have hrg := leN_range (T.drop (m + 1))
      have hl2 : (T.drop (m + 1)).length ≤ 7 := by rw [List.length_drop]; omega
      have hp : (2 : Int) ^ (8 * (T.drop (m + 1)).length) ≤ 2 ^ 56 := by
        have h1 := Nat.pow_le_pow_right (n := 2) (by omega) (show 8 * (T.drop (m + 1)).length ≤ 56 by omega)
        have e1 : (2 : Int) ^ (8 * (T.drop (m + 1)).length) = ((2 ^ (8 * (T.drop (m + 1)).length) : Nat) : Int) := by simp
        rw [e1]
        omega
      obtain ⟨b0, b1⟩ := byteAt_range T m
      generalize byteAt T m = b at *
      generalize leN (T.drop (m + 1)) = x0 at *
      have y0 : 0 ≤ x0 := hrg.1
      have y1 : x0 < 2 ^ 56 := by omega
      have m1 : IntKind.u64.wrap (256 * x0) = 256 * x0 := by rw [IntKind.wrap_u64]; omega
      have m2 : IntKind.u64.wrap b = b := by rw [IntKind.wrap_u64]; omega
      have m3 : IntKind.u64.wrap (256 * x0 + b) = 256 * x0 + b := by rw [IntKind.wrap_u64]; omega
      have m4 : IntKind.i64.wrap ((m : Int) - 1) = (m : Int) - 1 := by rw [IntKind.wrap_i64]; omega
      replace hnx := Hid.mk hnx
      clear hrg hp hl2 b0 b1 y0 y1
      go_wp2_with fail
      exact ⟨⟨m, by rw [hnx.out, Int.add_comm], rfl, by omega, trivial⟩, by simp [intOf]⟩
set_option maxHeartbeats 1000000 in
theorem dcount_any (S : List UInt8) (kr : Nat) (n : Nat) (σ : RS) (w : World) (h : DIn w kr S σ) (hi : σ.In S) (hS : S.length ≤ 140737488355328) (h8 : n ≤ 7) :
    Calls Tryd.prog 14 #[.pointer (some ⟨kr, 0, none⟩), .int .i64 n] w fun x w' => x = .returned (.int .i64 (numV S n σ)) ∧ DIn w' kr S (takeS S n σ) ∧ w.grownBy w' (some kr) := by
  have hq := dnumber_any S kr n σ w h hi hS (by omega)
  have hw := count_w (S := S) (σ := σ) h8
  generalize numV S n σ = y at *
  generalize takeS S n σ = σ' at *
  go_enter Tryd.func14, Tryd.ntmps14
  go_wp2_with fail
  refine hq.mono ?_
  rintro x w1 ⟨rfl, h1, hg⟩
  replace h1 := Hid.mk h1
  replace hg := Hid.mk hg
  go_wp2_with fail
  go_ret
  exact ⟨rfl, h1.out, hg.out⟩
end Go.Proofs.YtdmkedpnkejpbaaDoor
