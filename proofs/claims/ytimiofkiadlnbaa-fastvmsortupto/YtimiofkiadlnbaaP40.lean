import Derived.Test.YtimiofkiadlnbaaP39
import Derived.Test.YtimiofkiadlnbaaZNew
import Derived.Test.YtimiofkiadlnbaaP38
/-
  Stage 13, fastvm: New of what is raw.
-/
namespace Go.Proofs.Ytimiofkiadlnbaa
namespace Z
open Go.RowKit
open T (Sep Ob Kp Mf FlIn boxOb)

set_option maxRecDepth 100000 in
set_option maxHeartbeats 4000000 in
theorem new_no70 (R : Rp) (ca ga : Option Addr) (cc gc : Nat) (mem : List UInt8) (gate : Int) (sa : Option Addr) (n sc : Nat) (vi : Value) (w : World) (hP : RpIn w ca ga R) (is : R.Is) (h : ¬ (R.Ok (T.str mem).size ∧ 0 ≤ gate ∧ gate < (R.gates.length : Int))) :
    Calls Try.prog 6 #[.agg #[.slice ca R.code.length cc, .slice ga R.gates.length gc, .string (T.str mem), .int .i64 R.dep], .int .i64 gate, .slice sa n sc, vi] w fun x w' => x = .returned (.tuple #[.pointer none, .int .i64 70]) ∧ Gr w w' := by
  go_enter Try.func6, Try.ntmps6
  go_upto_region 1 with fail
  refine wp_world (fun W => At W w.heap.size #[.slice ca R.code.length cc, .slice ga R.gates.length gc, .string (T.str mem), .int .i64 R.dep] ∧ Gr w W) ⟨At.new w _ _, (Gr.refl _).alloc _⟩ ?_
  rintro W ⟨hA, G⟩
  generalize w.heap.size = kp at *
  have d0 : W.cell? ⟨kp, 0, none⟩ = some (.slice ca R.code.length cc) := hA.2.1 0
  have d1 : W.cell? ⟨kp, 1, none⟩ = some (.slice ga R.gates.length gc) := hA.2.1 1
  have d2 : W.cell? ⟨kp, 2, none⟩ = some (.string (T.str mem)) := hA.2.1 2
  have d3 : W.cell? ⟨kp, 3, none⟩ = some (.int .i64 R.dep) := hA.2.1 3
  have hmy := Hz.mk (mayBe_any R ca ga cc gc (T.str mem) W (hP.gr G) is)
  replace hP := Hz.mk (hP.gr G)
  go_wp2_with fail
  refine hmy.out.mono ?_
  rintro r V ⟨⟨b, rfl, hb⟩, gV⟩
  replace hA := hA.gr gV
  replace G := G.trans gV
  replace hP := Hz.mk (hP.out.gr gV)
  clear d0 d1 d2 d3 hmy gV
  have d1 : V.cell? ⟨kp, 1, none⟩ = some (.slice ga R.gates.length gc) := hA.2.1 1
  replace hA := Hz.mk hA
  cases b
  · clear h hb
    go_wp2_with fail
    go_ret2
    exact ⟨rfl, G⟩
  · have ok := Hz.mk (hb.1 rfl)
    clear hb
    by_cases h0 : gate < 0
    · clear h
      go_wp2_with fail
      go_ret2
      exact ⟨rfl, G⟩
    · have h1 : (R.gates.length : Int) ≤ gate := by
        by_cases q : gate < (R.gates.length : Int)
        · exact absurd ⟨ok.out, by omega, q⟩ h
        · omega
      clear h
      go_wp2_with fail
      go_ret2
      exact ⟨rfl, G⟩
set_option maxRecDepth 100000 in
set_option maxHeartbeats 4000000 in
theorem new_no71 (R : Rp) (ca ga : Option Addr) (cc gc : Nat) (mem : List UInt8) (gate : Nat) (sa : Option Addr) (n sc : Nat) (vi : Value) (w : World) (hP : RpIn w ca ga R) (is : R.Is) (ok : R.Ok (T.str mem).size) (hg : gate < R.gates.length) (h : (n : Int) ≠ R.gates[gate].a) :
    Calls Try.prog 6 #[.agg #[.slice ca R.code.length cc, .slice ga R.gates.length gc, .string (T.str mem), .int .i64 R.dep], .int .i64 gate, .slice sa n sc, vi] w fun x w' => x = .returned (.tuple #[.pointer none, .int .i64 71]) ∧ Gr w w' := by
  have h2 : ((n : Int) != R.gates[gate].a) = true := by simpa using h
  replace ok := Hz.mk ok
  replace h := Hz.mk h
  have hi : (gate : Int) < (R.gates.length : Int) := Int.ofNat_lt.2 hg
  have hi2 : ¬ (R.gates.length : Int) ≤ (gate : Int) := by omega
  go_enter Try.func6, Try.ntmps6
  go_upto_region 1 with fail
  refine wp_world (fun W => At W w.heap.size #[.slice ca R.code.length cc, .slice ga R.gates.length gc, .string (T.str mem), .int .i64 R.dep] ∧ Gr w W) ⟨At.new w _ _, (Gr.refl _).alloc _⟩ ?_
  rintro W ⟨hA, G⟩
  generalize w.heap.size = kp at *
  have d0 : W.cell? ⟨kp, 0, none⟩ = some (.slice ca R.code.length cc) := hA.2.1 0
  have d1 : W.cell? ⟨kp, 1, none⟩ = some (.slice ga R.gates.length gc) := hA.2.1 1
  have d2 : W.cell? ⟨kp, 2, none⟩ = some (.string (T.str mem)) := hA.2.1 2
  have d3 : W.cell? ⟨kp, 3, none⟩ = some (.int .i64 R.dep) := hA.2.1 3
  have hmy := Hz.mk (mayBe_any R ca ga cc gc (T.str mem) W (hP.gr G) is)
  replace hP := Hz.mk (hP.gr G)
  go_wp2_with fail
  refine hmy.out.mono ?_
  rintro r V ⟨⟨b, rfl, hb⟩, gV⟩
  replace hA := hA.gr gV
  replace G := G.trans gV
  replace hP := Hz.mk (hP.out.gr gV)
  clear d0 d1 d2 d3 hmy gV
  have d1 : V.cell? ⟨kp, 1, none⟩ = some (.slice ga R.gates.length gc) := hA.2.1 1
  replace hA := Hz.mk hA
  obtain rfl : b = true := hb.2 ok.out
  clear hb
  obtain ⟨gb, goff, rfl, _, hr⟩ := hP.out.gate gate hg
  have d5 : V.cell? ⟨gb, goff + gate * 19 + 1, none⟩ = some (.int .i64 R.gates[gate].a) := hr 1 _ rfl
  replace hr := Hz.mk hr
  go_wp2_with fail
  go_ret2
  exact ⟨rfl, G⟩
set_option maxRecDepth 100000 in
set_option maxHeartbeats 4000000 in
theorem new_raw (R : Rp) (ca ga : Option Addr) (cc gc : Nat) (mem : List UInt8) (gate : Nat) (sa : Option Addr) (n sc : Nat) (A : Nat → Int) (ia : Option Addr) (ic : Nat) (L : List Int) (w : World) (hP : RpIn w ca ga R) (is : R.Is) (ok : R.Ok mem.length) (hgl : gate < R.gates.length) (hna : (n : Int) = R.gates[gate].a) (hsrc : n = 0 ∨ ∃ sb so, sa = some ⟨sb, so, none⟩ ∧ sb < w.heap.size ∧ ∀ j, j < n → w.cell? ⟨sb, so + j, none⟩ = some (.int .u64 (A j))) (hL : L.length ≤ 2000000) (hI : (ia = none ∧ L = [] ∧ ic = 0) ∨ ∃ b off, ia = some ⟨b, off, none⟩ ∧ b < w.heap.size ∧ ∀ i (h : i < L.length), w.cell? ⟨b, off + i, none⟩ = some (.int .u64 L[i])) :
    Calls Try.prog 6 #[.agg #[.slice ca R.code.length cc, .slice ga R.gates.length gc, .string (T.str mem), .int .i64 R.dep], .int .i64 gate, .slice sa n sc, .slice ia L.length ic] w fun x w' => ∃ a, x = .returned (.tuple #[.pointer (some ⟨a, 0, none⟩), .int .i64 0]) ∧ MIn w.heap.size w' a R.pr (start R.gates[gate].fg gate n A L mem) [] ∧ Below w.heap.size w w' := by
  have e1 : R.pr.code.length = R.code.length := by simp [Rp.pr]
  have e2 : R.pr.gates.length = R.gates.length := by simp [Rp.pr]
  have hg2 : gate < R.pr.gates.length := by rw [e2]; exact hgl
  have e3 : R.pr.gates[gate] = R.gates[gate].fg := by simp [Rp.pr]
  have hs : n = R.pr.gates[gate].a := by
    rw [e3]
    show n = R.gates[gate].a.toNat
    omega
  have h := new_ok R.pr ca ga cc gc mem gate sa n sc A ia ic L w (ok.rw is hP) (ok.pr is) ok.mm hg2 hs hsrc hL hI
  rw [e1, e2, e3] at h
  exact h
/-- How a machine begins is in order. -/
theorem start_ok (R : Rp) (m : Nat) (gate n : Nat) (A : Nat → Int) (L : List Int) (mem : List UInt8) (ok : R.Ok m) (rr : ∀ k (h : k < R.gates.length) j, 0 ≤ R.gates[k].r j ∧ R.gates[k].r j < 18446744073709551616) (hg : gate < R.gates.length) (hA : ∀ j, 0 ≤ A j ∧ A j < 18446744073709551616) : (start R.gates[gate].fg gate n A L mem).g < R.pr.code.length ∧ (start R.gates[gate].fg gate n A L mem).p ≤ 400 ∧ ∀ j, 0 ≤ (start R.gates[gate].fg gate n A L mem).r j ∧ (start R.gates[gate].fg gate n A L mem).r j < 18446744073709551616 := by
  obtain ⟨_, h2, hrow, hgt⟩ := ok.gt gate hg
  refine ⟨?_, ?_, fun j => ?_⟩
  · show gate < (R.code.map _).length
    simpa using h2
  · show R.gates[gate].e.toNat ≤ 400
    have h3 := hgt.1
    have h4 := hrow.1
    omega
  · show 0 ≤ entR R.gates[gate].fg n A j ∧ entR R.gates[gate].fg n A j < 18446744073709551616
    unfold entR
    split
    · exact hA _
    · exact rr gate hg j
end Z
end Go.Proofs.Ytimiofkiadlnbaa


/-
  Stage 13, fastvm: how a machine begins is in order.
-/
namespace Go.Proofs.Ytimiofkiadlnbaa
namespace Z
open Go.RowKit
open T (Sep Ob Kp Mf FlIn boxOb)

/-- What values of their types are. -/
structure Rp.Wds (R : Rp) : Prop where
  code : R.Is
  root : ∀ g ∈ R.gates, ∀ j, Wd (g.r j)
theorem Rp.Wds.rr {R : Rp} (h : R.Wds) : R.pr.Rr := by
  intro k j
  unfold Pr.gate
  by_cases hk : k < R.gates.length
  · have e : R.pr.gates.getD k ⟨0, 0, 0, fun _ => 0⟩ = R.gates[k].fg := by simp [Rp.pr, hk]
    rw [e]
    exact h.root _ (List.getElem_mem hk) j
  · have e : R.pr.gates.getD k ⟨0, 0, 0, fun _ => 0⟩ = ⟨0, 0, 0, fun _ => 0⟩ := by
      have : R.pr.gates.length ≤ k := by simp [Rp.pr]; omega
      simp [this]
    rw [e]
    exact wd0
theorem start_okn (R : Rp) (m : Nat) (gate n : Nat) (A : Nat → Int) (L : List Int) (mem : List UInt8) (h : R.Wds) (ok : R.Ok m) (hg : gate < R.gates.length) (hA : ∀ j, Wd (A j)) (hL : ∀ x ∈ L, Wd x) (hl : L.length ≤ 2000000) : (start R.gates[gate].fg gate n A L mem).Okn R.pr 0 := by
  obtain ⟨h1, h2, h3⟩ := start_ok R m gate n A L mem ok (fun k hk j => h.root _ (List.getElem_mem hk) j) hg hA
  refine ⟨h1, h2, h3, ?_, fun f hf => ?_, hL, ?_, fun x hx => ?_, Nat.le_refl _, Nat.le_refl _, wd0⟩
  · show ((0 : Nat) : Int) ≤ R.dep
    have := ok.dp
    omega
  · cases hf
  · show L.length ≤ _
    omega
  · cases hx
/-- Run of fuel below 0. -/
theorem runM_zero (P : Pr) (s : Fm) : runM P s 0 = if s.e = 0 then sp s else s := rfl
/-- So many steps one by one. -/
def onesM (P : Pr) (s : Fm) : Nat → Fm
  | 0 => s
  | k + 1 => stepsM P (onesM P s k) 1
theorem ones_steps (P : Pr) (s : Fm) (k : Nat) : onesM P s k = stepsM P s k := by
  induction k with
  | zero => rfl
  | succ k ih =>
    show stepsM P (onesM P s k) 1 = _
    rw [ih]
    rfl
/-- Behind the end nothing changes. -/
theorem stepsM_end (P : Pr) (s : Fm) (n : Nat) (h : s.e ≠ 0) : stepsM P s n = s := by
  have := stepsM_over P s 0 n h
  rwa [Nat.zero_add] at this
theorem runM_end (P : Pr) (s : Fm) (n : Nat) (h : s.e ≠ 0) : runM P s n = s := by
  unfold runM
  rw [stepsM_end P s n h, if_neg h]
theorem runM_e (P : Pr) (s : Fm) (n : Nat) : (runM P s n).e ≠ 0 := by
  unfold runM
  split
  · show (4 : Int) ≠ 0
    decide
  · assumption
end Z
end Go.Proofs.Ytimiofkiadlnbaa
