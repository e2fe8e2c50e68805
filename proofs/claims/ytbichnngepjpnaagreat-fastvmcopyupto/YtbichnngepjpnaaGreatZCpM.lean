import Derived.Test.YtbichnngepjpnaaGreatP50
/-
  Stage 13, fastvm: what the walk of FastvmCopy wants.
-/
namespace Go.Proofs.YtbichnngepjpnaaGreat
namespace Z
open Go.RowKit
open T (Sep Ob Kp Mf FlIn boxOb)

theorem inp_steps (P : Pr) (s : Fm) : ∀ k, (stepsM P s k).inp.length ≤ s.inp.length
  | 0 => Nat.le_refl _
  | k + 1 => by
    have ih := inp_steps P s k
    have e : stepsM P s (k + 1) = stepsM P (stepsM P s k) 1 := rfl
    rw [e]
    exact Nat.le_trans (inp_step P _) ih
theorem inp_run (P : Pr) (s : Fm) (k : Nat) : (runM P s k).inp.length ≤ s.inp.length := by
  have h := inp_steps P s k
  unfold runM
  split
  · exact h
  · exact h
theorem mz_st0 (R : Rp) (gate : Int) (A L : List Int) (mem : List UInt8) : MZ (st0 R gate A L mem).m := mz_lay mem
theorem okn_give {P : Pr} {n : Nat} {s : Fm} (h : s.Okn P n) (A : List Int) (hA : ∀ x ∈ A, Wd x) (hl : s.inp.length + A.length ≤ 140737488355328) : (giveM s A).Okn P n := by
  have h1 : ({ s with inp := s.inp ++ A } : Fm).Okn P n := ⟨h.g, h.p, h.r, h.st, h.fr, fun x hx => by
    rcases List.mem_append.1 hx with q | q
    · exact h.inp x q
    · exact hA x q, by
    show (s.inp ++ A).length ≤ _
    rw [List.length_append]
    exact hl, h.out, h.ol, h.tl, h.v⟩
  unfold giveM
  split
  · exact h1.end 0 0 wd0
  · exact h1
theorem give_inp (s : Fm) (A : List Int) : (giveM s A).inp = s.inp ++ A := by
  unfold giveM
  split <;> rfl
/-- Run of fuel that may lie below 0. -/
def runZ (P : Pr) (s : Fm) (M : Int) : Fm := if M < 0 then runM P s 0 else runM P s M.toNat
theorem okn_runZ (P : Pr) (ok : P.Ok) (rr : P.Rr) (s : Fm) (n : Nat) (hs : s.Okn P n) (M : Int) (hM : M < 200) : (runZ P s M).Okn P (n + 200) := by
  unfold runZ
  split
  · exact (okn_runM P ok rr s n hs 0).mono (by omega)
  · exact (okn_runM P ok rr s n hs M.toNat).mono (by omega)
theorem inp_runZ (P : Pr) (s : Fm) (M : Int) : (runZ P s M).inp.length ≤ s.inp.length := by
  unfold runZ
  split
  · exact inp_run P s 0
  · exact inp_run P s M.toNat
theorem run_z (P : Pr) (ok : P.Ok) (rr : P.Rr) (s : Fm) (c : Nat) (hs : s.Okn P c) (hc : c + 200 ≤ 1000000) (M : Int) (hM : M < 200) (t : Fm) (ht : runZ P s M = t) (B : Nat) (W : World) (a : Nat) (l : List Ob) (h : MIn B W a P s l) :
    Calls Tryz.prog 10 #[.pointer (some ⟨a, 0, none⟩), .int .i64 M] W fun x w' => x = .returned (.agg #[.int .i64 t.e, .int .u64 t.v, .int .i64 t.f, .int .i64 t.g, .int .i64 t.p]) ∧ MIn B w' a P t l ∧ Below B W w' := by
  unfold runZ at ht
  by_cases hn : M < 0
  · rw [if_pos hn] at ht
    exact run_negM P s M hn t ht B W a l h
  · rw [if_neg hn] at ht
    have q := run_oc P ok rr s c M.toNat hs (by omega) (by omega) t ht B W a l h
    rw [show ((M.toNat : Nat) : Int) = M by omega] at q
    exact q
theorem tmod60 (n : Int) (h : 0 ≤ n) : ∃ N : Nat, Int.tmod n 60 = (N : Int) ∧ N < 60 := by
  refine ⟨n.toNat % 60, ?_, Nat.mod_lt _ (by decide)⟩
  rw [Int.tmod_eq_emod_of_nonneg h]
  omega
theorem tmod200 (n : Int) : Int.tmod n 200 < 200 := Int.tmod_lt_of_pos n (by decide)
theorem wat7 {W : World} {k : Nat} (h : At W k #[.int .u64 7, .int .u64 7]) : WAtG W k 0 [7, 7] := fun i hi => by
  have hi2 : i < 2 := hi
  refine ⟨h.1, ?_⟩
  rw [h.2.1, Nat.zero_add]
  match i, hi2 with
  | 0, _ => rfl
  | 1, _ => rfl
theorem wat8 {W : World} {k : Nat} (h : At W k #[.int .u64 8]) : WAtG W k 0 [8] := fun i hi => by
  have hi2 : i < 1 := hi
  refine ⟨h.1, ?_⟩
  rw [h.2.1, Nat.zero_add]
  match i, hi2 with
  | 0, _ => rfl
theorem wd77 : ∀ x ∈ ([7, 7] : List Int), Wd x := fun x hx => by
  simp only [List.mem_cons, List.not_mem_nil, or_false, or_self] at hx
  subst hx
  exact ⟨by decide, by decide⟩
theorem wd8_ : ∀ x ∈ ([8] : List Int), Wd x := fun x hx => by
  simp only [List.mem_cons, List.not_mem_nil, or_false] at hx
  subst hx
  exact ⟨by decide, by decide⟩
theorem cp_next1 (k : Nat) : Value.int .i64 ((k : Int) + 1) = Value.int .i64 ((k + 1 : Nat) : Int) := rfl
theorem cp_meas (N k : Nat) (h : k < N) : N - (intOf (Value.int .i64 ((k : Int) + 1))).toNat < N - (intOf (Value.int .i64 (k : Int))).toNat := by
  simp [intOf]
  omega
end Z
end Go.Proofs.YtbichnngepjpnaaGreat
