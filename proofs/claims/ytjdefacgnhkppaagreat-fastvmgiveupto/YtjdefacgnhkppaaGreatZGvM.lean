import Derived.Test.YtjdefacgnhkppaaGreatZGiv
import Derived.Test.YtjdefacgnhkppaaGreatP42
/-
  Stage 13, fastvm: what the walk of FastvmGive wants.
-/
namespace Go.Proofs.YtjdefacgnhkppaaGreat
namespace Z
open Go.RowKit
open T (Sep Ob Kp Mf FlIn boxOb)

/-- What is left of the inputs. -/
def LfIn (B : Nat) (w : World) (la : Option Addr) (lc : Nat) (Lf : List Int) : Prop := Lf.length ≤ lc ∧ ((la = none ∧ lc = 0) ∨ ∃ b off, la = some ⟨b, off, none⟩ ∧ b < B ∧ b < w.heap.size ∧ ∀ i (h : i < Lf.length), w.cell? ⟨b, off + i, none⟩ = some (.int .u64 Lf[i]))
theorem LfIn.below {B : Nat} {w W : World} {la : Option Addr} {lc : Nat} {Lf : List Int} (h : LfIn B w la lc Lf) (q : Below B w W) : LfIn B W la lc Lf := by
  obtain ⟨h1, h2⟩ := h
  refine ⟨h1, ?_⟩
  rcases h2 with h2 | ⟨b, off, e, h3, h4, h5⟩
  · exact .inl h2
  · exact .inr ⟨b, off, e, h3, Nat.lt_of_lt_of_le h4 q.size, fun i hi => (T.cell_of_block (q.block b h3) _).trans (h5 i hi)⟩
theorem LfIn.cons {B : Nat} {w : World} {la : Option Addr} {lc : Nat} {x : Int} {Lf : List Int} (h : LfIn B w la lc (x :: Lf)) : ∃ b off, la = some ⟨b, off, none⟩ ∧ b < B ∧ b < w.heap.size ∧ Lf.length + 1 ≤ lc ∧ ∀ i (h : i < (x :: Lf).length), w.cell? ⟨b, off + i, none⟩ = some (.int .u64 (x :: Lf)[i]) := by
  obtain ⟨h1, h2⟩ := h
  rcases h2 with ⟨_, h2⟩ | ⟨b, off, e, h3, h4, h5⟩
  · simp only [List.length_cons] at h1
    omega
  · exact ⟨b, off, e, h3, h4, by simpa using h1, h5⟩
theorem LfIn.drop {B : Nat} {w : World} {b off lc n : Nat} {Lf : List Int} (hb : b < B) (hw : b < w.heap.size) (hc : ∀ i (h : i < Lf.length), w.cell? ⟨b, off + i, none⟩ = some (.int .u64 Lf[i])) (hl : Lf.length ≤ lc) : LfIn B w (some ⟨b, off + n, none⟩) (lc - n) (Lf.drop n) := by
  refine ⟨by rw [List.length_drop]; omega, .inr ⟨b, off + n, rfl, hb, hw, fun i hi => ?_⟩⟩
  rw [List.length_drop] at hi
  rw [show off + n + i = off + (n + i) by omega, hc (n + i) (by omega), List.getElem_drop]
theorem LfIn.empty {B : Nat} {w : World} {b off : Nat} (hb : b < B) (hw : b < w.heap.size) : LfIn B w (some ⟨b, off, none⟩) 0 [] := ⟨Nat.le_refl _, .inr ⟨b, off, rfl, hb, hw, fun i hi => absurd hi (Nat.not_lt_zero i)⟩⟩
theorem LfIn.of {w : World} {ia : Option Addr} {ic : Nat} {L : List Int} (h : InL w ia ic L) (hc : ∀ a, ia = some a → L.length ≤ ic) (B : Nat) (hB : w.heap.size ≤ B) : LfIn B w ia ic L := by
  rcases h with ⟨rfl, rfl, rfl⟩ | ⟨b, off, rfl, h3, h4⟩
  · exact ⟨Nat.le_refl _, .inl ⟨rfl, rfl⟩⟩
  · exact ⟨hc _ rfl, .inr ⟨b, off, rfl, by omega, h3, h4⟩⟩
theorem wat_take {B : Nat} {w : World} {b off n : Nat} {Lf : List Int} (hw : b < w.heap.size) (hc : ∀ i (h : i < Lf.length), w.cell? ⟨b, off + i, none⟩ = some (.int .u64 Lf[i])) (_ : B = B) : WAtG w b off (Lf.take n) := fun k hk => by
  rw [List.length_take] at hk
  refine ⟨hw, ?_⟩
  rw [hc k (by omega), List.getElem_take]
/-- One that waits for an input. -/
def starv (s : Fm) : Fm := { wI s [] with e := 6, v := 0, f := 0 }
/-- How the second machine stands to the first one, in the midst of a round. -/
def Wst (P : Pr) (s s1 : Fm) (Lf : List Int) (t : Fm) : Prop := (∃ I', t = wI s1 I' ∧ s1.inp = I' ++ Lf ∧ (s1.e = 6 → Lf = [])) ∨ (Lf ≠ [] ∧ s.inp = Lf ∧ t = starv s ∧ ∀ I2 L2, I2 ≠ [] → Lf = I2 ++ L2 → ∃ I3, stepsM P (wI s I2) 1 = wI s1 I3 ∧ s1.inp = I3 ++ L2 ∧ s1.e ≠ 6)
theorem wst_of {P : Pr} {s : Fm} {I Lf : List Int} (he : s.e = 0) (hs : s.inp = I ++ Lf) : Wst P s (stepsM P s 1) Lf (stepsM P (wI s I) 1) := by
  rcases al_cases P s I Lf he hs with h | ⟨h1, h2, h3, h4⟩
  · exact .inl h
  · exact .inr ⟨h2, by rw [hs, h1]; rfl, h3, h4⟩
theorem okn_wI {P : Pr} {n : Nat} {s : Fm} (h : s.Okn P n) {I Lf : List Int} (hs : s.inp = I ++ Lf) : (wI s I).Okn P n :=
  ⟨h.g, h.p, h.r, h.st, h.fr, fun x hx => h.inp x (by rw [hs]; exact List.mem_append_left _ hx), by
    have := h.il
    rw [hs, List.length_append] at this
    show I.length ≤ _
    omega, h.out, h.ol, h.tl, h.v⟩
theorem okn_starv {P : Pr} {n : Nat} {s : Fm} (h : s.Okn P n) : (starv s).Okn P n := (okn_wI h (I := []) (Lf := s.inp) rfl).end 6 0 wd0
theorem inp_step (P : Pr) (s : Fm) : (stepsM P s 1).inp.length ≤ s.inp.length := by
  by_cases he : s.e = 0
  · rw [step_one P s he]
    unfold stepM
    split
    · rename_i i hc
      by_cases hi : i.op = 29
      · rw [in_step P i s hi]
        unfold stp29
        split
        · exact Nat.le_refl _
        · rename_i hq
          rw [hq]
          exact Nat.le_succ _
      · rw [(noin_all P i s hi).2.1]
        exact Nat.le_refl _
    · exact Nat.le_refl _
  · rw [stepsM_end P s 1 he]
    exact Nat.le_refl _
theorem starv_step (P : Pr) (s : Fm) : stepsM P (starv s) 1 = starv s := stepsM_end P _ 1 (by show (6 : Int) ≠ 0; decide)
def slLen : Value → Nat
  | .slice _ n _ => n
  | _ => 0
/-- Raw numbers that came in. -/
def RIn (w : World) (a : Option Addr) (L : List Int) : Prop := ∀ i (h : i < L.length), ∃ b off : Nat, a = some ⟨b, off, none⟩ ∧ b < w.heap.size ∧ w.cell? ⟨b, off + i, none⟩ = some (.int .i64 L[i])
theorem RIn.below {w W : World} {a : Option Addr} {L : List Int} (h : RIn w a L) (g : Below w.heap.size w W) : RIn W a L := fun i hi => by
  obtain ⟨b, off, e1, e2, e3⟩ := h i hi
  exact ⟨b, off, e1, Nat.lt_of_lt_of_le e2 g.size, (T.cell_of_block (g.block b e2) _).trans e3⟩
theorem bgn_nil {w : World} {R : Rp} {ca ga : Option Addr} {mem : List UInt8} {A : List Int} {sa : Option Addr} {ia : Option Addr} {ic : Nat} {L : List Int} (h : Bgn w R ca ga mem A sa ia ic L) : Bgn w R ca ga mem A sa none 0 [] :=
  ⟨h.hP, h.wd, h.hA, h.Aw, .inl ⟨rfl, rfl, rfl⟩, fun _ q => (by cases q), h.c, h.r, h.g, Nat.zero_le _⟩
theorem st0_nil (R : Rp) (gate : Int) (A L : List Int) (mem : List UInt8) : st0 R gate A [] mem = wI (st0 R gate A L mem) [] := rfl
theorem st0_calm (R : Rp) (gate : Int) (A L : List Int) (mem : List UInt8) : Calm (st0 R gate A L mem) := ⟨rfl, rfl⟩
theorem st0_inp (R : Rp) (gate : Int) (A L : List Int) (mem : List UInt8) : (st0 R gate A L mem).inp = L := rfl
section
variable (B : Nat) (W : World) (b : Nat) (P : Pr) (s : Fm) (I : List Int) (l : List Ob)
theorem outs_w (h : MIn B W b P (wI s I) l) (hl : s.out.length ≤ 1000000) :
    Calls Tryz.prog 10 #[.pointer (some ⟨b, 0, none⟩)] W fun x w' => ∃ va c, x = .returned (.slice va s.out.length c) ∧ WIn w' va s.out ∧ Below W.heap.size W w' := outs_any B W b P (wI s I) l h hl
theorem tcs_w (h : MIn B W b P (wI s I) l) (hl : s.tc.length ≤ 1000000) :
    Calls Tryz.prog 12 #[.pointer (some ⟨b, 0, none⟩)] W fun x w' => ∃ va c, x = .returned (.slice va s.tc.length c) ∧ T.EIn 3 Tc.vals w' va s.tc ∧ Below W.heap.size W w' := tcs_any B W b P (wI s I) l h hl
theorem snap_w (h : MIn B W b P (wI s I) l) :
    Calls Tryz.prog 8 #[.pointer (some ⟨b, 0, none⟩)] W fun x w' => x = .returned (.agg (snV s.g s.p s.st.length s.r).toArray) ∧ Gr W w' := snap_any B W b P (wI s I) l h
theorem memory_w (h : MIn B W b P (wI s I) l) :
    Calls Tryz.prog 13 #[.pointer (some ⟨b, 0, none⟩)] W fun x w' => x = .returned (.string ⟨(T.rowB s.m 0 65536).toArray⟩) ∧ Below W.heap.size W w' := memory_any B W b P (wI s I) l h
end
theorem M2.dropG {B : Nat} {W : World} {P : Pr} {a b : Nat} {s t : Fm} {o : Ob} {l : List Ob} (h : M2 B W P a s b t (o :: l)) : M2 B W P a s b t l := by
  obtain ⟨q, ⟨q2, h1⟩, le⟩ := h
  refine ⟨q, ⟨q2, ?_⟩, le⟩
  have e : obs B a P s q2 ++ (obs B b P t q ++ o :: l) = (obs B a P s q2 ++ obs B b P t q) ++ o :: l := (List.append_assoc _ _ _).symm
  rw [e] at h1
  have h2 := sep_tail (sep_perm h1 List.perm_middle)
  rwa [List.append_assoc] at h2
/-- The two boxes beside them change places. -/
theorem M2.swapG {B : Nat} {W : World} {P : Pr} {a b : Nat} {s t : Fm} {o p : Ob} {l : List Ob} (h : M2 B W P a s b t (o :: p :: l)) : M2 B W P a s b t (p :: o :: l) := by
  obtain ⟨q, ⟨q2, h1⟩, le⟩ := h
  exact ⟨q, ⟨q2, sep_perm h1 (List.Perm.append_left _ (List.Perm.append_left _ (List.Perm.swap p o l)))⟩, le⟩
end Z
end Go.Proofs.YtjdefacgnhkppaaGreat
