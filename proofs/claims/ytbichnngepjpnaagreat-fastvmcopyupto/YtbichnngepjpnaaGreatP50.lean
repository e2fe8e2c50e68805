import Derived.Test.YtbichnngepjpnaaGreatZGiv
import Derived.Test.YtbichnngepjpnaaGreatP42
import Derived.Test.YtbichnngepjpnaaGreatZCopC
import Derived.Test.YtbichnngepjpnaaGreatP36
/-
  Stage 13, fastvm: what the walk of FastvmGive wants.
-/
namespace Go.Proofs.YtbichnngepjpnaaGreat
namespace Z
open Go.RowKit
open T (Sep Ob Kp Mf FlIn boxOb)

/-- What is left of the inputs. -/
def LfIn (B : Nat) (w : World) (la : Option Addr) (lc : Nat) (Lf : List Int) : Prop := Lf.length ≤ lc ∧ ((la = none ∧ lc = 0) ∨ ∃ b off, la = some ⟨b, off, none⟩ ∧ b < B ∧ b < w.heap.size ∧ ∀ i (h : i < Lf.length), w.cell? ⟨b, off + i, none⟩ = some (.int .u64 Lf[i]))
theorem LfIn.below {B : Nat} {w W : World} {la : Option Addr} {lc : Nat} {Lf : List Int} (h : LfIn B w la lc Lf) (q : Below B w W) : LfIn B W la lc Lf := by
  obtain ⟨h1, h2⟩ := h
  refine ⟨h1, ?_⟩
  rcases h2 with h2 | ⟨b, off, e, h3, h4, h5⟩
  · exact .inl h2
  · exact .inr ⟨b, off, e, h3, Nat.lt_of_lt_of_le h4 q.size, fun i hi => (T.cell_of_block (q.block b h3) _).trans (h5 i hi)⟩
theorem LfIn.cons {B : Nat} {w : World} {la : Option Addr} {lc : Nat} {x : Int} {Lf : List Int} (h : LfIn B w la lc (x :: Lf)) : ∃ b off, la = some ⟨b, off, none⟩ ∧ b < B ∧ b < w.heap.size ∧ Lf.length + 1 ≤ lc ∧ ∀ i (h : i < (x :: Lf).length), w.cell? ⟨b, off + i, none⟩ = some (.int .u64 (x :: Lf)[i]) := by
  obtain ⟨h1, h2⟩ := h
  rcases h2 with ⟨_, h2⟩ | ⟨b, off, e, h3, h4, h5⟩
  · simp only [List.length_cons] at h1
    omega
  · exact ⟨b, off, e, h3, h4, by simpa using h1, h5⟩
theorem LfIn.drop {B : Nat} {w : World} {b off lc n : Nat} {Lf : List Int} (hb : b < B) (hw : b < w.heap.size) (hc : ∀ i (h : i < Lf.length), w.cell? ⟨b, off + i, none⟩ = some (.int .u64 Lf[i])) (hl : Lf.length ≤ lc) : LfIn B w (some ⟨b, off + n, none⟩) (lc - n) (Lf.drop n) := by
  refine ⟨by rw [List.length_drop]; omega, .inr ⟨b, off + n, rfl, hb, hw, fun i hi => ?_⟩⟩
  rw [List.length_drop] at hi
  rw [show off + n + i = off + (n + i) by omega, hc (n + i) (by omega), List.getElem_drop]
theorem LfIn.empty {B : Nat} {w : World} {b off : Nat} (hb : b < B) (hw : b < w.heap.size) : LfIn B w (some ⟨b, off, none⟩) 0 [] := ⟨Nat.le_refl _, .inr ⟨b, off, rfl, hb, hw, fun i hi => absurd hi (Nat.not_lt_zero i)⟩⟩
theorem LfIn.of {w : World} {ia : Option Addr} {ic : Nat} {L : List Int} (h : InL w ia ic L) (hc : ∀ a, ia = some a → L.length ≤ ic) (B : Nat) (hB : w.heap.size ≤ B) : LfIn B w ia ic L := by
  rcases h with ⟨rfl, rfl, rfl⟩ | ⟨b, off, rfl, h3, h4⟩
  · exact ⟨Nat.le_refl _, .inl ⟨rfl, rfl⟩⟩
  · exact ⟨hc _ rfl, .inr ⟨b, off, rfl, by omega, h3, h4⟩⟩
theorem wat_take {B : Nat} {w : World} {b off n : Nat} {Lf : List Int} (hw : b < w.heap.size) (hc : ∀ i (h : i < Lf.length), w.cell? ⟨b, off + i, none⟩ = some (.int .u64 Lf[i])) (_ : B = B) : WAtG w b off (Lf.take n) := fun k hk => by
  rw [List.length_take] at hk
  refine ⟨hw, ?_⟩
  rw [hc k (by omega), List.getElem_take]
/-- One that waits for an input. -/
def starv (s : Fm) : Fm := { wI s [] with e := 6, v := 0, f := 0 }
/-- How the second machine stands to the first one, in the midst of a round. -/
def Wst (P : Pr) (s s1 : Fm) (Lf : List Int) (t : Fm) : Prop := (∃ I', t = wI s1 I' ∧ s1.inp = I' ++ Lf ∧ (s1.e = 6 → Lf = [])) ∨ (Lf ≠ [] ∧ s.inp = Lf ∧ t = starv s ∧ ∀ I2 L2, I2 ≠ [] → Lf = I2 ++ L2 → ∃ I3, stepsM P (wI s I2) 1 = wI s1 I3 ∧ s1.inp = I3 ++ L2 ∧ s1.e ≠ 6)
theorem wst_of {P : Pr} {s : Fm} {I Lf : List Int} (he : s.e = 0) (hs : s.inp = I ++ Lf) : Wst P s (stepsM P s 1) Lf (stepsM P (wI s I) 1) := by
  rcases al_cases P s I Lf he hs with h | ⟨h1, h2, h3, h4⟩
  · exact .inl h
  · exact .inr ⟨h2, by rw [hs, h1]; rfl, h3, h4⟩
theorem okn_wI {P : Pr} {n : Nat} {s : Fm} (h : s.Okn P n) {I Lf : List Int} (hs : s.inp = I ++ Lf) : (wI s I).Okn P n :=
  ⟨h.g, h.p, h.r, h.st, h.fr, fun x hx => h.inp x (by rw [hs]; exact List.mem_append_left _ hx), by
    have := h.il
    rw [hs, List.length_append] at this
    show I.length ≤ _
    omega, h.out, h.ol, h.tl, h.v⟩
theorem okn_starv {P : Pr} {n : Nat} {s : Fm} (h : s.Okn P n) : (starv s).Okn P n := (okn_wI h (I := []) (Lf := s.inp) rfl).end 6 0 wd0
theorem inp_step (P : Pr) (s : Fm) : (stepsM P s 1).inp.length ≤ s.inp.length := by
  by_cases he : s.e = 0
  · rw [step_one P s he]
    unfold stepM
    split
    · rename_i i hc
      by_cases hi : i.op = 29
      · rw [in_step P i s hi]
        unfold stp29
        split
        · exact Nat.le_refl _
        · rename_i hq
          rw [hq]
          exact Nat.le_succ _
      · rw [(noin_all P i s hi).2.1]
        exact Nat.le_refl _
    · exact Nat.le_refl _
  · rw [stepsM_end P s 1 he]
    exact Nat.le_refl _
theorem starv_step (P : Pr) (s : Fm) : stepsM P (starv s) 1 = starv s := stepsM_end P _ 1 (by show (6 : Int) ≠ 0; decide)
def slLen : Value → Nat
  | .slice _ n _ => n
  | _ => 0
/-- Raw numbers that came in. -/
def RIn (w : World) (a : Option Addr) (L : List Int) : Prop := ∀ i (h : i < L.length), ∃ b off : Nat, a = some ⟨b, off, none⟩ ∧ b < w.heap.size ∧ w.cell? ⟨b, off + i, none⟩ = some (.int .i64 L[i])
theorem RIn.below {w W : World} {a : Option Addr} {L : List Int} (h : RIn w a L) (g : Below w.heap.size w W) : RIn W a L := fun i hi => by
  obtain ⟨b, off, e1, e2, e3⟩ := h i hi
  exact ⟨b, off, e1, Nat.lt_of_lt_of_le e2 g.size, (T.cell_of_block (g.block b e2) _).trans e3⟩
theorem bgn_nil {w : World} {R : Rp} {ca ga : Option Addr} {mem : List UInt8} {A : List Int} {sa : Option Addr} {ia : Option Addr} {ic : Nat} {L : List Int} (h : Bgn w R ca ga mem A sa ia ic L) : Bgn w R ca ga mem A sa none 0 [] :=
  ⟨h.hP, h.wd, h.hA, h.Aw, .inl ⟨rfl, rfl, rfl⟩, fun _ q => (by cases q), h.c, h.r, h.g, Nat.zero_le _⟩
theorem st0_nil (R : Rp) (gate : Int) (A L : List Int) (mem : List UInt8) : st0 R gate A [] mem = wI (st0 R gate A L mem) [] := rfl
theorem st0_calm (R : Rp) (gate : Int) (A L : List Int) (mem : List UInt8) : Calm (st0 R gate A L mem) := ⟨rfl, rfl⟩
theorem st0_inp (R : Rp) (gate : Int) (A L : List Int) (mem : List UInt8) : (st0 R gate A L mem).inp = L := rfl
section
variable (B : Nat) (W : World) (b : Nat) (P : Pr) (s : Fm) (I : List Int) (l : List Ob)
theorem outs_w (h : MIn B W b P (wI s I) l) (hl : s.out.length ≤ 1000000) :
    Calls Tryz.prog 12 #[.pointer (some ⟨b, 0, none⟩)] W fun x w' => ∃ va c, x = .returned (.slice va s.out.length c) ∧ WIn w' va s.out ∧ Below W.heap.size W w' := outs_any B W b P (wI s I) l h hl
theorem tcs_w (h : MIn B W b P (wI s I) l) (hl : s.tc.length ≤ 1000000) :
    Calls Tryz.prog 14 #[.pointer (some ⟨b, 0, none⟩)] W fun x w' => ∃ va c, x = .returned (.slice va s.tc.length c) ∧ T.EIn 3 Tc.vals w' va s.tc ∧ Below W.heap.size W w' := tcs_any B W b P (wI s I) l h hl
theorem snap_w (h : MIn B W b P (wI s I) l) :
    Calls Tryz.prog 8 #[.pointer (some ⟨b, 0, none⟩)] W fun x w' => x = .returned (.agg (snV s.g s.p s.st.length s.r).toArray) ∧ Gr W w' := snap_any B W b P (wI s I) l h
theorem memory_w (h : MIn B W b P (wI s I) l) :
    Calls Tryz.prog 15 #[.pointer (some ⟨b, 0, none⟩)] W fun x w' => x = .returned (.string ⟨(T.rowB s.m 0 65536).toArray⟩) ∧ Below W.heap.size W w' := memory_any B W b P (wI s I) l h
end
theorem M2.dropG {B : Nat} {W : World} {P : Pr} {a b : Nat} {s t : Fm} {o : Ob} {l : List Ob} (h : M2 B W P a s b t (o :: l)) : M2 B W P a s b t l := by
  obtain ⟨q, ⟨q2, h1⟩, le⟩ := h
  refine ⟨q, ⟨q2, ?_⟩, le⟩
  have e : obs B a P s q2 ++ (obs B b P t q ++ o :: l) = (obs B a P s q2 ++ obs B b P t q) ++ o :: l := (List.append_assoc _ _ _).symm
  rw [e] at h1
  have h2 := sep_tail (sep_perm h1 List.perm_middle)
  rwa [List.append_assoc] at h2
/-- The two boxes beside them change places. -/
theorem M2.swapG {B : Nat} {W : World} {P : Pr} {a b : Nat} {s t : Fm} {o p : Ob} {l : List Ob} (h : M2 B W P a s b t (o :: p :: l)) : M2 B W P a s b t (p :: o :: l) := by
  obtain ⟨q, ⟨q2, h1⟩, le⟩ := h
  exact ⟨q, ⟨q2, sep_perm h1 (List.Perm.append_left _ (List.Perm.append_left _ (List.Perm.swap p o l)))⟩, le⟩
end Z
end Go.Proofs.YtbichnngepjpnaaGreat


/-
  Stage 13, fastvm: many machines in one memory.
-/
namespace Go.Proofs.YtbichnngepjpnaaGreat
namespace Z
open Go.RowKit
open T (Sep Ob Kp Mf FlIn boxOb)

/-- What some machines are made of. -/
def Ms (B : Nat) (P : Pr) : List (Nat × Fm) → List Ob → Prop
  | [], L => L = []
  | x :: r, L => ∃ q L', L = obs B x.1 P x.2 q ++ L' ∧ Ms B P r L'
theorem Ms.perm {B : Nat} {P : Pr} {m m' : List (Nat × Fm)} (h : m.Perm m') : ∀ L, Ms B P m L → ∃ L', Ms B P m' L' ∧ L.Perm L' := by
  induction h with
  | nil => exact fun L h => ⟨L, h, .refl _⟩
  | cons x _ ih =>
    rintro L ⟨q, L1, rfl, h1⟩
    obtain ⟨L2, h2, h3⟩ := ih L1 h1
    exact ⟨_, ⟨q, L2, rfl, h2⟩, List.Perm.append_left _ h3⟩
  | swap x y r =>
    rintro L ⟨q, L1, rfl, q2, L2, rfl, h2⟩
    exact ⟨_, ⟨q2, _, rfl, q, L2, rfl, h2⟩, List.perm_append_comm_assoc _ _ _⟩
  | trans _ _ ih1 ih2 =>
    intro L h
    obtain ⟨L1, h1, p1⟩ := ih1 L h
    obtain ⟨L2, h2, p2⟩ := ih2 L1 h1
    exact ⟨L2, h2, p1.trans p2⟩
def MS (B : Nat) (W : World) (P : Pr) (m : List (Nat × Fm)) (l : List Ob) : Prop := ∃ L, Ms B P m L ∧ Sep B W (L ++ l) ∧ B ≤ W.heap.size
section
variable {B : Nat} {W W' : World} {P : Pr} {m m' : List (Nat × Fm)} {l : List Ob} {a : Nat} {s s' : Fm}
theorem MS.perm (h : MS B W P m l) (p : m.Perm m') : MS B W P m' l := by
  obtain ⟨L, h1, h2, h3⟩ := h
  obtain ⟨L', h4, h5⟩ := h1.perm p
  exact ⟨L', h4, sep_perm h2 (List.Perm.append_right _ h5), h3⟩
theorem MS.le (h : MS B W P m l) : B ≤ W.heap.size := by
  obtain ⟨L, h1, h2, h3⟩ := h
  exact h3
theorem MS.gr (h : MS B W P m l) (hb : Below W.heap.size W W') : MS B W' P m l := by
  obtain ⟨L, h1, h2, h3⟩ := h
  exact ⟨L, h1, h2.gr hb, Nat.le_trans h3 hb.size⟩
theorem MS.there (h : MS B W P m l) (o : Ob) (ho : o ∈ l) : o.In W := by
  obtain ⟨L, h1, h2, h3⟩ := h
  exact h2.ins o (by simp [ho])
theorem MS.one (h : MS B W P ((a, s) :: m) l) : ∃ l', MIn B W a P s l' := by
  obtain ⟨L, ⟨q, L1, rfl, h1⟩, h2, h3⟩ := h
  rw [List.append_assoc] at h2
  exact ⟨_, ⟨q, h2⟩, h3⟩
theorem MS.call (h : MS B W P ((a, s) :: m) l) {f : Nat} {args : Array Value} {r : Ending} (hc : ∀ l', MIn B W a P s l' → Calls Tryz.prog f args W fun x w' => x = r ∧ MIn B w' a P s' l' ∧ Below B W w') :
    Calls Tryz.prog f args W fun x w' => x = r ∧ MS B w' P ((a, s') :: m) l ∧ Below B W w' := by
  obtain ⟨L, ⟨q, L1, rfl, h1⟩, h2, h3⟩ := h
  rw [List.append_assoc] at h2
  refine (hc _ ⟨⟨q, h2⟩, h3⟩).mono ?_
  rintro x w' ⟨e, ⟨⟨q', h4⟩, h5⟩, h6⟩
  exact ⟨e, ⟨_, ⟨q', L1, rfl, h1⟩, by rw [List.append_assoc]; exact h4, h5⟩, h6⟩
theorem MS.new (h : MS B W P m l) (cs : Array Value) (ty : TypeId) : MS B (W.alloc (.cells cs ty)) P m (boxOb W.heap.size cs :: l) ∧ Below B W (W.alloc (.cells cs ty)) := by
  obtain ⟨L, h1, h2, h3⟩ := h
  have hb : Below W.heap.size W (W.alloc (.cells cs ty)) := (Below.refl _ W).alloc (Nat.le_refl _) _
  exact ⟨⟨L, h1, sep_perm (h2.add (boxOb W.heap.size cs) (At.new W cs ty) (fun k q => by have : k = W.heap.size := q; omega) hb h3) List.perm_middle.symm, Nat.le_trans h3 hb.size⟩, hb.mono h3⟩
theorem MS.drop {o : Ob} (h : MS B W P m (o :: l)) : MS B W P m l := by
  obtain ⟨L, h1, h2, h3⟩ := h
  exact ⟨L, h1, sep_tail (sep_perm h2 List.perm_middle), h3⟩
/-- A machine more. -/
theorem MS.more (h : MS B W P m l) (h2 : MIn W.heap.size W' a P s []) (hb : Below W.heap.size W W') : MS B W' P ((a, s) :: m) l := by
  obtain ⟨L, h1, hS, le⟩ := h
  obtain ⟨⟨q', h3⟩, _⟩ := h2
  have h4 := obs_low h3 le
  have hge : ∀ o ∈ obs B a P s q', ∀ k, o.S k → W.heap.size ≤ k := fun o ho k r => by
    have e : (obs B a P s q').map Ob.S = (obs W.heap.size a P s q').map Ob.S := rfl
    have h5 : o.S ∈ (obs B a P s q').map Ob.S := List.mem_map_of_mem ho
    rw [e] at h5
    obtain ⟨p, hp, e2⟩ := List.mem_map.1 h5
    exact h3.ge p (by simp [hp]) k (by rw [e2]; exact r)
  rw [List.append_nil] at h4
  have h5 := sep_append h4 (hS.gr hb) (fun o ho p hp k r t => by
    have := hge o ho k r
    have := p.lt W (hS.ins p hp) k t
    omega)
  exact ⟨_, ⟨q', L, rfl, h1⟩, by rw [List.append_assoc]; exact h5, Nat.le_trans le hb.size⟩
theorem MS.of2 {b : Nat} {t : Fm} (h : M2 B W P a s b t l) : MS B W P [(a, s), (b, t)] l := by
  obtain ⟨q, ⟨q2, h1⟩, le⟩ := h
  exact ⟨_, ⟨q2, _, rfl, q, [], rfl, rfl⟩, by rw [List.append_nil, List.append_assoc]; exact h1, le⟩
end
end Z
end Go.Proofs.YtbichnngepjpnaaGreat


/-
  Stage 13, fastvm: Run with fuel below 0.
-/
namespace Go.Proofs.YtbichnngepjpnaaGreat
namespace Z
open Go.RowKit
open T (Sep Ob Kp Mf FlIn boxOb)

theorem steps_negM (B : Nat) (V : World) (a : Nat) (P : Pr) (s : Fm) (l : List Ob) (n : Int) (hn : n < 0) (h : MIn B V a P s l) :
    Calls Tryz.prog 21 #[.pointer (some ⟨a, 0, none⟩), .int .i64 n] V fun x w' => x = .returned (.tuple #[]) ∧ MIn B w' a P s l ∧ Below B V w' := by
  refine (steps_neg a n V (by omega)).mono ?_
  rintro x w' ⟨rfl, rfl⟩
  exact ⟨rfl, h, Below.refl _ _⟩
set_option maxRecDepth 100000 in
set_option maxHeartbeats 4000000 in
theorem run_endN (B : Nat) (W : World) (a : Nat) (P : Pr) (l : List Ob) (n : Int) (s : Fm) (hneg : n < 0) (h : MIn B W a P s l) (he : s.e ≠ 0) :
    Calls Tryz.prog 10 #[.pointer (some ⟨a, 0, none⟩), .int .i64 n] W fun x w' => x = .returned (.agg #[.int .i64 s.e, .int .u64 s.v, .int .i64 s.f, .int .i64 s.g, .int .i64 s.p]) ∧ MIn B w' a P s l ∧ Below B W w' := by
  have e2 : (s.e == 0) = false := by simpa using he
  replace he := Hz.mk he
  have hni : (n : Int) ≤ 100000 := by omega
  have h2 := Hz.mk (h.new #[.int .i64 0, .int .u64 0, .int .i64 0, .int .i64 0, .int .i64 0] 34)
  clear h
  go_enter Tryz.func10, Tryz.ntmps10
  go_upto_region 1 with fail
  refine wp_world (fun V => MIn B V a P s (boxOb W.heap.size #[.int .i64 0, .int .u64 0, .int .i64 0, .int .i64 0, .int .i64 0] :: l) ∧ Below B W V) h2.out ?_
  rintro V ⟨h, hB⟩
  replace h := Hz.mk h
  replace hB := Hz.mk hB
  clear h2
  generalize hkr : W.heap.size = kr at *
  clear hkr
  have hst := Hz.mk (steps_negM B V a P s _ n hneg h.out)
  go_wp2_with fail
  rw [show min (n : Int) 100000 = (n : Int) from Int.min_eq_left hni]
  refine hst.out.mono ?_
  rintro r V8 ⟨rfl, h8, hB8⟩
  replace hB := Hz.mk (hB.out.trans hB8)
  replace h8 := Hz.mk h8
  clear h hst hB8
  have c26 := h8.out.e26
  have hsd := Hz.mk (stands_any B V8 a P s _ h8.out)
  go_upto_region 6 with fail
  have hle8 := h8.out.le
  refine wp_region_lit ?_
  refine wpList_plain rfl (fun K hK => ?_)
  go_simp
  with_reducible refine hK _ _ ?_
  clear hK K
  try simp only [Act.put, List.setIfInBounds_toArray, List.set_cons_zero, List.set_cons_succ]
  refine wpList_plain rfl (fun K hK => ?_)
  go_simp
  (refine hsd.out.mono ?_; rintro r V9 ⟨rfl, g9⟩)
  with_reducible refine hK _ _ ?_
  clear hK K
  try simp only [Act.put, List.setIfInBounds_toArray, List.set_cons_zero, List.set_cons_succ]
  replace h8 := Hz.mk (h8.out.gro g9)
  replace hB : Hz (Below B W V9) := Hz.mk (hB.out.trans (g9.below.mono hle8))
  have hA9 : At V9 kr #[.int .i64 0, .int .u64 0, .int .i64 0, .int .i64 0, .int .i64 0] := h8.out.there (boxOb kr #[.int .i64 0, .int .u64 0, .int .i64 0, .int .i64 0, .int .i64 0]) (.head _)
  have hth := Hz.mk (At.there (cs := [Value.int .i64 0, .int .u64 0, .int .i64 0, .int .i64 0, .int .i64 0]) hA9 0 5 (by decide))
  have hA10 := Hz.mk (At.setAll (cs := [Value.int .i64 0, .int .u64 0, .int .i64 0, .int .i64 0, .int .i64 0]) hA9 [Value.int .i64 s.e, .int .u64 s.v, .int .i64 s.f, .int .i64 s.g, .int .i64 s.p] rfl)
  have hk10 : Kp (fun k => k = kr) V9 (V9.setCells kr 0 [Value.int .i64 s.e, .int .u64 s.v, .int .i64 s.f, .int .i64 s.g, .int .i64 s.p]) := kp_setsZ V9 kr [Value.int .i64 s.e, .int .u64 s.v, .int .i64 s.f, .int .i64 s.g, .int .i64 s.p] 0
  have h10 := h8.out.side (o' := boxOb kr (List.toArray [Value.int .i64 s.e, .int .u64 s.v, .int .i64 s.f, .int .i64 s.g, .int .i64 s.p])) hA10.out hk10 (fun _ r => .inl r)
  replace hB := Hz.mk (hB.out.trans h10.2)
  replace h10 := Hz.mk h10.1
  clear h8 hA9 hk10 hsd g9
  refine wpList_plain rfl (fun K hK => ?_)
  refine wp_store_mid _ _ _ rfl _ _ (List.toArray [Value.int .i64 s.e, .int .u64 s.v, .int .i64 s.f, .int .i64 s.g, .int .i64 s.p]) rfl rfl hth.out (by kernel_rfl) (by simp [Value.oneCell']) (hK _ _ ?_)
  clear hK K
  try simp only [Act.put]
  generalize World.setCells _ _ _ _ = V11 at *
  have hrun := Hz.mk (run_loadVar_mid (P := Tryz.prog) V11 kr 0 34 [Value.int .i64 s.e, .int .u64 s.v, .int .i64 s.f, .int .i64 s.g, .int .i64 s.p] _ (fun j v q => by rw [Nat.zero_add]; exact (hA10.out.2.1 j).trans (by simpa using q)) Tryz.underlying34 rfl (by kernel_rfl))
  go_wp2_with fail
  refine bodyPost_ret (v := .agg #[.int .i64 s.e, .int .u64 s.v, .int .i64 s.f, .int .i64 s.g, .int .i64 s.p]) ?_ rfl ⟨rfl, h10.out.drop, hB.out⟩
  exact results_rowZ Tryz.results10 _ _ rfl hrun.out
set_option maxRecDepth 100000 in
set_option maxHeartbeats 4000000 in
theorem run_spentN (B : Nat) (W : World) (a : Nat) (P : Pr) (l : List Ob) (n : Int) (s : Fm) (hneg : n < 0) (h : MIn B W a P s l) (he : s.e = 0) :
    Calls Tryz.prog 10 #[.pointer (some ⟨a, 0, none⟩), .int .i64 n] W fun x w' => x = .returned (.agg #[.int .i64 (sp s).e, .int .u64 (sp s).v, .int .i64 (sp s).f, .int .i64 (sp s).g, .int .i64 (sp s).p]) ∧ MIn B w' a P (sp s) l ∧ Below B W w' := by
  have hni : (n : Int) ≤ 100000 := by omega
  have h2 := Hz.mk (h.new #[.int .i64 0, .int .u64 0, .int .i64 0, .int .i64 0, .int .i64 0] 34)
  clear h
  go_enter Tryz.func10, Tryz.ntmps10
  go_upto_region 1 with fail
  refine wp_world (fun V => MIn B V a P s (boxOb W.heap.size #[.int .i64 0, .int .u64 0, .int .i64 0, .int .i64 0, .int .i64 0] :: l) ∧ Below B W V) h2.out ?_
  rintro V ⟨h, hB⟩
  replace h := Hz.mk h
  replace hB := Hz.mk hB
  clear h2
  generalize hkr : W.heap.size = kr at *
  clear hkr
  have hst := Hz.mk (steps_negM B V a P s _ n hneg h.out)
  go_wp2_with fail
  rw [show min (n : Int) 100000 = (n : Int) from Int.min_eq_left hni]
  refine hst.out.mono ?_
  rintro r V7 ⟨rfl, h7, hB8⟩
  replace hB := Hz.mk (hB.out.trans hB8)
  replace h7 := Hz.mk h7
  clear h hst hB8
  have c26 := h7.out.e26
  rw [he] at c26
  have hfi := Hz.mk (h7.out.onBox (s' := sp s) ⟨rfl, rfl, rfl, rfl, rfl⟩ (fun q hb => finish_any a _ 4 0 _ hb))
  go_wp2_with fail
  refine hfi.out.mono ?_
  rintro r V8 ⟨rfl, h8, hB8⟩
  replace hB := Hz.mk (hB.out.trans hB8)
  replace h8 := Hz.mk h8
  clear h7 hfi hB8 c26 he
  have hsd := Hz.mk (stands_any B V8 a P (sp s) _ h8.out)
  go_upto_region 6 with fail
  have hle8 := h8.out.le
  refine wp_region_lit ?_
  refine wpList_plain rfl (fun K hK => ?_)
  go_simp
  with_reducible refine hK _ _ ?_
  clear hK K
  try simp only [Act.put, List.setIfInBounds_toArray, List.set_cons_zero, List.set_cons_succ]
  refine wpList_plain rfl (fun K hK => ?_)
  go_simp
  (refine hsd.out.mono ?_; rintro r V9 ⟨rfl, g9⟩)
  with_reducible refine hK _ _ ?_
  clear hK K
  try simp only [Act.put, List.setIfInBounds_toArray, List.set_cons_zero, List.set_cons_succ]
  replace h8 := Hz.mk (h8.out.gro g9)
  replace hB : Hz (Below B W V9) := Hz.mk (hB.out.trans (g9.below.mono hle8))
  have hA9 : At V9 kr #[.int .i64 0, .int .u64 0, .int .i64 0, .int .i64 0, .int .i64 0] := h8.out.there (boxOb kr #[.int .i64 0, .int .u64 0, .int .i64 0, .int .i64 0, .int .i64 0]) (.head _)
  have hth := Hz.mk (At.there (cs := [Value.int .i64 0, .int .u64 0, .int .i64 0, .int .i64 0, .int .i64 0]) hA9 0 5 (by decide))
  have hA10 := Hz.mk (At.setAll (cs := [Value.int .i64 0, .int .u64 0, .int .i64 0, .int .i64 0, .int .i64 0]) hA9 [Value.int .i64 (sp s).e, .int .u64 (sp s).v, .int .i64 (sp s).f, .int .i64 (sp s).g, .int .i64 (sp s).p] rfl)
  have hk10 : Kp (fun k => k = kr) V9 (V9.setCells kr 0 [Value.int .i64 (sp s).e, .int .u64 (sp s).v, .int .i64 (sp s).f, .int .i64 (sp s).g, .int .i64 (sp s).p]) := kp_setsZ V9 kr [Value.int .i64 (sp s).e, .int .u64 (sp s).v, .int .i64 (sp s).f, .int .i64 (sp s).g, .int .i64 (sp s).p] 0
  have h10 := h8.out.side (o' := boxOb kr (List.toArray [Value.int .i64 (sp s).e, .int .u64 (sp s).v, .int .i64 (sp s).f, .int .i64 (sp s).g, .int .i64 (sp s).p])) hA10.out hk10 (fun _ r => .inl r)
  replace hB := Hz.mk (hB.out.trans h10.2)
  replace h10 := Hz.mk h10.1
  clear h8 hA9 hk10 hsd g9
  refine wpList_plain rfl (fun K hK => ?_)
  refine wp_store_mid _ _ _ rfl _ _ (List.toArray [Value.int .i64 (sp s).e, .int .u64 (sp s).v, .int .i64 (sp s).f, .int .i64 (sp s).g, .int .i64 (sp s).p]) rfl rfl hth.out (by kernel_rfl) (by simp [Value.oneCell']) (hK _ _ ?_)
  clear hK K
  try simp only [Act.put]
  generalize World.setCells _ _ _ _ = V11 at *
  have hrun := Hz.mk (run_loadVar_mid (P := Tryz.prog) V11 kr 0 34 [Value.int .i64 (sp s).e, .int .u64 (sp s).v, .int .i64 (sp s).f, .int .i64 (sp s).g, .int .i64 (sp s).p] _ (fun j v q => by rw [Nat.zero_add]; exact (hA10.out.2.1 j).trans (by simpa using q)) Tryz.underlying34 rfl (by kernel_rfl))
  go_wp2_with fail
  refine bodyPost_ret (v := .agg #[.int .i64 (sp s).e, .int .u64 (sp s).v, .int .i64 (sp s).f, .int .i64 (sp s).g, .int .i64 (sp s).p]) ?_ rfl ⟨rfl, h10.out.drop, hB.out⟩
  exact results_rowZ Tryz.results10 _ _ rfl hrun.out
/-- Run of any fuel. -/
theorem run_negM (P : Pr) (s : Fm) (n : Int) (hn : n < 0) (t : Fm) (ht : runM P s 0 = t) (B : Nat) (W : World) (a : Nat) (l : List Ob) (h : MIn B W a P s l) :
    Calls Tryz.prog 10 #[.pointer (some ⟨a, 0, none⟩), .int .i64 n] W fun x w' => x = .returned (.agg #[.int .i64 t.e, .int .u64 t.v, .int .i64 t.f, .int .i64 t.g, .int .i64 t.p]) ∧ MIn B w' a P t l ∧ Below B W w' := by
  subst ht
  show Calls _ _ _ _ fun x w' => x = .returned (.agg #[.int .i64 (if s.e = 0 then sp s else s).e, .int .u64 (if s.e = 0 then sp s else s).v, .int .i64 (if s.e = 0 then sp s else s).f, .int .i64 (if s.e = 0 then sp s else s).g, .int .i64 (if s.e = 0 then sp s else s).p]) ∧ MIn B w' a P (if s.e = 0 then sp s else s) l ∧ Below B W w'
  by_cases he : s.e = 0
  · rw [if_pos he]
    exact run_spentN B W a P l n s hn h he
  · rw [if_neg he]
    exact run_endN B W a P l n s hn h he
end Z
end Go.Proofs.YtbichnngepjpnaaGreat
