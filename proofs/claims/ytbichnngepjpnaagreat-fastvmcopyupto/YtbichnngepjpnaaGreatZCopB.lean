import Derived.Test.YtbichnngepjpnaaGreatP44
import Derived.Test.YtbichnngepjpnaaGreatP45
import Derived.Test.YtbichnngepjpnaaGreatZGiv
import Derived.Test.YtbichnngepjpnaaGreatP42
/-
  Stage 13, fastvm: a copy of a machine, put together. No walk.
-/
namespace Go.Proofs.YtbichnngepjpnaaGreat
namespace Z
open Go.RowKit
open T (Sep Ob Kp Mf FlIn boxOb)

/-- Behind memory's end there is nothing. -/
def MZ (m : Nat → UInt8) : Prop := ∀ k, 65536 ≤ k → m k = 0
theorem layB_at (l : List UInt8) : ∀ n i, T.layB (fun _ => 0) 0 l n i = if i < n then l.getD i 0 else 0
  | 0, i => by simp [T.layB]
  | n + 1, i => by
    unfold T.layB
    show T.upd _ (0 + n) _ i = _
    unfold T.upd
    by_cases e : i = n
    · subst e
      simp
    · rw [if_neg (by omega), layB_at l n i]
      by_cases h : i < n
      · rw [if_pos h, if_pos (by omega)]
      · rw [if_neg h, if_neg (by omega)]
theorem lay_row (m : Nat → UInt8) (h : MZ m) : T.layB (fun _ => 0) 0 ((T.rowB m 0 65536).take 65536) ((T.rowB m 0 65536).take 65536).length = m := by
  funext i
  have hl : (T.rowB m 0 65536).length = 65536 := T.rowB_len m 0 65536
  rw [List.take_of_length_le (by rw [hl]; exact Nat.le_refl _), hl, layB_at]
  by_cases hi : i < 65536
  · rw [if_pos hi]
    unfold T.rowB
    simp [List.getD, hi]
  · rw [if_neg hi, h i (by omega)]
theorem mz_lay (l : List UInt8) : MZ (T.layB (fun _ => 0) 0 (l.take 65536) (l.take 65536).length) := fun k hk => by
  rw [layB_at, if_neg]
  rw [List.length_take]
  omega
theorem mz_st (m : Nat → UInt8) (a n v : Nat) (h : MZ m) : MZ (T.stB m a n v) := fun k hk => by
  unfold T.stB
  split
  · rename_i q
    have := T.wordB_in q
    rw [T.putB_other m a v n k (by omega)]
    exact h k hk
  · exact h k hk
/-- What a step leaves behind memory's end. -/
theorem mz_stepI (P : Pr) (i : Fi) (s : Fm) (h : MZ s.m) : MZ (stepI P i s).m := by
  refine stepI_cases P i s (fun r => MZ r.m) ?_ ?_ ?_ ?_ ?_ ?_ ?_ ?_ ?_ ?_ ?_ ?_ ?_ ?_ ?_ ?_ ?_ ?_ ?_ ?_ ?_ ?_ ?_ ?_ ?_ ?_ ?_ ?_ ?_ ?_ ?_ ?_ ?_ ?_ ?_
  all_goals first
    | exact fun _ => h
    | exact h
    | (intro _; unfold stp29; split <;> exact h)
    | (intro _; unfold stp31; split <;> exact h)
    | (intro _; unfold stp32; split <;> exact h)
    | (intro _; unfold stp60; split <;> exact h)
    | (intro _; unfold stp61; split <;> exact h)
    | (intro _; unfold stp64; split <;> exact h)
    | (intro _; unfold stp70; split <;> exact h)
    | (intro _; unfold stp71; split <;> exact h)
    | (intro _; unfold stp62; split <;> first | exact h | exact mz_st _ _ _ _ h)
    | (intro _; unfold stp63; split <;> first | exact h | exact mz_st _ _ _ _ h)
    | (intro _; unfold stp65; split <;> first | exact h | exact mz_st _ _ _ _ (mz_st _ _ _ _ h))
theorem mz_stepsM (P : Pr) (s : Fm) (h : MZ s.m) : ∀ k, MZ (stepsM P s k).m
  | 0 => h
  | k + 1 => by
    have ih := mz_stepsM P s h k
    show MZ (if (stepsM P s k).e = 0 then stepM P (stepsM P s k) else stepsM P s k).m
    split
    · unfold stepM
      split
      · exact mz_stepI P _ _ ih
      · exact ih
    · exact ih
def andO (o p : Ob) : Ob := ⟨fun k => o.S k ∨ p.S k, fun w => o.In w ∧ p.In w, fun w h k q => q.elim (o.lt w h.1 k) (p.lt w h.2 k), fun w w' S1 h hk hd => ⟨o.keep w w' S1 h.1 hk (fun k q => hd k (.inl q)), p.keep w w' S1 h.2 hk (fun k q => hd k (.inr q))⟩⟩
theorem sep_joinO {B : Nat} {W : World} {o p : Ob} {l : List Ob} (h : Sep B W (o :: p :: l)) : Sep B W (andO o p :: l) := by
  have h1 := List.pairwise_cons.1 h.dis
  have h2 := List.pairwise_cons.1 h1.2
  refine ⟨fun q hq => ?_, List.pairwise_cons.2 ⟨fun q hq k s r => ?_, h2.2⟩, fun q hq k s => ?_⟩
  · rcases List.mem_cons.1 hq with rfl | r
    · exact ⟨h.ins o (by simp), h.ins p (by simp)⟩
    · exact h.ins q (by simp [r])
  · rcases s with s | s
    · exact h1.1 q (by simp [hq]) k s r
    · exact h2.1 q hq k s r
  · rcases List.mem_cons.1 hq with rfl | r
    · rcases s with s | s
      · exact h.ge o (by simp) k s
      · exact h.ge p (by simp) k s
    · exact h.ge q (by simp [r]) k s
/-- Rows of methods alone. -/
structure CdS (S : Nat → Prop) (w : World) (cv : Value) (P : Pr) : Prop where
  lt : ∀ k, S k → k < w.heap.size
  code : ∀ k (h : k < P.code.length), ∃ g gk c ck, cv = .slice (some ⟨g, 0, none⟩) P.code.length c ∧ S g ∧ w.cell? ⟨g, k, none⟩ = some (.slice (some ⟨gk, 0, none⟩) P.code[k].length ck) ∧ S gk ∧ ∀ j (hj : j < P.code[k].length), w.cell? ⟨gk, j, none⟩ = some (methV P.code[k][j])
theorem CdS.keep {S S1 : Nat → Prop} {w w' : World} {cv : Value} {P : Pr} (h : CdS S w cv P) (hk : Kp S1 w w') (hd : ∀ k, S k → ¬ S1 k) : CdS S w' cv P := by
  have hb : ∀ k, S k → w'.heap[k]? = w.heap[k]? := fun k q => hk.block k (h.lt k q) (hd k q)
  refine ⟨fun k q => Nat.lt_of_lt_of_le (h.lt k q) hk.size, fun k q => ?_⟩
  obtain ⟨g, gk, c, ck, e1, e2, e3, e4, e5⟩ := h.code k q
  exact ⟨g, gk, c, ck, e1, e2, (T.cell_of_block (hb g e2) k).trans e3, e4, fun j hj => (T.cell_of_block (hb gk e4) j).trans (e5 j hj)⟩
def cdOb (S : Nat → Prop) (cv : Value) (P : Pr) : Ob := ⟨S, fun w => CdS S w cv P, fun _ h => h.lt, fun _ _ _ h hk hd => h.keep hk hd⟩
theorem Cpd.cds {W1 wr : World} {g : Nat} {P : Pr} {V : Nat → Value} (h : Cpd W1 wr g P.code P.code.length V) (c : Nat) : CdS (fun k => W1.heap.size ≤ k ∧ k < wr.heap.size) wr (.slice (some ⟨g, 0, none⟩) P.code.length c) P := by
  refine ⟨fun k q => q.2, fun k hk => ?_⟩
  obtain ⟨gk, ck, e1, e2, e3, e4, e5⟩ := h.done k hk hk
  exact ⟨g, gk, c, ck, rfl, ⟨h.new, h.row.lt⟩, by rw [h.row.at_ k hk, e1], ⟨e2, e4⟩, e5⟩
/-- Code and gates together. -/
theorem sep_pg {B : Nat} {W : World} {S : Nat → Prop} {cv gv : Value} {P : Pr} {l : List Ob} (h : Sep B W (rowOb B 78 19 gv P.gates.length (P.gates.flatMap Fg.vals) :: cdOb S cv P :: l)) (h0 : 0 < P.gates.length) : ∃ S', Sep B W (pgOb S' cv gv P :: l) := by
  have hg : W.ownsRow B 78 19 gv P.gates.length (P.gates.flatMap Fg.vals) := h.ins (rowOb B 78 19 gv P.gates.length (P.gates.flatMap Fg.vals)) (by simp)
  have hc : CdS S W cv P := h.ins (cdOb S cv P) (by simp)
  obtain ⟨g, c, e1, e2, e3, e4⟩ := own_gates hg h0
  refine ⟨fun k => gv.ownBlock = some k ∨ S k, sep_same (sep_joinO h) rfl (fun o ho => ?_) (Nat.le_refl _)⟩
  rcases List.mem_cons.1 ho with rfl | r
  · refine ⟨fun k q => ?_, fun k hk => ?_, fun k hk => ⟨g, c, e1, .inl (by rw [e1]; rfl), e4 k hk⟩⟩
    · rcases q with q | q
      · rw [e1] at q
        cases q
        exact e3
      · exact hc.lt k q
    · obtain ⟨g2, gk, c2, ck, f1, f2, f3, f4, f5⟩ := hc.code k hk
      exact ⟨g2, gk, c2, ck, f1, .inr f2, f3, .inr f4, f5⟩
  · exact h.ins o (by simp [r])
theorem Bx.cv {w : World} {a : Nat} {x : Fx} (h : Bx w a x) (v : Value) : Bx (w.setCell ⟨a, 0, none⟩ v) a { x with cv := v } :=
  h.set 0 _ (by omega) (fx_cases rfl rfl rfl rfl rfl rfl (fun i hi => by rw [Fx.reg _ i hi, if_neg (by omega), Fx.reg _ i hi]) rfl rfl rfl rfl rfl rfl rfl)
theorem Bx.gv {w : World} {a : Nat} {x : Fx} (h : Bx w a x) (v : Value) : Bx (w.setCell ⟨a, 1, none⟩ v) a { x with gv := v } :=
  h.set 1 _ (by omega) (fx_cases rfl rfl rfl rfl rfl rfl (fun i hi => by rw [Fx.reg _ i hi, if_neg (by omega), Fx.reg _ i hi]) rfl rfl rfl rfl rfl rfl rfl)
theorem Bx.mp {w : World} {a : Nat} {x : Fx} (h : Bx w a x) (n : Nat) : Bx (w.setCell ⟨a, 3, none⟩ (.pointer (some ⟨n, 0, none⟩))) a { x with mp := n } :=
  h.set 3 _ (by omega) (fx_cases rfl rfl rfl rfl rfl rfl (fun i hi => by rw [Fx.reg _ i hi, if_neg (by omega), Fx.reg _ i hi]) rfl rfl rfl rfl rfl rfl rfl)
/-- A part more of a machine that is put together. -/
theorem cp_next {B0 c j : Nat} {V U : World} {x x' : Fx} {L : List Ob} {v : Value} (h : Sep B0 V (bxOb c x :: L)) (le : B0 ≤ V.heap.size) (o : Ob) (hi : o.In U) (hn : ∀ k, o.S k → V.heap.size ≤ k) (hb : Below V.heap.size V U) (hx : Bx U c x → Bx (U.setCell ⟨c, j, none⟩ v) c x') :
    Bx U c x ∧ Sep B0 (U.setCell ⟨c, j, none⟩ v) (bxOb c x' :: o :: L) ∧ Below B0 V (U.setCell ⟨c, j, none⟩ v) := by
  have h1 := sep_perm (h.add o hi hn hb le) (List.Perm.swap (bxOb c x) o L)
  obtain ⟨h2, b2⟩ := sep_box x x' h1 v j hx (Nat.le_trans le hb.size)
  exact ⟨h1.ins (bxOb c x) (by simp), h2, (hb.mono le).trans b2⟩
theorem own_base {w : World} {lo lo' e k n : Nat} {v : Value} {xs : List Value} (h : w.ownsRow lo e k v n xs) (hl : lo' ≤ lo) : w.ownsRow lo' e k v n xs := by
  refine ⟨h.1, ?_⟩
  rcases h.2 with q | ⟨g, cap, cur, rfl, hb, r⟩
  · exact .inl q
  · exact .inr ⟨g, cap, cur, rfl, Nat.le_trans hl hb, r⟩
theorem own_cells {w : World} {lo e k n : Nat} {v : Value} {xs : List Value} (h : w.ownsRow lo e k v n xs) : v = .slice none 0 0 ∧ n = 0 ∧ xs = [] ∨ ∃ g cap, v = .slice (some ⟨g, 0, none⟩) n cap ∧ g < w.heap.size ∧ ∀ j u, xs[j]? = some u → w.cell? ⟨g, 0 + j, none⟩ = some u := by
  have hlt := h.lt
  rcases h.2 with ⟨rfl, h9⟩ | ⟨g, cap, cur, rfl, hb, hg, hc1, hc2, hc3, hc4⟩
  · exact .inl ⟨rfl, h9, List.eq_nil_of_length_eq_zero (by rw [h.1, h9, Nat.zero_mul])⟩
  · refine .inr ⟨g, cap, rfl, (hlt g rfl).2, fun j u q => ?_⟩
    have hj : j < n * k := by have := (List.getElem?_eq_some_iff.1 q).1; rwa [h.1] at this
    rw [← hc4, List.getElem?_take_of_lt hj] at q
    have : w.cell? ⟨g, 0 + j, none⟩ = cur[j]? := by simp [World.cell?, hg]
    rw [this, ← q]
    simp
theorem fr_one (L : List Fr) : ∀ u ∈ L.flatMap Fr.vals, u.oneCell' = true := fun u hu => by
  obtain ⟨f, _, hf⟩ := List.mem_flatMap.1 hu
  unfold Fr.vals at hf
  rcases List.mem_cons.1 hf with rfl | hf
  · rfl
  · rcases List.mem_cons.1 hf with rfl | hf
    · rfl
    · exact regs_one _ u hf
theorem tc_one (L : List Tc) : ∀ u ∈ L.flatMap Tc.vals, u.oneCell' = true := fun u hu => by
  obtain ⟨f, _, hf⟩ := List.mem_flatMap.1 hu
  simp only [Tc.vals, List.mem_cons, List.not_mem_nil, or_false] at hf
  rcases hf with rfl | rfl | rfl <;> rfl
theorem fg_one (L : List Fg) : ∀ u ∈ L.flatMap Fg.vals, u.oneCell' = true := fun u hu => by
  obtain ⟨f, _, hf⟩ := List.mem_flatMap.1 hu
  unfold Fg.vals at hf
  rcases List.mem_cons.1 hf with rfl | hf
  · rfl
  · rcases List.mem_cons.1 hf with rfl | hf
    · rfl
    · rcases List.mem_cons.1 hf with rfl | hf
      · rfl
      · exact regs_one _ u hf
theorem cown_u64 {lo n : Nat} {v : Value} {xs : List Value} (w : World) (h : w.ownsRow lo 31 1 v n xs) (h1 : ∀ u ∈ xs, u.oneCell' = true) (hn : n ≤ 2000000) :
    Calls Tryz.prog 28 #[v] w fun x w' => ∃ v', x = .returned v' ∧ w'.ownsRow w.heap.size 31 1 v' n xs ∧ Below w.heap.size w w' := by
  rcases own_cells h with ⟨rfl, rfl, rfl⟩ | ⟨g, cap, rfl, hg, hc⟩
  · refine (clnil_u64 w).mono ?_
    rintro x w' ⟨rfl, rfl⟩
    exact ⟨_, rfl, World.ownsRow_nil _ _ _ _, Below.refl _ _⟩
  · exact clone_u64 g 0 n cap xs w hg h.1 hc h1 hn
theorem cown_tcs {lo n : Nat} {v : Value} {xs : List Value} (w : World) (h : w.ownsRow lo 60 3 v n xs) (h1 : ∀ u ∈ xs, u.oneCell' = true) (hn : n ≤ 2000000) :
    Calls Tryz.prog 29 #[v] w fun x w' => ∃ v', x = .returned v' ∧ w'.ownsRow w.heap.size 60 3 v' n xs ∧ Below w.heap.size w w' := by
  rcases own_cells h with ⟨rfl, rfl, rfl⟩ | ⟨g, cap, rfl, hg, hc⟩
  · refine (clnil_tcs w).mono ?_
    rintro x w' ⟨rfl, rfl⟩
    exact ⟨_, rfl, World.ownsRow_nil _ _ _ _, Below.refl _ _⟩
  · exact clone_tcs g 0 n cap xs w hg h.1 hc h1 hn
theorem cown_fr {lo n : Nat} {v : Value} {xs : List Value} (w : World) (h : w.ownsRow lo 69 18 v n xs) (h1 : ∀ u ∈ xs, u.oneCell' = true) (hn : n ≤ 2000000) :
    Calls Tryz.prog 27 #[v] w fun x w' => ∃ v', x = .returned v' ∧ w'.ownsRow w.heap.size 69 18 v' n xs ∧ Below w.heap.size w w' := by
  rcases own_cells h with ⟨rfl, rfl, rfl⟩ | ⟨g, cap, rfl, hg, hc⟩
  · refine (clnil_fr w).mono ?_
    rintro x w' ⟨rfl, rfl⟩
    exact ⟨_, rfl, World.ownsRow_nil _ _ _ _, Below.refl _ _⟩
  · exact clone_fr g 0 n cap xs w hg h.1 hc h1 hn
theorem cown_in {v : Value} {L : List Int} (w : World) (h : IvIn w v L) (hn : L.length ≤ 2000000) :
    Calls Tryz.prog 28 #[v] w fun x w' => ∃ v', x = .returned v' ∧ w'.ownsRow w.heap.size 31 1 v' L.length (L.map u64I) ∧ Below w.heap.size w w' := by
  obtain ⟨a, cap, e1, e2⟩ := h.rm
  obtain ⟨a', cap', f1, f2, f3⟩ := h.go
  rw [e1] at f1
  injection f1 with g1 _ g3
  subst g1 g3
  rcases e2 with ⟨rfl, rfl⟩ | ⟨b, off, rfl, rm⟩
  · have hL : L = [] := List.eq_nil_of_length_eq_zero (by omega)
    subst hL
    rw [e1]
    refine (clnil_u64 w).mono ?_
    rintro x w' ⟨rfl, rfl⟩
    exact ⟨_, rfl, World.ownsRow_nil _ _ _ _, Below.refl _ _⟩
  · have hb : b < w.heap.size := h.lt b (by rw [e1]; rfl)
    rw [e1]
    refine clone_u64 b off L.length cap (L.map u64I) w hb (by simp) (fun j u q => ?_) (u64_one L) hn
    have hj : j < L.length := by have := (List.getElem?_eq_some_iff.1 q).1; simpa using this
    rcases f3 with f3 | ⟨b', off', f4, f5⟩
    · omega
    · cases f4
      rw [f5 j hj, ← q]
      simp [hj, u64I]
/-- A box as a row. -/
def Fx.row (x : Fx) : List Value := (List.range 29).map x.at
theorem Fx.row_len (x : Fx) : x.row.length = 29 := by simp [Fx.row]
theorem Bx.row {w : World} {a : Nat} {x : Fx} (h : Bx w a x) : w.rangeAt a 0 x.row := fun j v q => by
  have hj : j < 29 := by have := (List.getElem?_eq_some_iff.1 q).1; rwa [Fx.row_len] at this
  rw [Nat.zero_add, h.at_ j hj, ← q]
  simp [Fx.row, hj]
theorem at_bx {w : World} {a : Nat} {x : Fx} (h : At w a x.row.toArray) : Bx w a x :=
  ⟨h.1, fun j hj => by rw [h.2.1]; simp [Fx.row, hj], h.2.2⟩
theorem row_one (x : Fx) (h0 : x.cv.oneCell' = true) (h1 : x.gv.oneCell' = true) (h2 : x.sv.oneCell' = true) (h3 : x.iv.oneCell' = true) (h4 : x.ov_.oneCell' = true) (h5 : x.tv.oneCell' = true) : x.row.toArray.all (fun u => u.oneCell') = true := by
  rw [Array.all_eq_true_iff_forall_mem]
  intro u hu
  simp only [List.mem_toArray, Fx.row, List.mem_map, List.mem_range] at hu
  obtain ⟨j, hj, rfl⟩ := hu
  exact fx_cases (P := fun j => (x.at j).oneCell' = true) h0 h1 rfl rfl rfl rfl (fun i hi => by rw [Fx.reg _ i hi]; rfl) h2 h3 h4 h5 rfl rfl rfl j hj
end Z
end Go.Proofs.YtbichnngepjpnaaGreat
