import Derived.Test.YtoppcikacakjcaaP29
/-
  Stage 8, flow: rows of code that are the same.
-/
namespace Go.Proofs.Ytoppcikacakjcaa
namespace F
open Go.RowKit
open T

theorem BR.at {w : World} {lo : Nat} {v : Value} {R : List Bk} (h : BR w lo v R) (i : Nat) (hi : i < R.length) : ∃ g cap, v = .slice (some ⟨g, 0, none⟩) R.length cap ∧ g < w.heap.size ∧ w.cell? ⟨g, i * 3, none⟩ = some (.int .i64 R[i].f) ∧ w.cell? ⟨g, i * 3 + 1, none⟩ = some (.int .i64 R[i].l) ∧ w.cell? ⟨g, i * 3 + 2, none⟩ = some R[i].nx := by
  obtain ⟨R0, x, R1, rfl, rfl⟩ : ∃ R0 x R1, R = R0 ++ x :: R1 ∧ R0.length = i := ⟨R.take i, R[i], R.drop (i + 1), by rw [List.getElem_cons_drop, List.take_append_drop], by simp; omega⟩
  obtain ⟨g, cap, rfl, _, hlt⟩ := h.here (by simp)
  have e : (R0 ++ x :: R1)[R0.length] = x := by simp
  rw [e]
  exact ⟨g, cap, rfl, hlt, BR.cell h 0 (by omega), BR.cell h 1 (by omega), BR.cell h 2 (by omega)⟩
set_option maxRecDepth 100000 in
set_option maxHeartbeats 4000000 in
theorem blocks_any (L : List Ins) (R R' : List Bk) (v v' : Value) (lo lo' : Nat) (w : World) (h1 : Bs L R.length w lo v R) (h2 : Bs L R'.length w lo' v' R') (he : R.map Bk.fl = R'.map Bk.fl) (hn : L.length < 2000000) (hR : R.length ≤ 2000000) :
    Calls Try.prog 10 #[v, v'] w fun e w' => e = .returned (.bool true) ∧ Below w.heap.size w w' := by
  have hl : R'.length = R.length := by have := congrArg List.length he; simpa using this.symm
  obtain ⟨va, vc, rfl⟩ := h1.row.slice
  obtain ⟨va', vc', rfl⟩ := h2.row.slice
  have hI := fun p a b ka kb W (q1 : NIn W.heap.size W a (nxtI L p)) (q2 : NIn W.heap.size W b (nxtI L p)) => ints_any (nxtI L p) a b ka kb W q1 q2 (by have := nxK_len L p L.length; rw [nxK_all] at this; omega)
  have hfl : ∀ i (hi : i < R.length) (hi' : i < R'.length), R'[i].f = R[i].f ∧ R'[i].l = R[i].l := fun i hi hi' => by
    have e1 : (R.map Bk.fl)[i]? = (R'.map Bk.fl)[i]? := by rw [he]
    rw [List.getElem?_map, List.getElem?_map, List.getElem?_eq_getElem hi, List.getElem?_eq_getElem hi'] at e1
    have e2 : Bk.fl R[i] = Bk.fl R'[i] := by simpa using e1
    injection e2 with e3 e4
    exact ⟨e3.symm, e4.symm⟩
  rw [hl]
  have hnn : ((R.length : Int) != (R.length : Int)) = false := by simp
  replace h1 := Hid.mk h1
  replace h2 := Hid.mk h2
  replace hI := Hid.mk hI
  replace hfl := Hid.mk hfl
  replace he := Hid.mk he
  go_enter Try.func10, Try.ntmps10
  go_wp2_with fail
  go_loopw [5] (fun x wr => ∃ i : Nat, x = .int .i64 i ∧ i ≤ R.length ∧ Hid (Below w.heap.size w wr)) (fun x _ => R.length - (intOf x).toNat)
  case atStart => exact ⟨0, rfl, by omega, Hid.mk (Below.refl _ _)⟩
  case round =>
    obtain ⟨i, rfl, hi, hb⟩ := hrel
    by_cases hlt : i < R.length
    · have hi1 : (i : Int) < R.length := by omega
      have hlt' : i < R'.length := by omega
      obtain ⟨g, cap, e1, l1, c0, c1, c2⟩ := h1.out.row.at i hlt
      obtain ⟨g', cap', e2, l2, d0, d1, d2⟩ := h2.out.row.at i hlt'
      injection e1 with e1 _ e1'
      injection e2 with e2 _ e2'
      subst e1 e1' e2 e2'
      obtain ⟨f1, f2⟩ := hfl.out i hlt hlt'
      have n1 := h1.out.nxs i hlt hlt
      have n2 := h2.out.nxs i hlt' hlt'
      rw [f2] at n2 d1
      rw [f1] at d0
      obtain ⟨xa, xc, ex⟩ := own_slice n1
      obtain ⟨ya, yc, ey⟩ := own_slice n2
      rw [ex] at c2 n1
      rw [ey] at d2 n2
      have hcl : ∀ W, Below w.heap.size w W → (W.cell? ⟨g, i * 3, none⟩ = some (.int .i64 R[i].f) ∧ W.cell? ⟨g, i * 3 + 1, none⟩ = some (.int .i64 R[i].l) ∧ W.cell? ⟨g, i * 3 + 2, none⟩ = some (.slice xa (nxtI L (R[i].l : Int)).length xc) ∧ W.cell? ⟨g', i * 3, none⟩ = some (.int .i64 R[i].f) ∧ W.cell? ⟨g', i * 3 + 1, none⟩ = some (.int .i64 R[i].l) ∧ W.cell? ⟨g', i * 3 + 2, none⟩ = some (.slice ya (nxtI L (R[i].l : Int)).length yc)) := fun W q =>
        ⟨(q.cell (p := ⟨g, _, none⟩) l1).trans c0, (q.cell (p := ⟨g, _, none⟩) l1).trans c1, (q.cell (p := ⟨g, _, none⟩) l1).trans c2, (q.cell (p := ⟨g', _, none⟩) l2).trans d0, (q.cell (p := ⟨g', _, none⟩) l2).trans d1, (q.cell (p := ⟨g', _, none⟩) l2).trans d2⟩
      have hIi := fun W (q : Below w.heap.size w W) => hI.out (R[i].l : Int) xa ya xc yc W (own_nin (own_below n1 q)) (own_nin (own_below n2 q))
      clear c0 c1 c2 d0 d1 d2 n1 n2 ex ey f1 f2
      generalize (nxtI L (R[i].l : Int)).length = nl at *
      generalize R[i].f = rf at *
      generalize R[i].l = rl at *
      obtain ⟨c0, c1, c2, d0, d1, d2⟩ := hcl _ hb.out
      have hff : (((rf : Nat) : Int) != ((rf : Nat) : Int)) = false := by simp
      have hll : (((rl : Nat) : Int) != ((rl : Nat) : Int)) = false := by simp
      replace hcl := Hid.mk hcl
      replace hIi := Hid.mk hIi
      have hsz := hb.out.size
      go_wp2_with fail
      go_region_with (go_at_call 25; refine (hIi.out _ (by first | exact hb.out.drew | exact hb.out)).mono ?_; rintro x w3 ⟨rfl, q3⟩; replace q3 := Hid.mk q3)
      all_goals
        have hb3 : Hid (Below w.heap.size w w3) := Hid.mk ((hb.out.drew).trans (q3.out.mono hsz))
        clear c0 c1 c2 d0 d1 d2
        obtain ⟨c0, c1, c2, d0, d1, d2⟩ := hcl.out _ hb3.out
        go_wp2_with fail
        go_quiet (fail)
        go_wp2_with fail
        go_roundw
        all_goals first | exact ⟨i + 1, by simp, by omega, Hid.mk (bel_drewN hb3.out _)⟩ | (simp only [intOf]; omega)
    · have hi1 : ¬ (i : Int) < R.length := by omega
      go_wp2_with fail
      go_ret
      exact ⟨rfl, hb.out⟩
end F
end Go.Proofs.Ytoppcikacakjcaa


/-
  Stage 8, flow: what FlowBlocks has at hand.
-/
namespace Go.Proofs.Ytoppcikacakjcaa
namespace F
open Go.RowKit
open T

/-- What is lent, and where. -/
structure Gs (w : World) (gl gi : Nat) (M : List Ins) (E : List Int) (W : World) : Prop where
  be : Below w.heap.size w W
  cl : At W gl (insA (M ++ mkI8))
  en : At W gi (numA (E ++ mkN))
section
variable {w W W1 : World} {gl gi : Nat} {M : List Ins} {E : List Int}
theorem Gs.below (h : Gs w gl gi M E W) (hb : Below W.heap.size W W1) : Gs w gl gi M E W1 :=
  ⟨h.be.trans (hb.mono h.be.size), at_below h.cl hb h.cl.1, at_below h.en hb h.en.1⟩
theorem Gs.kp {S : Nat → Prop} (h : Gs w gl gi M E W) (hk : Kp S W W1) (h1 : ¬ S gl) (h2 : ¬ S gi) (h3 : ∀ k, S k → w.heap.size ≤ k) : Gs w gl gi M E W1 :=
  ⟨h.be.trans (hk.below h.be.size h3), at_kp h.cl hk h1, at_kp h.en hk h2⟩
theorem Gs.turn {M' : List Ins} (h : Gs w gl gi M E W) (hl : M'.length = M.length) (hlo : w.heap.size ≤ gl) (hne : gi ≠ gl) : Gs w gl gi M' E (W.setCells gl 0 (flat M')) := by
  have hk : Kp (fun k => k = gl) W (W.setCells gl 0 (flat M')) := kp_setCells (fun k => k = gl) gl rfl _ 0 W
  have hsz := insA_size (M ++ mkI8)
  refine ⟨h.be.trans (hk.below h.be.size (fun k r => by omega)), ?_, at_kp h.en hk hne⟩
  have := at_cells h.cl (flat M') (by rw [flat_length, hsz, hl]; simp; omega)
  have e2 : (flat M' ++ (insA (M ++ mkI8)).toList.drop (flat M').length).toArray = insA (M' ++ mkI8) := by
    unfold insA
    rw [flat_app, List.toList_toArray, flat_app]
    have e3 : (flat M').length = (flat M).length := by rw [flat_length, flat_length, hl]
    rw [e3, List.drop_left]
  rw [e2] at this
  exact this
end
theorem Bs.kp {L : List Ins} {k : Nat} {w w1 : World} {lo : Nat} {v : Value} {R : List Bk} {S : Nat → Prop} (h : Bs L k w lo v R) (hk : Kp S w w1) (hs : ∀ q, lo ≤ q → ¬ S q) : Bs L k w1 lo v R :=
  ⟨own_kp h.row hk (fun g r => hs g (World.ownsRow.lt h.row g r).1), fun i hi e => own_kp (h.nxs i hi e) hk (fun g r => hs g (World.ownsRow.lt (h.nxs i hi e) g r).1), h.nil, h.ne, h.pw⟩
theorem Bok.kp {w w1 : World} {bB : Nat} {n : Int} {v1 v2 : Value} {T : List (Value × Int)} {c : Nat → Int} {S : Nat → Prop} (h : Bok w bB n v1 v2 T c) (hk : Kp S w w1) (hs : ∀ q, S q → q ≠ bB ∧ c q = 0) : Bok w1 bB n v1 v2 T c := by
  refine ⟨at_kp h.box hk (fun q => (hs _ q).1 rfl), own_kp h.row1 hk (fun g r q => ?_), own_kp h.row2 hk (fun g r q => ?_), h.c1, h.c2, fun t ht => ?_⟩
  · have := h.c1 g r; have := (hs g q).2; omega
  · have := h.c2 g r; have := (hs g q).2; omega
  · obtain ⟨r1, r2, a, n', cp, e, r3, r4⟩ := h.rd t ht
    refine ⟨r1, r2, a, n', cp, e, r3, fun k hk' => ?_⟩
    obtain ⟨b, q1, q2, q3, q4⟩ := r4 k hk'
    exact ⟨b, q1, Nat.lt_of_lt_of_le q2 hk.size, q3, (cell_of_block (hk.block b q2 (fun q => by have := (hs b q).2; omega)) k).trans q4⟩
/-- The lists of two lists of rows, one by one. -/
def vsF (Rx Rz : List Bk) : Nat → List Value
  | 0 => []
  | i + 1 => vsF Rx Rz i ++ [((Rx[i]?).map Bk.nx).getD (.slice none 0 0), ((Rz[i]?).map Bk.nx).getD (.slice none 0 0)]
theorem vsF_step {Rx Rz : List Bk} {i : Nat} (h1 : i < Rx.length) (h2 : i < Rz.length) : vsF Rx Rz (i + 1) = vsF Rx Rz i ++ [Rx[i].nx, Rz[i].nx] := by
  rw [vsF, List.getElem?_eq_getElem h1, List.getElem?_eq_getElem h2]
  rfl
theorem vsF_len (Rx Rz : List Bk) : ∀ i, (vsF Rx Rz i).length = 2 * i
  | 0 => rfl
  | i + 1 => by rw [vsF, List.length_append, vsF_len Rx Rz i]; simp; omega
theorem vsF_at {Rx Rz : List Bk} : ∀ i, i ≤ Rx.length → i ≤ Rz.length → ∀ k (h : k < (vsF Rx Rz i).length), ∃ j, ∃ h1 : j < Rx.length, ∃ h2 : j < Rz.length, (k = 2 * j ∧ (vsF Rx Rz i)[k] = Rx[j].nx) ∨ (k = 2 * j + 1 ∧ (vsF Rx Rz i)[k] = Rz[j].nx)
  | 0, _, _, k, h => by simp [vsF] at h
  | i + 1, h1, h2, k, h => by
    have e := vsF_step (i := i) (by omega : i < Rx.length) (by omega : i < Rz.length)
    have hl := vsF_len Rx Rz i
    have hl1 := vsF_len Rx Rz (i + 1)
    by_cases hk : k < (vsF Rx Rz i).length
    · obtain ⟨j, g1, g2, g3⟩ := vsF_at i (by omega) (by omega) k hk
      refine ⟨j, g1, g2, ?_⟩
      have e2 : (vsF Rx Rz (i + 1))[k] = (vsF Rx Rz i)[k] := by
        simp only [e]
        rw [List.getElem_append_left hk]
      rw [e2]
      exact g3
    · refine ⟨i, by omega, by omega, ?_⟩
      by_cases hk2 : k = 2 * i
      · left
        refine ⟨hk2, ?_⟩
        simp only [e]
        rw [List.getElem_append_right (by omega)]
        simp [hl, hk2]
      · right
        have hk3 : k = 2 * i + 1 := by omega
        refine ⟨hk3, ?_⟩
        simp only [e]
        rw [List.getElem_append_right (by omega)]
        simp [hl, hk3]
/-- All is ready for ownAll. -/
theorem ready {L : List Ins} {W : World} {bB lx lz lv : Nat} {x z V : Value} {Rx Rz : List Bk} (hx : Bs L Rx.length W lx x Rx) (hz : Bs L Rz.length W lz z Rz) (hl : Rz.length = Rx.length)
    (hbx : bB < lx) (hb : At W bB #[.int .i64 0, .slice none 0 0, .slice none 0 0]) (hxz : ∀ j (h : j < Rx.length) g, Rx[j].nx.ownBlock = some g → g < lz) (hzv : ∀ j (h : j < Rz.length) g, Rz[j].nx.ownBlock = some g → g < lv) (hlz : lx ≤ lz) (hlv : lz ≤ lv) (hV : W.ownsRow lv 23 1 V (vsF Rx Rz Rx.length).length (vsF Rx Rz Rx.length)) (hn : ∀ p, (nxtI L p).length ≤ 1900000) :
    ∃ c : Nat → Int, Sh W bB V (vsF Rx Rz Rx.length) c (fun _ => 0) W ∧ c bB = -3 ∧ Cl c V 0 ∧ (∀ k, c k ≠ -1 ∧ c k ≠ -2) ∧ (∀ k, 0 < c k → (∃ j, ∃ h : j < Rx.length, Rx[j].nx.ownBlock = some k) ∨ ∃ j, ∃ h : j < Rz.length, Rz[j].nx.ownBlock = some k) ∧ ∀ k, k ≠ bB → (∀ j (h : j < Rx.length), Rx[j].nx.ownBlock ≠ some k) → (∀ j (h : j < Rz.length), Rz[j].nx.ownBlock ≠ some k) → c k = 0 := by
  have hat := vsF_at (Rx := Rx) (Rz := Rz) Rx.length (Nat.le_refl _) (by omega)
  have hxl : ∀ j (h : j < Rx.length) g, Rx[j].nx.ownBlock = some g → lx ≤ g := fun j h g r => (World.ownsRow.lt (hx.nxs j h h) g r).1
  have hzl : ∀ j (h : j < Rz.length) g, Rz[j].nx.ownBlock = some g → lz ≤ g := fun j h g r => (World.ownsRow.lt (hz.nxs j h h) g r).1
  have hvl : ∀ g, V.ownBlock = some g → lv ≤ g := fun g r => (World.ownsRow.lt hV g r).1
  generalize hvs : vsF Rx Rz Rx.length = vs at *
  have hany : ∀ k (h : k < vs.length) g, vs[k].ownBlock = some g → lx ≤ g ∧ g < lv := fun k h g r => by
    obtain ⟨j, g1, g2, e | e⟩ := hat k h
    · rw [e.2] at r; have := hxl j g1 g r; have := hxz j g1 g r; omega
    · rw [e.2] at r; have := hzl j g2 g r; have := hzv j g2 g r; omega
  obtain ⟨c, c1, c2, c3, c4, c5, c6⟩ := colours vs bB V (fun i j hi hj g r1 r2 => by
      obtain ⟨a, a1, a2, a3⟩ := hat i hi
      obtain ⟨b, b1, b2, b3⟩ := hat j hj
      rcases a3 with a3 | a3 <;> rcases b3 with b3 | b3 <;> rw [a3.2] at r1 <;> rw [b3.2] at r2
      · rcases Nat.lt_trichotomy a b with h | h | h
        · exact absurd r2 (hx.pw a b a1 b1 g h r1)
        · omega
        · exact absurd r1 (hx.pw b a b1 a1 g h r2)
      · have := hxz a a1 g r1; have := hzl b b2 g r2; omega
      · have := hxz b b1 g r2; have := hzl a a2 g r1; omega
      · rcases Nat.lt_trichotomy a b with h | h | h
        · exact absurd r2 (hz.pw a b a2 b2 g h r1)
        · omega
        · exact absurd r1 (hz.pw b a b2 a2 g h r2))
    (fun j h r => by have := hany j h bB r; omega) (fun j h g r q => by have := hany j h g r; have := hvl g q; omega) (fun r => by have := hvl bB r; omega)
  refine ⟨c, ⟨hb, row_lower hV (Nat.zero_le _), fun k hk => ?_, Kp.refl _ _⟩, c1, c2, c4, fun k q => ?_, fun k h1 h2 h3 => c6 k h1 (fun j hj r => ?_)⟩
  · have hc := c3 k hk
    obtain ⟨j, g1, g2, e | e⟩ := hat k hk
    · rw [e.2] at hc ⊢
      exact ⟨_, row_lower (hx.nxs j g1 g1) (Nat.zero_le _), hn _, hc, fun q hq => by omega⟩
    · rw [e.2] at hc ⊢
      exact ⟨_, row_lower (hz.nxs j g2 g2) (Nat.zero_le _), hn _, hc, fun q hq => by omega⟩
  · obtain ⟨j, hj, r⟩ := c5 k q
    obtain ⟨a, g1, g2, e | e⟩ := hat j hj
    · rw [e.2] at r; exact .inl ⟨a, g1, r⟩
    · rw [e.2] at r; exact .inr ⟨a, g2, r⟩
  · obtain ⟨a, g1, g2, e | e⟩ := hat j hj
    · rw [e.2] at r; exact h2 a g1 r
    · rw [e.2] at r; exact h3 a g2 r
end F
end Go.Proofs.Ytoppcikacakjcaa
