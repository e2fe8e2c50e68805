import Derived.Test.YtoppcikacakjcaaP15
/-
  Stage 8, flow: Blocks, whole.
-/
namespace Go.Proofs.Ytoppcikacakjcaa
namespace F
open Go.RowKit
open T

/-- Rows that the call owns: their lists too, each apart from all. -/
structure Bs (L : List Ins) (k : Nat) (w : World) (lo : Nat) (v : Value) (R : List Bk) : Prop where
  row : BR w lo v R
  nxs : ∀ i (h : i < R.length), i < k → IOwn w lo R[i].nx (nxtI L (R[i].l : Int))
  nil : ∀ i (h : i < R.length), k ≤ i → R[i].nx = .slice none 0 0
  ne : ∀ i (h : i < R.length) g, R[i].nx.ownBlock = some g → v.ownBlock ≠ some g
  pw : ∀ i j (hi : i < R.length) (hj : j < R.length) g, i < j → R[i].nx.ownBlock = some g → R[j].nx.ownBlock ≠ some g
theorem Bs.one {L : List Ins} {k : Nat} {w : World} {lo : Nat} {v : Value} {R : List Bk} (h : Bs L k w lo v R) (i : Nat) (hi : i < R.length) : R[i].nx.oneCell' = true := by
  by_cases e : i < k
  · obtain ⟨a, c, q⟩ := own_slice (h.nxs i hi e)
    rw [q]; rfl
  · rw [h.nil i hi (by omega)]; rfl
theorem Bs.below {L : List Ins} {k : Nat} {w w1 : World} {lo : Nat} {v : Value} {R : List Bk} (h : Bs L k w lo v R) (hb : Below w.heap.size w w1) : Bs L k w1 lo v R :=
  ⟨own_below h.row hb, fun i hi e => own_below (h.nxs i hi e) hb, h.nil, h.ne, h.pw⟩
/-- One list more is laid. -/
theorem Bs.next {L : List Ins} {w w1 : World} {lo g cap : Nat} {R0 R1 : List Bk} {x : Bk} (h : Bs L R0.length w lo (.slice (some ⟨g, 0, none⟩) (R0 ++ x :: R1).length cap) (R0 ++ x :: R1)) (hb : Below w.heap.size w w1) (v : Value) (hv : IOwn w1 w.heap.size v (nxtI L (x.l : Int))) (hlo : lo ≤ w.heap.size) :
    Bs L (R0.length + 1) (w1.setCell ⟨g, R0.length * 3 + 2, none⟩ v) lo (.slice (some ⟨g, 0, none⟩) (R0 ++ x :: R1).length cap) (R0 ++ ⟨x.f, x.l, v⟩ :: R1) := by
  have hr := BR.put (h.below hb).row ⟨x.f, x.l, v⟩ 2 (by omega) v rfl
  have hg : g < w.heap.size := (World.ownsRow.lt h.row g rfl).2
  have hs : Kp (fun q => q = g) w1 (w1.setCell ⟨g, R0.length * 3 + 2, none⟩ v) := Kp.set (S := fun q => q = g) w1 _ _ rfl
  have hvg : ∀ q, v.ownBlock = some q → w.heap.size ≤ q := fun q r => (World.ownsRow.lt hv q r).1
  have old : ∀ i (hi : i < (R0 ++ (⟨x.f, x.l, v⟩ : Bk) :: R1).length) (hne : i ≠ R0.length), ∃ hi' : i < (R0 ++ x :: R1).length, (R0 ++ (⟨x.f, x.l, v⟩ : Bk) :: R1)[i] = (R0 ++ x :: R1)[i] := fun i hi hne => by
    have hi' : i < (R0 ++ x :: R1).length := by simpa using hi
    refine ⟨hi', ?_⟩
    by_cases e : i < R0.length
    · rw [List.getElem_append_left e, List.getElem_append_left e]
    · rw [List.getElem_append_right (by omega), List.getElem_append_right (by omega)]
      obtain ⟨m, hm⟩ : ∃ m, i - R0.length = m + 1 := ⟨i - R0.length - 1, by omega⟩
      simp only [hm, List.getElem_cons_succ]
  have new : ∀ (hi : R0.length < (R0 ++ (⟨x.f, x.l, v⟩ : Bk) :: R1).length), (R0 ++ (⟨x.f, x.l, v⟩ : Bk) :: R1)[R0.length] = ⟨x.f, x.l, v⟩ := fun hi => by simp
  have oldb : ∀ i (hi : i < (R0 ++ x :: R1).length) q, (R0 ++ x :: R1)[i].nx.ownBlock = some q → q < w.heap.size := fun i hi q r => by
    by_cases e : i < R0.length
    · exact (World.ownsRow.lt (h.nxs i hi e) q r).2
    · rw [h.nil i hi (by omega)] at r; cases r
  refine ⟨hr, fun i hi e => ?_, fun i hi e => ?_, fun i hi q r => ?_, fun i j hi hj q hij r => ?_⟩
  · by_cases e2 : i = R0.length
    · subst e2
      rw [new hi]
      exact own_kp (own_lower hv hlo) hs (fun q r e3 => by have := hvg q r; omega)
    · obtain ⟨hi', eq⟩ := old i hi e2
      rw [eq]
      refine own_kp (own_below (h.nxs i hi' (by omega)) hb) hs (fun q r e3 => ?_)
      subst e3
      exact h.ne i hi' q r rfl
  · obtain ⟨hi', eq⟩ := old i hi (by omega)
    rw [eq]
    exact h.nil i hi' (by omega)
  · by_cases e2 : i = R0.length
    · subst e2
      rw [new hi] at r
      have := hvg q r
      intro e3
      have : g = q := by simpa [Value.ownBlock] using e3
      omega
    · obtain ⟨hi', eq⟩ := old i hi e2
      rw [eq] at r
      exact h.ne i hi' q r
  · by_cases e2 : i = R0.length
    · subst e2
      rw [new hi] at r
      obtain ⟨hj', eq⟩ := old j hj (by omega)
      rw [eq]
      intro e3
      have := oldb j hj' q e3
      have := hvg q r
      omega
    · obtain ⟨hi', eq⟩ := old i hi e2
      rw [eq] at r
      by_cases e4 : j = R0.length
      · subst e4
        rw [new hj]
        intro e3
        have := oldb i hi' q r
        have := hvg q e3
        omega
      · obtain ⟨hj', eq2⟩ := old j hj e4
        rw [eq2]
        exact h.pw i j hi' hj' q hij r
/-- The first loop. -/
def L1 (L : List Ins) (f : Nat → Bool) (w2 : World) (j : Nat) (v : Value) (wr : World) : Prop :=
  Hid (∃ R, Bs L 0 wr w2.heap.size v R ∧ R.map Bk.fl = blF f j ∧ Below w2.heap.size w2 wr)
def L2 (L : List Ins) (f : Nat → Bool) (w2 : World) (k : Nat) (v : Value) (wr : World) : Prop :=
  Hid (∃ R, Bs L k wr w2.heap.size v R ∧ R.map Bk.fl = blF f L.length ∧ Below w2.heap.size w2 wr)
theorem L1.start (L : List Ins) (f : Nat → Bool) (w : World) : L1 L f w 0 (.slice none 0 0) w :=
  Hid.mk ⟨[], ⟨⟨rfl, .inl ⟨rfl, rfl⟩⟩, fun i h => by simp at h, fun i h => by simp at h, fun i h => by simp at h, fun i j h => by simp at h⟩, rfl, Below.refl _ _⟩
/-- A row is begun: it is appended; then its last one is written. -/
theorem L1.app {L : List Ins} {f : Nat → Bool} {w2 wr w3 w4 : World} {j g cap : Nat} {v : Value} {R : List Bk} (h : Bs L 0 wr w2.heap.size v R) (he : R.map Bk.fl = blF f j) (hb : Below w2.heap.size w2 wr) (hf : f j = true) (h3 : Below wr.heap.size wr w3)
    (ho : BR w4 w2.heap.size (.slice (some ⟨g, 0, none⟩) (R.length + 1) cap) (R ++ [⟨j, 0, .slice none 0 0⟩])) (hg : w3.grownBy w4 v.ownBlock) :
    L1 L f w2 (j + 1) (.slice (some ⟨g, 0, none⟩) (R.length + 1) cap) (w4.setCell ⟨g, R.length * 3 + 1, none⟩ (.int .i64 (j : Int))) ∧ (∃ y, w4.cell? ⟨g, R.length * 3 + 1, none⟩ = some y) ∧ w4.frozen? ⟨g, R.length * 3 + 1, none⟩ = false ∧ g < w4.heap.size := by
  have e : R.length + 1 = (R ++ (⟨j, 0, .slice none 0 0⟩ : Bk) :: []).length := by simp
  have ho' : BR w4 w2.heap.size (.slice (some ⟨g, 0, none⟩) (R ++ (⟨j, 0, .slice none 0 0⟩ : Bk) :: []).length cap) (R ++ (⟨j, 0, .slice none 0 0⟩ : Bk) :: []) := by rw [← e]; exact ho
  have hr := BR.put ho' ⟨j, j, .slice none 0 0⟩ 1 (by omega) (.int .i64 (j : Int)) rfl
  have hlo : w2.heap.size ≤ wr.heap.size := hb.size
  have hB : Below w2.heap.size w3 w4 := Below.of_grown hg (Nat.le_trans hlo h3.size) (fun q r => (World.ownsRow.lt h.row q r).1)
  have hgl := World.ownsRow.lt ho g rfl
  refine ⟨Hid.mk ⟨R ++ [⟨j, j, .slice none 0 0⟩], ⟨by rw [e]; exact hr, fun i hi q => by omega, fun i hi _ => ?_, fun i hi q r => ?_, fun i k hi hk q _ r => ?_⟩, ?_, ((hb.trans (h3.mono hlo)).trans hB).setCell hgl.1 _⟩, ⟨_, BR.cell ho' 1 (by omega)⟩, ?_, hgl.2⟩
  · by_cases q : i < R.length
    · rw [List.getElem_append_left q]; exact h.nil i q (by omega)
    · rw [List.getElem_append_right (by omega)]; simp
  · have : (R ++ [(⟨j, j, .slice none 0 0⟩ : Bk)])[i].nx = .slice none 0 0 := by
      by_cases q : i < R.length
      · rw [List.getElem_append_left q]; exact h.nil i q (by omega)
      · rw [List.getElem_append_right (by omega)]; simp
    rw [this] at r
    cases r
  · have : (R ++ [(⟨j, j, .slice none 0 0⟩ : Bk)])[i].nx = .slice none 0 0 := by
      by_cases q : i < R.length
      · rw [List.getElem_append_left q]; exact h.nil i q (by omega)
      · rw [List.getElem_append_right (by omega)]; simp
    rw [this] at r
    cases r
  · rw [List.map_append, he, blF, if_pos hf]; rfl
  · exact World.ownsRow.frozenAt ho' _
/-- A row goes on: its last one is written. -/
theorem L1.on {L : List Ins} {f : Nat → Bool} {w2 wr w3 : World} {j : Nat} {v : Value} {R : List Bk} {x : Bk} (h : Bs L 0 wr w2.heap.size v (R ++ [x])) (he : (R ++ [x]).map Bk.fl = blF f j) (hb : Below w2.heap.size w2 wr) (hf : f j = false) (h3 : Below wr.heap.size wr w3) :
    ∃ g cap, v = .slice (some ⟨g, 0, none⟩) (R.length + 1) cap ∧ L1 L f w2 (j + 1) v (w3.setCell ⟨g, R.length * 3 + 1, none⟩ (.int .i64 (j : Int))) ∧ (∃ y, w3.cell? ⟨g, R.length * 3 + 1, none⟩ = some y) ∧ w3.frozen? ⟨g, R.length * 3 + 1, none⟩ = false ∧ g < w3.heap.size := by
  obtain ⟨g, cap, rfl, h1, h2⟩ := h.row.here (by simp)
  have q := h.below h3
  have hr := BR.put (R0 := R) (R1 := []) q.row ⟨x.f, j, x.nx⟩ 1 (by omega) (.int .i64 (j : Int)) rfl
  have ex : x.nx = .slice none 0 0 := by
    have := h.nil R.length (by simp) (by omega)
    simpa using this
  have enx : ∀ i (hi : i < (R ++ [(⟨x.f, j, x.nx⟩ : Bk)]).length), (R ++ [(⟨x.f, j, x.nx⟩ : Bk)])[i].nx = .slice none 0 0 := fun i hi => by
    by_cases e : i < R.length
    · rw [List.getElem_append_left e]
      have := h.nil i (by simp; omega) (by omega)
      rwa [List.getElem_append_left e] at this
    · rw [List.getElem_append_right (by omega)]; simp [ex]
  have hlo : w2.heap.size ≤ wr.heap.size := hb.size
  refine ⟨g, cap, by simp, Hid.mk ⟨R ++ [⟨x.f, j, x.nx⟩], ⟨hr, fun i hi q => by omega, fun i hi _ => enx i hi, fun i hi q r => ?_, fun i k hi hk q _ r => ?_⟩, ?_, (hb.trans (h3.mono hlo)).setCell h1 _⟩, ⟨_, BR.cell (R0 := R) (R1 := []) q.row 1 (by omega)⟩, World.ownsRow.frozenAt q.row _, Nat.lt_of_lt_of_le h2 h3.size⟩
  · rw [enx i hi] at r; cases r
  · rw [enx i hi] at r; cases r
  · rw [blF, if_neg (by simp [hf]), ← he, List.map_append, List.map_append]
    show _ = upL j (R.map Bk.fl ++ [(x.f, x.l)])
    rw [upL_app]
    rfl
end F
end Go.Proofs.Ytoppcikacakjcaa


/-
  Stage 8, flow: Blocks, its walk.
-/
namespace Go.Proofs.Ytoppcikacakjcaa
namespace F
open Go.RowKit
open T

theorem Bs.lower {L : List Ins} {k : Nat} {w : World} {lo lo' : Nat} {v : Value} {R : List Bk} (h : Bs L k w lo v R) (hb : lo' ≤ lo) : Bs L k w lo' v R := by
  refine ⟨⟨h.row.1, ?_⟩, fun i hi e => own_lower (h.nxs i hi e) hb, h.nil, h.ne, h.pw⟩
  rcases h.row.2 with h2 | ⟨g, cap, cur, hv, hbg, rest⟩
  · exact .inl h2
  · exact .inr ⟨g, cap, cur, hv, by omega, rest⟩
set_option maxRecDepth 100000 in
set_option maxHeartbeats 4000000 in
theorem Blocks_any (L : List Ins) (E : List Int) (ca ea : Option Addr) (cc ec : Nat) (w : World) (hL : LIn w.heap.size w ca L) (hE : NIn w.heap.size w ea E) (hn : L.length < 2000000) (he : E.length ≤ 4000000) :
    Calls Try.prog 7 #[.slice ca L.length cc, .slice ea E.length ec] w fun e w' => ∃ v R, e = .returned v ∧ Bs L R.length w' w.heap.size v R ∧ R.map Bk.fl = blF (firF L E) L.length ∧ Below w.heap.size w w' := by
  have hF := firstsOf_any L E ca ea cc ec w hL hE hn he
  have hX := fun W (q : Below w.heap.size w W) pc => Next_any L ca cc pc W ((hL.below q).mono q.size) hn
  have hfz := fir_zero L E
  generalize firF L E = f at *
  have hH := fun X W (h : SIn W X L.length f) j hj => has_any X L.length j f W h hn hj
  unfold sv at *
  replace hF := Hid.mk hF
  replace hX := Hid.mk hX
  replace hH := Hid.mk hH
  replace hL := Hid.mk hL
  replace hE := Hid.mk hE
  replace hfz := Hid.mk hfz
  go_enter Try.func7, Try.ntmps7
  go_wp2_with (first | (go_at_call 21; refine hF.out.mono ?_; rintro x w1 ⟨X, rfl, a1, a2, a3⟩; replace a1 := Hid.mk a1; replace a3 := Hid.mk a3))
  have hB := At.new w1 #[.slice (some ⟨X, 0, none⟩) ((L.length + 63) / 64) ((L.length + 63) / 64), .int .i64 L.length] 52
  have hX2 := a1.out.below ((Below.refl _ w1).alloc (Nat.le_refl _) (.cells #[.slice (some ⟨X, 0, none⟩) ((L.length + 63) / 64) ((L.length + 63) / 64), .int .i64 L.length] 52)) a1.out.lt
  have hW2 := a3.out.alloc a3.out.size (.cells #[.slice (some ⟨X, 0, none⟩) ((L.length + 63) / 64) ((L.length + 63) / 64), .int .i64 L.length] 52)
  generalize hbx : w1.heap.size = bx at *
  generalize (w1.alloc (.cells #[.slice (some ⟨X, 0, none⟩) ((L.length + 63) / 64) ((L.length + 63) / 64), .int .i64 L.length] 52)) = w2 at *
  generalize (L.length + 63) / 64 = nw at *
  have hst := L1.start L f w2
  have hbl := hB.1
  have hbs := hW2.size
  clear a1 a3 a2 hbx
  replace hB := Hid.mk hB
  replace hX2 := Hid.mk hX2
  replace hW2 := Hid.mk hW2
  clear w1
  go_loopw [6, 14] (fun v x wr => ∃ j : Nat, x = .int .i64 j ∧ j ≤ L.length ∧ L1 L f w2 j v wr) (fun _ x _ => L.length - (intOf x).toNat)
  case atStart => exact ⟨0, rfl, by omega, hst⟩
  case round =>
    clear hst
    obtain ⟨j, rfl, hj, hI⟩ := hrel
    obtain ⟨R, h1, h2, h3⟩ := hI.out
    clear hI
    by_cases hlt : j < L.length
    · have z0 : wr.cell? ⟨bx, 0, none⟩ = some (.slice (some ⟨X, 0, none⟩) nw nw) := (h3.cell (p := ⟨bx, 0, none⟩) hbl).trans (hB.out.2.1 0)
      have z1 : wr.cell? ⟨bx, 1, none⟩ = some (.int .i64 L.length) := (h3.cell (p := ⟨bx, 1, none⟩) hbl).trans (hB.out.2.1 1)
      have hh := Hid.mk (hH.out X wr (hX2.out.below h3 hX2.out.lt) j hlt)
      have hi1 : (j : Int) < L.length := by omega
      have hRl : R.length ≤ j := by have := blF_len f j; rw [← h2, List.length_map] at this; exact this
      cases ef : f j with
      | true =>
        rw [ef] at hh
        have hsz := h3.size
        obtain ⟨va, vc, rfl⟩ := h1.row.slice
        have hap := fun w3 w4 g cap (q1 : Below wr.heap.size wr w3) ho hg => L1.app (w3 := w3) (w4 := w4) (g := g) (cap := cap) h1 h2 h3 ef q1 ho hg
        have hrw := fun W (q : Below wr.heap.size wr W) => (h1.below q).row
        replace hap := Hid.mk hap
        replace hrw := Hid.mk hrw
        replace h1 := Hid.mk h1
        replace h2 := Hid.mk h2
        replace h3 := Hid.mk h3
        replace hRl := Hid.mk hRl
        go_wp2_with (first | (go_at_call 22; refine hh.out.mono ?_; rintro x w3 ⟨rfl, q1⟩; have hs3 := q1.size; replace q1 := Hid.mk q1) | (at_builtin; refine wpList_append_blk rfl (.tmp 20) (.tmp 23) rfl w2.heap.size (.slice va R.length vc) R ⟨j, 0, .slice none 0 0⟩ rfl (hrw.out _ (q1.out.alloc hs3 _)) w3.heap.size rfl (At.new _ _ _) rfl (by have := hRl.out; omega) (by simp; omega) ?_))
        intro g cap w4 g1 g2 g3 g4
        obtain ⟨k1, ⟨y, k2⟩, k3, k4⟩ := hap.out _ w4 g cap (q1.out.alloc hs3 _) g1 g2
        have hRi : (R.length : Int) ≤ 3000000 := by have := hRl.out; omega
        replace g1 := Hid.mk g1
        replace g2 := Hid.mk g2
        go_wp2_with fail
        go_roundw
        all_goals first | exact ⟨j + 1, by simp, by omega, k1⟩ | (simp only [intOf]; omega)
      | false =>
        rw [ef] at hh
        have hj0 : 0 < j := by
          rcases Nat.eq_zero_or_pos j with r | r
          · subst r; rw [hfz.out] at ef; cases ef
          · exact r
        have hne := blF_ne f hfz.out j hj0
        rcases List.eq_nil_or_concat R with r | ⟨R0, x, r⟩
        · subst r; exact absurd h2.symm (by simpa using hne)
        · rw [List.concat_eq_append] at r
          subst r
          have hon := fun w3 (q1 : Below wr.heap.size wr w3) => L1.on (w3 := w3) h1 h2 h3 ef q1
          obtain ⟨g, cap, rfl, hlo, hgl⟩ := h1.row.here (by simp)
          have hRi : (R0.length : Int) ≤ 3000000 := by simp at hRl; omega
          simp only [List.length_append, List.length_singleton] at hon ⊢
          replace hon := Hid.mk hon
          replace h1 := Hid.mk h1
          replace h2 := Hid.mk h2
          replace h3 := Hid.mk h3
          replace hRl := Hid.mk hRl
          replace hne := Hid.mk hne
          go_wp2_with (first | (go_at_call 22; refine hh.out.mono ?_; rintro x w3 ⟨rfl, q1⟩; obtain ⟨g', cap', eg, k1, ⟨y, k2⟩, k3, k4⟩ := hon.out w3 q1; injection eg with eg1 eg2 eg3; injection eg1 with eg1; injection eg1 with eg1; subst eg1 eg3; replace q1 := Hid.mk q1))
          go_roundw
          all_goals first | exact ⟨j + 1, by simp, by omega, k1⟩ | (simp only [intOf]; omega)
    · have hi1 : ¬ (j : Int) < L.length := by omega
      have ej : j = L.length := by omega
      subst ej
      have hRl : R.length ≤ L.length := by have := blF_len f L.length; rw [← h2, List.length_map] at this; exact this
      have h0 : L2 L f w2 0 u6 wr := Hid.mk ⟨R, h1, h2, h3⟩
      obtain ⟨va, vc, rfl⟩ := h1.row.slice
      have hlen : (blF f L.length).length = R.length := by rw [← h2, List.length_map]
      clear h1 h2 h3
      generalize R.length = m at *
      clear R
      replace hlen := Hid.mk hlen
      go_wp2_with fail
      rename World => wo
      go_loopw [35] (fun x wr => ∃ k : Nat, x = .int .i64 k ∧ k ≤ m ∧ L2 L f w2 k (.slice va m vc) wr) (fun x _ => m - (intOf x).toNat)
      case atStart => exact ⟨0, rfl, by omega, h0⟩
      case round =>
        clear h0
        obtain ⟨k, rfl, hk, hI⟩ := hrel
        obtain ⟨R, h1, h2, h3⟩ := hI.out
        clear hI
        have hm : R.length = m := by rw [← hlen.out, ← h2, List.length_map]
        by_cases hlt : k < m
        · have hkl : k < R.length := by omega
          obtain ⟨R0, x, R1, rfl, hk0⟩ : ∃ R0 x R1, R = R0 ++ x :: R1 ∧ R0.length = k := ⟨R.take k, R[k], R.drop (k + 1), by rw [List.getElem_cons_drop, List.take_append_drop], by simp; omega⟩
          subst hk0
          obtain ⟨g, cap, ev, hlo, hgl⟩ := h1.row.here (by simp)
          rw [hm] at ev
          injection ev with ev1 ev2 ev3
          subst ev1 ev3
          rw [← hm] at h1
          have hnx := fun w3 (q1 : Below wr.heap.size wr w3) v' hv' => h1.next q1 v' hv' h3.size
          have c1 : wr.cell? ⟨g, R0.length * 3 + 1, none⟩ = some (.int .i64 x.l) := BR.cell h1.row 1 (by omega)
          have c2 := fun w3 (q1 : Below wr.heap.size wr w3) => BR.cell (h1.below q1).row 2 (by omega)
          have fr := fun w3 (q1 : Below wr.heap.size wr w3) => World.ownsRow.frozenAt (h1.below q1).row (R0.length * 3 + 2)
          have hXx := hX.out wr (hW2.out.trans (h3.mono hbs)) (x.l : Int)
          have hi1 : (R0.length : Int) < m := by omega
          have hfl : (R0 ++ (⟨x.f, x.l, .slice none 0 0⟩ : Bk) :: R1).map Bk.fl = blF f L.length := by rw [← h2]; simp [Bk.fl]
          rw [hm] at hnx
          have hB3 : ∀ (w3 : World) (a : Addr) (v' : Value), Below wr.heap.size wr w3 → w2.heap.size ≤ a.block → Below w2.heap.size w2 (w3.setCell a v') := fun w3 a v' q1 q2 => (h3.trans (q1.mono h3.size)).setCell q2 _
          replace h1 := Hid.mk h1
          replace h2 := Hid.mk h2
          replace h3 := Hid.mk h3
          replace hnx := Hid.mk hnx
          replace c2 := Hid.mk c2
          replace fr := Hid.mk fr
          replace hXx := Hid.mk hXx
          replace hfl := Hid.mk hfl
          replace hB3 := Hid.mk hB3
          replace hm := Hid.mk hm
          go_wp2_with (first | (go_at_call 17; refine hXx.out.mono ?_; rintro y w3 ⟨v', rfl, q1, q2⟩; obtain ⟨va', vc', rfl⟩ := own_slice q1; have d1 := c2.out w3 q2; have d2 := fr.out w3 q2; have d3 := Nat.lt_of_lt_of_le hgl q2.size; simp only [Bk.vals, List.getElem?_cons_succ, List.getElem?_cons_zero] at d1; have d4 := Hid.mk (hnx.out w3 q2 _ q1); have d5 := Hid.mk (hB3.out w3 ⟨g, R0.length * 3 + 2, none⟩ (.slice va' (nxtI L (x.l : Int)).length vc') q2 hlo); replace q1 := Hid.mk q1; replace q2 := Hid.mk q2))
          go_roundw
          all_goals first | exact ⟨R0.length + 1, by simp, by omega, Hid.mk ⟨_, d4.out, by rw [← hfl.out]; simp [Bk.fl], d5.out⟩⟩ | (simp only [intOf]; omega)
        · have hi1 : ¬ (k : Int) < m := by omega
          have ek : k = R.length := by omega
          subst ek
          replace h1 := Hid.mk h1
          replace h2 := Hid.mk h2
          replace h3 := Hid.mk h3
          replace hm := Hid.mk hm
          go_wp2_with fail
          go_ret
          exact ⟨_, rfl, R, h1.out.lower hbs, h2.out, hW2.out.trans (h3.out.mono hbs)⟩
end F
end Go.Proofs.Ytoppcikacakjcaa
