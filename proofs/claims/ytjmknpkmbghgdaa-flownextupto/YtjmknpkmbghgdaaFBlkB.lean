/-
  Stage 8, flow: Blocks, whole.
-/
import Derived.Test.YtjmknpkmbghgdaaFBlk
namespace Go.Proofs.Ytjmknpkmbghgdaa
namespace F
open Go.RowKit
open T

/-- Rows that the call owns: their lists too, each apart from all. -/
structure Bs (L : List Ins) (k : Nat) (w : World) (lo : Nat) (v : Value) (R : List Bk) : Prop where
  row : BR w lo v R
  nxs : ∀ i (h : i < R.length), i < k → IOwn w lo R[i].nx (nxtI L (R[i].l : Int))
  nil : ∀ i (h : i < R.length), k ≤ i → R[i].nx = .slice none 0 0
  ne : ∀ i (h : i < R.length) g, R[i].nx.ownBlock = some g → v.ownBlock ≠ some g
  pw : ∀ i j (hi : i < R.length) (hj : j < R.length) g, i < j → R[i].nx.ownBlock = some g → R[j].nx.ownBlock ≠ some g
theorem Bs.one {L : List Ins} {k : Nat} {w : World} {lo : Nat} {v : Value} {R : List Bk} (h : Bs L k w lo v R) (i : Nat) (hi : i < R.length) : R[i].nx.oneCell' = true := by
  by_cases e : i < k
  · obtain ⟨a, c, q⟩ := own_slice (h.nxs i hi e)
    rw [q]; rfl
  · rw [h.nil i hi (by omega)]; rfl
theorem Bs.below {L : List Ins} {k : Nat} {w w1 : World} {lo : Nat} {v : Value} {R : List Bk} (h : Bs L k w lo v R) (hb : Below w.heap.size w w1) : Bs L k w1 lo v R :=
  ⟨own_below h.row hb, fun i hi e => own_below (h.nxs i hi e) hb, h.nil, h.ne, h.pw⟩
/-- One list more is laid. -/
theorem Bs.next {L : List Ins} {w w1 : World} {lo g cap : Nat} {R0 R1 : List Bk} {x : Bk} (h : Bs L R0.length w lo (.slice (some ⟨g, 0, none⟩) (R0 ++ x :: R1).length cap) (R0 ++ x :: R1)) (hb : Below w.heap.size w w1) (v : Value) (hv : IOwn w1 w.heap.size v (nxtI L (x.l : Int))) (hlo : lo ≤ w.heap.size) :
    Bs L (R0.length + 1) (w1.setCell ⟨g, R0.length * 3 + 2, none⟩ v) lo (.slice (some ⟨g, 0, none⟩) (R0 ++ x :: R1).length cap) (R0 ++ ⟨x.f, x.l, v⟩ :: R1) := by
  have hr := BR.put (h.below hb).row ⟨x.f, x.l, v⟩ 2 (by omega) v rfl
  have hg : g < w.heap.size := (World.ownsRow.lt h.row g rfl).2
  have hs : Kp (fun q => q = g) w1 (w1.setCell ⟨g, R0.length * 3 + 2, none⟩ v) := Kp.set (S := fun q => q = g) w1 _ _ rfl
  have hvg : ∀ q, v.ownBlock = some q → w.heap.size ≤ q := fun q r => (World.ownsRow.lt hv q r).1
  have old : ∀ i (hi : i < (R0 ++ (⟨x.f, x.l, v⟩ : Bk) :: R1).length) (hne : i ≠ R0.length), ∃ hi' : i < (R0 ++ x :: R1).length, (R0 ++ (⟨x.f, x.l, v⟩ : Bk) :: R1)[i] = (R0 ++ x :: R1)[i] := fun i hi hne => by
    have hi' : i < (R0 ++ x :: R1).length := by simpa using hi
    refine ⟨hi', ?_⟩
    by_cases e : i < R0.length
    · rw [List.getElem_append_left e, List.getElem_append_left e]
    · rw [List.getElem_append_right (by omega), List.getElem_append_right (by omega)]
      obtain ⟨m, hm⟩ : ∃ m, i - R0.length = m + 1 := ⟨i - R0.length - 1, by omega⟩
      simp only [hm, List.getElem_cons_succ]
  have new : ∀ (hi : R0.length < (R0 ++ (⟨x.f, x.l, v⟩ : Bk) :: R1).length), (R0 ++ (⟨x.f, x.l, v⟩ : Bk) :: R1)[R0.length] = ⟨x.f, x.l, v⟩ := fun hi => by simp
  have oldb : ∀ i (hi : i < (R0 ++ x :: R1).length) q, (R0 ++ x :: R1)[i].nx.ownBlock = some q → q < w.heap.size := fun i hi q r => by
    by_cases e : i < R0.length
    · exact (World.ownsRow.lt (h.nxs i hi e) q r).2
    · rw [h.nil i hi (by omega)] at r; cases r
  refine ⟨hr, fun i hi e => ?_, fun i hi e => ?_, fun i hi q r => ?_, fun i j hi hj q hij r => ?_⟩
  · by_cases e2 : i = R0.length
    · subst e2
      rw [new hi]
      exact own_kp (own_lower hv hlo) hs (fun q r e3 => by have := hvg q r; omega)
    · obtain ⟨hi', eq⟩ := old i hi e2
      rw [eq]
      refine own_kp (own_below (h.nxs i hi' (by omega)) hb) hs (fun q r e3 => ?_)
      subst e3
      exact h.ne i hi' q r rfl
  · obtain ⟨hi', eq⟩ := old i hi (by omega)
    rw [eq]
    exact h.nil i hi' (by omega)
  · by_cases e2 : i = R0.length
    · subst e2
      rw [new hi] at r
      have := hvg q r
      intro e3
      have : g = q := by simpa [Value.ownBlock] using e3
      omega
    · obtain ⟨hi', eq⟩ := old i hi e2
      rw [eq] at r
      exact h.ne i hi' q r
  · by_cases e2 : i = R0.length
    · subst e2
      rw [new hi] at r
      obtain ⟨hj', eq⟩ := old j hj (by omega)
      rw [eq]
      intro e3
      have := oldb j hj' q e3
      have := hvg q r
      omega
    · obtain ⟨hi', eq⟩ := old i hi e2
      rw [eq] at r
      by_cases e4 : j = R0.length
      · subst e4
        rw [new hj]
        intro e3
        have := oldb i hi' q r
        have := hvg q e3
        omega
      · obtain ⟨hj', eq2⟩ := old j hj e4
        rw [eq2]
        exact h.pw i j hi' hj' q hij r
/-- The first loop. -/
def L1 (L : List Ins) (f : Nat → Bool) (w2 : World) (j : Nat) (v : Value) (wr : World) : Prop :=
  Hid (∃ R, Bs L 0 wr w2.heap.size v R ∧ R.map Bk.fl = blF f j ∧ Below w2.heap.size w2 wr)
def L2 (L : List Ins) (f : Nat → Bool) (w2 : World) (k : Nat) (v : Value) (wr : World) : Prop :=
  Hid (∃ R, Bs L k wr w2.heap.size v R ∧ R.map Bk.fl = blF f L.length ∧ Below w2.heap.size w2 wr)
theorem L1.start (L : List Ins) (f : Nat → Bool) (w : World) : L1 L f w 0 (.slice none 0 0) w :=
  Hid.mk ⟨[], ⟨⟨rfl, .inl ⟨rfl, rfl⟩⟩, fun i h => by simp at h, fun i h => by simp at h, fun i h => by simp at h, fun i j h => by simp at h⟩, rfl, Below.refl _ _⟩
/-- A row is begun: it is appended; then its last one is written. -/
theorem L1.app {L : List Ins} {f : Nat → Bool} {w2 wr w3 w4 : World} {j g cap : Nat} {v : Value} {R : List Bk} (h : Bs L 0 wr w2.heap.size v R) (he : R.map Bk.fl = blF f j) (hb : Below w2.heap.size w2 wr) (hf : f j = true) (h3 : Below wr.heap.size wr w3)
    (ho : BR w4 w2.heap.size (.slice (some ⟨g, 0, none⟩) (R.length + 1) cap) (R ++ [⟨j, 0, .slice none 0 0⟩])) (hg : w3.grownBy w4 v.ownBlock) :
    L1 L f w2 (j + 1) (.slice (some ⟨g, 0, none⟩) (R.length + 1) cap) (w4.setCell ⟨g, R.length * 3 + 1, none⟩ (.int .i64 (j : Int))) ∧ (∃ y, w4.cell? ⟨g, R.length * 3 + 1, none⟩ = some y) ∧ w4.frozen? ⟨g, R.length * 3 + 1, none⟩ = false ∧ g < w4.heap.size := by
  have e : R.length + 1 = (R ++ (⟨j, 0, .slice none 0 0⟩ : Bk) :: []).length := by simp
  have ho' : BR w4 w2.heap.size (.slice (some ⟨g, 0, none⟩) (R ++ (⟨j, 0, .slice none 0 0⟩ : Bk) :: []).length cap) (R ++ (⟨j, 0, .slice none 0 0⟩ : Bk) :: []) := by rw [← e]; exact ho
  have hr := BR.put ho' ⟨j, j, .slice none 0 0⟩ 1 (by omega) (.int .i64 (j : Int)) rfl
  have hlo : w2.heap.size ≤ wr.heap.size := hb.size
  have hB : Below w2.heap.size w3 w4 := Below.of_grown hg (Nat.le_trans hlo h3.size) (fun q r => (World.ownsRow.lt h.row q r).1)
  have hgl := World.ownsRow.lt ho g rfl
  refine ⟨Hid.mk ⟨R ++ [⟨j, j, .slice none 0 0⟩], ⟨by rw [e]; exact hr, fun i hi q => by omega, fun i hi _ => ?_, fun i hi q r => ?_, fun i k hi hk q _ r => ?_⟩, ?_, ((hb.trans (h3.mono hlo)).trans hB).setCell hgl.1 _⟩, ⟨_, BR.cell ho' 1 (by omega)⟩, ?_, hgl.2⟩
  · by_cases q : i < R.length
    · rw [List.getElem_append_left q]; exact h.nil i q (by omega)
    · rw [List.getElem_append_right (by omega)]; simp
  · have : (R ++ [(⟨j, j, .slice none 0 0⟩ : Bk)])[i].nx = .slice none 0 0 := by
      by_cases q : i < R.length
      · rw [List.getElem_append_left q]; exact h.nil i q (by omega)
      · rw [List.getElem_append_right (by omega)]; simp
    rw [this] at r
    cases r
  · have : (R ++ [(⟨j, j, .slice none 0 0⟩ : Bk)])[i].nx = .slice none 0 0 := by
      by_cases q : i < R.length
      · rw [List.getElem_append_left q]; exact h.nil i q (by omega)
      · rw [List.getElem_append_right (by omega)]; simp
    rw [this] at r
    cases r
  · rw [List.map_append, he, blF, if_pos hf]; rfl
  · exact World.ownsRow.frozenAt ho' _
/-- A row goes on: its last one is written. -/
theorem L1.on {L : List Ins} {f : Nat → Bool} {w2 wr w3 : World} {j : Nat} {v : Value} {R : List Bk} {x : Bk} (h : Bs L 0 wr w2.heap.size v (R ++ [x])) (he : (R ++ [x]).map Bk.fl = blF f j) (hb : Below w2.heap.size w2 wr) (hf : f j = false) (h3 : Below wr.heap.size wr w3) :
    ∃ g cap, v = .slice (some ⟨g, 0, none⟩) (R.length + 1) cap ∧ L1 L f w2 (j + 1) v (w3.setCell ⟨g, R.length * 3 + 1, none⟩ (.int .i64 (j : Int))) ∧ (∃ y, w3.cell? ⟨g, R.length * 3 + 1, none⟩ = some y) ∧ w3.frozen? ⟨g, R.length * 3 + 1, none⟩ = false ∧ g < w3.heap.size := by
  obtain ⟨g, cap, rfl, h1, h2⟩ := h.row.here (by simp)
  have q := h.below h3
  have hr := BR.put (R0 := R) (R1 := []) q.row ⟨x.f, j, x.nx⟩ 1 (by omega) (.int .i64 (j : Int)) rfl
  have ex : x.nx = .slice none 0 0 := by
    have := h.nil R.length (by simp) (by omega)
    simpa using this
  have enx : ∀ i (hi : i < (R ++ [(⟨x.f, j, x.nx⟩ : Bk)]).length), (R ++ [(⟨x.f, j, x.nx⟩ : Bk)])[i].nx = .slice none 0 0 := fun i hi => by
    by_cases e : i < R.length
    · rw [List.getElem_append_left e]
      have := h.nil i (by simp; omega) (by omega)
      rwa [List.getElem_append_left e] at this
    · rw [List.getElem_append_right (by omega)]; simp [ex]
  have hlo : w2.heap.size ≤ wr.heap.size := hb.size
  refine ⟨g, cap, by simp, Hid.mk ⟨R ++ [⟨x.f, j, x.nx⟩], ⟨hr, fun i hi q => by omega, fun i hi _ => enx i hi, fun i hi q r => ?_, fun i k hi hk q _ r => ?_⟩, ?_, (hb.trans (h3.mono hlo)).setCell h1 _⟩, ⟨_, BR.cell (R0 := R) (R1 := []) q.row 1 (by omega)⟩, World.ownsRow.frozenAt q.row _, Nat.lt_of_lt_of_le h2 h3.size⟩
  · rw [enx i hi] at r; cases r
  · rw [enx i hi] at r; cases r
  · rw [blF, if_neg (by simp [hf]), ← he, List.map_append, List.map_append]
    show _ = upL j (R.map Bk.fl ++ [(x.f, x.l)])
    rw [upL_app]
    rfl
end F
end Go.Proofs.Ytjmknpkmbghgdaa
