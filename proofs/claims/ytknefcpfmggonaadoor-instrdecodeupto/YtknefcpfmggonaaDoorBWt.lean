/-
  Books of lists that came out: a list written over with marks; marks put behind it one by one.
-/
import Derived.Test.YtknefcpfmggonaaDoorBMark
namespace Go.Proofs.YtknefcpfmggonaaDoor
namespace B
open Go.RowKit

structure Hd (p : Prop) : Prop where
  out : p
theorem there_own {w : World} {lo e size n c g : Nat} {xs : List Value} (h : w.ownsRow lo e size (.slice (some ⟨g, 0, none⟩) n c) n xs) {k : Nat} (hk : k < n) : w.there g (k * size) size := by
  rcases h.2 with ⟨q, _⟩ | ⟨g', cap, cur, q, hb, hg, hn, hc, hz, ht⟩
  · cases q
  · cases q
    intro j hj
    unfold World.cell? World.frozen?
    simp only [hg]
    have hlt : k * size + j < cur.size := by
      rw [hz]
      have h1 : (k + 1) * size ≤ c * size := Nat.mul_le_mul_right _ (Nat.le_trans hk hn)
      rw [Nat.add_mul] at h1
      omega
    simp [hlt]
/-- The first k elements of a list are written over. -/
structure Wt (w : World) (lo K n : Nat) (v : Value) (km k : Nat) (W : World) : Prop where
  kq : Kq (fun b => v.ownBlock = some b) w W
  sh : ∃ xs, W.ownsRow lo 35 (mkI K).length v n xs
  cs : ∀ g, v.ownBlock = some g → ∀ q, q < k → ∀ j, j < (mkI K).length → W.cell? ⟨g, q * (mkI K).length + j, none⟩ = (mkI K)[j]?
  akm : At W km (mkI K).toArray
  kmn : w.heap.size ≤ km
theorem kq_sets {P : Nat → Prop} {w W : World} (h : Kq P w W) (g o : Nat) (vs : List Value) (hg : P g) : Kq P w (W.setCells g o vs) := by
  have k0 := World.keptBut_setCells g (may := fun _ => True) vs o W (fun _ _ => trivial)
  have hne : ∀ k, ¬ P k → k ≠ g := fun k hp e => hp (by rw [e]; exact hg)
  have kt : ∀ (vs : List Value) (o : Nat) (W : World), (W.setCells g o vs).tape = W.tape := by
    intro vs
    induction vs with
    | nil => intro _ _; rfl
    | cons v r ih => intro o W; exact (ih (o + 1) _).trans rfl
  exact ⟨k0.1.trans h.os, (kt vs o W).trans h.tape, k0.2.1.trans h.output, by rw [setCells_size]; exact h.size, fun k hk hp => (sets_other g vs o W (hne k hp)).trans (h.block k hk hp)⟩
theorem Wt.write {w : World} {lo K n km k g c : Nat} {W : World} (h : Wt w lo K n (.slice (some ⟨g, 0, none⟩) n c) km k W) (hk : k < n) (hg : g < w.heap.size) : Wt w lo K n (.slice (some ⟨g, 0, none⟩) n c) km (k + 1) (W.setCells g (k * (mkI K).length) (mkI K)) := by
  obtain ⟨xs, hx⟩ := h.sh
  have th := there_own hx hk
  refine ⟨kq_sets h.kq g _ _ rfl, own_shape hx (fun k' cur q r => by cases q; exact sets_heap g _ _ r), fun g' e q hq j hj => ?_, h.akm.other (by have := h.kmn; omega) _ _, h.kmn⟩
  cases e
  by_cases e : q = k
  · subst e
    rw [World.cell?_setCells_in g (mkI K) _ W (fun j hj => (th j hj).1) j hj, List.getElem?_eq_getElem hj]
  · have hqk : q < k := by omega
    have h1 : (q + 1) * (mkI K).length ≤ k * (mkI K).length := Nat.mul_le_mul_right _ hqk
    rw [Nat.add_mul] at h1
    rw [World.cell?_setCells_out g _ _ W ⟨g, q * (mkI K).length + j, none⟩ (fun _ _ => .inl (by show q * (mkI K).length + j < k * (mkI K).length; omega))]
    exact h.cs g rfl q hqk j hj
theorem Wt.full {w : World} {lo K n km : Nat} {v : Value} {W : World} (h : Wt w lo K n v km n W) : W.ownsRow lo 35 (mkI K).length v n (mks (mkI K) n) := by
  obtain ⟨xs, hx⟩ := h.sh
  rcases hx.2 with ⟨rfl, rfl⟩ | ⟨g, cap, cur, rfl, _⟩
  · exact ⟨by simp [mks], .inl ⟨rfl, rfl⟩⟩
  · exact own_of_cells ⟨xs, hx⟩ (h.cs g rfl) (mkI_pos K)
theorem Wt.start {w W1 : World} {lo K n : Nat} {v : Value} (h : ∃ xs, w.ownsRow lo 35 (mkI K).length v n xs) (G : Gr w W1) (t : TypeId) : Wt w lo K n v W1.heap.size 0 (W1.alloc (.cells (mkI K).toArray t)) := by
  have g := G.trans ((Gr.refl W1).alloc (.cells (mkI K).toArray t))
  obtain ⟨xs, hx⟩ := h
  exact ⟨(Kq.refl _ w).gr g, ⟨xs, own_below hx g.below⟩, fun g e q hq => absurd hq (Nat.not_lt_zero q), At.new W1 _ _, G.below.size⟩
theorem own_form {W : World} {lo e s n c : Nat} {a : Option Addr} (h : ∃ xs, W.ownsRow lo e s (.slice a n c) n xs) (hn : 0 < n) : ∃ g, a = some ⟨g, 0, none⟩ := by
  obtain ⟨xs, h⟩ := h
  rcases h.2 with ⟨q, _⟩ | ⟨g, cap, cur, q, _⟩
  · cases q; omega
  · cases q; exact ⟨g, rfl⟩
theorem nx_w {i n : Nat} (hi : i < n) (h : n ≤ 1048576) : IntKind.i64.wrap ((i : Int) + 1) = ((i + 1 : Nat) : Int) := by rw [IntKind.wrap_i64]; omega
theorem nx_m {i n : Nat} (hi : i < n) : n - (i + 1) < n - i := by omega
theorem nx_m2 {k n : Nat} (h : k < n) : n - (intOf (.int .i64 ((k + 1 : Nat) : Int))).toNat < n - (intOf (.int .i64 (k : Int))).toNat := by simp [intOf]; omega
/-- Marks are put behind it one by one. -/
structure Lg (w : World) (lo K n : Nat) (v : Value) (km : Nat) (lv : Value) (m : Nat) (W : World) : Prop where
  kq : Kq (fun b => v.ownBlock = some b) w W
  ov : W.ownsRow lo 35 (mkI K).length v n (mks (mkI K) n)
  ol : W.ownsRow lo 35 (mkI K).length lv m (mks (mkI K) m)
  akm : At W km (mkI K).toArray
  kmn : w.heap.size ≤ km
  pos : ∀ g, lv.ownBlock = some g → (v.ownBlock = some g ∨ w.heap.size ≤ g) ∧ g ≠ km
theorem Wt.lg {w : World} {lo K n km : Nat} {v : Value} {W : World} (h : Wt w lo K n v km n W) (hvb : ∀ g, v.ownBlock = some g → g < w.heap.size) : Lg w lo K n v km v n W :=
  ⟨h.kq, h.full, h.full, h.akm, h.kmn, fun g e => ⟨.inl e, by have := hvb g e; have := h.kmn; omega⟩⟩
theorem Lg.step {w : World} {lo K n km m g c : Nat} {v lv : Value} {W W' : World} {o : Obj} (h : Lg w lo K n v km lv m W) (k1 : W'.ownsRow lo 35 (mkI K).length (.slice (some ⟨g, 0, none⟩) (m + 1) c) (m + 1) (mks (mkI K) (m + 1))) (k2 : (W.alloc o).grownBy W' lv.ownBlock) (k3 : lv.ownBlock = some g ∨ g = (W.alloc o).heap.size) (k5 : Mine (mkI K) (W.alloc o) W') (k6 : ∀ (k : Nat) (cur : Array Value), lv.ownBlock = some k → (W.alloc o).heap[k]? = some (Obj.cells cur 35 (0, 0)) → ∃ cur' : Array Value, W'.heap[k]? = some (Obj.cells cur' 35 (0, 0)) ∧ cur'.size = cur.size) : Lg w lo K n v km (.slice (some ⟨g, 0, none⟩) (m + 1) c) (m + 1) W' := by
  have g0 : Gr W (W.alloc o) := (Gr.refl W).alloc o
  have sh := shp_app k2 k6
  have hkm := h.akm.1
  refine ⟨(h.kq.gr g0).step k2 (fun k q => (h.pos k q).1), own_mine (mkI_pos K) (own_below h.ov g0.below) k5 (fun k cur _ q => sh k cur q), k1, at_grown (h.akm.gr g0) k2 (fun q => (h.pos km q).2 rfl), h.kmn, fun g' e => ?_⟩
  have e' : g = g' := by simpa [Value.ownBlock] using e
  subst e'
  rcases k3 with q | q
  · exact h.pos g q
  · refine ⟨.inr ?_, ?_⟩
    · have := h.kq.size; have := g0.below.size; omega
    · have := g0.below.size; omega
theorem Lg.st {w : World} {lo K n km m : Nat} {v lv : Value} {W : World} (h : Lg w lo K n v km lv m W) : St w lo K n 0 v lv m km none none none none none none W :=
  ⟨h.kq, h.ov, h.ol, h.akm, h.kmn, fun x q => (by cases q), fun x q => (by cases q), fun a b q => (by cases q), fun a b q => (by cases q), fun x q => (by cases q), fun x q => (by cases q)⟩
end B
end Go.Proofs.YtknefcpfmggonaaDoor
