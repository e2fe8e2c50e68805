import Derived.Test.YtoppcikacakjcaaP30
/-
  Stage 8, flow: FlowBlocks: behind ownAll and apart.
-/
namespace Go.Proofs.Ytoppcikacakjcaa
namespace F
open Go.RowKit
open T

structure Pr (w : World) (L : List Ins) (E : List Int) (bB gl gi lx lz ly : Nat) (x z y : Value) (Rx Rz Ry : List Bk) (W : World) : Prop where
  gs : Gs w gl gi L E W
  box : At W bB #[.int .i64 0, .slice none 0 0, .slice none 0 0]
  loB : w.heap.size ≤ bB
  bx : bB < lx
  glx : gl < lx
  gix : gi < lx
  wlx : w.heap.size ≤ lx
  hx : Bs L Rx.length W lx x Rx
  hz : Bs L Rz.length W lz z Rz
  hy : Bs L Ry.length W ly y Ry
  lxz : lx ≤ lz
  lzy : lz ≤ ly
  x1 : ∀ g, x.ownBlock = some g → g < lz
  x2 : ∀ j (h : j < Rx.length) g, Rx[j].nx.ownBlock = some g → g < lz
  z1 : ∀ g, z.ownBlock = some g → g < ly
  z2 : ∀ j (h : j < Rz.length) g, Rz[j].nx.ownBlock = some g → g < ly
  eq : Rz.length = Rx.length
section
variable {w : World} {L : List Ins} {E : List Int} {bB gl gi lx lz ly : Nat} {x z y : Value} {Rx Rz Ry : List Bk} {W : World}
theorem Pr.below {W1 : World} (h : Pr w L E bB gl gi lx lz ly x z y Rx Rz Ry W) (hb : Below W.heap.size W W1) : Pr w L E bB gl gi lx lz ly x z y Rx Rz Ry W1 :=
  ⟨h.gs.below hb, at_below h.box hb h.box.1, h.loB, h.bx, h.glx, h.gix, h.wlx, h.hx.below hb, h.hz.below hb, h.hy.below hb, h.lxz, h.lzy, h.x1, h.x2, h.z1, h.z2, h.eq⟩
/-- What is known behind ownAll, and behind apart. -/
structure Po (w : World) (L : List Ins) (E : List Int) (bB gl gi ly : Nat) (y : Value) (Ry : List Bk) (N : Nat) (W : World) : Prop where
  gs : Gs w gl gi L E W
  hy : Bs L Ry.length W ly y Ry
  bok : ∃ v1 v2 T c', Bok W bB N v1 v2 T c' ∧ T.length = 3 * N
theorem Po.below {N : Nat} {W1 : World} (h : Po w L E bB gl gi ly y Ry N W) (hb : Below W.heap.size W W1) : Po w L E bB gl gi ly y Ry N W1 := by
  obtain ⟨v1, v2, T, c', h1, h2⟩ := h.bok
  exact ⟨h.gs.below hb, h.hy.below hb, v1, v2, T, c', h1.below hb, h2⟩
theorem Pr.own {V : Value} {lv : Nat} (h : Pr w L E bB gl gi lx lz ly x z y Rx Rz Ry W) (hV : W.ownsRow lv 23 1 V (vsF Rx Rz Rx.length).length (vsF Rx Rz Rx.length)) (hlv : ly ≤ lv) (hn : ∀ p, (nxtI L p).length ≤ 1900000) :
    ∃ c : Nat → Int, Sh W bB V (vsF Rx Rz Rx.length) c (fun _ => 0) W ∧ c bB = -3 ∧ Cl c V 0 ∧ (∀ k, c k ≠ -1 ∧ c k ≠ -2) ∧ ∀ N W1, Ow W bB N c W1 →
      W1.ownsRow 0 37 3 x Rx.length (bfl Rx) ∧ W1.ownsRow 0 37 3 z Rx.length (bfl Rz) ∧ (∀ g, x.ownBlock = some g → z.ownBlock ≠ some g) ∧
      ∀ W2, Kp (fun k => x.ownBlock = some k ∨ z.ownBlock = some k) W1 W2 → Po w L E bB gl gi ly y Ry N W2 := by
  obtain ⟨c, c0, c1, c2, c3, c4, c5⟩ := ready h.hx h.hz h.eq h.bx h.box h.x2 (fun j hj g r => Nat.lt_of_lt_of_le (h.z2 j hj g r) hlv) h.lxz (Nat.le_trans h.lzy hlv) hV hn
  refine ⟨c, c0, c1, c2, c3, fun N W1 hO => ?_⟩
  obtain ⟨v1, v2, T, c', o1, o2, o3, o4⟩ := hO
  have g1 := h.bx; have g2 := h.glx; have g3 := h.gix; have g4 := h.lxz; have g5 := h.lzy; have g6 := h.wlx; have g7 := h.loB
  have xl : ∀ g, x.ownBlock = some g → lx ≤ g ∧ g < lz := fun g r => ⟨(World.ownsRow.lt h.hx.row g r).1, h.x1 g r⟩
  have zl : ∀ g, z.ownBlock = some g → lz ≤ g ∧ g < ly := fun g r => ⟨(World.ownsRow.lt h.hz.row g r).1, h.z1 g r⟩
  have xn : ∀ j (hj : j < Rx.length) g, Rx[j].nx.ownBlock = some g → lx ≤ g ∧ g < lz := fun j hj g r => ⟨(World.ownsRow.lt (h.hx.nxs j hj hj) g r).1, h.x2 j hj g r⟩
  have zn : ∀ j (hj : j < Rz.length) g, Rz[j].nx.ownBlock = some g → lz ≤ g ∧ g < ly := fun j hj g r => ⟨(World.ownsRow.lt (h.hz.nxs j hj hj) g r).1, h.z2 j hj g r⟩
  have rng : ∀ k, 0 < c k → lx ≤ k ∧ k < ly := fun k q => by
    rcases c4 k q with ⟨j, hj, r⟩ | ⟨j, hj, r⟩
    · have := xn j hj k r; omega
    · have := zn j hj k r; omega
  have xz : ∀ k, x.ownBlock = some k ∨ z.ownBlock = some k → k ≠ bB ∧ c k = 0 := fun k q => by
    rcases q with q | q
    · have := xl k q
      exact ⟨by omega, c5 k (by omega) (fun j hj r => h.hx.ne j hj k r q) (fun j hj r => by have := zn j hj k r; omega)⟩
    · have := zl k q
      exact ⟨by omega, c5 k (by omega) (fun j hj r => by have := xn j hj k r; omega) (fun j hj r => h.hz.ne j hj k r q)⟩
  have xz' : ∀ k, x.ownBlock = some k ∨ z.ownBlock = some k → ¬ (k = bB ∨ 0 < c k) := fun k q r => by
    have := xz k q
    omega
  refine ⟨row_lower (own_kp h.hx.row o3 (fun g r => xz' g (.inl r))) (Nat.zero_le _), ?_, fun g r q => by have := xl g r; have := zl g q; omega, fun W2 hK => ⟨?_, ?_, v1, v2, T, c', ?_, o2⟩⟩
  · have := row_lower (own_kp h.hz.row o3 (fun g r => xz' g (.inr r))) (Nat.zero_le 0 |> fun _ => Nat.zero_le _)
    rw [h.eq] at this
    exact this
  · refine (h.gs.kp o3 (fun q => ?_) (fun q => ?_) (fun k q => ?_)).kp hK (fun q => ?_) (fun q => ?_) (fun k q => ?_)
    · rcases q with q | q
      · have e := h.gs.cl
        have e2 := h.box
        rw [q] at e
        have z0 := e.2.1 0
        have z1 := e2.2.1 0
        rw [z0] at z1
        have z3 := e2.2.1 3
        rw [e.2.1 3] at z3
        have := insA_size (L ++ mkI8)
        have hlt : 3 < (insA (L ++ mkI8)).size := by rw [this]; simp [mkI8]; omega
        rw [Array.getElem?_eq_getElem hlt] at z3
        simp at z3
      · have := rng gl q; omega
    · rcases q with q | q
      · have e := h.gs.en
        have e2 := h.box
        rw [q] at e
        have z3 := e2.2.1 3
        rw [e.2.1 3] at z3
        have hlt : 3 < (numA (E ++ mkN)).size := by simp [numA, mkN]
        rw [Array.getElem?_eq_getElem hlt] at z3
        simp at z3
      · have := rng gi q; omega
    · rcases q with q | q
      · omega
      · have := rng k q; omega
    · rcases q with q | q
      · have := xl gl q; omega
      · have := zl gl q; omega
    · rcases q with q | q
      · have := xl gi q; omega
      · have := zl gi q; omega
    · rcases q with q | q
      · have := xl k q; omega
      · have := zl k q; omega
  · refine (h.hy.kp o3 (fun q hq r => ?_)).kp hK (fun q hq r => ?_)
    · rcases r with r | r
      · omega
      · have := rng q r; omega
    · rcases r with r | r
      · have := xl q r; omega
      · have := zl q r; omega
  · refine o1.kp hK (fun q hq => ?_)
    have hlt : q < W.heap.size := by
      rcases hq with r | r
      · exact (World.ownsRow.lt h.hx.row q r).2
      · exact (World.ownsRow.lt h.hz.row q r).2
    exact ⟨(xz q hq).1, (o4 q hlt).trans (xz q hq).2⟩
end
end F
end Go.Proofs.Ytoppcikacakjcaa
