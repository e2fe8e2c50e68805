import Derived.Test.YthblllanofnmmaaP28
/-
  Books of lists that came out: what is at hand while a list is kept.
-/
namespace Go.Proofs.Ythblllanofnmmaa
namespace U
open Go.RowKit
open B

def mkN (i : Nat) : Int := 9223372036854775808 + (i : Int)
def mkI (i : Nat) : List Value := [.int .u64 (mkN i)]
theorem mkI_one (i : Nat) : ∀ u ∈ mkI i, u.oneCell' = true := by
  intro u hu
  simp only [mkI, List.mem_cons, List.not_mem_nil, or_false] at hu
  rcases hu with rfl
  rfl
theorem mkI_pos (i : Nat) : 0 < (mkI i).length := Nat.succ_pos 0
/-- A list is being kept: what is at hand. (What is not there yet: none.) -/
structure St (w : World) (lo K n va_ : Nat) (v lv : Value) (m : Nat) (X1 X3 : Option Nat) (O1 O2 : Option (Nat × Nat)) (XM XX : Option Nat) (W : World) : Prop where
  kq : Kq (fun b => v.ownBlock = some b) w W
  ov : W.ownsRow lo 42 (mkI K).length v n (mks (mkI K) n)
  ol : W.ownsRow lo 42 (mkI K).length lv m (mks (mkI K) m)
  x1 : ∀ x, X1 = some x → At W x (mks (mkI K) 1).toArray ∧ w.heap.size ≤ x
  x3 : ∀ x, X3 = some x → At W x (mks (mkI K) 3).toArray ∧ w.heap.size ≤ x
  o1 : ∀ g c, O1 = some (g, c) → W.ownsRow lo 42 (mkI K).length (.slice (some ⟨g, 0, none⟩) (n + 1) c) (n + 1) (mks (mkI K) (n + 1)) ∧ (v.ownBlock = some g ∨ w.heap.size ≤ g)
  o2 : ∀ g c, O2 = some (g, c) → W.ownsRow lo 42 (mkI K).length (.slice (some ⟨g, 0, none⟩) (n + 3) c) (n + 3) (mks (mkI K) (n + 3)) ∧ (v.ownBlock = some g ∨ w.heap.size ≤ g)
  xM : ∀ x, XM = some x → ∃ g1 c1 g2 c2, O1 = some (g1, c1) ∧ O2 = some (g2, c2) ∧ At W x #[v, .slice (some ⟨g1, 0, none⟩) (n + 1) c1, .slice (some ⟨g2, 0, none⟩) (n + 3) c2, lv] ∧ w.heap.size ≤ x
  xX : ∀ x, XX = some x → ∃ M, XM = some M ∧ At W x #[.slice (some ⟨M, 0, none⟩) 4 4] ∧ w.heap.size ≤ x
theorem St.gr {w : World} {lo K n va_ : Nat} {v lv : Value} {m : Nat} {X1 X3 : Option Nat} {O1 O2 : Option (Nat × Nat)} {XM XX : Option Nat} {W W' : World} (h : St w lo K n va_ v lv m X1 X3 O1 O2 XM XX W) (g : Gr W W') : St w lo K n va_ v lv m X1 X3 O1 O2 XM XX W' :=
  ⟨h.kq.gr g, own_below h.ov g.below, own_below h.ol g.below, fun x q => ⟨(h.x1 x q).1.gr g, (h.x1 x q).2⟩, fun x q => ⟨(h.x3 x q).1.gr g, (h.x3 x q).2⟩, fun a b q => ⟨own_below (h.o1 a b q).1 g.below, (h.o1 a b q).2⟩, fun a b q => ⟨own_below (h.o2 a b q).1 g.below, (h.o2 a b q).2⟩,
   fun x q => by
    obtain ⟨g1, c1, g2, c2, e1, e2, hA, hx⟩ := h.xM x q
    exact ⟨g1, c1, g2, c2, e1, e2, hA.gr g, hx⟩,
   fun x q => by
    obtain ⟨M, e, hA, hx⟩ := h.xX x q
    exact ⟨M, e, hA.gr g, hx⟩⟩
theorem St.s8 {w : World} {lo K n va_ : Nat} {v lv : Value} {m : Nat} {X3 : Option Nat} {O1 O2 : Option (Nat × Nat)} {XM XX : Option Nat} {W : World} (h : St w lo K n va_ v lv m none X3 O1 O2 XM XX W) (t : TypeId) : St w lo K n va_ v lv m (some W.heap.size) X3 O1 O2 XM XX (W.alloc (.cells (mks (mkI K) 1).toArray t)) := by
  have g := h.gr ((Gr.refl W).alloc (.cells (mks (mkI K) 1).toArray t))
  exact ⟨g.kq, g.ov, g.ol, fun x q => by cases q; exact ⟨At.new W _ _, h.kq.size⟩, g.x3, g.o1, g.o2, g.xM, g.xX⟩
theorem St.s14 {w : World} {lo K n va_ : Nat} {v lv : Value} {m : Nat} {X1 : Option Nat} {O1 O2 : Option (Nat × Nat)} {XM XX : Option Nat} {W : World} (h : St w lo K n va_ v lv m X1 none O1 O2 XM XX W) (t : TypeId) : St w lo K n va_ v lv m X1 (some W.heap.size) O1 O2 XM XX (W.alloc (.cells (mks (mkI K) 3).toArray t)) := by
  have g := h.gr ((Gr.refl W).alloc (.cells (mks (mkI K) 3).toArray t))
  exact ⟨g.kq, g.ov, g.ol, g.x1, fun x q => by cases q; exact ⟨At.new W _ _, h.kq.size⟩, g.o1, g.o2, g.xM, g.xX⟩
theorem St.s17 {w : World} {lo K n va_ : Nat} {v lv : Value} {m : Nat} {X1 X3 : Option Nat} {g1 c1 g2 c2 : Nat} {W : World} (h : St w lo K n va_ v lv m X1 X3 (some (g1, c1)) (some (g2, c2)) none none W) (t : TypeId) : St w lo K n va_ v lv m X1 X3 (some (g1, c1)) (some (g2, c2)) (some W.heap.size) none (W.alloc (.cells #[v, .slice (some ⟨g1, 0, none⟩) (n + 1) c1, .slice (some ⟨g2, 0, none⟩) (n + 3) c2, lv] t)) := by
  have g := h.gr ((Gr.refl W).alloc (.cells #[v, .slice (some ⟨g1, 0, none⟩) (n + 1) c1, .slice (some ⟨g2, 0, none⟩) (n + 3) c2, lv] t))
  exact ⟨g.kq, g.ov, g.ol, g.x1, g.x3, g.o1, g.o2, fun x q => by cases q; exact ⟨g1, c1, g2, c2, rfl, rfl, At.new W _ _, h.kq.size⟩, fun x q => by cases q⟩
theorem St.s18 {w : World} {lo K n va_ : Nat} {v lv : Value} {m M : Nat} {X1 X3 : Option Nat} {O1 O2 : Option (Nat × Nat)} {W : World} (h : St w lo K n va_ v lv m X1 X3 O1 O2 (some M) none W) (t : TypeId) : St w lo K n va_ v lv m X1 X3 O1 O2 (some M) (some W.heap.size) (W.alloc (.cells #[.slice (some ⟨M, 0, none⟩) 4 4] t)) := by
  have g := h.gr ((Gr.refl W).alloc (.cells #[.slice (some ⟨M, 0, none⟩) 4 4] t))
  exact ⟨g.kq, g.ov, g.ol, g.x1, g.x3, g.o1, g.o2, g.xM, fun x q => by cases q; exact ⟨M, rfl, At.new W _ _, h.kq.size⟩⟩
/-- Behind an append of marks onto the list. -/
theorem St.app {w : World} {lo K n va_ : Nat} {v lv : Value} {m : Nat} {X1 X3 : Option Nat} {O1 O2 : Option (Nat × Nat)} {XM XX : Option Nat} {W W' : World} (h : St w lo K n va_ v lv m X1 X3 O1 O2 XM XX W) (hvb : ∀ g, v.ownBlock = some g → g < w.heap.size) (k2 : W.grownBy W' v.ownBlock) (k5 : Mine (mkI K) W W') (k6 : ∀ (k : Nat) (cur : Array Value), v.ownBlock = some k → W.heap[k]? = some (Obj.cells cur 42 (0, 0)) → ∃ cur' : Array Value, W'.heap[k]? = some (Obj.cells cur' 42 (0, 0)) ∧ cur'.size = cur.size) : St w lo K n va_ v lv m X1 X3 O1 O2 XM XX W' := by
  have sh := shp_app k2 k6
  have far : ∀ x, w.heap.size ≤ x → v.ownBlock = some x → False := fun x hx q => by have := hvb x q; omega
  refine ⟨h.kq.step k2 (fun k q => .inl q), own_mine (mkI_pos K) h.ov k5 (fun k cur _ q => sh k cur q), own_mine (mkI_pos K) h.ol k5 (fun k cur _ q => sh k cur q), fun x q => ⟨at_grown (h.x1 x q).1 k2 (far _ (h.x1 x q).2), (h.x1 x q).2⟩, fun x q => ⟨at_grown (h.x3 x q).1 k2 (far _ (h.x3 x q).2), (h.x3 x q).2⟩, fun a b q => ⟨own_mine (mkI_pos K) (h.o1 a b q).1 k5 (fun k cur _ q => sh k cur q), (h.o1 a b q).2⟩, fun a b q => ⟨own_mine (mkI_pos K) (h.o2 a b q).1 k5 (fun k cur _ q => sh k cur q), (h.o2 a b q).2⟩, fun x q => ?_, fun x q => ?_⟩
  · obtain ⟨g1, c1, g2, c2, e1, e2, hA, hx⟩ := h.xM x q
    exact ⟨g1, c1, g2, c2, e1, e2, at_grown hA k2 (far _ hx), hx⟩
  · obtain ⟨M, e, hA, hx⟩ := h.xX x q
    exact ⟨M, e, at_grown hA k2 (far _ hx), hx⟩
theorem St.a1 {w : World} {lo K n va_ : Nat} {v lv : Value} {m : Nat} {X1 X3 : Option Nat} {O2 : Option (Nat × Nat)} {W W' : World} {g c : Nat} (h : St w lo K n va_ v lv m X1 X3 none O2 none none W) (hvb : ∀ g, v.ownBlock = some g → g < w.heap.size) (k1 : W'.ownsRow lo 42 (mkI K).length (.slice (some ⟨g, 0, none⟩) (n + 1) c) (n + 1) (mks (mkI K) (n + 1))) (k2 : W.grownBy W' v.ownBlock) (k3 : v.ownBlock = some g ∨ g = W.heap.size) (k5 : Mine (mkI K) W W') (k6 : ∀ (k : Nat) (cur : Array Value), v.ownBlock = some k → W.heap[k]? = some (Obj.cells cur 42 (0, 0)) → ∃ cur' : Array Value, W'.heap[k]? = some (Obj.cells cur' 42 (0, 0)) ∧ cur'.size = cur.size) : St w lo K n va_ v lv m X1 X3 (some (g, c)) O2 none none W' := by
  have s := h.app hvb k2 k5 k6
  exact ⟨s.kq, s.ov, s.ol, s.x1, s.x3, fun a b q => by cases q; exact ⟨k1, k3.imp_right (fun e => by rw [e]; exact h.kq.size)⟩, s.o2, fun x q => (by cases q), fun x q => (by cases q)⟩
theorem St.a2 {w : World} {lo K n va_ : Nat} {v lv : Value} {m : Nat} {X1 X3 : Option Nat} {O1 : Option (Nat × Nat)} {W W' : World} {g c : Nat} (h : St w lo K n va_ v lv m X1 X3 O1 none none none W) (hvb : ∀ g, v.ownBlock = some g → g < w.heap.size) (k1 : W'.ownsRow lo 42 (mkI K).length (.slice (some ⟨g, 0, none⟩) (n + 3) c) (n + 3) (mks (mkI K) (n + 3))) (k2 : W.grownBy W' v.ownBlock) (k3 : v.ownBlock = some g ∨ g = W.heap.size) (k5 : Mine (mkI K) W W') (k6 : ∀ (k : Nat) (cur : Array Value), v.ownBlock = some k → W.heap[k]? = some (Obj.cells cur 42 (0, 0)) → ∃ cur' : Array Value, W'.heap[k]? = some (Obj.cells cur' 42 (0, 0)) ∧ cur'.size = cur.size) : St w lo K n va_ v lv m X1 X3 O1 (some (g, c)) none none W' := by
  have s := h.app hvb k2 k5 k6
  exact ⟨s.kq, s.ov, s.ol, s.x1, s.x3, s.o1, fun a b q => by cases q; exact ⟨k1, k3.imp_right (fun e => by rw [e]; exact h.kq.size)⟩, fun x q => (by cases q), fun x q => (by cases q)⟩
end U
end Go.Proofs.Ythblllanofnmmaa


/-
  Books of lists of addresses that came out: mark.
-/
namespace Go.Proofs.Ythblllanofnmmaa
namespace U
open Go.RowKit
open B

theorem mark_any (i : Nat) (hi : i ≤ 1048576) (w : World) : Calls Try.prog 29 #[.int .i64 i] w fun x w' => x = .returned (.int .u64 (mkN i)) ∧ Gr w w' := by
  have e1 : IntKind.u64.wrap (i : Int) = i := by rw [IntKind.wrap_u64]; omega
  have e2 : IntKind.u64.wrap (9223372036854775808 + (i : Int)) = 9223372036854775808 + (i : Int) := by rw [IntKind.wrap_u64]; omega
  go_enter Try.func29, Try.ntmps29
  go_wp2_with fail
  go_ret
  exact ⟨rfl, Gr.refl w⟩
end U
end Go.Proofs.Ythblllanofnmmaa
