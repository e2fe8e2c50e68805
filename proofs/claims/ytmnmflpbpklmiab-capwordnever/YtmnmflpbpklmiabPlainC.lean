/-
  Stage 1, capword: what UnsealBy answers; each answer is one; a block that is known ('At'). No Go in sight.
-/
import Derived.Test.YtmnmflpbpklmiabPlainB
namespace Go.Proofs.Ytmnmflpbpklmiab
open Go.RowKit

/-- What UnsealBy answers. -/
def UnsealR (b e c p s kb ke kc kp ks b' e' c' p' s' f : Int) : Prop :=
  (s = 0 ∧ b' = 0 ∧ e' = 0 ∧ c' = 0 ∧ p' = 0 ∧ s' = 0 ∧ f = 3) ∨
  (s ≠ 0 ∧ keyF kb ke kc kp ks 64 ≠ 0 ∧ b' = 0 ∧ e' = 0 ∧ c' = 0 ∧ p' = 0 ∧ s' = 0 ∧ f = keyF kb ke kc kp ks 64) ∨
  (s ≠ 0 ∧ keyF kb ke kc kp ks 64 = 0 ∧ (s < 0 ∨ kc ≠ s) ∧ b' = 0 ∧ e' = 0 ∧ c' = 0 ∧ p' = 0 ∧ s' = 0 ∧ f = 6) ∨
  (s ≠ 0 ∧ keyF kb ke kc kp ks 64 = 0 ∧ 0 ≤ s ∧ kc = s ∧ b' = b ∧ e' = e ∧ c' = c ∧ p' = p ∧ s' = 0 ∧ f = 0)

theorem SetB_det {b e c p s n b1 e1 c1 p1 s1 f1 b2 e2 c2 p2 s2 f2 : Int} (h1 : SetB b e c p s n b1 e1 c1 p1 s1 f1) (h2 : SetB b e c p s n b2 e2 c2 p2 s2 f2) :
    b1 = b2 ∧ e1 = e2 ∧ c1 = c2 ∧ p1 = p2 ∧ s1 = s2 ∧ f1 = f2 := by
  grind [SetB]
theorem AndP_det {b e c p s n b1 e1 c1 p1 s1 f1 b2 e2 c2 p2 s2 f2 : Int} (h1 : AndP b e c p s n b1 e1 c1 p1 s1 f1) (h2 : AndP b e c p s n b2 e2 c2 p2 s2 f2) :
    b1 = b2 ∧ e1 = e2 ∧ c1 = c2 ∧ p1 = p2 ∧ s1 = s2 ∧ f1 = f2 := by
  grind [AndP]
theorem IncR_det {b e c p s n b1 e1 c1 p1 s1 f1 b2 e2 c2 p2 s2 f2 : Int} (h1 : IncR b e c p s n b1 e1 c1 p1 s1 f1) (h2 : IncR b e c p s n b2 e2 c2 p2 s2 f2) :
    b1 = b2 ∧ e1 = e2 ∧ c1 = c2 ∧ p1 = p2 ∧ s1 = s2 ∧ f1 = f2 := by
  grind [IncR]
theorem SealR_det {b e c p s kb ke kc kp ks b1 e1 c1 p1 s1 f1 b2 e2 c2 p2 s2 f2 : Int} (h1 : SealR b e c p s kb ke kc kp ks b1 e1 c1 p1 s1 f1) (h2 : SealR b e c p s kb ke kc kp ks b2 e2 c2 p2 s2 f2) :
    b1 = b2 ∧ e1 = e2 ∧ c1 = c2 ∧ p1 = p2 ∧ s1 = s2 ∧ f1 = f2 := by
  grind [SealR]
theorem UnsealR_det {b e c p s kb ke kc kp ks b1 e1 c1 p1 s1 f1 b2 e2 c2 p2 s2 f2 : Int} (h1 : UnsealR b e c p s kb ke kc kp ks b1 e1 c1 p1 s1 f1) (h2 : UnsealR b e c p s kb ke kc kp ks b2 e2 c2 p2 s2 f2) :
    b1 = b2 ∧ e1 = e2 ∧ c1 = c2 ∧ p1 = p2 ∧ s1 = s2 ∧ f1 = f2 := by
  grind [UnsealR]

theorem size_one (w : World) (o : Obj) : (w.alloc o).heap.size = w.heap.size + 1 := by simp
/-- Block 'k' holds just these cells, and may be written. -/
def At (w : World) (k : Nat) (cs : Array Value) : Prop :=
  k < w.heap.size ∧ (∀ o, w.cell? ⟨k, o, none⟩ = cs[o]?) ∧ (∀ o, w.frozen? ⟨k, o, none⟩ = false)
theorem At.new (w : World) (cs : Array Value) (t : TypeId) : At (w.alloc (.cells cs t)) w.heap.size cs :=
  ⟨by simp, fun o => World.cell?_alloc_new w cs t o, fun o => by
    have e : (w.alloc (.cells cs t)).heap[w.heap.size]? = some (.cells cs t) := (MapKept.heap_alloc w _).1
    simp only [World.frozen?]; rw [e]; simp⟩
theorem At.below {w w1 : World} {k : Nat} {cs : Array Value} (h : At w k cs) (hb : Below w.heap.size w w1) : At w1 k cs :=
  ⟨Nat.lt_of_lt_of_le h.1 hb.size, fun o => ((bat hb k h.1).1 o).trans (h.2.1 o), fun o => ((bat hb k h.1).2 o).trans (h.2.2 o)⟩
theorem At.alloc {w : World} {k : Nat} {cs : Array Value} (h : At w k cs) (ob : Obj) : At (w.alloc ob) k cs := h.below (below_one w ob)
end Go.Proofs.Ytmnmflpbpklmiab
