/-
  Stage 1, capword: what UnsealBy answers; each answer is one; a block that is known ('At'). No Go in sight.
-/
import Derived.Test.YtmnmflpbpklmiaaPlainB
namespace Go.Proofs.Ytmnmflpbpklmiaa
open Go.RowKit

/-- What UnsealBy answers. -/
def UnsealR (b e c p s kb ke kc kp ks b' e' c' p' s' f : Int) : Prop :=
  (s = 0 ∧ b' = 0 ∧ e' = 0 ∧ c' = 0 ∧ p' = 0 ∧ s' = 0 ∧ f = 3) ∨
  (s ≠ 0 ∧ keyF kb ke kc kp ks 64 ≠ 0 ∧ b' = 0 ∧ e' = 0 ∧ c' = 0 ∧ p' = 0 ∧ s' = 0 ∧ f = keyF kb ke kc kp ks 64) ∨
  (s ≠ 0 ∧ keyF kb ke kc kp ks 64 = 0 ∧ (s < 0 ∨ kc ≠ s) ∧ b' = 0 ∧ e' = 0 ∧ c' = 0 ∧ p' = 0 ∧ s' = 0 ∧ f = 6) ∨
  (s ≠ 0 ∧ keyF kb ke kc kp ks 64 = 0 ∧ 0 ≤ s ∧ kc = s ∧ b' = b ∧ e' = e ∧ c' = c ∧ p' = p ∧ s' = 0 ∧ f = 0)

theorem SetB_det {b e c p s n b1 e1 c1 p1 s1 f1 b2 e2 c2 p2 s2 f2 : Int} (h1 : SetB b e c p s n b1 e1 c1 p1 s1 f1) (h2 : SetB b e c p s n b2 e2 c2 p2 s2 f2) :
    b1 = b2 ∧ e1 = e2 ∧ c1 = c2 ∧ p1 = p2 ∧ s1 = s2 ∧ f1 = f2 := by
  unfold SetB at h1 h2
  generalize holdsB b e c n = t at h1 h2
  cases t <;> simp at h1 h2 <;> omega
theorem AndP_det {b e c p s n b1 e1 c1 p1 s1 f1 b2 e2 c2 p2 s2 f2 : Int} (h1 : AndP b e c p s n b1 e1 c1 p1 s1 f1) (h2 : AndP b e c p s n b2 e2 c2 p2 s2 f2) :
    b1 = b2 ∧ e1 = e2 ∧ c1 = c2 ∧ p1 = p2 ∧ s1 = s2 ∧ f1 = f2 := by
  unfold AndP at h1 h2; omega
theorem IncR_det {b e c p s n b1 e1 c1 p1 s1 f1 b2 e2 c2 p2 s2 f2 : Int} (h1 : IncR b e c p s n b1 e1 c1 p1 s1 f1) (h2 : IncR b e c p s n b2 e2 c2 p2 s2 f2) :
    b1 = b2 ∧ e1 = e2 ∧ c1 = c2 ∧ p1 = p2 ∧ s1 = s2 ∧ f1 = f2 := by
  unfold IncR at h1 h2; omega
theorem SealR_det {b e c p s kb ke kc kp ks b1 e1 c1 p1 s1 f1 b2 e2 c2 p2 s2 f2 : Int} (h1 : SealR b e c p s kb ke kc kp ks b1 e1 c1 p1 s1 f1) (h2 : SealR b e c p s kb ke kc kp ks b2 e2 c2 p2 s2 f2) :
    b1 = b2 ∧ e1 = e2 ∧ c1 = c2 ∧ p1 = p2 ∧ s1 = s2 ∧ f1 = f2 := by
  unfold SealR at h1 h2; omega
theorem UnsealR_det {b e c p s kb ke kc kp ks b1 e1 c1 p1 s1 f1 b2 e2 c2 p2 s2 f2 : Int} (h1 : UnsealR b e c p s kb ke kc kp ks b1 e1 c1 p1 s1 f1) (h2 : UnsealR b e c p s kb ke kc kp ks b2 e2 c2 p2 s2 f2) :
    b1 = b2 ∧ e1 = e2 ∧ c1 = c2 ∧ p1 = p2 ∧ s1 = s2 ∧ f1 = f2 := by
  unfold UnsealR at h1 h2; omega

theorem key3 {b e c p s q : Int} (h : s ≠ 0) : keyF b e c p s q = 3 := by unfold keyF; rw [if_neg h]
theorem key4 {b e c p q : Int} (h : hasB p q = false) : keyF b e c p 0 q = 4 := by simp [keyF, h]
theorem key5 {b e c p q : Int} (h : hasB p q = true) (h1 : ¬ (b ≤ c ∧ c < e)) : keyF b e c p 0 q = 5 := by unfold keyF; rw [if_pos rfl, if_pos h, if_neg h1]
theorem key0 {b e c p q : Int} (h : hasB p q = true) (h1 : b ≤ c ∧ c < e) : keyF b e c p 0 q = 0 := by unfold keyF; rw [if_pos rfl, if_pos h, if_pos h1]
theorem seal_key {b e c p kb ke kc kp ks f : Int} (h : keyF kb ke kc kp ks 32 = f) (hf : f ≠ 0) : SealR b e c p 0 kb ke kc kp ks 0 0 0 0 0 f := by unfold SealR; omega
theorem unseal_key {b e c p s kb ke kc kp ks f : Int} (hs : s ≠ 0) (h : keyF kb ke kc kp ks 64 = f) (hf : f ≠ 0) : UnsealR b e c p s kb ke kc kp ks 0 0 0 0 0 f := by unfold UnsealR; omega
theorem size_one (w : World) (o : Obj) : (w.alloc o).heap.size = w.heap.size + 1 := by simp
/-- Block 'k' holds just these cells, and may be written. -/
def At (w : World) (k : Nat) (cs : Array Value) : Prop :=
  k < w.heap.size ∧ (∀ o, w.cell? ⟨k, o, none⟩ = cs[o]?) ∧ (∀ o, w.frozen? ⟨k, o, none⟩ = false)
theorem At.new (w : World) (cs : Array Value) (t : TypeId) : At (w.alloc (.cells cs t)) w.heap.size cs :=
  ⟨by simp, fun o => World.cell?_alloc_new w cs t o, fun o => by
    have e : (w.alloc (.cells cs t)).heap[w.heap.size]? = some (.cells cs t) := (MapKept.heap_alloc w _).1
    simp only [World.frozen?]; rw [e]; simp⟩
theorem At.below {w w1 : World} {k : Nat} {cs : Array Value} (h : At w k cs) (hb : Below w.heap.size w w1) : At w1 k cs :=
  ⟨Nat.lt_of_lt_of_le h.1 hb.size, fun o => ((bat hb k h.1).1 o).trans (h.2.1 o), fun o => ((bat hb k h.1).2 o).trans (h.2.2 o)⟩
theorem At.alloc {w : World} {k : Nat} {cs : Array Value} (h : At w k cs) (ob : Obj) : At (w.alloc ob) k cs := h.below (below_one w ob)
end Go.Proofs.Ytmnmflpbpklmiaa
