import Derived.Test.YtbichnngepjpnaaGreatTMemC
/-
  Several things in memory, none in another's blocks. No Go in sight.
-/
namespace Go.Proofs.YtbichnngepjpnaaGreat
namespace T
open Go.RowKit

/-- A thing in memory: its blocks, and what is said of it. -/
structure Ob where
  S : Nat → Prop
  In : World → Prop
  lt : ∀ w, In w → ∀ k, S k → k < w.heap.size
  keep : ∀ (w w' : World) (S1 : Nat → Prop), In w → Kp S1 w w' → (∀ k, S k → ¬ S1 k) → In w'
def tgOb (S : Nat → Prop) (a : Nat) (b : Nat → UInt8) (t : Nat → Option Cp) : Ob := ⟨S, fun w => TgIn S w a b t, fun _ h => h.lt, fun _ _ _ h hk hd => h.keep hk hd⟩
def boxOb (k : Nat) (cs : Array Value) : Ob := ⟨fun x => x = k, fun w => At w k cs, fun _ h _ q => q ▸ h.1, fun _ _ _ h hk hd => at_kp h hk (hd _ rfl)⟩
structure Sep (B : Nat) (W : World) (l : List Ob) : Prop where
  ins : ∀ o ∈ l, o.In W
  dis : l.Pairwise fun o p => ∀ k, o.S k → ¬ p.S k
  ge : ∀ o ∈ l, ∀ k, o.S k → B ≤ k
theorem Sep.nil (B : Nat) (W : World) : Sep B W [] := ⟨fun o h => by simp at h, List.Pairwise.nil, fun o h => by simp at h⟩
theorem Sep.gr {B : Nat} {W W' : World} {l : List Ob} (h : Sep B W l) (hb : Below W.heap.size W W') : Sep B W' l :=
  ⟨fun o ho => o.keep W W' (fun _ => False) (h.ins o ho) (Kp.of_below hb) (fun _ _ q => q), h.dis, h.ge⟩
/-- A new thing. -/
theorem Sep.add {B : Nat} {W W' : World} {l : List Ob} (h : Sep B W l) (o : Ob) (hi : o.In W') (hn : ∀ k, o.S k → W.heap.size ≤ k) (hb : Below W.heap.size W W') (hB : B ≤ W.heap.size) : Sep B W' (o :: l) := by
  have h' := h.gr hb
  refine ⟨fun p hp => ?_, List.pairwise_cons.2 ⟨fun p hp k q r => ?_, h.dis⟩, fun p hp k q => ?_⟩
  · rcases List.mem_cons.1 hp with rfl | r
    · exact hi
    · exact h'.ins p r
  · have := hn k q; have := p.lt W (h.ins p hp) k r; omega
  · rcases List.mem_cons.1 hp with rfl | r
    · have := hn k q; omega
    · exact h.ge p r k q
/-- One thing has changed. -/
theorem Sep.change {B : Nat} {W W' : World} {l1 l2 : List Ob} {o o' : Ob} (h : Sep B W (l1 ++ o :: l2)) (hi : o'.In W') (hm : Mf o.S o'.S W W') (hB : B ≤ W.heap.size) : Sep B W' (l1 ++ o' :: l2) := by
  have hd := h.dis
  rw [List.pairwise_append] at hd
  obtain ⟨q1, q2, q3⟩ := hd
  rw [List.pairwise_cons] at q2
  have n1 : ∀ p ∈ l1, ∀ k, p.S k → ¬ o.S k := fun p hp k => q3 p hp o (by simp) k
  have n2 : ∀ p ∈ l2, ∀ k, p.S k → ¬ o.S k := fun p hp k r s => q2.1 p hp k s r
  have lt1 : ∀ p ∈ l1, ∀ k, p.S k → k < W.heap.size := fun p hp => p.lt W (h.ins p (by simp [hp]))
  have lt2 : ∀ p ∈ l2, ∀ k, p.S k → k < W.heap.size := fun p hp => p.lt W (h.ins p (by simp [hp]))
  have m1 : ∀ p ∈ l1, ∀ k, p.S k → ¬ o'.S k := fun p hp k r s => by
    rcases hm.new k s with t | t
    · exact n1 p hp k r t
    · have := lt1 p hp k r; omega
  have m2 : ∀ p ∈ l2, ∀ k, o'.S k → ¬ p.S k := fun p hp k s r => by
    rcases hm.new k s with t | t
    · exact n2 p hp k r t
    · have := lt2 p hp k r; omega
  refine ⟨fun p hp => ?_, ?_, fun p hp k q => ?_⟩
  · rcases List.mem_append.1 hp with r | r
    · exact p.keep W W' o.S (h.ins p (by simp [r])) hm.kp (n1 p r)
    · rcases List.mem_cons.1 r with rfl | r
      · exact hi
      · exact p.keep W W' o.S (h.ins p (by simp [r])) hm.kp (n2 p r)
  · rw [List.pairwise_append]
    refine ⟨q1, List.pairwise_cons.2 ⟨fun p hp k => m2 p hp k, q2.2⟩, fun p hp r hr k => ?_⟩
    rcases List.mem_cons.1 hr with rfl | hr
    · exact m1 p hp k
    · exact q3 p hp r (by simp [hr]) k
  · rcases List.mem_append.1 hp with r | r
    · exact h.ge p (by simp [r]) k q
    · rcases List.mem_cons.1 r with rfl | r
      · rcases hm.new k q with t | t
        · exact h.ge o (by simp) k t
        · omega
      · exact h.ge p (by simp [r]) k q
theorem Mf.kpS {S : Nat → Prop} {w w' : World} (h : Kp S w w') : Mf S S w w' := ⟨fun _ q => q, fun _ q => .inl q, h⟩
theorem Sep.below {B : Nat} {W W' : World} {l1 l2 : List Ob} {o : Ob} {S' : Nat → Prop} (h : Sep B W (l1 ++ o :: l2)) (hm : Mf o.S S' W W') (hB : B ≤ W.heap.size) : Below B W W' :=
  hm.kp.below hB (h.ge o (by simp))
end T
end Go.Proofs.YtbichnngepjpnaaGreat
