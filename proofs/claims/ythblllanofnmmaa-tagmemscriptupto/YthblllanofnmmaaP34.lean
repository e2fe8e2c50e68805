import Derived.Test.YthblllanofnmmaaUKeep
import Derived.Test.YthblllanofnmmaaULook
import Derived.Test.YthblllanofnmmaaP09
/-
  Books of lists that came out: the book and what is not in it.
-/
namespace Go.Proofs.Ythblllanofnmmaa
namespace U
open Go.RowKit
open B

def In (S : Nat → Prop) (v : Value) : Prop := ∀ g, v.ownBlock = some g → S g
/-- The book, and the blocks S of what is in it. -/
structure Bo (lo kb K : Nat) (S : Nat → Prop) (w : World) (ov_ : Value) (rows : List Value) : Prop where
  box : At w kb #[ov_]
  own : w.ownsRow lo 82 1 ov_ K rows
  row : ∀ i, i < K → ∃ M v0 v1 v2 v3, rows[i]? = some (.slice (some ⟨M, 0, none⟩) 4 4) ∧ At w M #[v0, v1, v2, v3] ∧ S M ∧ (MkL lo i w v0 ∧ In S v0) ∧ (MkL lo i w v1 ∧ In S v1) ∧ (MkL lo i w v2 ∧ In S v2) ∧ (MkL lo i w v3 ∧ In S v3)
  skb : ¬ S kb
  so : ∀ g, ov_.ownBlock = some g → ¬ S g ∧ g ≠ kb
  lt : ∀ b, S b → b < w.heap.size
  klo : lo ≤ kb
theorem Bo.bk {lo kb K : Nat} {S : Nat → Prop} {w : World} {ov_ : Value} {rows : List Value} (h : Bo lo kb K S w ov_ rows) : Bk lo kb K w ov_ rows :=
  ⟨h.box, h.own, fun i hi => by
    obtain ⟨M, v0, v1, v2, v3, q, hA, _, m0, m1, m2, m3⟩ := h.row i hi
    exact ⟨M, v0, v1, v2, v3, q, hA, m0.1, m1.1, m2.1, m3.1⟩⟩
theorem MkL.blk {lo i : Nat} {w w' : World} {v : Value} (h : MkL lo i w v) (g : ∀ b, v.ownBlock = some b → w'.heap[b]? = w.heap[b]?) : MkL lo i w' v := by
  obtain ⟨n, h1, h2⟩ := h
  exact ⟨n, h1, own_blk h2 g⟩
theorem Bo.below {lo kb K : Nat} {S : Nat → Prop} {w w' : World} {ov_ : Value} {rows : List Value} (h : Bo lo kb K S w ov_ rows) (g : Below w.heap.size w w') : Bo lo kb K S w' ov_ rows := by
  refine ⟨at_blk h.box (g.block kb h.box.1), own_below h.own g, fun i hi => ?_, h.skb, h.so, fun b q => Nat.lt_of_lt_of_le (h.lt b q) g.size, h.klo⟩
  obtain ⟨M, v0, v1, v2, v3, q, hA, sM, m0, m1, m2, m3⟩ := h.row i hi
  exact ⟨M, v0, v1, v2, v3, q, at_blk hA (g.block M hA.1), sM, ⟨m0.1.below g, m0.2⟩, ⟨m1.1.below g, m1.2⟩, ⟨m2.1.below g, m2.2⟩, ⟨m3.1.below g, m3.2⟩⟩
/-- A list that is not in the book. -/
def Out (S : Nat → Prop) (kb : Nat) (ov_ v : Value) : Prop := ∀ g, v.ownBlock = some g → ¬ S g ∧ g ≠ kb ∧ ov_.ownBlock ≠ some g
theorem own_part {w : World} {l e s n l' e' s' n' g : Nat} {v v' : Value} {xs xs' : List Value} (h : w.ownsRow l e s v n xs) (h' : w.ownsRow l' e' s' v' n' xs') (ne : e ≠ e') (q : v.ownBlock = some g) : v'.ownBlock ≠ some g := by
  intro q'
  rcases h.2 with ⟨rfl, _⟩ | ⟨g1, cap, cur, rfl, _, hg, _⟩
  · cases q
  · rcases h'.2 with ⟨rfl, _⟩ | ⟨g2, cap', cur', rfl, _, hg', _⟩
    · cases q'
    · obtain rfl : g1 = g := by simpa [Value.ownBlock] using q
      obtain rfl : g2 = g1 := by simpa [Value.ownBlock] using q'
      rw [hg] at hg'
      cases hg'
      exact ne rfl
theorem Bo.keep {lo kb K n : Nat} {S : Nat → Prop} {w w' : World} {v ov_ : Value} {rows : List Value} {gO cO M g1 c1 g2 c2 : Nat} {lv : Value} (h : Bo lo kb K S w ov_ rows) (hv : Out S kb ov_ v) (hvb : ∀ g, v.ownBlock = some g → g < w.heap.size) (hn : n ≤ 1048576) (k : Kb w lo K n kb v ov_ rows w' gO cO M g1 c1 g2 c2 lv) :
    ∃ S' : Nat → Prop, Bo lo kb (K + 1) S' w' (.slice (some ⟨gO, 0, none⟩) (K + 1) cO) (rows ++ [.slice (some ⟨M, 0, none⟩) 4 4]) ∧ ∀ b, S' b → S b ∨ v.ownBlock = some b ∨ w.heap.size ≤ b := by
  have hkb := h.box.1
  have hok : ∀ g, ov_.ownBlock = some g → g < w.heap.size := fun g q => (h.own.lt g q).2
  have inS : ∀ b, S b → w'.heap[b]? = w.heap[b]? := fun b sb => k.kq.block b (h.lt b sb) (fun q => by
    rcases q with q | q | q
    · exact (hv b q).1 sb
    · exact (h.so b q).1 sb
    · exact h.skb (q ▸ sb))
  have hlen : rows.length = K := by have := h.own.1; omega
  refine ⟨fun b => S b ∨ b = M ∨ v.ownBlock = some b ∨ b = g1 ∨ b = g2 ∨ lv.ownBlock = some b, ⟨k.box, k.out, fun i hi => ?_, ?_, ?_, ?_, h.klo⟩, ?_⟩
  · by_cases e : i < K
    · obtain ⟨M0, v0, v1, v2, v3, q, hA, sM, m0, m1, m2, m3⟩ := h.row i e
      have mv : ∀ {u : Value}, MkL lo i w u ∧ In S u → MkL lo i w' u ∧ In (fun b => S b ∨ b = M ∨ v.ownBlock = some b ∨ b = g1 ∨ b = g2 ∨ lv.ownBlock = some b) u := fun m => ⟨m.1.blk (fun b q => inS b (m.2 b q)), fun g q => .inl (m.2 g q)⟩
      exact ⟨M0, v0, v1, v2, v3, by rw [List.getElem?_append_left (by omega)]; exact q, at_blk hA (inS M0 sM), .inl sM, mv m0, mv m1, mv m2, mv m3⟩
    · obtain rfl : i = K := by omega
      refine ⟨M, v, _, _, lv, by rw [List.getElem?_append_right (by omega), hlen]; simp, k.mid, .inr (.inl rfl), ⟨⟨n, by omega, k.v0⟩, fun g q => .inr (.inr (.inl q))⟩, ⟨⟨n + 1, by omega, k.v1⟩, fun g q => ?_⟩, ⟨⟨n + 3, by omega, k.v2⟩, fun g q => ?_⟩, ⟨⟨n + 60, by omega, k.v3⟩, fun g q => .inr (.inr (.inr (.inr (.inr q))))⟩⟩
      · cases q; exact .inr (.inr (.inr (.inl rfl)))
      · cases q; exact .inr (.inr (.inr (.inr (.inl rfl))))
  · rintro (q | q | q | q | q | q)
    · exact h.skb q
    · have := k.pM; omega
    · exact (hv kb q).2.1 rfl
    · rcases k.p1 with r | r
      · exact (hv g1 r).2.1 q.symm
      · omega
    · rcases k.p2 with r | r
      · exact (hv g2 r).2.1 q.symm
      · omega
    · rcases k.p3 kb q with r | r
      · exact (hv kb r).2.1 rfl
      · omega
  · intro g q
    obtain rfl : gO = g := by simpa [Value.ownBlock] using q
    have part : ∀ {u : Value} {m : Nat} {xs : List Value}, w'.ownsRow lo 42 (mkI K).length u m xs → u.ownBlock ≠ some gO := fun r => own_part k.out r (by decide) rfl
    refine ⟨?_, ?_⟩
    · rintro (q | q | q | q | q | q)
      · rcases k.pO with r | r
        · exact (h.so gO r).1 q
        · have := h.lt gO q; omega
      · exact k.nM q
      · exact part k.v0 q
      · exact part k.v1 (by rw [q]; rfl)
      · exact part k.v2 (by rw [q]; rfl)
      · exact part k.v3 q
    · rcases k.pO with r | r
      · exact (h.so gO r).2
      · omega
  · rintro b (q | q | q | q | q | q)
    · exact Nat.lt_of_lt_of_le (h.lt b q) k.kq.size
    · rw [q]; exact k.mid.1
    · exact Nat.lt_of_lt_of_le (hvb b q) k.kq.size
    · exact (k.v1.lt b (by rw [q]; rfl)).2
    · exact (k.v2.lt b (by rw [q]; rfl)).2
    · exact (k.v3.lt b q).2
  · rintro b (q | q | q | q | q | q)
    · exact .inl q
    · exact .inr (.inr (by rw [q]; exact k.pM))
    · exact .inr (.inl q)
    · rw [q]; exact .inr k.p1
    · rw [q]; exact .inr k.p2
    · exact .inr (k.p3 b q)
/-- keep, of a book and a list that is not in it. -/
theorem keepB (lo kb K n : Nat) (S : Nat → Prop) (va : Option Addr) (vc : Nat) (ov_ : Value) (rows xs : List Value) (w : World) (h : Bo lo kb K S w ov_ rows) (hV : w.ownsRow lo 42 1 (.slice va n vc) n xs) (hv : Out S kb ov_ (.slice va n vc)) (hn : n ≤ 1048576) (hK : K ≤ 1048575) :
    Calls Try.prog 26 #[.pointer (some ⟨kb, 0, none⟩), .slice va n vc] w fun x w' => x = .returned (.tuple #[]) ∧ ∃ S' ov' rows', Bo lo kb (K + 1) S' w' ov' rows' ∧ Below lo w w' ∧
      ∀ (u : Value) (l' m : Nat) (ys : List Value), w.ownsRow l' 42 1 u m ys → Out S kb ov_ u → (∀ g, u.ownBlock = some g → Value.ownBlock (.slice va n vc) ≠ some g) → w'.ownsRow l' 42 1 u m ys ∧ Out S' kb ov' u := by
  have hkb := h.box.1
  obtain ⟨oa, oc, rfl, _⟩ := h.bk.slice
  have hvb : ∀ g, Value.ownBlock (.slice va n vc) = some g → g < w.heap.size := fun g q => (hV.lt g q).2
  have hok : ∀ g, Value.ownBlock (.slice oa K oc) = some g → lo ≤ g ∧ g < w.heap.size := fun g q => h.own.lt g q
  have hlw : lo ≤ w.heap.size := Nat.le_trans h.klo (Nat.le_of_lt hkb)
  refine (keep_any lo K n kb va vc oa oc rows w ⟨xs, hV⟩ hn hK h.box h.own hlw (fun g q => (hv g q).2.1) (fun g q => ⟨(h.so g q).2, fun r => (hv g r).2.2 q⟩)).mono ?_
  rintro x w' ⟨rfl, gO, cO, M, g1, c1, g2, c2, lv, k⟩
  obtain ⟨S', hB, hS'⟩ := h.keep hv hvb hn k
  refine ⟨rfl, S', _, _, hB, ⟨k.kq.os, k.kq.tape, k.kq.output, k.kq.size, fun b hb => k.kq.block b (by omega) ?_⟩, fun u l' m ys hu ho hne => ⟨k.kq.own hu (fun g q r => ?_), fun g q => ⟨fun r => ?_, (ho g q).2.1, fun r => ?_⟩⟩⟩
  · rintro (q | q | q)
    · have := (hV.lt b q).1; omega
    · have := (hok b q).1; omega
    · have := h.klo; omega
  · rcases r with r | r | r
    · exact hne g q r
    · exact (ho g q).2.2 r
    · exact (ho g q).2.1 r
  · rcases hS' g r with r | r | r
    · exact (ho g q).1 r
    · exact hne g q r
    · have := (hu.lt g q).2; omega
  · obtain rfl : gO = g := by simpa [Value.ownBlock] using r
    rcases k.pO with r | r
    · exact (ho gO q).2.2 r
    · have := (hu.lt gO q).2; omega
end U
end Go.Proofs.Ythblllanofnmmaa


/-
  Several things in memory, none in another's blocks. No Go in sight.
-/
namespace Go.Proofs.Ythblllanofnmmaa
namespace T
open Go.RowKit

/-- A thing in memory: its blocks, and what is said of it. -/
structure Ob where
  S : Nat → Prop
  In : World → Prop
  lt : ∀ w, In w → ∀ k, S k → k < w.heap.size
  keep : ∀ (w w' : World) (S1 : Nat → Prop), In w → Kp S1 w w' → (∀ k, S k → ¬ S1 k) → In w'
def tgOb (S : Nat → Prop) (a : Nat) (b : Nat → UInt8) (t : Nat → Option Cp) : Ob := ⟨S, fun w => TgIn S w a b t, fun _ h => h.lt, fun _ _ _ h hk hd => h.keep hk hd⟩
def boxOb (k : Nat) (cs : Array Value) : Ob := ⟨fun x => x = k, fun w => At w k cs, fun _ h _ q => q ▸ h.1, fun _ _ _ h hk hd => at_kp h hk (hd _ rfl)⟩
structure Sep (B : Nat) (W : World) (l : List Ob) : Prop where
  ins : ∀ o ∈ l, o.In W
  dis : l.Pairwise fun o p => ∀ k, o.S k → ¬ p.S k
  ge : ∀ o ∈ l, ∀ k, o.S k → B ≤ k
theorem Sep.nil (B : Nat) (W : World) : Sep B W [] := ⟨fun o h => by simp at h, List.Pairwise.nil, fun o h => by simp at h⟩
theorem Sep.gr {B : Nat} {W W' : World} {l : List Ob} (h : Sep B W l) (hb : Below W.heap.size W W') : Sep B W' l :=
  ⟨fun o ho => o.keep W W' (fun _ => False) (h.ins o ho) (Kp.of_below hb) (fun _ _ q => q), h.dis, h.ge⟩
/-- A new thing. -/
theorem Sep.add {B : Nat} {W W' : World} {l : List Ob} (h : Sep B W l) (o : Ob) (hi : o.In W') (hn : ∀ k, o.S k → W.heap.size ≤ k) (hb : Below W.heap.size W W') (hB : B ≤ W.heap.size) : Sep B W' (o :: l) := by
  have h' := h.gr hb
  refine ⟨fun p hp => ?_, List.pairwise_cons.2 ⟨fun p hp k q r => ?_, h.dis⟩, fun p hp k q => ?_⟩
  · rcases List.mem_cons.1 hp with rfl | r
    · exact hi
    · exact h'.ins p r
  · have := hn k q; have := p.lt W (h.ins p hp) k r; omega
  · rcases List.mem_cons.1 hp with rfl | r
    · have := hn k q; omega
    · exact h.ge p r k q
/-- One thing has changed. -/
theorem Sep.change {B : Nat} {W W' : World} {l1 l2 : List Ob} {o o' : Ob} (h : Sep B W (l1 ++ o :: l2)) (hi : o'.In W') (hm : Mf o.S o'.S W W') (hB : B ≤ W.heap.size) : Sep B W' (l1 ++ o' :: l2) := by
  have hd := h.dis
  rw [List.pairwise_append] at hd
  obtain ⟨q1, q2, q3⟩ := hd
  rw [List.pairwise_cons] at q2
  have n1 : ∀ p ∈ l1, ∀ k, p.S k → ¬ o.S k := fun p hp k => q3 p hp o (by simp) k
  have n2 : ∀ p ∈ l2, ∀ k, p.S k → ¬ o.S k := fun p hp k r s => q2.1 p hp k s r
  have lt1 : ∀ p ∈ l1, ∀ k, p.S k → k < W.heap.size := fun p hp => p.lt W (h.ins p (by simp [hp]))
  have lt2 : ∀ p ∈ l2, ∀ k, p.S k → k < W.heap.size := fun p hp => p.lt W (h.ins p (by simp [hp]))
  have m1 : ∀ p ∈ l1, ∀ k, p.S k → ¬ o'.S k := fun p hp k r s => by
    rcases hm.new k s with t | t
    · exact n1 p hp k r t
    · have := lt1 p hp k r; omega
  have m2 : ∀ p ∈ l2, ∀ k, o'.S k → ¬ p.S k := fun p hp k s r => by
    rcases hm.new k s with t | t
    · exact n2 p hp k r t
    · have := lt2 p hp k r; omega
  refine ⟨fun p hp => ?_, ?_, fun p hp k q => ?_⟩
  · rcases List.mem_append.1 hp with r | r
    · exact p.keep W W' o.S (h.ins p (by simp [r])) hm.kp (n1 p r)
    · rcases List.mem_cons.1 r with rfl | r
      · exact hi
      · exact p.keep W W' o.S (h.ins p (by simp [r])) hm.kp (n2 p r)
  · rw [List.pairwise_append]
    refine ⟨q1, List.pairwise_cons.2 ⟨fun p hp k => m2 p hp k, q2.2⟩, fun p hp r hr k => ?_⟩
    rcases List.mem_cons.1 hr with rfl | hr
    · exact m1 p hp k
    · exact q3 p hp r (by simp [hr]) k
  · rcases List.mem_append.1 hp with r | r
    · exact h.ge p (by simp [r]) k q
    · rcases List.mem_cons.1 r with rfl | r
      · rcases hm.new k q with t | t
        · exact h.ge o (by simp) k t
        · omega
      · exact h.ge p (by simp [r]) k q
theorem Mf.kpS {S : Nat → Prop} {w w' : World} (h : Kp S w w') : Mf S S w w' := ⟨fun _ q => q, fun _ q => .inl q, h⟩
theorem Sep.below {B : Nat} {W W' : World} {l1 l2 : List Ob} {o : Ob} {S' : Nat → Prop} (h : Sep B W (l1 ++ o :: l2)) (hm : Mf o.S S' W W') (hB : B ≤ W.heap.size) : Below B W W' :=
  hm.kp.below hB (h.ge o (by simp))
end T
end Go.Proofs.Ythblllanofnmmaa
