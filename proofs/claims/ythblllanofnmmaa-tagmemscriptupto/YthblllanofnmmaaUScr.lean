import Derived.Test.YthblllanofnmmaaP34
import Derived.Test.YthblllanofnmmaaTEnds
/-
  Stage 6, TagmemScript: a memory of each side, the book, and what lies beside, none in another's blocks.
-/
namespace Go.Proofs.Ythblllanofnmmaa
namespace U
open Go.RowKit
open B
open T (Sep Ob Kp Mf TgIn DIn Rel Cp Vl UOwn tgOb boxOb)

theorem sep_perm {B : Nat} {W : World} {l l' : List Ob} (h : Sep B W l) (p : l.Perm l') : Sep B W l' :=
  ⟨fun o ho => h.ins o (p.mem_iff.2 ho), (List.Perm.pairwise_iff (fun q k hb ha => q k ha hb) p).1 h.dis, fun o ho => h.ge o (p.mem_iff.2 ho)⟩
theorem sep_tail {B : Nat} {W : World} {o : Ob} {l : List Ob} (h : Sep B W (o :: l)) : Sep B W l :=
  ⟨fun p hp => h.ins p (List.mem_cons_of_mem _ hp), (List.pairwise_cons.1 h.dis).2, fun p hp => h.ge p (List.mem_cons_of_mem _ hp)⟩
/-- Two things as one. -/
def andOb (o p : Ob) : Ob := ⟨fun k => o.S k ∨ p.S k, fun w => o.In w ∧ p.In w, fun w h k q => q.elim (o.lt w h.1 k) (p.lt w h.2 k), fun w w' S1 h hk hd => ⟨o.keep w w' S1 h.1 hk (fun k q => hd k (.inl q)), p.keep w w' S1 h.2 hk (fun k q => hd k (.inr q))⟩⟩
theorem sep_join {B : Nat} {W : World} {o p : Ob} {l : List Ob} (h : Sep B W (o :: p :: l)) : Sep B W (andOb o p :: l) := by
  have h1 := List.pairwise_cons.1 h.dis
  have h2 := List.pairwise_cons.1 h1.2
  refine ⟨fun q hq => ?_, List.pairwise_cons.2 ⟨fun q hq k s r => ?_, h2.2⟩, fun q hq k s => ?_⟩
  · rcases List.mem_cons.1 hq with rfl | r
    · exact ⟨h.ins o (by simp), h.ins p (by simp)⟩
    · exact h.ins q (by simp [r])
  · rcases s with s | s
    · exact h1.1 q (by simp [hq]) k s r
    · exact h2.1 q hq k s r
  · rcases List.mem_cons.1 hq with rfl | r
    · rcases s with s | s
      · exact h.ge o (by simp) k s
      · exact h.ge p (by simp) k s
    · exact h.ge q (by simp [r]) k s
def dOb (S : Nat → Prop) (d : Nat) (b : Nat → UInt8) (tg : Nat → Bool) (cp : Nat → Cp) : Ob := ⟨S, fun w => DIn S w d b tg cp, fun _ h => h.lt, fun _ _ _ h hk hd => h.keep hk hd⟩
/-- A list of one's own. -/
def uOb (B : Nat) (v : Value) (L : List Nat) : Ob := ⟨fun k => v.ownBlock = some k, fun w => UOwn w B v L, fun _ h k q => (h.block k q).2, fun _ _ _ h hk hd => own_blk h (fun g q => hk.block g (h.block g q).2 (hd g q))⟩
theorem own_low {W : World} {b lo e s n : Nat} {v : Value} {xs : List Value} (h : W.ownsRow b e s v n xs) (hl : lo ≤ b) : W.ownsRow lo e s v n xs := by
  refine ⟨h.1, ?_⟩
  rcases h.2 with r | ⟨g, cap, cur, r1, hb, r⟩
  · exact .inl r
  · exact .inr ⟨g, cap, cur, r1, Nat.le_trans hl hb, r⟩
theorem Bo.blk {lo kb K : Nat} {S : Nat → Prop} {w w' : World} {ov_ : Value} {rows : List Value} (h : Bo lo kb K S w ov_ rows) (hs : w.heap.size ≤ w'.heap.size) (g : ∀ k, S k ∨ k = kb ∨ ov_.ownBlock = some k → w'.heap[k]? = w.heap[k]?) : Bo lo kb K S w' ov_ rows := by
  refine ⟨at_blk h.box (g kb (.inr (.inl rfl))), own_blk h.own (fun k q => g k (.inr (.inr q))), fun i hi => ?_, h.skb, h.so, fun b q => Nat.lt_of_lt_of_le (h.lt b q) hs, h.klo⟩
  obtain ⟨M, v0, v1, v2, v3, q, hA, sM, m0, m1, m2, m3⟩ := h.row i hi
  have mv : ∀ {u : Value}, MkL lo i w u ∧ In S u → MkL lo i w' u ∧ In S u := fun m => ⟨m.1.blk (fun b q => g b (.inl (m.2 b q))), m.2⟩
  exact ⟨M, v0, v1, v2, v3, q, at_blk hA (g M (.inl sM)), sM, mv m0, mv m1, mv m2, mv m3⟩
/-- The book: its blocks are among those of SB. -/
structure BoIn (SB : Nat → Prop) (B kb K : Nat) (w : World) : Prop where
  go : ∃ (S : Nat → Prop) (ov_ : Value) (rows : List Value), Bo B kb K S w ov_ rows ∧ (∀ k, S k → SB k) ∧ ∀ g, ov_.ownBlock = some g → SB g
  box : SB kb
  lt : ∀ k, SB k → k < w.heap.size
theorem BoIn.keep {SB S1 : Nat → Prop} {B kb K : Nat} {w w' : World} (h : BoIn SB B kb K w) (hk : Kp S1 w w') (hd : ∀ k, SB k → ¬ S1 k) : BoIn SB B kb K w' := by
  obtain ⟨⟨S, ov_, rows, h1, h2, h3⟩, h4, h5⟩ := h
  refine ⟨⟨S, ov_, rows, h1.blk hk.size (fun k q => ?_), h2, h3⟩, h4, fun k q => Nat.lt_of_lt_of_le (h5 k q) hk.size⟩
  have : SB k := by
    rcases q with q | rfl | q
    · exact h2 k q
    · exact h4
    · exact h3 k q
  exact hk.block k (h5 k this) (hd k this)
def bkOb (SB : Nat → Prop) (B kb K : Nat) : Ob := ⟨SB, BoIn SB B kb K, fun _ h => h.lt, fun _ _ _ h hk hd => h.keep hk hd⟩
/-- The book, a memory of each side, and what lies beside. -/
structure Ps (B : Nat) (W : World) (kb K a d : Nat) (b b2 : Nat → UInt8) (t : Nat → Option Cp) (g : Nat → Bool) (c : Nat → Cp) (l : List Ob) : Prop where
  go : ∃ SB D X, Sep B W (bkOb SB B kb K :: dOb D d b2 g c :: tgOb X a b t :: l)
  le : B ≤ W.heap.size
section
variable {B : Nat} {W W' : World} {kb K a d : Nat} {b b2 : Nat → UInt8} {t : Nat → Option Cp} {g : Nat → Bool} {c : Nat → Cp} {l : List Ob}
theorem Ps.gr (h : Ps B W kb K a d b b2 t g c l) (hb : Below W.heap.size W W') : Ps B W' kb K a d b b2 t g c l := by
  obtain ⟨⟨SB, D, X, q⟩, le⟩ := h
  exact ⟨⟨SB, D, X, q.gr hb⟩, Nat.le_trans le hb.size⟩
theorem Ps.add (h : Ps B W kb K a d b b2 t g c l) (o : Ob) (hi : o.In W') (hn : ∀ k, o.S k → W.heap.size ≤ k) (hb : Below W.heap.size W W') : Ps B W' kb K a d b b2 t g c (o :: l) := by
  obtain ⟨⟨SB, D, X, q⟩, le⟩ := h
  exact ⟨⟨SB, D, X, sep_perm (q.add o hi hn hb le) (List.perm_middle (l₁ := [bkOb SB B kb K, dOb D d b2 g c, tgOb X a b t]) (a := o) (l₂ := l)).symm⟩, Nat.le_trans le hb.size⟩
theorem Ps.drop {o : Ob} (h : Ps B W kb K a d b b2 t g c (o :: l)) : Ps B W kb K a d b b2 t g c l := by
  obtain ⟨⟨SB, D, X, q⟩, le⟩ := h
  exact ⟨⟨SB, D, X, sep_tail (sep_perm q (List.perm_middle (l₁ := [bkOb SB B kb K, dOb D d b2 g c, tgOb X a b t]) (a := o) (l₂ := l)))⟩, le⟩
theorem Ps.swap {o p : Ob} (h : Ps B W kb K a d b b2 t g c (o :: p :: l)) : Ps B W kb K a d b b2 t g c (p :: o :: l) := by
  obtain ⟨⟨SB, D, X, q⟩, le⟩ := h
  exact ⟨⟨SB, D, X, sep_perm q (.cons _ (.cons _ (.cons _ (.swap _ _ _))))⟩, le⟩
theorem Ps.there (h : Ps B W kb K a d b b2 t g c l) (o : Ob) (ho : o ∈ l) : o.In W := by
  obtain ⟨⟨SB, D, X, q⟩, le⟩ := h
  exact q.ins o (by simp [ho])
theorem Ps.two (h : Ps B W kb K a d b b2 t g c l) (P O : Array Value) (tP tO : TypeId) : Ps B ((W.alloc (.cells P tP)).alloc (.cells O tO)) kb K a d b b2 t g c (boxOb (W.heap.size + 1) O :: boxOb W.heap.size P :: l) ∧ Below W.heap.size W ((W.alloc (.cells P tP)).alloc (.cells O tO)) := by
  have e : (W.alloc (.cells P tP)).heap.size = W.heap.size + 1 := by simp
  have h1 := h.add (W' := W.alloc (.cells P tP)) (boxOb W.heap.size P) (At.new W P tP) (fun k q => by have : k = W.heap.size := q; omega) ((Below.refl _ W).alloc (Nat.le_refl _) _)
  have h2 := h1.add (W' := (W.alloc (.cells P tP)).alloc (.cells O tO)) (boxOb (W.alloc (.cells P tP)).heap.size O) (At.new (W.alloc (.cells P tP)) O tO) (fun k q => by have : k = (W.alloc (.cells P tP)).heap.size := q; omega) ((Below.refl _ _).alloc (Nat.le_refl _) _)
  rw [e] at h2
  exact ⟨h2, ((Below.refl _ W).alloc (Nat.le_refl _) _).alloc (by rw [e]; omega) _⟩
theorem st_rel (h : Rel t g c) (addr size : Nat) : Rel (T.stT t addr size) (T.stG g addr size) c := by
  intro k
  unfold T.stT T.stG
  by_cases hw : T.wordB addr size = true
  · rw [if_pos hw, if_pos hw]
    unfold T.offT T.offG
    by_cases e : addr < addr + size ∧ addr / 16 ≤ k ∧ k * 16 < addr + size
    · rw [if_pos e, if_pos e]
      rfl
    · rw [if_neg e, if_neg e]
      exact h k
  · rw [if_neg hw, if_neg hw]
    exact h k
theorem Ps.onX (h : Ps B W kb K a d b b2 t g c l) {f : Nat} {args : Array Value} {r : Ending} {b' : Nat → UInt8} {t' : Nat → Option Cp} (hc : ∀ X, TgIn X W a b t → Calls Try.prog f args W fun x w' => x = r ∧ ∃ X', TgIn X' w' a b' t' ∧ Mf X X' W w') :
    Calls Try.prog f args W fun x w' => x = r ∧ Ps B w' kb K a d b' b2 t' g c l ∧ Below B W w' := by
  obtain ⟨⟨SB, D, X, q⟩, le⟩ := h
  refine (hc X (q.ins (tgOb X a b t) (by simp))).mono ?_
  rintro x w' ⟨rfl, X', h1, h2⟩
  exact ⟨rfl, ⟨⟨SB, D, X', Sep.change (l1 := [bkOb SB B kb K, dOb D d b2 g c]) (o := tgOb X a b t) (o' := tgOb X' a b' t') (l2 := l) q h1 h2 le⟩, Nat.le_trans le h2.kp.size⟩, Sep.below (l1 := [bkOb SB B kb K, dOb D d b2 g c]) (o := tgOb X a b t) (l2 := l) q h2 le⟩
theorem Ps.onD (h : Ps B W kb K a d b b2 t g c l) {f : Nat} {args : Array Value} {r : Ending} {b' : Nat → UInt8} {g' : Nat → Bool} {c' : Nat → Cp} (hc : ∀ D, DIn D W d b2 g c → Calls Try.prog f args W fun x w' => x = r ∧ DIn D w' d b' g' c' ∧ Kp D W w') :
    Calls Try.prog f args W fun x w' => x = r ∧ Ps B w' kb K a d b b' t g' c' l ∧ Below B W w' := by
  obtain ⟨⟨SB, D, X, q⟩, le⟩ := h
  refine (hc D (q.ins (dOb D d b2 g c) (by simp))).mono ?_
  rintro x w' ⟨rfl, h1, h2⟩
  exact ⟨rfl, ⟨⟨SB, D, X, Sep.change (l1 := [bkOb SB B kb K]) (o := dOb D d b2 g c) (o' := dOb D d b' g' c') (l2 := tgOb X a b t :: l) q h1 (Mf.kpS h2) le⟩, Nat.le_trans le h2.size⟩, Sep.below (l1 := [bkOb SB B kb K]) (o := dOb D d b2 g c) (l2 := tgOb X a b t :: l) q (Mf.kpS h2) le⟩
theorem Ps.readX (h : Ps B W kb K a d b b2 t g c l) {f : Nat} {args : Array Value} {r : Ending} (hc : ∀ X, TgIn X W a b t → Calls Try.prog f args W fun x w' => x = r ∧ Below W.heap.size W w') :
    Calls Try.prog f args W fun x w' => x = r ∧ Ps B w' kb K a d b b2 t g c l ∧ Below B W w' := by
  obtain ⟨⟨SB, D, X, q⟩, le⟩ := h
  refine (hc X (q.ins (tgOb X a b t) (by simp))).mono ?_
  rintro x w' ⟨rfl, h1⟩
  exact ⟨rfl, Ps.gr ⟨⟨SB, D, X, q⟩, le⟩ h1, h1.mono le⟩
theorem Ps.readD (h : Ps B W kb K a d b b2 t g c l) {f : Nat} {args : Array Value} {r : Ending} (hc : ∀ D, DIn D W d b2 g c → Calls Try.prog f args W fun x w' => x = r ∧ Below W.heap.size W w') :
    Calls Try.prog f args W fun x w' => x = r ∧ Ps B w' kb K a d b b2 t g c l ∧ Below B W w' := by
  obtain ⟨⟨SB, D, X, q⟩, le⟩ := h
  refine (hc D (q.ins (dOb D d b2 g c) (by simp))).mono ?_
  rintro x w' ⟨rfl, h1⟩
  exact ⟨rfl, Ps.gr ⟨⟨SB, D, X, q⟩, le⟩ h1, h1.mono le⟩
theorem Ps.tagsX (h : Ps B W kb K a d b b2 t g c l) :
    Calls Try.prog 23 #[.pointer (some ⟨a, 0, none⟩)] W fun x w' => ∃ v, x = .returned v ∧ Ps B w' kb K a d b b2 t g c (uOb B v (T.tagsL t 4096) :: l) ∧ Below B W w' := by
  have h0 := h
  obtain ⟨⟨SB, D, X, q⟩, le⟩ := h
  refine (T.tgTags_any X a b t W (q.ins (tgOb X a b t) (by simp))).mono ?_
  rintro x w' ⟨v, rfl, h1, h2⟩
  exact ⟨v, rfl, h0.add (uOb B v (T.tagsL t 4096)) (own_low h1 le) (fun k q => (h1.block k q).1) h2, h2.mono le⟩
theorem Ps.tagsD (h : Ps B W kb K a d b b2 t g c l) (hr : Rel t g c) :
    Calls Try.prog 25 #[.pointer (some ⟨d, 0, none⟩)] W fun x w' => ∃ v, x = .returned v ∧ Ps B w' kb K a d b b2 t g c (uOb B v (T.tagsL t 4096) :: l) ∧ Below B W w' := by
  have h0 := h
  obtain ⟨⟨SB, D, X, q⟩, le⟩ := h
  refine (T.dTags_any D d b2 t g c W (q.ins (dOb D d b2 g c) (by simp)) hr).mono ?_
  rintro x w' ⟨v, rfl, h1, h2⟩
  exact ⟨v, rfl, h0.add (uOb B v (T.tagsL t 4096)) (own_low h1 le) (fun k q => (h1.block k q).1) h2, h2.mono le⟩
theorem Ps.looks (h : Ps B W kb K a d b b2 t g c l) (hK : K ≤ 1048576) :
    Calls Try.prog 10 #[.pointer (some ⟨kb, 0, none⟩)] W fun x w' => x = .returned (.bool true) ∧ Ps B w' kb K a d b b2 t g c l ∧ Below B W w' := by
  have h0 := h
  obtain ⟨⟨SB, D, X, q⟩, le⟩ := h
  obtain ⟨S, ov_, rows, h1, h2, h3⟩ := (q.ins (bkOb SB B kb K) (by simp)).go
  refine (looks_any B kb K hK ov_ rows W h1.bk).mono ?_
  rintro x w' ⟨rfl, h4⟩
  exact ⟨rfl, h0.gr h4.below, h4.below.mono le⟩
theorem Ps.keep (v : Value) (L : List Nat) (h : Ps B W kb K a d b b2 t g c (uOb B v L :: l)) (hL : L.length ≤ 1048576) (hK : K ≤ 1048575) :
    Calls Try.prog 26 #[.pointer (some ⟨kb, 0, none⟩), v] W fun x w' => x = .returned (.tuple #[]) ∧ Ps B w' kb (K + 1) a d b b2 t g c l ∧ Below B W w' := by
  obtain ⟨⟨SB, D, X, q⟩, le⟩ := h
  have q1 : Sep B W (bkOb SB B kb K :: uOb B v L :: dOb D d b2 g c :: tgOb X a b t :: l) := sep_perm q (.cons _ (List.perm_middle (l₁ := [dOb D d b2 g c, tgOb X a b t]) (a := uOb B v L) (l₂ := l)))
  have hU : UOwn W B v L := q1.ins (uOb B v L) (by simp)
  obtain ⟨va, vc, rfl, _⟩ := hU.form
  have hI : BoIn SB B kb K W := q1.ins (bkOb SB B kb K) (by simp)
  obtain ⟨S, ov_, rows, h1, h2, h3⟩ := hI.go
  have hne : ∀ k, SB k → Value.ownBlock (.slice va L.length vc) ≠ some k := (List.pairwise_cons.1 q1.dis).1 (uOb B (.slice va L.length vc) L) (by simp)
  have hv : Out S kb ov_ (.slice va L.length vc) := fun g r => ⟨fun s => hne g (h2 g s) r, fun e => hne g (e ▸ hI.box) r, fun s => hne g (h3 g s) r⟩
  have hvb : ∀ g, Value.ownBlock (.slice va L.length vc) = some g → g < W.heap.size := fun g r => (hU.block g r).2
  obtain ⟨oa, oc, rfl, _⟩ := h1.bk.slice
  refine (keep_any B K L.length kb va vc oa oc rows W ⟨_, hU⟩ hL hK h1.box h1.own le (fun g r => (hv g r).2.1) (fun g r => ⟨(h1.so g r).2, fun s => (hv g s).2.2 r⟩)).mono ?_
  rintro x w' ⟨rfl, gO, cO, M, g1, c1, g2, c2, lv, k⟩
  obtain ⟨S', hB, hS'⟩ := h1.keep hv hvb hL k
  have kp : Kp (andOb (bkOb SB B kb K) (uOb B (.slice va L.length vc) L)).S W w' := ⟨k.kq.os, k.kq.tape, k.kq.output, k.kq.size, fun n hn hS => k.kq.block n hn (fun r => hS (by
    rcases r with r | r | rfl
    · exact .inr r
    · exact .inl (h3 n r)
    · exact .inl hI.box))⟩
  have lt' : ∀ n, (SB n ∨ Value.ownBlock (.slice va L.length vc) = some n) → n < W.heap.size := fun n r => r.elim (hI.lt n) (hvb n)
  have hO : gO < w'.heap.size := (hB.own.lt gO rfl).2
  refine ⟨rfl, ⟨⟨fun n => (SB n ∨ Value.ownBlock (.slice va L.length vc) = some n) ∨ S' n ∨ n = gO, D, X, Sep.change (l1 := []) (o := andOb (bkOb SB B kb K) (uOb B (.slice va L.length vc) L)) (l2 := dOb D d b2 g c :: tgOb X a b t :: l) (sep_join q1) ⟨⟨S', _, _, hB, fun n r => .inr (.inl r), fun n r => .inr (.inr (by simpa [Value.ownBlock] using r.symm))⟩, .inl (.inl hI.box), fun n r => ?_⟩ ⟨fun n r => .inl r, fun n r => ?_, kp⟩ le⟩, Nat.le_trans le k.kq.size⟩, kp.below le (fun n r => ?_)⟩
  · rcases r with r | r | rfl
    · exact Nat.lt_of_lt_of_le (lt' n r) k.kq.size
    · exact hB.lt n r
    · exact hO
  · rcases r with r | r | rfl
    · exact .inl r
    · rcases hS' n r with r | r | r
      · exact .inl (.inl (h2 n r))
      · exact .inl (.inr r)
      · exact .inr r
    · rcases k.pO with r | r
      · exact .inl (.inl (h3 n r))
      · exact .inr r
  · exact (sep_join q1).ge _ (by simp) n r
end
end U
end Go.Proofs.Ythblllanofnmmaa
