import Derived.Test.YtiigpncfmakgjaaGreatDoorJ13
import Derived.Test.YtiigpncfmakgjaaGreatDoorJ04
import Derived.Test.YtiigpncfmakgjaaGreatDoorJ11
import Derived.Deep.AppendLies
import Derived.Test.YtiigpncfmakgjaaGreatDoorJ03
import Derived.OneCell
import Derived.Lib.AppendStr
namespace Go.Proofs.YtiigpncfmakgjaaGreatDoor
namespace T
open Go.RowKit

structure Ed where
 e : Int
 v : Int
 f : Int
def flt (f : Int) : Ed := ⟨7, 0, f⟩
structure Fm where
 gate : Nat
 pc : Nat
 regs : Nat → Vl
structure Tc where
 store : Bool
 addr : Nat
 size : Nat
def Vl.row (v : Vl) : List Value := [.bool v.g, .int .u64 v.n, .int .u64 v.c.b, .int .u64 v.c.e, .int .u64 v.c.c, .int .u8 v.c.p, .int .i64 v.c.s]
theorem Vl.row_len (v : Vl) : v.row.length = 7 := rfl
def regRow (r : Nat → Vl) : Nat → List Value
 | 0 => []
 | n + 1 => regRow r n ++ (r n).row
theorem regRow_len (r : Nat → Vl) (n : Nat) : (regRow r n).length = n * 7 := by
 induction n with
 | zero => rfl
 | succ n ih => rw [regRow, List.length_append, ih, Vl.row_len]; omega
theorem regRow_at (r : Nat → Vl) (n : Nat) : ∀ o, o < n * 7 → (regRow r n)[o]? = (r (o / 7)).row[o % 7]? := by
 induction n with
 | zero => intro o h; omega
 | succ n ih =>
   intro o h
   rw [regRow]
   by_cases q : o < n * 7
   · rw [List.getElem?_append_left (by rw [regRow_len]; exact q)]
     exact ih o q
   · rw [List.getElem?_append_right (by rw [regRow_len]; omega), regRow_len]
     rw [show o / 7 = n by omega, show o % 7 = o - n * 7 by omega]
def Fm.row (f : Fm) : List Value := .int .i64 f.gate :: .int .i64 f.pc :: regRow f.regs 16
def Tc.row (x : Tc) : List Value := [.bool x.store, .int .u64 x.addr, .int .u64 x.size]
def mRow (p0 p1 p2 : Value) (d : Int) (km : Nat) (f : Fm) (st inp out tou : Value) (o : Ed) : List Value :=
 [p0, p1, p2, .int .i64 d, .pointer (some ⟨km, 0, none⟩), .int .i64 f.gate, .int .i64 f.pc] ++ regRow f.regs 16 ++ [st, inp, out, tou, .int .i64 o.e, .int .u64 o.v, .int .i64 o.f]
theorem mRow_idx (p0 p1 p2 : Value) (d : Int) (km : Nat) (f : Fm) (st inp out tou : Value) (o : Ed) (x : Nat) :
   (mRow p0 p1 p2 d km f st inp out tou o)[x]? = if x < 7 then [p0, p1, p2, .int .i64 d, .pointer (some ⟨km, 0, none⟩), .int .i64 f.gate, .int .i64 f.pc][x]? else if x < 119 then (f.regs ((x - 7) / 7)).row[(x - 7) % 7]? else [st, inp, out, tou, .int .i64 o.e, .int .u64 o.v, .int .i64 o.f][x - 119]? := by
 have hl : ([p0, p1, p2, Value.int .i64 d, .pointer (some ⟨km, 0, none⟩), .int .i64 f.gate, .int .i64 f.pc] ++ regRow f.regs 16).length = 119 := by rw [List.length_append, regRow_len]; rfl
 unfold mRow
 rw [List.getElem?_append, hl]
 by_cases h1 : x < 119
 · rw [if_pos h1, List.getElem?_append]
   by_cases h2 : x < 7
   · rw [if_pos h2, if_pos (by simpa using h2)]
   · rw [if_neg h2, if_neg (by simpa using h2), if_pos h1]
     exact regRow_at f.regs 16 (x - 7) (by omega)
 · rw [if_neg h1, if_neg (by omega), if_neg h1]
theorem mRow_reg (p0 p1 p2 : Value) (d : Int) (km : Nat) (f : Fm) (st inp out tou : Value) (o : Ed) (r j : Nat) (hr : r < 16) (hj : j < 7) :
   (mRow p0 p1 p2 d km f st inp out tou o)[7 + r * 7 + j]? = (f.regs r).row[j]? := by
 rw [mRow_idx, if_neg (by omega), if_pos (by omega), show (7 + r * 7 + j - 7) / 7 = r by omega, show (7 + r * 7 + j - 7) % 7 = j by omega]
def updV (r : Nat → Vl) (i : Nat) (v : Vl) : Nat → Vl := fun x => if x = i then v else r x
structure Bx (w : World) (a : Nat) (row : List Value) : Prop where
 lt : a < w.heap.size
 at_ : ∀ o v, row[o]? = some v → w.cell? ⟨a, o, none⟩ = some v
 fr : ∀ o, w.frozen? ⟨a, o, none⟩ = false
theorem Bx.block {w w1 : World} {a : Nat} {row : List Value} (h : Bx w a row) (hs : w.heap.size ≤ w1.heap.size) (hb : w1.heap[a]? = w.heap[a]?) : Bx w1 a row :=
 ⟨Nat.lt_of_lt_of_le h.lt hs, fun o v q => (cell_of_block hb o).trans (h.at_ o v q), fun o => (frozen_of_block hb o).trans (h.fr o)⟩
theorem Bx.keep {S : Nat → Prop} {w w1 : World} {a : Nat} {row : List Value} (h : Bx w a row) (hk : Kp S w w1) (hn : ¬ S a) : Bx w1 a row := h.block hk.size (hk.block a h.lt hn)
theorem Bx.set {w : World} {a : Nat} {row : List Value} (h : Bx w a row) (i : Nat) (v : Value) : Bx (w.setCell ⟨a, i, none⟩ v) a (row.set i v) := by
 refine ⟨by simpa using h.lt, fun o u q => ?_, fun o => by simpa using h.fr o⟩
 by_cases e : i = o
 · subst e
   rw [List.getElem?_set_self' ] at q
   cases hq : row[i]? with
   | none => rw [hq] at q; simp at q
   | some y =>
     rw [hq] at q
     have : v = u := by simpa using q
     subst this
     exact css (h.at_ i y hq)
 · rw [List.getElem?_set_ne e] at q
   rw [cso (fun _ => e)]
   exact h.at_ o u q
theorem mRow_other (p0 p1 p2 : Value) (d : Int) (km : Nat) (f : Fm) (st inp out tou : Value) (o : Ed) (r : Nat) (v : Vl) (x : Nat) (hx : x < 7 + r * 7 ∨ 7 + r * 7 + 7 ≤ x) :
   (mRow p0 p1 p2 d km { f with regs := updV f.regs r v } st inp out tou o)[x]? = (mRow p0 p1 p2 d km f st inp out tou o)[x]? := by
 rw [mRow_idx, mRow_idx]
 by_cases h2 : x < 7
 · rw [if_pos h2, if_pos h2]
 · rw [if_neg h2, if_neg h2]
   by_cases h1 : x < 119
   · rw [if_pos h1, if_pos h1]
     have : updV f.regs r v ((x - 7) / 7) = f.regs ((x - 7) / 7) := by unfold updV; rw [if_neg (by omega)]
     show (updV f.regs r v ((x - 7) / 7)).row[(x - 7) % 7]? = _
     rw [this]
   · rw [if_neg h1, if_neg h1]
theorem Bx.putReg {w : World} {a : Nat} {p0 p1 p2 : Value} {d : Int} {km : Nat} {f : Fm} {st inp out tou : Value} {o : Ed} (h : Bx w a (mRow p0 p1 p2 d km f st inp out tou o)) (r : Nat) (v : Vl) (hr : r < 16) :
   Bx (w.setCells a (7 + r * 7) v.row) a (mRow p0 p1 p2 d km { f with regs := updV f.regs r v } st inp out tou o) := by
 refine ⟨by rw [setCells_size]; exact h.lt, fun x u q => ?_, fun x => by rw [World.frozen?_setCells]; exact h.fr x⟩
 by_cases hx : x < 7 + r * 7 ∨ 7 + r * 7 + 7 ≤ x
 · rw [mRow_other _ _ _ _ _ _ _ _ _ _ _ r v x hx] at q
   rw [World.cell?_setCells_out a v.row (7 + r * 7) w _ (fun _ _ => by rw [Vl.row_len]; exact hx)]
   exact h.at_ x u q
 · obtain ⟨j, rfl⟩ : ∃ j, x = 7 + r * 7 + j := ⟨x - (7 + r * 7), by omega⟩
   rw [mRow_reg _ _ _ _ _ _ _ _ _ _ _ r j hr (by omega)] at q
   have e : ({ f with regs := updV f.regs r v } : Fm).regs r = v := by simp [updV]
   rw [e] at q
   have hj : j < v.row.length := by rw [Vl.row_len]; omega
   rw [World.cell?_setCells_in a v.row (7 + r * 7) w (fun i hi => by
     rw [Vl.row_len] at hi
     have e2 := mRow_reg p0 p1 p2 d km f st inp out tou o r i hr hi
     have e3 : (f.regs r).row[i]? = some ((f.regs r).row[i]'(by rw [Vl.row_len]; exact hi)) := List.getElem?_eq_getElem _
     rw [e3] at e2
     rw [h.at_ _ _ e2]; rfl) j hj, ← q, List.getElem?_eq_getElem hj]
end T
end Go.Proofs.YtiigpncfmakgjaaGreatDoor


namespace Go.Proofs.YtiigpncfmakgjaaGreatDoor
namespace T
open Go.RowKit

structure Ob where
 S : Nat → Prop
 In : World → Prop
 lt : ∀ w, In w → ∀ k, S k → k < w.heap.size
 keep : ∀ (w w' : World) (S1 : Nat → Prop), In w → Kp S1 w w' → (∀ k, S k → ¬ S1 k) → In w'
def tgOb (S : Nat → Prop) (a : Nat) (b : Nat → UInt8) (t : Nat → Option Cp) : Ob := ⟨S, fun w => TgIn S w a b t, fun _ h => h.lt, fun _ _ _ h hk hd => h.keep hk hd⟩
def boxOb (k : Nat) (cs : Array Value) : Ob := ⟨fun x => x = k, fun w => At w k cs, fun _ h _ q => q ▸ h.1, fun _ _ _ h hk hd => at_kp h hk (hd _ rfl)⟩
structure Sep (B : Nat) (W : World) (l : List Ob) : Prop where
 ins : ∀ o ∈ l, o.In W
 dis : l.Pairwise fun o p => ∀ k, o.S k → ¬ p.S k
 ge : ∀ o ∈ l, ∀ k, o.S k → B ≤ k
theorem Sep.gr {B : Nat} {W W' : World} {l : List Ob} (h : Sep B W l) (hb : Below W.heap.size W W') : Sep B W' l :=
 ⟨fun o ho => o.keep W W' (fun _ => False) (h.ins o ho) (Kp.of_below hb) (fun _ _ q => q), h.dis, h.ge⟩
theorem Sep.add {B : Nat} {W W' : World} {l : List Ob} (h : Sep B W l) (o : Ob) (hi : o.In W') (hn : ∀ k, o.S k → W.heap.size ≤ k) (hb : Below W.heap.size W W') (hB : B ≤ W.heap.size) : Sep B W' (o :: l) := by
 have h' := h.gr hb
 refine ⟨fun p hp => ?_, List.pairwise_cons.2 ⟨fun p hp k q r => ?_, h.dis⟩, fun p hp k q => ?_⟩
 · rcases List.mem_cons.1 hp with rfl | r
   · exact hi
   · exact h'.ins p r
 · have := hn k q; have := p.lt W (h.ins p hp) k r; omega
 · rcases List.mem_cons.1 hp with rfl | r
   · have := hn k q; omega
   · exact h.ge p r k q
end T
end Go.Proofs.YtiigpncfmakgjaaGreatDoor


namespace Go.Proofs.YtiigpncfmakgjaaGreatDoor
namespace C
open Go.RowKit
open T (Sep Ob Kp Mf TgIn boxOb)

structure Hz (p : Prop) : Prop where
 out : p
structure IvIn (w : World) (v : Value) (L : List Int) : Prop where
 go : ∃ a cap, v = .slice a L.length cap ∧ L.length ≤ cap ∧ (L.length = 0 ∨ ∃ b off, a = some ⟨b, off, none⟩ ∧ ∀ i (h : i < L.length), w.cell? ⟨b, off + i, none⟩ = some (.int .u64 L[i]))
 lt : ∀ k, v.ownBlock = some k → k < w.heap.size
 rm : ∃ a cap, v = .slice a L.length cap ∧ ((a = none ∧ cap = 0) ∨ ∃ b off, a = some ⟨b, off, none⟩ ∧ ∀ j, j < cap → (w.cell? ⟨b, off + j, none⟩).isSome = true ∧ w.frozen? ⟨b, off + j, none⟩ = false)
theorem IvIn.keep {S1 : Nat → Prop} {w w' : World} {v : Value} {L : List Int} (h : IvIn w v L) (hk : Kp S1 w w') (hd : ∀ k, v.ownBlock = some k → ¬ S1 k) : IvIn w' v L := by
 refine ⟨?_, fun k q => Nat.lt_of_lt_of_le (h.lt k q) hk.size, ?_⟩
 · obtain ⟨a, cap, e1, e2, e3⟩ := h.go
   refine ⟨a, cap, e1, e2, ?_⟩
   rcases e3 with e3 | ⟨b, off, rfl, e3⟩
   · exact .inl e3
   · have hb : w'.heap[b]? = w.heap[b]? := hk.block b (h.lt b (by rw [e1]; rfl)) (hd b (by rw [e1]; rfl))
     exact .inr ⟨b, off, rfl, fun i hi => (T.cell_of_block hb _).trans (e3 i hi)⟩
 · obtain ⟨a, cap, e1, e2⟩ := h.rm
   refine ⟨a, cap, e1, ?_⟩
   rcases e2 with e2 | ⟨b, off, rfl, e2⟩
   · exact .inl e2
   · have hb : w'.heap[b]? = w.heap[b]? := hk.block b (h.lt b (by rw [e1]; rfl)) (hd b (by rw [e1]; rfl))
     refine .inr ⟨b, off, rfl, fun i hi => ?_⟩
     rw [T.cell_of_block hb, show w'.frozen? ⟨b, off + i, none⟩ = w.frozen? ⟨b, off + i, none⟩ by simp only [World.frozen?, hb]]
     exact e2 i hi
theorem own_keep {S1 : Nat → Prop} {w w' : World} {lo e s n : Nat} {v : Value} {xs : List Value} (h : w.ownsRow lo e s v n xs) (hk : Kp S1 w w') (hd : ∀ k, v.ownBlock = some k → ¬ S1 k) : w'.ownsRow lo e s v n xs := by
 have hl := h.lt
 refine ⟨h.1, ?_⟩
 rcases h.2 with q | ⟨g, cap, cur, rfl, hb, hg, r⟩
 · exact .inl q
 · exact .inr ⟨g, cap, cur, rfl, hb, (hk.block g (hl g rfl).2 (hd g rfl)).trans hg, r⟩
def rowOb (B e size : Nat) (v : Value) (n : Nat) (xs : List Value) : Ob := ⟨fun k => v.ownBlock = some k, fun w => w.ownsRow B e size v n xs, fun _ h k q => (h.lt k q).2, fun _ _ _ h hk hd => own_keep h hk hd⟩
def inOb (v : Value) (L : List Int) : Ob := ⟨fun k => v.ownBlock = some k, fun w => IvIn w v L, fun _ h => h.lt, fun _ _ _ h hk hd => h.keep hk hd⟩
theorem sep_change {B : Nat} {W W' : World} {l1 l2 : List Ob} {o o' : Ob} (h : Sep B W (l1 ++ o :: l2)) (hi : o'.In W') (hk : Kp o.S W W') (hn : ∀ k, o'.S k → o.S k ∨ W.heap.size ≤ k) (hB : B ≤ W.heap.size) : Sep B W' (l1 ++ o' :: l2) := by
 have hd := h.dis
 rw [List.pairwise_append] at hd
 obtain ⟨q1, q2, q3⟩ := hd
 rw [List.pairwise_cons] at q2
 have n1 : ∀ p ∈ l1, ∀ k, p.S k → ¬ o.S k := fun p hp k => q3 p hp o (by simp) k
 have n2 : ∀ p ∈ l2, ∀ k, p.S k → ¬ o.S k := fun p hp k r s => q2.1 p hp k s r
 have lt1 : ∀ p ∈ l1, ∀ k, p.S k → k < W.heap.size := fun p hp => p.lt W (h.ins p (by simp [hp]))
 have lt2 : ∀ p ∈ l2, ∀ k, p.S k → k < W.heap.size := fun p hp => p.lt W (h.ins p (by simp [hp]))
 have m1 : ∀ p ∈ l1, ∀ k, p.S k → ¬ o'.S k := fun p hp k r s => by
   rcases hn k s with t | t
   · exact n1 p hp k r t
   · have := lt1 p hp k r; omega
 have m2 : ∀ p ∈ l2, ∀ k, o'.S k → ¬ p.S k := fun p hp k s r => by
   rcases hn k s with t | t
   · exact n2 p hp k r t
   · have := lt2 p hp k r; omega
 refine ⟨fun p hp => ?_, ?_, fun p hp k q => ?_⟩
 · rcases List.mem_append.1 hp with r | r
   · exact p.keep W W' o.S (h.ins p (by simp [r])) hk (n1 p r)
   · rcases List.mem_cons.1 r with rfl | r
     · exact hi
     · exact p.keep W W' o.S (h.ins p (by simp [r])) hk (n2 p r)
 · rw [List.pairwise_append]
   refine ⟨q1, List.pairwise_cons.2 ⟨fun p hp k => m2 p hp k, q2.2⟩, fun p hp r hr k => ?_⟩
   rcases List.mem_cons.1 hr with rfl | hr
   · exact m1 p hp k
   · exact q3 p hp r (by simp [hr]) k
 · rcases List.mem_append.1 hp with r | r
   · exact h.ge p (by simp [r]) k q
   · rcases List.mem_cons.1 r with rfl | r
     · rcases hn k q with t | t
       · exact h.ge o (by simp) k t
       · omega
     · exact h.ge p (by simp [r]) k q
theorem sep_below {B : Nat} {W W' : World} {l1 l2 : List Ob} {o : Ob} (h : Sep B W (l1 ++ o :: l2)) (hk : Kp o.S W W') (hB : B ≤ W.heap.size) : Below B W W' := hk.below hB (h.ge o (by simp))
theorem sep_perm {B : Nat} {W : World} {l l' : List Ob} (h : Sep B W l) (p : l.Perm l') : Sep B W l' :=
 ⟨fun o ho => h.ins o (p.mem_iff.2 ho), (List.Perm.pairwise_iff (fun q k hb ha => q k ha hb) p).1 h.dis, fun o ho => h.ge o (p.mem_iff.2 ho)⟩
theorem sep_tail {B : Nat} {W : World} {o : Ob} {l : List Ob} (h : Sep B W (o :: l)) : Sep B W l :=
 ⟨fun p hp => h.ins p (List.mem_cons_of_mem _ hp), (List.pairwise_cons.1 h.dis).2, fun p hp => h.ge p (List.mem_cons_of_mem _ hp)⟩
def snapOb (B : Nat) (V : World) : Ob := ⟨fun k => B ≤ k ∧ k < V.heap.size, fun X => V.heap.size ≤ X.heap.size ∧ ∀ k, B ≤ k → k < V.heap.size → X.heap[k]? = V.heap[k]?, fun _ h _ q => Nat.lt_of_lt_of_le q.2 h.1, fun _ _ _ h hk hd => ⟨Nat.le_trans h.1 hk.size, fun k h1 h2 => (hk.block k (Nat.lt_of_lt_of_le h2 h.1) (hd k ⟨h1, h2⟩)).trans (h.2 k h1 h2)⟩⟩
theorem snap_sep (B : Nat) (V : World) : Sep B V [snapOb B V] := by
 refine ⟨fun o ho => ?_, List.pairwise_cons.2 ⟨fun p hp => (by cases hp), List.Pairwise.nil⟩, fun o ho k q => ?_⟩
 · rw [List.mem_singleton.1 ho]
   exact ⟨Nat.le_refl _, fun _ _ _ => rfl⟩
 · rw [List.mem_singleton.1 ho] at q
   exact q.1
end C
end Go.Proofs.YtiigpncfmakgjaaGreatDoor


namespace Go.Proofs.YtiigpncfmakgjaaGreatDoor
open Go.RowKit

theorem one_at {w : World} {k : Nat} {cs : Array Value} {t : TypeId} (h : w.heap[k]? = some (.cells cs t (0, 0))) : At w k cs := by
 refine ⟨(Array.getElem?_eq_some_iff.1 h).1, fun o => ?_, fun o => ?_⟩
 · simp only [World.cell?]; rw [h]; simp
 · simp only [World.frozen?]; rw [h]; simp
theorem own_ne {w : World} {base e size n k : Nat} {v : Value} {xs : List Value} {cs : Array Value} {t : TypeId} (h : w.ownsRow base e size v n xs) (hb : w.heap[k]? = some (.cells cs t (0, 0))) (ht : t ≠ e) : v.ownBlock ≠ some k := by
 intro he
 rcases h.2 with ⟨rfl, _⟩ | ⟨g, cap, cur, rfl, hbg, hg, _⟩
 · cases he
 · obtain rfl : g = k := by simpa [Value.ownBlock] using he
   rw [hb] at hg
   simp at hg
   exact ht hg.2
end Go.Proofs.YtiigpncfmakgjaaGreatDoor
