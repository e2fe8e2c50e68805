import Derived.Test.YthfphgjjieddjaaGreatZDNum
import Derived.Test.YthfphgjjieddjaaGreatP40
namespace Go.Proofs.YthfphgjjieddjaaGreat
namespace Z
open Go.RowKit
open T (Sep Ob Kp Mf FlIn boxOb)

structure Dc where
 ca : Option Addr
 ga : Option Addr
 cc : Nat
 gc : Nat
 pm : Value
structure Dq where
 sv : Value
 mv : Value
 iv : Value
 ov_ : Value
 tv : Value
def dxOf (c : Dc) (P : Pr) (s : Fm) (q : Dq) (og op : Nat) : Dx := ⟨.slice c.ca P.code.length c.cc, .slice c.ga P.gates.length c.gc, c.pm, P.dep, s.g, s.p, s.r, q.sv, q.mv, q.iv, q.ov_, q.tv, s.e, s.v, s.f, og, op⟩
def mV (m : Nat → UInt8) : List Value := (List.range 65536).map fun i => Value.int .u8 (m i).toNat
def dobs (B b : Nat) (c : Dc) (P : Pr) (s : Fm) (q : Dq) (og op : Nat) : List Ob := [dbOb b (dxOf c P s q og op), rowOb B 119 18 q.sv s.st.length (s.st.flatMap Fr.vals), rowOb B 5 1 q.mv 65536 (mV s.m), ouOb B q.ov_ s.out, tcOb B q.tv s.tc]
def giOb (B : Nat) (iv : Value) (L : List Int) : Ob := ⟨fun k => B ≤ k ∧ ∃ off n c, iv = .slice (some ⟨k, off, none⟩) n c, fun W => ∀ k off n c, iv = .slice (some ⟨k, off, none⟩) n c → B ≤ k → k < W.heap.size ∧ ∀ i (h : i < L.length), W.cell? ⟨k, off + i, none⟩ = some (.int .u64 L[i]), fun _ h k q => by
 obtain ⟨hB, off, n, c, e⟩ := q
 exact (h k off n c e hB).1, fun _ _ _ h hk hd k off n c e hB => ⟨Nat.lt_of_lt_of_le (h k off n c e hB).1 hk.size, fun i hi => (T.cell_of_block (hk.block k (h k off n c e hB).1 (hd k ⟨hB, off, n, c, e⟩)) _).trans ((h k off n c e hB).2 i hi)⟩⟩
def LgIn (B : Nat) (w : World) (la : Option Addr) (lc : Nat) (Lf : List Int) : Prop := Lf.length ≤ lc ∧ ((la = none ∧ lc = 0) ∨ ∃ b off, la = some ⟨b, off, none⟩ ∧ (b < B → b < w.heap.size ∧ ∀ i (h : i < Lf.length), w.cell? ⟨b, off + i, none⟩ = some (.int .u64 Lf[i])))
theorem LgIn.below {B : Nat} {w W : World} {la : Option Addr} {lc : Nat} {Lf : List Int} (h : LgIn B w la lc Lf) (q : Below B w W) : LgIn B W la lc Lf := by
 obtain ⟨h1, h2⟩ := h
 refine ⟨h1, ?_⟩
 rcases h2 with h2 | ⟨b, off, e, h3⟩
 · exact .inl h2
 · exact .inr ⟨b, off, e, fun hb => ⟨Nat.lt_of_lt_of_le (h3 hb).1 q.size, fun i hi => (T.cell_of_block (q.block b hb) _).trans ((h3 hb).2 i hi)⟩⟩
theorem LgIn.of {B : Nat} {w : World} {la : Option Addr} {lc : Nat} {Lf : List Int} (h : LfIn B w la lc Lf) : LgIn B w la lc Lf := by
 obtain ⟨h1, h2⟩ := h
 refine ⟨h1, ?_⟩
 rcases h2 with h2 | ⟨b, off, e, _, h4, h5⟩
 · exact .inl h2
 · exact .inr ⟨b, off, e, fun _ => ⟨h4, h5⟩⟩
theorem gi_low {B : Nat} {W : World} {l : List Ob} (h : Sep B W l) {iv : Value} {L : List Int} (hi : ∀ k off n c, iv = .slice (some ⟨k, off, none⟩) n c → k < B) : Sep B W (giOb B iv L :: l) := by
 refine ⟨fun o ho => ?_, List.pairwise_cons.2 ⟨fun p hp k q _ => ?_, h.dis⟩, fun o ho k q => ?_⟩
 · rcases List.mem_cons.1 ho with rfl | r
   · exact fun k off n c e hB => absurd (hi k off n c e) (by omega)
   · exact h.ins o r
 · obtain ⟨hB, off, n, c, e⟩ := q
   have := hi k off n c e
   omega
 · rcases List.mem_cons.1 ho with rfl | r
   · exact q.1
   · exact h.ge o r k q
theorem LfIn.lows {B : Nat} {w : World} {la : Option Addr} {lc : Nat} {Lf : List Int} (h : LfIn B w la lc Lf) (n0 : Nat) : ∀ k off n c, Value.slice la n0 lc = .slice (some ⟨k, off, none⟩) n c → k < B := by
 intro k off n c e
 injection e with e1 e2 e3
 rcases h.2 with ⟨h2, _⟩ | ⟨b, off2, e4, h3, _⟩
 · rw [h2] at e1
   cases e1
 · rw [e4] at e1
   injection e1 with e1
   injection e1 with e1
   omega
def DIo (B : Nat) (W : World) (b : Nat) (c : Dc) (P : Pr) (s : Fm) (og op : Nat) (l : List Ob) : Prop := (∃ q, Sep B W (dobs B b c P s q og op ++ giOb B q.iv s.inp :: l) ∧ ∃ ia ic, q.iv = .slice ia s.inp.length ic ∧ LgIn B W ia ic s.inp) ∧ B ≤ W.heap.size
section
variable {B : Nat} {W W' : World} {b : Nat} {c : Dc} {P : Pr} {s s' : Fm} {og op og' op' : Nat} {l : List Ob}
theorem DIo.le (h : DIo B W b c P s og op l) : B ≤ W.heap.size := h.2
theorem DIo.gr (h : DIo B W b c P s og op l) (hb : Below W.heap.size W W') : DIo B W' b c P s og op l := by
 obtain ⟨⟨q, h1, ia, ic, e, h2⟩, le⟩ := h
 exact ⟨⟨q, h1.gr hb, ia, ic, e, h2.below (hb.mono le)⟩, Nat.le_trans le hb.size⟩
theorem DIo.box (h : DIo B W b c P s og op l) : ∃ q, DBx W b (dxOf c P s q og op) := by
 obtain ⟨⟨q, h1, _⟩, _⟩ := h
 exact ⟨q, h1.ins (dbOb b (dxOf c P s q og op)) (by simp [dobs])⟩
theorem DIo.onBox (h : DIo B W b c P s og op l) (hs : s'.st = s.st ∧ s'.m = s.m ∧ s'.inp = s.inp ∧ s'.out = s.out ∧ s'.tc = s.tc) {f : Nat} {args : Array Value} {r : Ending} (hc : ∀ q, DBx W b (dxOf c P s q og op) → Calls Tryz.prog f args W fun x w' => x = r ∧ DB1 b (dxOf c P s' q og' op') W w') :
   Calls Tryz.prog f args W fun x w' => x = r ∧ DIo B w' b c P s' og' op' l ∧ Below B W w' := by
 obtain ⟨⟨q, h1, ia, ic, e, h2⟩, le⟩ := h
 obtain ⟨e1, e2, e3, e4, e5⟩ := hs
 refine (hc q (h1.ins (dbOb b (dxOf c P s q og op)) (by simp [dobs]))).mono ?_
 rintro x w' ⟨rfl, hB, hk⟩
 have h3 := sep_change (l1 := []) (o := dbOb b (dxOf c P s q og op)) (o' := dbOb b (dxOf c P s' q og' op')) h1 hB hk (fun _ r => .inl r) le
 have hb := sep_below (l1 := []) (o := dbOb b (dxOf c P s q og op)) h1 hk le
 refine ⟨rfl, ⟨⟨q, ?_, ia, ic, by rw [e3]; exact e, by rw [e3]; exact h2.below hb⟩, Nat.le_trans le hk.size⟩, hb⟩
 unfold dobs
 rw [e1, e2, e3, e4, e5]
 exact h3
end
theorem dnumbers_any (P : Pr) (i : Fi) (s : Fm) (n : Nat) (hs : s.Ok P) (ho : i.Ok n P.gates.length) (hop : i.op < 20) (B : Nat) (W : World) (b : Nat) (c : Dc) (og op : Nat) (l : List Ob) (h : DIo B W b c P s og op l) :
   Calls Tryz.prog 52 #[.pointer (some ⟨b, 0, none⟩), .agg #[.int .u8 i.op, .int .i64 i.a, .int .i64 i.b, .int .i64 i.c, .int .u64 i.i]] W fun x w' => x = .returned (.tuple #[]) ∧ DIo B w' b c P (stepI P i s) og op l ∧ Below B W w' := by
 have ia := ho.a
 have ib := ho.b
 have hp : s.p ≤ 1000000 := Nat.le_trans hs.p (by omega)
 have hc : i.c < 16 := by have := ho.c; omega
 have hn : i.op = 0 ∨ i.op = 1 ∨ i.op = 2 ∨ i.op = 3 ∨ i.op = 4 ∨ i.op = 5 ∨ i.op = 6 ∨ i.op = 7 ∨ i.op = 8 ∨ i.op = 9 ∨ i.op = 10 ∨ i.op = 11 ∨ i.op = 12 ∨ i.op = 13 := by have := ho.op; unfold Named at this; omega
 rcases hn with e | e | e | e | e | e | e | e | e | e | e | e | e | e
 all_goals rw [e]
 · rw [show stepI P i s = stp0 s by unfold stepI; rw [e]; rfl]
   exact h.onBox (s' := stp0 s) ⟨rfl, rfl, rfl, rfl, rfl⟩ (fun q hb => dnum0 b _ i.a i.b i.c i.i W hb ib hp)
 · rw [show stepI P i s = stp1 i s by unfold stepI; rw [e]; rfl]
   exact h.onBox (s' := stp1 i s) ⟨rfl, rfl, rfl, rfl, rfl⟩ (fun q hb => dnum1 b _ i.a i.b i.c i.i W hb ia ib hp)
 · rw [show stepI P i s = stp2 i s by unfold stepI; rw [e]; rfl]
   exact h.onBox (s' := stp2 i s) ⟨rfl, rfl, rfl, rfl, rfl⟩ (fun q hb => dnum2 b _ i.a i.b i.c i.i W hb ia ib hp)
 · rw [show stepI P i s = stp3 i s by unfold stepI; rw [e]; rfl]
   exact h.onBox (s' := stp3 i s) ⟨rfl, rfl, rfl, rfl, rfl⟩ (fun q hb => dnum3 b _ i.a i.b i.c i.i W hb ia hc ib hp)
 · rw [show stepI P i s = stp4 i s by unfold stepI; rw [e]; rfl]
   exact h.onBox (s' := stp4 i s) ⟨rfl, rfl, rfl, rfl, rfl⟩ (fun q hb => dnum4 b _ i.a i.b i.c i.i W hb ia hc ib hp)
 · rw [show stepI P i s = stp5 i s by unfold stepI; rw [e]; rfl]
   exact h.onBox (s' := stp5 i s) ⟨rfl, rfl, rfl, rfl, rfl⟩ (fun q hb => dnum5 b _ i.a i.b i.c i.i W hb ia hc ib hp)
 · rw [show stepI P i s = stp6 i s by unfold stepI; rw [e]; rfl]
   exact h.onBox (s' := stp6 i s) ⟨rfl, rfl, rfl, rfl, rfl⟩ (fun q hb => dnum6 b _ i.a i.b i.c i.i W hb ia hc ib hp)
 · rw [show stepI P i s = stp7 i s by unfold stepI; rw [e]; rfl]
   exact h.onBox (s' := stp7 i s) ⟨rfl, rfl, rfl, rfl, rfl⟩ (fun q hb => dnum7 b _ i.a i.b i.c i.i W hb ia hc ib hp)
 · rw [show stepI P i s = stp8 i s by unfold stepI; rw [e]; rfl]
   exact h.onBox (s' := stp8 i s) ⟨rfl, rfl, rfl, rfl, rfl⟩ (fun q hb => dnum8 b _ i.a i.b i.c i.i W hb ia hc ib hp)
 · rw [show stepI P i s = stp9 i s by unfold stepI; rw [e]; rfl]
   exact h.onBox (s' := stp9 i s) ⟨rfl, rfl, rfl, rfl, rfl⟩ (fun q hb => dnum9 b _ i.a i.b i.c i.i W hb ia hc (hs.r i.c).1 ib hp)
 · rw [show stepI P i s = stp10 i s by unfold stepI; rw [e]; rfl]
   exact h.onBox (s' := stp10 i s) ⟨rfl, rfl, rfl, rfl, rfl⟩ (fun q hb => dnum10 b _ i.a i.b i.c i.i W hb ia hc (hs.r i.c).1 ib hp)
 · rw [show stepI P i s = stp11 i s by unfold stepI; rw [e]; rfl]
   exact h.onBox (s' := stp11 i s) ⟨rfl, rfl, rfl, rfl, rfl⟩ (fun q hb => dnum11 b _ i.a i.b i.c i.i W hb ia ib hp)
 · rw [show stepI P i s = stp12 i s by unfold stepI; rw [e]; rfl]
   exact h.onBox (s' := stp12 i s) ⟨rfl, rfl, rfl, rfl, rfl⟩ (fun q hb => dnum12 b _ i.a i.b i.c i.i W hb ia hc ib hp)
 · rw [show stepI P i s = stp13 i s by unfold stepI; rw [e]; rfl]
   exact h.onBox (s' := stp13 i s) ⟨rfl, rfl, rfl, rfl, rfl⟩ (fun q hb => dnum13 b _ i.a i.b i.c i.i W hb ia hc ib hp)
end Z
end Go.Proofs.YthfphgjjieddjaaGreat


namespace Go.Proofs.YthfphgjjieddjaaGreat
namespace Z
open Go.RowKit
open T (Sep Ob Kp Mf FlIn boxOb)

def DEnd (s : Fm) (og op : Nat) : Prop := s.e ≠ 0 → og = s.g ∧ op = s.p
theorem DEnd.run {s : Fm} {og op : Nat} (h : s.e = 0) : DEnd s og op := fun q => absurd h q
def DAft (B : Nat) (w' : World) (b : Nat) (c : Dc) (P : Pr) (s' : Fm) (l : List Ob) : Prop := ∃ og op, DIo B w' b c P s' og op l ∧ DEnd s' og op
theorem djumps_any (P : Pr) (i : Fi) (s : Fm) (n : Nat) (hs : s.Ok P) (he : s.e = 0) (ho : i.Ok n P.gates.length) (hn4 : n ≤ 400) (hop : 20 ≤ i.op ∧ i.op < 27) (B : Nat) (W : World) (b : Nat) (c : Dc) (og op : Nat) (l : List Ob) (h : DIo B W b c P s og op l) :
   Calls Tryz.prog 53 #[.pointer (some ⟨b, 0, none⟩), .agg #[.int .u8 i.op, .int .i64 i.a, .int .i64 i.b, .int .i64 i.c, .int .u64 i.i]] W fun x w' => x = .returned (.tuple #[]) ∧ DAft B w' b c P (stepI P i s) l ∧ Below B W w' := by
 have ia := ho.a
 have ib := ho.b
 have hp : s.p ≤ 1000000 := Nat.le_trans hs.p (by omega)
 have him : i.i = ((i.i.toNat : Nat) : Int) := by have := ho.im; omega
 have hij : i.op ≤ 24 := by have := ho.op; unfold Named at this; omega
 have hi4 : i.i.toNat ≤ 1000000 := by have := ho.jm ⟨hop.1, hij⟩; omega
 have hk : i.op = 20 ∨ i.op = 21 ∨ i.op = 22 ∨ i.op = 23 ∨ i.op = 24 := by omega
 rcases hk with e | e | e | e | e
 all_goals rw [e]
 · rw [show stepI P i s = { s with p := i.i.toNat } by unfold stepI; rw [e]; rfl]
   refine (h.onBox (s' := { s with p := i.i.toNat }) ⟨rfl, rfl, rfl, rfl, rfl⟩ (fun q hb => djmp20 b _ i.a i.b i.c i.i W hb ia ib hp i.i.toNat him hi4)).mono ?_
   rintro x w' ⟨rfl, h1, h2⟩
   exact ⟨rfl, ⟨_, _, h1, DEnd.run he⟩, h2⟩
 · by_cases hq : s.r i.a = s.r i.b
   · rw [show stepI P i s = { s with p := i.i.toNat } by unfold stepI; rw [e]; show stp21 i s = _; unfold stp21; rw [if_pos (by simpa using hq)]]
     refine (h.onBox (s' := { s with p := i.i.toNat }) ⟨rfl, rfl, rfl, rfl, rfl⟩ (fun q hb => djmp21y b _ i.a i.b i.c i.i W hb ia ib hp hq i.i.toNat him hi4)).mono ?_
     rintro x w' ⟨rfl, h1, h2⟩
     exact ⟨rfl, ⟨_, _, h1, DEnd.run he⟩, h2⟩
   · rw [show stepI P i s = { s with p := s.p + 1 } by unfold stepI; rw [e]; show stp21 i s = _; unfold stp21; rw [if_neg (by simpa using hq)]]
     refine (h.onBox (s' := { s with p := s.p + 1 }) ⟨rfl, rfl, rfl, rfl, rfl⟩ (fun q hb => djmp21n b _ i.a i.b i.c i.i W hb ia ib hp hq)).mono ?_
     rintro x w' ⟨rfl, h1, h2⟩
     exact ⟨rfl, ⟨_, _, h1, DEnd.run he⟩, h2⟩
 · by_cases hq : s.r i.a ≠ s.r i.b
   · rw [show stepI P i s = { s with p := i.i.toNat } by unfold stepI; rw [e]; show stp22 i s = _; unfold stp22; rw [if_pos (by simpa using hq)]]
     refine (h.onBox (s' := { s with p := i.i.toNat }) ⟨rfl, rfl, rfl, rfl, rfl⟩ (fun q hb => djmp22y b _ i.a i.b i.c i.i W hb ia ib hp hq i.i.toNat him hi4)).mono ?_
     rintro x w' ⟨rfl, h1, h2⟩
     exact ⟨rfl, ⟨_, _, h1, DEnd.run he⟩, h2⟩
   · rw [show stepI P i s = { s with p := s.p + 1 } by unfold stepI; rw [e]; show stp22 i s = _; unfold stp22; rw [if_neg (by simpa using hq)]]
     refine (h.onBox (s' := { s with p := s.p + 1 }) ⟨rfl, rfl, rfl, rfl, rfl⟩ (fun q hb => djmp22n b _ i.a i.b i.c i.i W hb ia ib hp hq)).mono ?_
     rintro x w' ⟨rfl, h1, h2⟩
     exact ⟨rfl, ⟨_, _, h1, DEnd.run he⟩, h2⟩
 · by_cases hq : s.r i.a < s.r i.b
   · rw [show stepI P i s = { s with p := i.i.toNat } by unfold stepI; rw [e]; show stp23 i s = _; unfold stp23; rw [if_pos (by simpa using hq)]]
     refine (h.onBox (s' := { s with p := i.i.toNat }) ⟨rfl, rfl, rfl, rfl, rfl⟩ (fun q hb => djmp23y b _ i.a i.b i.c i.i W hb ia ib hp hq i.i.toNat him hi4)).mono ?_
     rintro x w' ⟨rfl, h1, h2⟩
     exact ⟨rfl, ⟨_, _, h1, DEnd.run he⟩, h2⟩
   · rw [show stepI P i s = { s with p := s.p + 1 } by unfold stepI; rw [e]; show stp23 i s = _; unfold stp23; rw [if_neg (by simpa using hq)]]
     refine (h.onBox (s' := { s with p := s.p + 1 }) ⟨rfl, rfl, rfl, rfl, rfl⟩ (fun q hb => djmp23n b _ i.a i.b i.c i.i W hb ia ib hp hq)).mono ?_
     rintro x w' ⟨rfl, h1, h2⟩
     exact ⟨rfl, ⟨_, _, h1, DEnd.run he⟩, h2⟩
 · by_cases hq : s.r i.b ≤ s.r i.a
   · rw [show stepI P i s = { s with p := i.i.toNat } by unfold stepI; rw [e]; show stp24 i s = _; unfold stp24; rw [if_pos (by simpa using hq)]]
     refine (h.onBox (s' := { s with p := i.i.toNat }) ⟨rfl, rfl, rfl, rfl, rfl⟩ (fun q hb => djmp24y b _ i.a i.b i.c i.i W hb ia ib hp hq i.i.toNat him hi4)).mono ?_
     rintro x w' ⟨rfl, h1, h2⟩
     exact ⟨rfl, ⟨_, _, h1, DEnd.run he⟩, h2⟩
   · rw [show stepI P i s = { s with p := s.p + 1 } by unfold stepI; rw [e]; show stp24 i s = _; unfold stp24; rw [if_neg (by simpa using hq)]]
     refine (h.onBox (s' := { s with p := s.p + 1 }) ⟨rfl, rfl, rfl, rfl, rfl⟩ (fun q hb => djmp24n b _ i.a i.b i.c i.i W hb ia ib hp hq)).mono ?_
     rintro x w' ⟨rfl, h1, h2⟩
     exact ⟨rfl, ⟨_, _, h1, DEnd.run he⟩, h2⟩
theorem dguards_any (P : Pr) (i : Fi) (s : Fm) (n : Nat) (hs : s.Ok P) (he : s.e = 0) (ho : i.Ok n P.gates.length) (hop : 70 ≤ i.op) (B : Nat) (W : World) (b : Nat) (c : Dc) (og op : Nat) (l : List Ob) (h : DIo B W b c P s og op l) :
   Calls Tryz.prog 56 #[.pointer (some ⟨b, 0, none⟩), .agg #[.int .u8 i.op, .int .i64 i.a, .int .i64 i.b, .int .i64 i.c, .int .u64 i.i]] W fun x w' => x = .returned (.tuple #[]) ∧ DAft B w' b c P (stepI P i s) l ∧ Below B W w' := by
 have ia := ho.a
 have hp : s.p ≤ 1000000 := Nat.le_trans hs.p (by omega)
 have hk : i.op = 70 ∨ i.op = 71 ∨ i.op = 72 := by have := ho.op; unfold Named at this; omega
 rcases hk with e | e | e
 all_goals rw [e]
 · by_cases hq : s.r i.a < i.i
   · rw [show stepI P i s = { s with p := s.p + 1 } by unfold stepI; rw [e]; show stp70 i s = _; unfold stp70; rw [if_pos (by simpa using hq)]]
     refine (h.onBox (s' := { s with p := s.p + 1 }) ⟨rfl, rfl, rfl, rfl, rfl⟩ (fun q hb => dgrd70y b _ i.a i.b i.c i.i W hb ia hp hq)).mono ?_
     rintro x w' ⟨rfl, h1, h2⟩
     exact ⟨rfl, ⟨_, _, h1, DEnd.run he⟩, h2⟩
   · rw [show stepI P i s = { s with e := 2, v := IntKind.u64.wrap i.c, f := 0 } by unfold stepI; rw [e]; show stp70 i s = _; unfold stp70; rw [if_neg (by simpa using hq)]]
     refine (h.onBox (s' := { s with e := 2, v := IntKind.u64.wrap i.c, f := 0 }) (og' := s.g) (op' := s.p) ⟨rfl, rfl, rfl, rfl, rfl⟩ (fun q hb => dgrd70n b _ i.a i.b i.c i.i W hb ia hq)).mono ?_
     rintro x w' ⟨rfl, h1, h2⟩
     exact ⟨rfl, ⟨_, _, h1, fun _ => ⟨rfl, rfl⟩⟩, h2⟩
 · by_cases hq : i.i ≤ s.r i.a
   · rw [show stepI P i s = { s with p := s.p + 1 } by unfold stepI; rw [e]; show stp71 i s = _; unfold stp71; rw [if_pos (by simpa using hq)]]
     refine (h.onBox (s' := { s with p := s.p + 1 }) ⟨rfl, rfl, rfl, rfl, rfl⟩ (fun q hb => dgrd71y b _ i.a i.b i.c i.i W hb ia hp hq)).mono ?_
     rintro x w' ⟨rfl, h1, h2⟩
     exact ⟨rfl, ⟨_, _, h1, DEnd.run he⟩, h2⟩
   · rw [show stepI P i s = { s with e := 2, v := IntKind.u64.wrap i.c, f := 0 } by unfold stepI; rw [e]; show stp71 i s = _; unfold stp71; rw [if_neg (by simpa using hq)]]
     refine (h.onBox (s' := { s with e := 2, v := IntKind.u64.wrap i.c, f := 0 }) (og' := s.g) (op' := s.p) ⟨rfl, rfl, rfl, rfl, rfl⟩ (fun q hb => dgrd71n b _ i.a i.b i.c i.i W hb ia hq)).mono ?_
     rintro x w' ⟨rfl, h1, h2⟩
     exact ⟨rfl, ⟨_, _, h1, fun _ => ⟨rfl, rfl⟩⟩, h2⟩
 · rw [show stepI P i s = { s with e := 2, v := IntKind.u64.wrap i.c, f := 0 } by unfold stepI; rw [e]; rfl]
   refine (h.onBox (s' := { s with e := 2, v := IntKind.u64.wrap i.c, f := 0 }) (og' := s.g) (op' := s.p) ⟨rfl, rfl, rfl, rfl, rfl⟩ (fun q hb => dgrd72 b _ i.a i.b i.c i.i W hb ia)).mono ?_
   rintro x w' ⟨rfl, h1, h2⟩
   exact ⟨rfl, ⟨_, _, h1, fun _ => ⟨rfl, rfl⟩⟩, h2⟩
end Z
end Go.Proofs.YthfphgjjieddjaaGreat


namespace Go.Proofs.YthfphgjjieddjaaGreat
namespace Z
open Go.RowKit
open T (Sep Ob Kp Mf FlIn boxOb)

section
variable {B : Nat} {W W' : World} {b : Nat} {c : Dc} {P : Pr} {s s' : Fm} {og op og' op' : Nat} {l : List Ob}
theorem sep_dbox {a : Nat} {x x' : Dx} {l2 : List Ob} (h : Sep B W (dbOb a x :: l2)) (v : Value) (j : Nat) (hb : DBx W a x → DBx (W.setCell ⟨a, j, none⟩ v) a x') (hB : B ≤ W.heap.size) : Sep B (W.setCell ⟨a, j, none⟩ v) (dbOb a x' :: l2) ∧ Below B W (W.setCell ⟨a, j, none⟩ v) := by
 have hk : Kp (fun k => k = a) W (W.setCell ⟨a, j, none⟩ v) := Kp.set (S := fun k => k = a) W ⟨a, j, none⟩ v rfl
 exact ⟨sep_change (l1 := []) (o := dbOb a x) (o' := dbOb a x') h (hb (h.ins (dbOb a x) (by simp))) hk (fun _ r => .inl r) hB, sep_below (l1 := []) (o := dbOb a x) h hk hB⟩
theorem DIo.new (h : DIo B W b c P s og op l) (cs : Array Value) (ty : TypeId) : DIo B (W.alloc (.cells cs ty)) b c P s og op (boxOb W.heap.size cs :: l) ∧ Below B W (W.alloc (.cells cs ty)) := by
 obtain ⟨⟨q, h1, ia, ic, e, h2⟩, le⟩ := h
 have hb : Below W.heap.size W (W.alloc (.cells cs ty)) := (Below.refl _ W).alloc (Nat.le_refl _) _
 exact ⟨⟨⟨q, sep_perm (h1.add (boxOb W.heap.size cs) (At.new W cs ty) (fun k q => by have : k = W.heap.size := q; omega) hb le) ((List.perm_middle.symm).trans (List.Perm.append_left _ (List.Perm.swap _ _ _))), ia, ic, e, h2.below (hb.mono le)⟩, Nat.le_trans le hb.size⟩, hb.mono le⟩
theorem DIo.there (h : DIo B W b c P s og op l) (o : Ob) (ho : o ∈ l) : o.In W := by
 obtain ⟨⟨q, h1, _⟩, _⟩ := h
 exact h1.ins o (by simp [ho])
theorem DIo.drop {o : Ob} (h : DIo B W b c P s og op (o :: l)) : DIo B W b c P s og op l := by
 obtain ⟨⟨q, h1, r⟩, le⟩ := h
 exact ⟨⟨q, sep_tail (sep_perm h1 ((List.Perm.append_left _ (List.Perm.swap _ _ _)).trans List.perm_middle)), r⟩, le⟩
theorem DIo.ge (h : DIo B W b c P s og op l) : B ≤ b := by
 obtain ⟨⟨q, h1, _⟩, _⟩ := h
 exact h1.ge (dbOb b (dxOf c P s q og op)) (by simp [dobs]) b rfl
theorem DIo.put (h : DIo B W b c P s og op l) (j : Nat) (v : Value) (hs : s'.st = s.st ∧ s'.m = s.m ∧ s'.inp = s.inp ∧ s'.out = s.out ∧ s'.tc = s.tc) (hb : ∀ q, DBx W b (dxOf c P s q og op) → DBx (W.setCell ⟨b, j, none⟩ v) b (dxOf c P s' q og' op')) :
   DIo B (W.setCell ⟨b, j, none⟩ v) b c P s' og' op' l ∧ Below B W (W.setCell ⟨b, j, none⟩ v) := by
 obtain ⟨⟨q, h1, ia, ic, e, h2⟩, le⟩ := h
 obtain ⟨e1, e2, e3, e4, e5⟩ := hs
 obtain ⟨h3, b3⟩ := sep_dbox h1 v j (hb q) le
 refine ⟨⟨⟨q, ?_, ia, ic, by rw [e3]; exact e, by rw [e3]; exact h2.below b3⟩, Nat.le_trans le b3.size⟩, b3⟩
 unfold dobs
 rw [e1, e2, e3, e4, e5]
 exact h3
theorem DIo.pc (h : DIo B W b c P s og op l) : DIo B (W.setCell ⟨b, 5, none⟩ (.int .i64 ((s.p : Int) + 1))) b c P { s with p := s.p + 1 } og op l ∧ Below B W (W.setCell ⟨b, 5, none⟩ (.int .i64 ((s.p : Int) + 1))) :=
 h.put 5 _ ⟨rfl, rfl, rfl, rfl, rfl⟩ (fun _ q => q.p_ (s.p + 1))
theorem DIo.reg (h : DIo B W b c P s og op l) (i : Nat) (hi : i < 16) (n : Int) : DIo B (W.setCell ⟨b, 6 + i, none⟩ (.int .u64 n)) b c P { s with r := updR s.r i n } og op l ∧ Below B W (W.setCell ⟨b, 6 + i, none⟩ (.int .u64 n)) :=
 h.put (6 + i) _ ⟨rfl, rfl, rfl, rfl, rfl⟩ (fun _ q => q.reg i hi n)
theorem DIo.in1 (h : DIo B W b c P s og op l) {n : Int} {L : List Int} (hi : s.inp = n :: L) : ∃ jb jo jc, W.cell? ⟨b, 24, none⟩ = some (.slice (some ⟨jb, jo, none⟩) (L.length + 1) jc) ∧ W.cell? ⟨jb, jo, none⟩ = some (.int .u64 n) ∧ jb ≠ b ∧ L.length + 1 ≤ jc ∧ ∀ v, (v = Value.slice (some ⟨jb, jo + 1, none⟩) L.length (jc - 1) ∨ jc = 1 ∧ v = Value.slice (some ⟨jb, jo, none⟩) 0 0) → DIo B (W.setCell ⟨b, 24, none⟩ v) b c P { s with inp := L } og op l ∧ Below B W (W.setCell ⟨b, 24, none⟩ v) := by
 obtain ⟨⟨q, h1, ia, ic, e, h2⟩, le⟩ := h
 have hbx : DBx W b (dxOf c P s q og op) := h1.ins (dbOb b (dxOf c P s q og op)) (by simp [dobs])
 have hgi := h1.ins (giOb B q.iv s.inp) (by simp)
 have hgd : ∀ k, (giOb B q.iv s.inp).S k → k ≠ b := fun k hk e => (List.pairwise_append.1 h1.dis).2.2 (dbOb b (dxOf c P s q og op)) (by simp [dobs]) (giOb B q.iv s.inp) (by simp) k e hk
 have hbB : B ≤ b := h1.ge (dbOb b (dxOf c P s q og op)) (by simp [dobs]) b rfl
 rw [hi] at h2 hgi
 obtain ⟨k3, h2⟩ := h2
 rcases h2 with ⟨_, h2⟩ | ⟨jb, jo, rfl, h2⟩
 · simp only [List.length_cons] at k3
   omega
 have k3' : L.length + 1 ≤ ic := by simpa using k3
 have kc : jb < W.heap.size ∧ ∀ i (h : i < (n :: L).length), W.cell? ⟨jb, jo + i, none⟩ = some (.int .u64 (n :: L)[i]) := by
   by_cases hj : jb < B
   · exact h2 hj
   · exact hgi jb jo _ _ e (by omega)
 have hne : jb ≠ b := by
   by_cases hj : jb < B
   · omega
   · exact hgd jb ⟨by omega, jo, _, _, e⟩
 refine ⟨jb, jo, ic, ?_, kc.2 0 (by simp), hne, k3', fun v hv => ?_⟩
 · have := hbx.at_ 24 (by omega)
   rw [show (dxOf c P s q og op).at 24 = q.iv from rfl, e, hi] at this
   exact this
 · have hv2 : ∀ k off n2 c2, v = .slice (some ⟨k, off, none⟩) n2 c2 → k = jb := by
     intro k off n2 c2 ev
     rcases hv with rfl | ⟨_, rfl⟩
     · injection ev with ev _ _
       injection ev with ev
       injection ev with ev _ _
       exact ev.symm
     · injection ev with ev _ _
       injection ev with ev
       injection ev with ev _ _
       exact ev.symm
   have hv3 : ∀ off n2 c2, v = .slice (some ⟨jb, off, none⟩) n2 c2 → ∀ i (h : i < L.length), W.cell? ⟨jb, off + i, none⟩ = some (.int .u64 L[i]) := by
     intro off n2 c2 ev i hl
     rcases hv with rfl | ⟨hc, rfl⟩
     · injection ev with ev _ _
       injection ev with ev
       injection ev with _ ev _
       subst ev
       have := kc.2 (i + 1) (by simpa using hl)
       rw [show jo + 1 + i = jo + (i + 1) by omega, this]
       rfl
     · omega
   have hS : Sep B W (dobs B b c P s q og op ++ giOb B v L :: l) := by
     refine sep_change (l1 := dobs B b c P s q og op) (o := giOb B q.iv s.inp) (o' := giOb B v L) (l2 := l) h1 (fun k off n2 c2 ev hB => ?_) (Kp.refl _ _) (fun k r => .inl ?_) le
     · have := hv2 k off n2 c2 ev
       subst this
       exact ⟨kc.1, hv3 off n2 c2 ev⟩
     · obtain ⟨hB, off, n2, c2, ev⟩ := r
       have := hv2 k off n2 c2 ev
       subst this
       exact ⟨hB, jo, _, _, e⟩
   obtain ⟨h3, b3⟩ := sep_dbox (x' := dxOf c P { s with inp := L } { q with iv := v } og op) hS v 24 (fun q => q.iv _) le
   refine ⟨⟨⟨{ q with iv := v }, h3, ?_⟩, Nat.le_trans le b3.size⟩, b3⟩
   rcases hv with rfl | ⟨hc, rfl⟩
   · exact ⟨_, _, rfl, LgIn.below ⟨by show L.length ≤ ic - 1; omega, .inr ⟨jb, jo + 1, rfl, fun _ => ⟨kc.1, hv3 _ _ _ rfl⟩⟩⟩ b3⟩
   · have : L = [] := List.eq_nil_of_length_eq_zero (by omega)
     subst this
     exact ⟨_, _, rfl, LgIn.below ⟨Nat.le_refl _, .inr ⟨jb, jo, rfl, fun _ => ⟨kc.1, fun i h => absurd h (Nat.not_lt_zero _)⟩⟩⟩ b3⟩
theorem DIo.in0 (h : DIo B W b c P s og op l) (hi : s.inp = []) : ∃ q ja jc, DBx W b (dxOf c P s q og op) ∧ (dxOf c P s q og op).iv = .slice ja 0 jc := by
 obtain ⟨⟨q, h1, ia, ic, e, _⟩, _⟩ := h
 exact ⟨q, ia, ic, h1.ins (dbOb b (dxOf c P s q og op)) (by simp [dobs]), by show q.iv = _; rw [e, hi]; rfl⟩
end
end Z
end Go.Proofs.YthfphgjjieddjaaGreat


namespace Go.Proofs.YthfphgjjieddjaaGreat
set_option maxRecDepth 100000
set_option maxHeartbeats 40000000
namespace Z
open Go.RowKit
open T (Sep Ob Kp Mf FlIn boxOb)

theorem dfin (B : Nat) (W0 : World) (b : Nat) (c : Dc) (P : Pr) (s : Fm) (og op : Nat) (l : List Ob) (ia ib ic : Nat) (imm : Int) (h : DIo B W0 b c P s og op l) (n : Int) (L : List Int) (hi : s.inp = n :: L) (ha : ia < 16) (hp : s.p ≤ 1000000) :
   Calls Tryz.prog 54 #[.pointer (some ⟨b, 0, none⟩), .agg #[.int .u8 29, .int .i64 ia, .int .i64 ib, .int .i64 ic, .int .u64 imm]] W0 fun x w' => x = .returned (.tuple #[]) ∧ DIo B w' b c P ({ s with inp := L, r := updR s.r ia n, p := s.p + 1 }) og op l ∧ Below B W0 w' := by
 replace hi := Hz.mk hi
 have h2 := Hz.mk (h.new #[.int .u8 29, .int .i64 ia, .int .i64 ib, .int .i64 ic, .int .u64 imm] 42)
 clear h
 go_enter Tryz.func54, Tryz.ntmps54
 go_upto_region 1 with fail
 refine wp_world (fun W => DIo B W b c P s og op (boxOb W0.heap.size #[.int .u8 29, .int .i64 ia, .int .i64 ib, .int .i64 ic, .int .u64 imm] :: l) ∧ Below B W0 W) h2.out ?_
 rintro W ⟨h, hB⟩
 replace h := Hz.mk h
 replace hB := Hz.mk hB
 clear h2
 generalize W0.heap.size = kb at *
 have KS := xk2 29 ia ib ic imm kb
 have k0 : W.cell? ⟨kb, 0, none⟩ = some (.int .u8 29) := (h.out.there (boxOb kb #[.int .u8 29, .int .i64 ia, .int .i64 ib, .int .i64 ic, .int .u64 imm]) (.head _)).2.1 0
 obtain ⟨jb, jo, jc, c24, cin, hjb, hjc, htk⟩ := h.out.in1 hi.out
 have hn0 : ((L.length : Int) + 1 == 0) = false := by simpa using (by omega : ¬ (L.length : Int) + 1 = 0)
 have hbge := h.out.ge
 replace htk := Hz.mk htk
 go_upto_region 10 with fail
 clear k0 hn0
 have gd : Gr W W.drew := (Gr.refl W).drew
 have hd := Hz.mk (h.out.gr gd.below)
 have rr : ∃ y, W.drew.cell? ⟨b, 6 + ia, none⟩ = some y := by obtain ⟨q, hq⟩ := hd.out.box; exact ⟨_, hq.at_ (6 + ia) (by omega)⟩
 obtain ⟨y0, rr⟩ := rr
 have rf : W.drew.frozen? ⟨b, 6 + ia, none⟩ = false := by obtain ⟨q, hq⟩ := hd.out.box; exact hq.fr _
 have ri : (ia : Int) < 16 := by omega
 have hlt : b < W.drew.heap.size := by obtain ⟨q, hq⟩ := hd.out.box; exact hq.lt
 have dx : W.drew.cell? ⟨b, 24, none⟩ = some (.slice (some ⟨jb, jo, none⟩) (L.length + 1) jc) := c24
 have dn : W.drew.cell? ⟨jb, jo, none⟩ = some (.int .u64 n) := cin
 have hrg := Hz.mk (hd.out.reg ia ha n)
 refine wp_region_held_drew (S := (fun W => W.cell? ⟨kb, 0, none⟩ = some (.int .u8 29) ∧ W.cell? ⟨kb, 1, none⟩ = some (.int .i64 ia) ∧ W.cell? ⟨kb, 2, none⟩ = some (.int .i64 ib) ∧ W.cell? ⟨kb, 3, none⟩ = some (.int .i64 ic) ∧ W.cell? ⟨kb, 4, none⟩ = some (.int .u64 imm))) (by kernel_rfl) (KS.out _ (hd.out.there (boxOb kb #[.int .u8 29, .int .i64 ia, .int .i64 ib, .int .i64 ic, .int .u64 imm]) (.head _))) (fun hHeld => ?_)
 refine xso 0 ?_ rfl ?_ (xso 1 ?_ rfl ?_ (xso 2 ?_ rfl ?_ (xso 3 ?_ rfl ?_ (xso 4 ?_ rfl ?_ (xso 5 ?_ rfl ?_ (xso 9 ?_ rfl ?_ (xso 10 ?_ rfl ?_ ?_)))))))
 iterate 8 (rotate_left; focus ((try simp only [xap]); intro w hSw; (try dsimp only at hSw); go_simp; first | done | with_reducible rfl))
 try simp only [xap]
 refine xrd 6 rfl (fun K hK => ?_)
 go_simp
 refine hK.out _ _ (KS.out _ (hd.out.there (boxOb kb #[.int .u8 29, .int .i64 ia, .int .i64 ib, .int .i64 ic, .int .u64 imm]) (.head _))) (fun hHeld => ?_)
 clear hK K
 try simp only [xap]
 refine xso 7 ?_ rfl ?_ ?_
 rotate_left
 · intro w hSw; (try dsimp only at hSw); go_simp; first | done | with_reducible rfl
 try simp only [xap]
 refine xrd 8 rfl (fun K hK => ?_)
 go_simp
 refine hK.out _ _ (KS.out _ (hd.out.there (boxOb kb #[.int .u8 29, .int .i64 ia, .int .i64 ib, .int .i64 ic, .int .u64 imm]) (.head _))) (fun hHeld => ?_)
 clear hK K
 try simp only [xap]
 refine xso 11 ?_ rfl ?_ ?_
 rotate_left
 · intro w hSw; (try dsimp only at hSw); go_simp; first | done | with_reducible rfl
 try simp only [xap]
 refine xrd 12 rfl (fun K hK => ?_)
 go_simp
 refine hK.out _ _ (KS.out _ (hrg.out.1.there (boxOb kb #[.int .u8 29, .int .i64 ia, .int .i64 ib, .int .i64 ic, .int .u64 imm]) (.head _))) (fun hHeld => ?_)
 clear hK K
 try simp only [xap]
 refine xdn ?_ _
 clear hHeld rr rf ri hlt dx dn c24 cin htk
 replace h := Hz.mk hrg.out.1
 replace hB := Hz.mk (hB.out.trans ((gd.below.mono (Nat.le_trans h.out.le (by simp))).trans hrg.out.2))
 clear hrg hd gd hjb hjc
 replace h := Hz.mk (show DIo B (W.setCell ⟨b, 6 + ia, none⟩ (.int .u64 n)).drew b c P { s with r := updR s.r ia n } og op (boxOb kb #[.int .u8 29, .int .i64 ia, .int .i64 ib, .int .i64 ic, .int .u64 imm] :: l) from h.out)
 replace hB := Hz.mk (show Below B W0 (W.setCell ⟨b, 6 + ia, none⟩ (.int .u64 n)).drew from hB.out)
 generalize hVV : (W.setCell ⟨b, 6 + ia, none⟩ (.int .u64 n)).drew = V1 at *
 clear hVV
 obtain ⟨jb, jo, jc, c24, cin, hjb, hjc, htk⟩ := h.out.in1 (L := L) (n := n) hi.out
 have f24 : V1.frozen? ⟨b, 24, none⟩ = false := by obtain ⟨q, hq⟩ := h.out.box; exact hq.fr 24
 have hlt : b < V1.heap.size := by obtain ⟨q, hq⟩ := h.out.box; exact hq.lt
 replace htk := Hz.mk htk
 clear cin
 by_cases hc1 : jc = 1
 · subst hc1
   obtain rfl : L = [] := List.eq_nil_of_length_eq_zero (by omega)
   have hT := Hz.mk (htk.out _ (.inr ⟨rfl, rfl⟩))
   go_upto_region 12 with fail
   refine wp_world (fun V => DIo B V b c P { s with r := updR s.r ia n, inp := [] } og op (boxOb kb #[.int .u8 29, .int .i64 ia, .int .i64 ib, .int .i64 ic, .int .u64 imm] :: l) ∧ Below B V1 V) hT.out ?_
   rintro V2 ⟨h3, hB3⟩
   clear hT htk c24 f24 hlt
   replace hB := Hz.mk (hB.out.trans hB3)
   replace h := Hz.mk h3
   clear h3 hB3
   have c5 : V2.cell? ⟨b, 5, none⟩ = some (.int .i64 s.p) := by obtain ⟨q, hq⟩ := h.out.box; exact hq.at_ 5 (by omega)
   have f5 : V2.frozen? ⟨b, 5, none⟩ = false := by obtain ⟨q, hq⟩ := h.out.box; exact hq.fr 5
   have hlt : b < V2.heap.size := by obtain ⟨q, hq⟩ := h.out.box; exact hq.lt
   have hw5 : wrap64 ((s.p : Int) + 1) = (s.p : Int) + 1 := by unfold wrap64; omega
   have hpc := Hz.mk h.out.pc
   go_wp2_with fail
   first | go_end0 | ((try simp only [Exit.inBlock, Exit.then]); refine bodyPost_ret (results_none rfl _ _ _) rfl ?_)
   refine ⟨rfl, hpc.out.1.drop, hB.out.trans hpc.out.2⟩
 · have hT := Hz.mk (htk.out _ (.inl rfl))
   have hc2 : ¬ jc - 1 = 0 := by omega
   have hc3 : (1 : Int) ≤ (jc : Int) := by omega
   go_upto_region 12 with fail
   refine wp_world (fun V => DIo B V b c P { s with r := updR s.r ia n, inp := L } og op (boxOb kb #[.int .u8 29, .int .i64 ia, .int .i64 ib, .int .i64 ic, .int .u64 imm] :: l) ∧ Below B V1 V) hT.out ?_
   rintro V2 ⟨h3, hB3⟩
   clear hT htk c24 f24 hlt
   replace hB := Hz.mk (hB.out.trans hB3)
   replace h := Hz.mk h3
   clear h3 hB3
   have c5 : V2.cell? ⟨b, 5, none⟩ = some (.int .i64 s.p) := by obtain ⟨q, hq⟩ := h.out.box; exact hq.at_ 5 (by omega)
   have f5 : V2.frozen? ⟨b, 5, none⟩ = false := by obtain ⟨q, hq⟩ := h.out.box; exact hq.fr 5
   have hlt : b < V2.heap.size := by obtain ⟨q, hq⟩ := h.out.box; exact hq.lt
   have hw5 : wrap64 ((s.p : Int) + 1) = (s.p : Int) + 1 := by unfold wrap64; omega
   have hpc := Hz.mk h.out.pc
   go_wp2_with fail
   first | go_end0 | ((try simp only [Exit.inBlock, Exit.then]); refine bodyPost_ret (results_none rfl _ _ _) rfl ?_)
   refine ⟨rfl, hpc.out.1.drop, hB.out.trans hpc.out.2⟩
end Z
end Go.Proofs.YthfphgjjieddjaaGreat


namespace Go.Proofs.YthfphgjjieddjaaGreat
namespace Z
open Go.RowKit
open T (Sep Ob Kp Mf FlIn boxOb)

section
variable {B : Nat} {W : World} {b : Nat} {c : Dc} {P : Pr} {s : Fm} {og op : Nat} {l : List Ob}
theorem DIo.appO (h : DIo B W b c P s og op l) (x : Int) : ∃ q ta tk, DBx W b (dxOf c P s q og op) ∧ W.cell? ⟨b, 25, none⟩ = some (.slice ta s.out.length tk) ∧ (∀ V, Below W.heap.size W V → V.ownsRow B 34 1 (.slice ta s.out.length tk) s.out.length (s.out.map u64I)) ∧ ∀ V W2 g cap, Below W.heap.size W V → W2.ownsRow B 34 1 (.slice (some ⟨g, 0, none⟩) (s.out.length + 1) cap) (s.out.length + 1) (s.out.map u64I ++ [u64I x]) → V.grownBy W2 (Value.slice ta s.out.length tk).ownBlock → ((Value.slice ta s.out.length tk).ownBlock = some g ∨ g = V.heap.size) → DBx W2 b (dxOf c P s q og op) ∧ (∀ o ∈ l, o.In W2) ∧ DIo B (W2.setCell ⟨b, 25, none⟩ (.slice (some ⟨g, 0, none⟩) (s.out.length + 1) cap)) b c P { s with out := s.out ++ [x] } og op l ∧ Below B W (W2.setCell ⟨b, 25, none⟩ (.slice (some ⟨g, 0, none⟩) (s.out.length + 1) cap)) := by
 obtain ⟨⟨q, h1, ia, ic, e, h2⟩, le⟩ := h
 have hb := h1.ins (dbOb b (dxOf c P s q og op)) (by simp [dobs])
 have hO : W.ownsRow B 34 1 q.ov_ s.out.length (s.out.map u64I) := h1.ins (ouOb B q.ov_ s.out) (by simp [dobs])
 obtain ⟨ta, tk, etv⟩ := own_slZ hO
 refine ⟨q, ta, tk, hb, by rw [← etv]; exact hb.at_ 25 (by omega), fun V g => by rw [← etv]; exact own_keep hO (Kp.of_below (S := fun _ => False) g) (fun _ _ r => r), fun V W2 g cap g1 hown gr hg => ?_⟩
 rw [← etv] at gr hg
 have leV := Nat.le_trans le g1.size
 have hk := kp_grown gr
 have h3 := sep_change (l1 := [dbOb b (dxOf c P s q og op), rowOb B 119 18 q.sv s.st.length (s.st.flatMap Fr.vals), rowOb B 5 1 q.mv 65536 (mV s.m)]) (o := ouOb B q.ov_ s.out) (o' := ouOb B (.slice (some ⟨g, 0, none⟩) (s.out.length + 1) cap) (s.out ++ [x])) (l2 := tcOb B q.tv s.tc :: giOb B q.iv s.inp :: l) (h1.gr g1) (by
   show W2.ownsRow B _ 1 _ (s.out ++ [x]).length ((s.out ++ [x]).map u64I)
   rw [List.length_append, List.map_append]
   simpa using hown) hk (fun k r => by
   have e : g = k := by simpa [ouOb, tcOb, rowOb, Value.ownBlock] using r
   rcases hg with u | u
   · exact .inl (e ▸ u)
   · exact .inr (by omega)) leV
 have b1 := sep_below (l1 := [dbOb b (dxOf c P s q og op), rowOb B 119 18 q.sv s.st.length (s.st.flatMap Fr.vals), rowOb B 5 1 q.mv 65536 (mV s.m)]) (o := ouOb B q.ov_ s.out) (l2 := tcOb B q.tv s.tc :: giOb B q.iv s.inp :: l) (h1.gr g1) hk leV
 obtain ⟨h4, b2⟩ := sep_dbox (x' := dxOf c P { s with out := s.out ++ [x] } { q with ov_ := .slice (some ⟨g, 0, none⟩) (s.out.length + 1) cap } og op) h3 (.slice (some ⟨g, 0, none⟩) (s.out.length + 1) cap) 25 (fun q => q.ov_ _) (Nat.le_trans leV b1.size)
 have bb : Below B W (W2.setCell ⟨b, 25, none⟩ (.slice (some ⟨g, 0, none⟩) (s.out.length + 1) cap)) := (g1.mono le).trans (b1.trans b2)
 exact ⟨h3.ins (dbOb b (dxOf c P s q og op)) (by simp), fun o ho => h3.ins o (by simp [ho]), ⟨⟨{ q with ov_ := .slice (some ⟨g, 0, none⟩) (s.out.length + 1) cap }, h4, ia, ic, e, h2.below bb⟩, Nat.le_trans le bb.size⟩, bb⟩
theorem DIo.appT (h : DIo B W b c P s og op l) (x : Tc) : ∃ q ta tk, DBx W b (dxOf c P s q og op) ∧ W.cell? ⟨b, 26, none⟩ = some (.slice ta s.tc.length tk) ∧ (∀ V, Below W.heap.size W V → V.ownsRow B 56 3 (.slice ta s.tc.length tk) s.tc.length (s.tc.flatMap Tc.vals)) ∧ ∀ V W2 g cap, Below W.heap.size W V → W2.ownsRow B 56 3 (.slice (some ⟨g, 0, none⟩) (s.tc.length + 1) cap) (s.tc.length + 1) (s.tc.flatMap Tc.vals ++ x.vals) → V.grownBy W2 (Value.slice ta s.tc.length tk).ownBlock → ((Value.slice ta s.tc.length tk).ownBlock = some g ∨ g = V.heap.size) → DBx W2 b (dxOf c P s q og op) ∧ (∀ o ∈ l, o.In W2) ∧ DIo B (W2.setCell ⟨b, 26, none⟩ (.slice (some ⟨g, 0, none⟩) (s.tc.length + 1) cap)) b c P { s with tc := s.tc ++ [x] } og op l ∧ Below B W (W2.setCell ⟨b, 26, none⟩ (.slice (some ⟨g, 0, none⟩) (s.tc.length + 1) cap)) := by
 obtain ⟨⟨q, h1, ia, ic, e, h2⟩, le⟩ := h
 have hb := h1.ins (dbOb b (dxOf c P s q og op)) (by simp [dobs])
 have hO : W.ownsRow B 56 3 q.tv s.tc.length (s.tc.flatMap Tc.vals) := h1.ins (tcOb B q.tv s.tc) (by simp [dobs])
 obtain ⟨ta, tk, etv⟩ := own_slZ hO
 refine ⟨q, ta, tk, hb, by rw [← etv]; exact hb.at_ 26 (by omega), fun V g => by rw [← etv]; exact own_keep hO (Kp.of_below (S := fun _ => False) g) (fun _ _ r => r), fun V W2 g cap g1 hown gr hg => ?_⟩
 rw [← etv] at gr hg
 have leV := Nat.le_trans le g1.size
 have hk := kp_grown gr
 have h3 := sep_change (l1 := [dbOb b (dxOf c P s q og op), rowOb B 119 18 q.sv s.st.length (s.st.flatMap Fr.vals), rowOb B 5 1 q.mv 65536 (mV s.m), ouOb B q.ov_ s.out]) (o := tcOb B q.tv s.tc) (o' := tcOb B (.slice (some ⟨g, 0, none⟩) (s.tc.length + 1) cap) (s.tc ++ [x])) (l2 := giOb B q.iv s.inp :: l) (h1.gr g1) (by
   show W2.ownsRow B _ 3 _ (s.tc ++ [x]).length ((s.tc ++ [x]).flatMap Tc.vals)
   rw [List.length_append, List.flatMap_append]
   simpa using hown) hk (fun k r => by
   have e : g = k := by simpa [ouOb, tcOb, rowOb, Value.ownBlock] using r
   rcases hg with u | u
   · exact .inl (e ▸ u)
   · exact .inr (by omega)) leV
 have b1 := sep_below (l1 := [dbOb b (dxOf c P s q og op), rowOb B 119 18 q.sv s.st.length (s.st.flatMap Fr.vals), rowOb B 5 1 q.mv 65536 (mV s.m), ouOb B q.ov_ s.out]) (o := tcOb B q.tv s.tc) (l2 := giOb B q.iv s.inp :: l) (h1.gr g1) hk leV
 obtain ⟨h4, b2⟩ := sep_dbox (x' := dxOf c P { s with tc := s.tc ++ [x] } { q with tv := .slice (some ⟨g, 0, none⟩) (s.tc.length + 1) cap } og op) h3 (.slice (some ⟨g, 0, none⟩) (s.tc.length + 1) cap) 26 (fun q => q.tv _) (Nat.le_trans leV b1.size)
 have bb : Below B W (W2.setCell ⟨b, 26, none⟩ (.slice (some ⟨g, 0, none⟩) (s.tc.length + 1) cap)) := (g1.mono le).trans (b1.trans b2)
 exact ⟨h3.ins (dbOb b (dxOf c P s q og op)) (by simp), fun o ho => h3.ins o (by simp [ho]), ⟨⟨{ q with tv := .slice (some ⟨g, 0, none⟩) (s.tc.length + 1) cap }, h4, ia, ic, e, h2.below bb⟩, Nat.le_trans le bb.size⟩, bb⟩
theorem DIo.appS (h : DIo B W b c P s og op l) (x : Fr) : ∃ q ta tk, DBx W b (dxOf c P s q og op) ∧ W.cell? ⟨b, 22, none⟩ = some (.slice ta s.st.length tk) ∧ (∀ V, Below W.heap.size W V → V.ownsRow B 119 18 (.slice ta s.st.length tk) s.st.length (s.st.flatMap Fr.vals)) ∧ ∀ V W2 g cap, Below W.heap.size W V → W2.ownsRow B 119 18 (.slice (some ⟨g, 0, none⟩) (s.st.length + 1) cap) (s.st.length + 1) (s.st.flatMap Fr.vals ++ x.vals) → V.grownBy W2 (Value.slice ta s.st.length tk).ownBlock → ((Value.slice ta s.st.length tk).ownBlock = some g ∨ g = V.heap.size) → DBx W2 b (dxOf c P s q og op) ∧ (∀ o ∈ l, o.In W2) ∧ DIo B (W2.setCell ⟨b, 22, none⟩ (.slice (some ⟨g, 0, none⟩) (s.st.length + 1) cap)) b c P { s with st := s.st ++ [x] } og op l ∧ Below B W (W2.setCell ⟨b, 22, none⟩ (.slice (some ⟨g, 0, none⟩) (s.st.length + 1) cap)) := by
 obtain ⟨⟨q, h1, ia, ic, e, h2⟩, le⟩ := h
 have hb := h1.ins (dbOb b (dxOf c P s q og op)) (by simp [dobs])
 have hO : W.ownsRow B 119 18 q.sv s.st.length (s.st.flatMap Fr.vals) := h1.ins (rowOb B 119 18 q.sv s.st.length (s.st.flatMap Fr.vals)) (by simp [dobs])
 obtain ⟨ta, tk, etv⟩ := own_slZ hO
 refine ⟨q, ta, tk, hb, by rw [← etv]; exact hb.at_ 22 (by omega), fun V g => by rw [← etv]; exact own_keep hO (Kp.of_below (S := fun _ => False) g) (fun _ _ r => r), fun V W2 g cap g1 hown gr hg => ?_⟩
 rw [← etv] at gr hg
 have leV := Nat.le_trans le g1.size
 have hk := kp_grown gr
 have h3 := sep_change (l1 := [dbOb b (dxOf c P s q og op)]) (o := rowOb B 119 18 q.sv s.st.length (s.st.flatMap Fr.vals)) (o' := rowOb B 119 18 (.slice (some ⟨g, 0, none⟩) (s.st.length + 1) cap) (s.st ++ [x]).length ((s.st ++ [x]).flatMap Fr.vals)) (l2 := rowOb B 5 1 q.mv 65536 (mV s.m) :: ouOb B q.ov_ s.out :: tcOb B q.tv s.tc :: giOb B q.iv s.inp :: l) (h1.gr g1) (by
   show W2.ownsRow B _ 18 _ (s.st ++ [x]).length ((s.st ++ [x]).flatMap Fr.vals)
   rw [List.length_append, List.flatMap_append]
   simpa using hown) hk (fun k r => by
   have e : g = k := by simpa [ouOb, tcOb, rowOb, Value.ownBlock] using r
   rcases hg with u | u
   · exact .inl (e ▸ u)
   · exact .inr (by omega)) leV
 have b1 := sep_below (l1 := [dbOb b (dxOf c P s q og op)]) (o := rowOb B 119 18 q.sv s.st.length (s.st.flatMap Fr.vals)) (l2 := rowOb B 5 1 q.mv 65536 (mV s.m) :: ouOb B q.ov_ s.out :: tcOb B q.tv s.tc :: giOb B q.iv s.inp :: l) (h1.gr g1) hk leV
 obtain ⟨h4, b2⟩ := sep_dbox (x' := dxOf c P { s with st := s.st ++ [x] } { q with sv := .slice (some ⟨g, 0, none⟩) (s.st.length + 1) cap } og op) h3 (.slice (some ⟨g, 0, none⟩) (s.st.length + 1) cap) 22 (fun q => q.sv _) (Nat.le_trans leV b1.size)
 have bb : Below B W (W2.setCell ⟨b, 22, none⟩ (.slice (some ⟨g, 0, none⟩) (s.st.length + 1) cap)) := (g1.mono le).trans (b1.trans b2)
 exact ⟨h3.ins (dbOb b (dxOf c P s q og op)) (by simp), fun o ho => h3.ins o (by simp [ho]), ⟨⟨{ q with sv := .slice (some ⟨g, 0, none⟩) (s.st.length + 1) cap }, h4, ia, ic, e, h2.below bb⟩, Nat.le_trans le bb.size⟩, bb⟩
end
end Z
end Go.Proofs.YthfphgjjieddjaaGreat


namespace Go.Proofs.YthfphgjjieddjaaGreat
set_option maxRecDepth 100000
set_option maxHeartbeats 40000000
namespace Z
open Go.RowKit
open T (Sep Ob Kp Mf FlIn boxOb)

theorem dout (B : Nat) (W0 : World) (b : Nat) (c : Dc) (P : Pr) (s : Fm) (og op : Nat) (l : List Ob) (ia ib ic : Nat) (imm : Int) (h : DIo B W0 b c P s og op l) (ha : ia < 16) (hl : s.out.length ≤ 1000000) (hp : s.p ≤ 1000000) :
   Calls Tryz.prog 54 #[.pointer (some ⟨b, 0, none⟩), .agg #[.int .u8 30, .int .i64 ia, .int .i64 ib, .int .i64 ic, .int .u64 imm]] W0 fun x w' => x = .returned (.tuple #[]) ∧ DIo B w' b c P ({ s with out := s.out ++ [s.r ia], p := s.p + 1 }) og op l ∧ Below B W0 w' := by
 have h2 := Hz.mk (h.new #[.int .u8 30, .int .i64 ia, .int .i64 ib, .int .i64 ic, .int .u64 imm] 42)
 clear h
 go_enter Tryz.func54, Tryz.ntmps54
 go_upto_region 1 with fail
 refine wp_world (fun W => DIo B W b c P s og op (boxOb W0.heap.size #[.int .u8 30, .int .i64 ia, .int .i64 ib, .int .i64 ic, .int .u64 imm] :: l) ∧ Below B W0 W) h2.out ?_
 rintro W ⟨h, hB⟩
 replace h := Hz.mk h
 replace hB := Hz.mk hB
 clear h2
 generalize W0.heap.size = kb at *
 have KS := xk2 30 ia ib ic imm kb
 have k0 : W.cell? ⟨kb, 0, none⟩ = some (.int .u8 30) := (h.out.there (boxOb kb #[.int .u8 30, .int .i64 ia, .int .i64 ib, .int .i64 ic, .int .u64 imm]) (.head _)).2.1 0
 have hleW := h.out.le
 obtain ⟨q, ta, tk, hq, c25, hO2, hap⟩ := h.out.appO (s.r ia)
 have hlt := hq.lt
 have KS2 : Hz (∀ V, Gr W V → (V.cell? ⟨kb, 1, none⟩ = some (.int .i64 ia)) ∧ V.cell? ⟨b, 6 + ia, none⟩ = some (.int .u64 (s.r ia))) := Hz.mk (fun V g => ⟨((h.out.there (boxOb kb #[.int .u8 30, .int .i64 ia, .int .i64 ib, .int .i64 ic, .int .u64 imm]) (.head _)).gr g).2.1 1, ((hq.gr g).at_ (6 + ia) (by omega)).trans (congrArg some (Dx.reg _ ia ha))⟩)
 have KS3 : Hz (∀ V (s' : Fm), s'.r = s.r → DIo B V b c P s' og op (boxOb kb #[.int .u8 30, .int .i64 ia, .int .i64 ib, .int .i64 ic, .int .u64 imm] :: l) → (V.cell? ⟨kb, 1, none⟩ = some (.int .i64 ia)) ∧ V.cell? ⟨b, 6 + ia, none⟩ = some (.int .u64 (s.r ia))) := Hz.mk (fun V s' es g => ⟨(show At V kb _ from g.there (boxOb kb #[.int .u8 30, .int .i64 ia, .int .i64 ib, .int .i64 ic, .int .u64 imm]) (.head _)).2.1 1, by obtain ⟨q9, h9⟩ := g.box; rw [← es]; exact (h9.at_ (6 + ia) (by omega)).trans (congrArg some (Dx.reg _ ia ha))⟩)
 replace hq := Hz.mk hq
 replace hO2 := Hz.mk hO2
 replace hap := Hz.mk hap
 have ri : (ia : Int) < 16 := by omega
 generalize s.out.map u64I = xs at *
 go_upto_region 14 with fail
 clear k0
 have g0 : Gr W W.drew := (Gr.refl W).drew
 refine wp_region_held_drew (S := (fun W => (W.cell? ⟨kb, 1, none⟩ = some (.int .i64 ia)) ∧ W.cell? ⟨b, 6 + ia, none⟩ = some (.int .u64 (s.r ia)))) (by kernel_rfl) (KS2.out _ g0) (fun hHeld => ?_)
 refine xso 0 ?_ rfl ?_ (xso 1 ?_ rfl ?_ (xso 2 ?_ rfl ?_ (xso 3 ?_ rfl ?_ (xso 5 ?_ rfl ?_ (xso 6 ?_ rfl ?_ (xso 7 ?_ rfl ?_ (xso 8 ?_ rfl ?_ (xso 9 ?_ rfl ?_ (xso 10 ?_ rfl ?_ (xso 11 ?_ rfl ?_ ?_))))))))))
 iterate 11 (rotate_left; focus ((try simp only [xap]); intro w hSw; (try dsimp only at hSw); go_simp; first | done | with_reducible rfl))
 try simp only [xap]
 refine wpAnyH_ready (rs := [4, 12]) (by kernel_rfl) (by simp) ?_
 refine (xcn rfl (fun K hK => ?_) (xcn rfl (fun K hK => ?_) AllReadyH.nil))
 · skip
   have c4 : W.drew.cell? ⟨b, 25, none⟩ = some (.slice ta s.out.length tk) := (T.cell_of_block (g0.below.block b hlt) _).trans c25
   go_simp
   clear hHeld
   refine hK.out _ _ (KS2.out _ g0) (fun hHeld => ?_)
   clear hK K c4
   try simp only [xap]
   refine xrd 12 rfl (fun K hK => ?_)
   go_simp
   have hX : At ((W.alloc (.cells #[.int .u64 (s.r ia)] 34)).drew) W.heap.size #[.int .u64 (s.r ia)] := At.new W.drew #[.int .u64 (s.r ia)] 34
   have g1 : Gr W ((W.alloc (.cells #[.int .u64 (s.r ia)] 34)).drew) := g0.alloc _
   clear hHeld
   generalize hVV : (W.alloc (.cells #[.int .u64 (s.r ia)] 34)).drew = V1 at *
   clear hVV g0
   generalize W.heap.size = kX at hX ⊢
   refine hK.out _ _ (KS2.out _ g1) (fun hHeld => ?_)
   clear hK K
   try simp only [xap]
   refine xrd 13 rfl (fun K hK => ?_)
   refine wp_append_z _ _ 26 34 (.int .u64 0) 1 8 rfl Tryz.underlying26 (by kernel_rfl) (by kernel_rfl) (by decide) (by decide) B (.slice ta s.out.length tk) s.out.length xs [.int .u64 (s.r ia)] (by rfl) (hO2.out V1 g1.below) kX (by rfl) hX rfl (by simp [Value.oneCell']) hl (Nat.le_trans hleW g1.below.size) ?_
   intro g cap W2 k1 k2 k3
   obtain ⟨hq2, hA2, hM, hBe⟩ := hap.out V1 W2 g cap g1.below k1 k2 k3
   have cu : W2.cell? ⟨b, 25, none⟩ = some _ := hq2.at_ 25 (by omega)
   have fu := hq2.fr 25
   have hlt2 := hq2.lt
   have S9 : Hz ((W2.cell? ⟨kb, 1, none⟩ = some (.int .i64 ia)) ∧ W2.cell? ⟨b, 6 + ia, none⟩ = some (.int .u64 (s.r ia))) := Hz.mk ⟨(show At W2 kb _ from hA2 (boxOb kb #[.int .u8 30, .int .i64 ia, .int .i64 ib, .int .i64 ic, .int .u64 imm]) (.head _)).2.1 1, (hq2.at_ (6 + ia) (by omega)).trans (congrArg some (Dx.reg _ ia ha))⟩
   replace hM := Hz.mk hM
   clear k1 k2 k3 hHeld hq2 hA2
   refine hK.out _ _ S9.out (fun hHeld => ?_)
   clear hK K
   try simp only [xap]
   refine xso 14 ?_ rfl ?_ (xso 15 ?_ rfl ?_ ?_)
   iterate 2 (rotate_left; focus ((try simp only [xap]); intro w hSw; (try dsimp only at hSw); go_simp; first | done | with_reducible rfl))
   try simp only [xap]
   refine xrd 16 rfl (fun K hK => ?_)
   go_simp
   clear hHeld
   have S8 : Hz (_ ∧ _) := Hz.mk (KS3.out _ { s with out := s.out ++ [s.r ia] } rfl hM.out)
   refine hK.out _ _ S8.out (fun hHeld => ?_)
   clear hK K
   try simp only [Act.put]
   refine xdn ?_ _
   clear hHeld
   replace hB := Hz.mk (hB.out.trans hBe)
   generalize World.setCell _ _ _ = V2 at *
   have h := hM
   clear hM
   have c5 : V2.cell? ⟨b, 5, none⟩ = some (.int .i64 s.p) := by obtain ⟨q, hq⟩ := h.out.box; exact hq.at_ 5 (by omega)
   have f5 : V2.frozen? ⟨b, 5, none⟩ = false := by obtain ⟨q, hq⟩ := h.out.box; exact hq.fr 5
   have hlt : b < V2.heap.size := by obtain ⟨q, hq⟩ := h.out.box; exact hq.lt
   have hw5 : wrap64 ((s.p : Int) + 1) = (s.p : Int) + 1 := by unfold wrap64; omega
   have hpc := Hz.mk h.out.pc
   go_wp2_with fail
   first | go_end0 | ((try simp only [Exit.inBlock, Exit.then]); refine bodyPost_ret (results_none rfl _ _ _) rfl ?_)
   refine ⟨rfl, hpc.out.1.drop, hB.out.trans hpc.out.2⟩
 · skip
   go_simp
   have hX : At ((W.alloc (.cells #[.int .u64 (s.r ia)] 34)).drew) W.heap.size #[.int .u64 (s.r ia)] := At.new W.drew #[.int .u64 (s.r ia)] 34
   have g1 : Gr W ((W.alloc (.cells #[.int .u64 (s.r ia)] 34)).drew) := g0.alloc _
   clear hHeld
   generalize hVV : (W.alloc (.cells #[.int .u64 (s.r ia)] 34)).drew = V1 at *
   clear hVV g0
   generalize W.heap.size = kX at hX ⊢
   refine hK.out _ _ (KS2.out _ g1) (fun hHeld => ?_)
   clear hK K
   try simp only [xap]
   refine xrd 4 rfl (fun K hK => ?_)
   have c4 : V1.cell? ⟨b, 25, none⟩ = some (.slice ta s.out.length tk) := (T.cell_of_block (g1.below.block b hlt) _).trans c25
   go_simp
   clear hHeld
   refine hK.out _ _ (KS2.out _ g1) (fun hHeld => ?_)
   clear hK K c4
   try simp only [xap]
   refine xrd 13 rfl (fun K hK => ?_)
   refine wp_append_z _ _ 26 34 (.int .u64 0) 1 8 rfl Tryz.underlying26 (by kernel_rfl) (by kernel_rfl) (by decide) (by decide) B (.slice ta s.out.length tk) s.out.length xs [.int .u64 (s.r ia)] (by rfl) (hO2.out V1 g1.below) kX (by rfl) hX rfl (by simp [Value.oneCell']) hl (Nat.le_trans hleW g1.below.size) ?_
   intro g cap W2 k1 k2 k3
   obtain ⟨hq2, hA2, hM, hBe⟩ := hap.out V1 W2 g cap g1.below k1 k2 k3
   have cu : W2.cell? ⟨b, 25, none⟩ = some _ := hq2.at_ 25 (by omega)
   have fu := hq2.fr 25
   have hlt2 := hq2.lt
   have S9 : Hz ((W2.cell? ⟨kb, 1, none⟩ = some (.int .i64 ia)) ∧ W2.cell? ⟨b, 6 + ia, none⟩ = some (.int .u64 (s.r ia))) := Hz.mk ⟨(show At W2 kb _ from hA2 (boxOb kb #[.int .u8 30, .int .i64 ia, .int .i64 ib, .int .i64 ic, .int .u64 imm]) (.head _)).2.1 1, (hq2.at_ (6 + ia) (by omega)).trans (congrArg some (Dx.reg _ ia ha))⟩
   replace hM := Hz.mk hM
   clear k1 k2 k3 hHeld hq2 hA2
   refine hK.out _ _ S9.out (fun hHeld => ?_)
   clear hK K
   try simp only [xap]
   refine xso 14 ?_ rfl ?_ (xso 15 ?_ rfl ?_ ?_)
   iterate 2 (rotate_left; focus ((try simp only [xap]); intro w hSw; (try dsimp only at hSw); go_simp; first | done | with_reducible rfl))
   try simp only [xap]
   refine xrd 16 rfl (fun K hK => ?_)
   go_simp
   clear hHeld
   have S8 : Hz (_ ∧ _) := Hz.mk (KS3.out _ { s with out := s.out ++ [s.r ia] } rfl hM.out)
   refine hK.out _ _ S8.out (fun hHeld => ?_)
   clear hK K
   try simp only [Act.put]
   refine xdn ?_ _
   clear hHeld
   replace hB := Hz.mk (hB.out.trans hBe)
   generalize World.setCell _ _ _ = V2 at *
   have h := hM
   clear hM
   have c5 : V2.cell? ⟨b, 5, none⟩ = some (.int .i64 s.p) := by obtain ⟨q, hq⟩ := h.out.box; exact hq.at_ 5 (by omega)
   have f5 : V2.frozen? ⟨b, 5, none⟩ = false := by obtain ⟨q, hq⟩ := h.out.box; exact hq.fr 5
   have hlt : b < V2.heap.size := by obtain ⟨q, hq⟩ := h.out.box; exact hq.lt
   have hw5 : wrap64 ((s.p : Int) + 1) = (s.p : Int) + 1 := by unfold wrap64; omega
   have hpc := Hz.mk h.out.pc
   go_wp2_with fail
   first | go_end0 | ((try simp only [Exit.inBlock, Exit.then]); refine bodyPost_ret (results_none rfl _ _ _) rfl ?_)
   refine ⟨rfl, hpc.out.1.drop, hB.out.trans hpc.out.2⟩
end Z
end Go.Proofs.YthfphgjjieddjaaGreat
