import Derived.Test.YtiigpncfmakgjaaGreatDoorJ24
import Derived.Test.YtiigpncfmakgjaaGreatDoorJ21
import Derived.Test.YtiigpncfmakgjaaGreatDoorJ19
import Derived.Test.YtiigpncfmakgjaaGreatDoorJ14
namespace Go.Proofs.YtiigpncfmakgjaaGreatDoor
open Go.RowKit

structure ImgOwn (lo : Nat) (w : World) (rv cv gv : Value) (m : PImg) : Prop where
 regs : ∃ css, w.ownsRow lo 94 4 rv m.regs.length css.flatten ∧ All2 (RegC lo w) css m.regs
 comps : ∃ css, w.ownsRow lo 53 2 cv m.comps.length css.flatten ∧ All2 (CompC lo w) css m.comps
 gates : ∃ css, w.ownsRow lo 56 4 gv m.gates.length css.flatten ∧ All2 (GateC lo w) css m.gates
structure Ne7 (w : World) (row : Option Nat) : Prop where
 inner : TyNes w row
 regs : TyNe w row 94
 comps : TyNe w row 53
 gates : TyNe w row 56
def Odd7 (t : TypeId) : Prop := t ≠ 126 ∧ t ≠ 96 ∧ t ≠ 64 ∧ t ≠ 103 ∧ t ≠ 94 ∧ t ≠ 53 ∧ t ≠ 56
instance (t : TypeId) : Decidable (Odd7 t) := by unfold Odd7; infer_instance
theorem ne7_box {w : World} {k : Nat} {cs : Array Value} {t : TypeId} (h : Box w k cs t) (ht : Odd7 t) : Ne7 w (some k) :=
 ⟨nes_box h ht.1 ht.2.1 ht.2.2.1 ht.2.2.2.1, tyNe_box h ht.2.2.2.2.1, tyNe_box h ht.2.2.2.2.2.1, tyNe_box h ht.2.2.2.2.2.2⟩
theorem ImgOwn.step {lo : Nat} {w w' : World} {rv cv gv : Value} {m : PImg} {row : Option Nat} (h : ImgOwn lo w rv cv gv m) (hg : w.grownBy w' row) (ht : Ne7 w row) : ImgOwn lo w' rv cv gv m := by
 obtain ⟨⟨a, a1, a2⟩, ⟨b, b1, b2⟩, ⟨c, c1, c2⟩⟩ := h
 exact ⟨⟨a, own_ty a1 hg ht.regs, a2.imp fun _ _ q => q.step hg ht.inner⟩, ⟨b, own_ty b1 hg ht.comps, b2.imp fun _ _ q => q.step hg ht.inner⟩, ⟨c, own_ty c1 hg ht.gates, c2.imp fun _ _ q => q.step hg ht.inner⟩⟩
theorem ImgOwn.row {lo : Nat} {rv cv gv : Value} {m : PImg} {k : Nat} {t : TypeId} (ht : Odd7 t) : ∀ (vs : List Value) {w : World} {j : Nat} {cs : Array Value}, ImgOwn lo w rv cv gv m → Box w k cs t → ImgOwn lo (setRow w k j vs) rv cv gv m
 | [], _, _, _, h, _ => h
 | u :: vs, w, j, _, h, hb => ImgOwn.row ht vs (h.step (grown_set w k j u) (ne7_box hb ht)) (hb.set j u)
theorem RegC.base {lo lo' : Nat} {w : World} {cs : List Value} {r : PReg} (h : RegC lo w cs r) (hl : lo' ≤ lo) : RegC lo' w cs r := by
 obtain ⟨sa, sc, e, h1⟩ := h
 exact ⟨sa, sc, e, own_base h1 hl⟩
theorem CompC.base {lo lo' : Nat} {w : World} {cs : List Value} {r : PComp} (h : CompC lo w cs r) (hl : lo' ≤ lo) : CompC lo' w cs r := by
 obtain ⟨ra, rc, ka, kc, e, h1, h2⟩ := h
 exact ⟨ra, rc, ka, kc, e, own_base h1 hl, own_base h2 hl⟩
theorem GateC.base {lo lo' : Nat} {w : World} {cs : List Value} {r : PGate} (h : GateC lo w cs r) (hl : lo' ≤ lo) : GateC lo' w cs r := by
 obtain ⟨xa, xc, ya, yc, e, h1, h2⟩ := h
 exact ⟨xa, xc, ya, yc, e, own_base h1 hl, own_base h2 hl⟩
end Go.Proofs.YtiigpncfmakgjaaGreatDoor


namespace Go.Proofs.YtiigpncfmakgjaaGreatDoor
open Go.RowKit

end Go.Proofs.YtiigpncfmakgjaaGreatDoor


namespace Go.Proofs.YtiigpncfmakgjaaGreatDoor
open Go.RowKit

theorem own_lin {w : World} {base c : Nat} {a : Option Addr} {L : List Ins} (h : LOwn w base (.slice a L.length c) L) : LIn w.heap.size w a L := fun i hi => by
 obtain ⟨g, rfl, _, hg⟩ := own_at h (by omega)
 have q := fun j (hj : j < 5) => flat_get L i j hi hj
 refine ⟨g, 0, rfl, hg, hg, ?_⟩
 have e0 := q 0 (by omega); have e1 := q 1 (by omega); have e2 := q 2 (by omega); have e3 := q 3 (by omega); have e4 := q 4 (by omega)
 have r : ∀ j v, (flat L)[i * 5 + j]? = some v → w.cell? ⟨g, 0 + i * 5 + j, none⟩ = some v := fun j v hv => by
   rw [Nat.zero_add]; exact own_cell h rfl _ _ hv
 exact ⟨r 0 _ e0, r 1 _ e1, r 2 _ e2, r 3 _ e3, r 4 _ e4⟩
theorem ImgOwn.into {lo : Nat} {w : World} {m : PImg} {ra ca ga : Option Addr} {rc cc gc : Nat} (h : ImgOwn lo w (.slice ra m.regs.length rc) (.slice ca m.comps.length cc) (.slice ga m.gates.length gc) m) : ImgIn w.heap.size w ra ca ga m := by
 obtain ⟨⟨a, a1, a2⟩, ⟨b, b1, b2⟩, ⟨c, c1, c2⟩⟩ := h
 refine ⟨fun i hi => ?_, fun i hi => ?_, fun i hi => ?_⟩
 · obtain ⟨g, rfl, _, hg⟩ := own_at a1 (by omega)
   obtain ⟨cs, e, sa, sc, rfl, hs⟩ := a2.get i hi
   have hl : ∀ cs ∈ a, cs.length = 4 := fun cs hc => by
     obtain ⟨k, hk, rfl⟩ := List.mem_iff_getElem.1 hc
     obtain ⟨cs', e', sa, sc, rfl, _⟩ := a2.get k (by rw [← a2.len]; exact hk)
     rw [List.getElem?_eq_getElem hk] at e'
     rw [Option.some.inj e']
     rfl
   have r : ∀ j v, j < 4 → [Value.int .u64 m.regs[i].b, .int .u64 m.regs[i].n, .string (str m.regs[i].data), .slice sa m.regs[i].slots.length sc][j]? = some v → w.cell? ⟨g, 0 + i * 4 + j, none⟩ = some v := fun j v hj hv => by
     rw [Nat.zero_add]
     exact own_cell a1 rfl _ _ ((flatten_get hl i j _ e hj).trans hv)
   exact ⟨g, 0, sa, sc, rfl, hg, hg, r 0 _ (by omega) rfl, r 1 _ (by omega) rfl, r 2 _ (by omega) rfl, r 3 _ (by omega) rfl, own_fin slot_len hs⟩
 · obtain ⟨g, rfl, _, hg⟩ := own_at b1 (by omega)
   obtain ⟨cs, e, ra', rc', ka, kc, rfl, hs, hs2⟩ := b2.get i hi
   have hl : ∀ cs ∈ b, cs.length = 2 := fun cs hc => by
     obtain ⟨k, hk, rfl⟩ := List.mem_iff_getElem.1 hc
     obtain ⟨cs', e', _, _, _, _, rfl, _, _⟩ := b2.get k (by rw [← b2.len]; exact hk)
     rw [List.getElem?_eq_getElem hk] at e'
     rw [Option.some.inj e']
     rfl
   have r : ∀ j v, j < 2 → [Value.slice ra' m.comps[i].roots.length rc', .slice ka m.comps[i].code.length kc][j]? = some v → w.cell? ⟨g, 0 + i * 2 + j, none⟩ = some v := fun j v hj hv => by
     rw [Nat.zero_add]
     exact own_cell b1 rfl _ _ ((flatten_get hl i j _ e hj).trans hv)
   exact ⟨g, 0, ra', rc', ka, kc, rfl, hg, hg, r 0 _ (by omega) rfl, r 1 _ (by omega) rfl, own_fin root_len hs, own_lin hs2⟩
 · obtain ⟨g, rfl, _, hg⟩ := own_at c1 (by omega)
   obtain ⟨cs, e, xa, xc, ya, yc, rfl, hs, hs2⟩ := c2.get i hi
   have hl : ∀ cs ∈ c, cs.length = 4 := fun cs hc => by
     obtain ⟨k, hk, rfl⟩ := List.mem_iff_getElem.1 hc
     obtain ⟨cs', e', _, _, _, _, rfl, _, _⟩ := c2.get k (by rw [← c2.len]; exact hk)
     rw [List.getElem?_eq_getElem hk] at e'
     rw [Option.some.inj e']
     rfl
   have r : ∀ j v, j < 4 → [Value.int .i64 m.gates[i].c, .int .i64 m.gates[i].e, .slice xa m.gates[i].args.length xc, .slice ya m.gates[i].res.length yc][j]? = some v → w.cell? ⟨g, 0 + i * 4 + j, none⟩ = some v := fun j v hj hv => by
     rw [Nat.zero_add]
     exact own_cell c1 rfl _ _ ((flatten_get hl i j _ e hj).trans hv)
   exact ⟨g, 0, xa, xc, ya, yc, rfl, hg, hg, r 0 _ (by omega) rfl, r 1 _ (by omega) rfl, r 2 _ (by omega) rfl, r 3 _ (by omega) rfl, own_fin typ_len hs, own_fin typ_len hs2⟩
end Go.Proofs.YtiigpncfmakgjaaGreatDoor


namespace Go.Proofs.YtiigpncfmakgjaaGreatDoor
namespace C
open Go.RowKit
open T (Sep Ob Kp Mf TgIn boxOb Fm Tc Ed Vl Cp Bx tgOb mRow)

structure Ms where
 at_ : Fm
 st : List Fm
 inp : List Int
 out : List Int
 tou : List Tc
 over : Ed
 b : Nat → UInt8
 t : Nat → Option Cp
structure Pt where
 ra : Option Addr
 rc : Nat
 ca : Option Addr
 cc : Nat
 ga : Option Addr
 gc : Nat
 km : Nat
 sv : Value
 iv : Value
 ov_ : Value
 tv : Value
 SM : Nat → Prop
 lo : Nat
 W0 : World
def u64I (n : Int) : Value := .int .u64 n
def rowOf (P : PImg) (s : Ms) (q : Pt) : List Value := mRow (.slice q.ra P.regs.length q.rc) (.slice q.ca P.comps.length q.cc) (.slice q.ga P.gates.length q.gc) P.depth q.km s.at_ q.sv q.iv q.ov_ q.tv s.over
def stOb (B : Nat) (v : Value) (L : List Fm) : Ob := rowOb B 75 114 v L.length (L.flatMap Fm.row)
def ouOb (B : Nat) (v : Value) (L : List Int) : Ob := rowOb B 32 1 v L.length (L.map u64I)
def tcOb (B : Nat) (v : Value) (L : List Tc) : Ob := rowOb B 61 3 v L.length (L.flatMap Tc.row)
def bx_ (a : Nat) (row : List Value) : Ob := ⟨fun k => k = a, fun w => Bx w a row, fun _ h _ q => q ▸ h.lt, fun _ _ _ h hk hd => h.keep hk (hd _ rfl)⟩
def obs (B a : Nat) (P : PImg) (s : Ms) (q : Pt) : List Ob := [bx_ a (rowOf P s q), tgOb q.SM q.km s.b s.t, stOb B q.sv s.st, inOb q.iv s.inp, ouOb B q.ov_ s.out, tcOb B q.tv s.tou, snapOb q.lo q.W0]
def PgOk (P : PImg) (q : Pt) : Prop := ImgOwn q.lo q.W0 (.slice q.ra P.regs.length q.rc) (.slice q.ca P.comps.length q.cc) (.slice q.ga P.gates.length q.gc) P
structure MIn (B : Nat) (W : World) (a : Nat) (P : PImg) (s : Ms) (l : List Ob) : Prop where
 go : ∃ q, Sep B W (obs B a P s q ++ l) ∧ PgOk P q
 le : B ≤ W.heap.size
theorem own_at' {W W' : World} {lo e s n : Nat} {v : Value} {xs : List Value} (h : W.ownsRow lo e s v n xs) (hk : ∀ g, lo ≤ g → g < W.heap.size → W'.heap[g]? = W.heap[g]?) : W'.ownsRow lo e s v n xs := by
 have hl := h.lt
 refine ⟨h.1, ?_⟩
 rcases h.2 with q | ⟨g, cap, cur, rfl, hb, hg, r⟩
 · exact .inl q
 · exact .inr ⟨g, cap, cur, rfl, hb, (hk g hb (hl g rfl).2).trans hg, r⟩
theorem img_snap {lo : Nat} {W W' : World} {rv cv gv : Value} {m : PImg} (h : ImgOwn lo W rv cv gv m) (hk : ∀ g, lo ≤ g → g < W.heap.size → W'.heap[g]? = W.heap[g]?) : ImgOwn lo W' rv cv gv m := by
 obtain ⟨⟨a, a1, a2⟩, ⟨b, b1, b2⟩, ⟨c, c1, c2⟩⟩ := h
 refine ⟨⟨a, own_at' a1 hk, a2.imp fun _ _ q => ?_⟩, ⟨b, own_at' b1 hk, b2.imp fun _ _ q => ?_⟩, ⟨c, own_at' c1 hk, c2.imp fun _ _ q => ?_⟩⟩
 · obtain ⟨sa, sc, e, o⟩ := q
   exact ⟨sa, sc, e, own_at' o hk⟩
 · obtain ⟨r1, r2, r3, r4, e, o1, o2⟩ := q
   exact ⟨r1, r2, r3, r4, e, own_at' o1 hk, own_at' o2 hk⟩
 · obtain ⟨r1, r2, r3, r4, e, o1, o2⟩ := q
   exact ⟨r1, r2, r3, r4, e, own_at' o1 hk, own_at' o2 hk⟩
section
variable {B : Nat} {W W' : World} {a : Nat} {P : PImg} {s s' : Ms} {l : List Ob}
theorem MIn.gr (h : MIn B W a P s l) (hb : Below W.heap.size W W') : MIn B W' a P s l := by
 obtain ⟨⟨q, h1, h2⟩, le⟩ := h
 exact ⟨⟨q, h1.gr hb, h2⟩, Nat.le_trans le hb.size⟩
theorem MIn.parts (h : MIn B W a P s l) : ∃ q : Pt, Bx W a (rowOf P s q) ∧ ImgIn W.heap.size W q.ra q.ca q.ga P ∧ TgIn q.SM W q.km s.b s.t ∧ PgOk P q := by
 obtain ⟨⟨q, h1, h2⟩, _⟩ := h
 have hs := h1.ins (snapOb q.lo q.W0) (by simp [obs])
 exact ⟨q, h1.ins (bx_ a (rowOf P s q)) (by simp [obs]), (img_snap h2 hs.2).into, h1.ins (tgOb q.SM q.km s.b s.t) (by simp [obs]), h2⟩
theorem MIn.alt (h : MIn B W a P s l) : a < W.heap.size := by
 obtain ⟨q, hb, _⟩ := h.parts
 exact hb.lt
theorem MIn.there (h : MIn B W a P s l) (o : Ob) (ho : o ∈ l) : o.In W := by
 obtain ⟨⟨q, h1, _⟩, le⟩ := h
 exact h1.ins o (by simp [ho])
theorem MIn.box (h : MIn B W a P s l) (hs : s'.b = s.b ∧ s'.t = s.t ∧ s'.st = s.st ∧ s'.inp = s.inp ∧ s'.out = s.out ∧ s'.tou = s.tou) (hb : ∀ q, Bx W a (rowOf P s q) → Bx W' a (rowOf P s' q)) (hk : Kp (fun k => k = a) W W') : MIn B W' a P s' l ∧ Below B W W' := by
 obtain ⟨⟨q, h1, h2⟩, le⟩ := h
 obtain ⟨e1, e2, e3, e4, e5, e6⟩ := hs
 have hB := h1.ins (bx_ a (rowOf P s q)) (by simp [obs])
 have h3 := sep_change (l1 := []) (o := bx_ a (rowOf P s q)) (o' := bx_ a (rowOf P s' q)) h1 (hb q hB) hk (fun _ r => .inl r) le
 refine ⟨⟨⟨q, ?_, h2⟩, Nat.le_trans le hk.size⟩, sep_below (l1 := []) (o := bx_ a (rowOf P s q)) h1 hk le⟩
 unfold obs
 rw [e1, e2, e3, e4, e5, e6]
 exact h3
theorem MIn.add (h : MIn B W a P s l) (o : Ob) (hi : o.In W') (hn : ∀ k, o.S k → W.heap.size ≤ k) (hb : Below W.heap.size W W') : MIn B W' a P s (o :: l) := by
 obtain ⟨⟨q, h1, h2⟩, le⟩ := h
 exact ⟨⟨q, sep_perm (h1.add o hi hn hb le) List.perm_middle.symm, h2⟩, Nat.le_trans le hb.size⟩
theorem MIn.drop {o : Ob} (h : MIn B W a P s (o :: l)) : MIn B W a P s l := by
 obtain ⟨⟨q, h1, h2⟩, le⟩ := h
 exact ⟨⟨q, sep_tail (sep_perm h1 List.perm_middle), h2⟩, le⟩
theorem MIn.new (h : MIn B W a P s l) (cs : Array Value) (t : TypeId) : MIn B (W.alloc (.cells cs t)) a P s (boxOb W.heap.size cs :: l) ∧ Below B W (W.alloc (.cells cs t)) :=
 ⟨h.add (boxOb W.heap.size cs) (At.new W cs t) (fun k q => by have : k = W.heap.size := q; omega) ((Below.refl _ W).alloc (Nat.le_refl _) _), ((Below.refl _ W).alloc (Nat.le_refl _) _).mono h.le⟩
theorem MIn.side {o o' : Ob} (h : MIn B W a P s (o :: l)) (hi : o'.In W') (hk : Kp o.S W W') (hn : ∀ k, o'.S k → o.S k ∨ W.heap.size ≤ k) : MIn B W' a P s (o' :: l) ∧ Below B W W' := by
 obtain ⟨⟨q, h1, h2⟩, le⟩ := h
 exact ⟨⟨⟨q, sep_change (l1 := obs B a P s q) (o := o) (o' := o') (l2 := l) h1 hi hk hn le, h2⟩, Nat.le_trans le hk.size⟩, sep_below (l1 := obs B a P s q) (o := o) (l2 := l) h1 hk le⟩
theorem MIn.mem (h : MIn B W a P s l) : ∃ km SM, W.cell? ⟨a, 4, none⟩ = some (.pointer (some ⟨km, 0, none⟩)) ∧ TgIn SM W km s.b s.t ∧ ∀ W' b' t' SM', TgIn SM' W' km b' t' → Mf SM SM' W W' → MIn B W' a P { s with b := b', t := t' } l ∧ Below B W W' := by
 obtain ⟨⟨q, h1, h2⟩, le⟩ := h
 have hB : Bx W a (rowOf P s q) := h1.ins (bx_ a (rowOf P s q)) (by simp [obs])
 refine ⟨q.km, q.SM, hB.at_ 4 _ rfl, h1.ins (tgOb q.SM q.km s.b s.t) (by simp [obs]), fun W' b' t' SM' h3 hm => ?_⟩
 have h4 := sep_change (l1 := [bx_ a (rowOf P s q)]) (o := tgOb q.SM q.km s.b s.t) (o' := tgOb SM' q.km b' t') h1 h3 hm.kp hm.new le
 exact ⟨⟨⟨{ q with SM := SM' }, h4, h2⟩, Nat.le_trans le hm.kp.size⟩, sep_below (l1 := [bx_ a (rowOf P s q)]) (o := tgOb q.SM q.km s.b s.t) h1 hm.kp le⟩
end
end C
end Go.Proofs.YtiigpncfmakgjaaGreatDoor
