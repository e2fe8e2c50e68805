import Derived.Test.YtiigpncfmakgjaaGreatDoorJ30
import Derived.Test.YtiigpncfmakgjaaGreatDoorJ40
import Derived.Test.YtiigpncfmakgjaaGreatDoorJ19
import Derived.Test.YtiigpncfmakgjaaGreatDoorJ06
import Derived.SizedLaws
namespace Go.Proofs.YtiigpncfmakgjaaGreatDoor
set_option maxRecDepth 100000
set_option maxHeartbeats 40000000
open Go.RowKit

structure PImg.Fits (m : PImg) : Prop where
 regs : FitB 56 m.regs.length ∧ ∀ r ∈ m.regs, r.data.length ≤ 140737488355328 ∧ FitB 64 r.slots.length
 comps : FitB 48 m.comps.length ∧ ∀ r ∈ m.comps, FitB 48 r.roots.length ∧ FitB 40 r.code.length
 gates : FitB 64 m.gates.length ∧ ∀ r ∈ m.gates, FitB 56 r.args.length ∧ FitB 56 r.res.length
theorem step_below2 {B : Nat} {R W w1 : World} (h : Below B R W) (hB : B ≤ R.heap.size) (hg : Below W.heap.size W w1) : Below B R w1 := h.trans (hg.mono (Nat.le_trans hB h.size))
theorem Copy_any (m : PImg) (ra ca ga : Option Addr) (rc cc gc : Nat) (w : World) (hm : ImgIn w.heap.size w ra ca ga m) (hf : m.Fits) :
   Calls Tryz.prog 24 #[.agg #[.slice ra m.regs.length rc, .slice ca m.comps.length cc, .slice ga m.gates.length gc, .int .i64 m.depth]] w fun x w' => ∃ ra2 rc2 ca2 cc2 ga2 gc2, x = .returned (.agg #[.slice ra2 m.regs.length rc2, .slice ca2 m.comps.length cc2, .slice ga2 m.gates.length gc2, .int .i64 m.depth]) ∧ ImgOwn w.heap.size w' (.slice ra2 m.regs.length rc2) (.slice ca2 m.comps.length cc2) (.slice ga2 m.gates.length gc2) m ∧ Below w.heap.size w w' := by
 have hC1 := fun W h1 => copiedRegion_any m.regs ra rc W h1 hf.regs.2 hf.regs.1
 have hC2 := fun W h1 => copiedComp_any m.comps ca cc W h1 hf.comps.2 hf.comps.1
 have hC3 := fun W h1 => copiedGate_any m.gates ga gc W h1 hf.gates.2 hf.gates.1
 have hB : Below w.heap.size w ((w.alloc (.cells #[.slice ra m.regs.length rc, .slice ca m.comps.length cc, .slice ga m.gates.length gc, .int .i64 m.depth] 26)).alloc (.cells #[.slice none 0 0, .slice none 0 0, .slice none 0 0, .int .i64 0] 26)) := (((Gr.refl w).alloc _).alloc _).below
 have RB : Box ((w.alloc (.cells #[.slice ra m.regs.length rc, .slice ca m.comps.length cc, .slice ga m.gates.length gc, .int .i64 m.depth] 26)).alloc (.cells #[.slice none 0 0, .slice none 0 0, .slice none 0 0, .int .i64 0] 26)) w.heap.size #[.slice ra m.regs.length rc, .slice ca m.comps.length cc, .slice ga m.gates.length gc, .int .i64 m.depth] 26 := (Box.new w _ _).alloc _
 have X : Box ((w.alloc (.cells #[.slice ra m.regs.length rc, .slice ca m.comps.length cc, .slice ga m.gates.length gc, .int .i64 m.depth] 26)).alloc (.cells #[.slice none 0 0, .slice none 0 0, .slice none 0 0, .int .i64 0] 26)) (w.heap.size + 1) #[.slice none 0 0, .slice none 0 0, .slice none 0 0, .int .i64 0] 26 := Box.next _ _ _ _
 replace hm := Hid.mk hm
 replace hB := Hid.mk hB
 replace RB := Hid.mk RB
 replace X := Hid.mk X
 clear hf
 go_enter Tryz.func24, Tryz.ntmps24
 go_wp2_with fail
 generalize (w.alloc (.cells #[.slice ra m.regs.length rc, .slice ca m.comps.length cc, .slice ga m.gates.length gc, .int .i64 m.depth] 26)).alloc (.cells #[.slice none 0 0, .slice none 0 0, .slice none 0 0, .int .i64 0] 26) = R0 at *
 have hn1 : w.heap.size + 1 ≤ R0.heap.size := Nat.le_of_lt X.out.lt
 have KS : ∀ W, Below (w.heap.size + 1) R0 W → W.cell? ⟨w.heap.size, 0, none⟩ = some (.slice ra m.regs.length rc) ∧ W.cell? ⟨w.heap.size, 1, none⟩ = some (.slice ca m.comps.length cc) ∧ W.cell? ⟨w.heap.size, 2, none⟩ = some (.slice ga m.gates.length gc) ∧ W.cell? ⟨w.heap.size, 3, none⟩ = some (.int .i64 m.depth) := fun W hW => ⟨(hW.cell (p := ⟨w.heap.size, 0, none⟩) (Nat.lt_succ_self _)).trans (RB.out.at.2.1 0), (hW.cell (p := ⟨w.heap.size, 1, none⟩) (Nat.lt_succ_self _)).trans (RB.out.at.2.1 1), (hW.cell (p := ⟨w.heap.size, 2, none⟩) (Nat.lt_succ_self _)).trans (RB.out.at.2.1 2), (hW.cell (p := ⟨w.heap.size, 3, none⟩) (Nat.lt_succ_self _)).trans (RB.out.at.2.1 3)⟩
 have hI : ∀ W, Below (w.heap.size + 1) R0 W → ImgIn W.heap.size W ra ca ga m := fun W hW => (hm.out.below (hB.out.trans (hW.mono (Nat.le_succ _)))).mono (Nat.le_trans hB.out.size hW.size)
 have hI1 := Hid.mk (fun W h => (hI W h).regs)
 have hI2 := Hid.mk (fun W h => (hI W h).comps)
 have hI3 := Hid.mk (fun W h => (hI W h).gates)
 replace KS := Hid.mk KS
 clear hI
 (go_region_held3 (fun W => W.cell? ⟨w.heap.size, 0, none⟩ = some (.slice ra m.regs.length rc) ∧ W.cell? ⟨w.heap.size, 1, none⟩ = some (.slice ca m.comps.length cc) ∧ W.cell? ⟨w.heap.size, 2, none⟩ = some (.slice ga m.gates.length gc) ∧ W.cell? ⟨w.heap.size, 3, none⟩ = some (.int .i64 m.depth)) (first | (refine KS.out _ ?_; ((repeat (first | assumption | with_reducible exact Below.refl _ _ | with_reducible refine Below.drew ?_))); done) | exact KS.out _ (Below.setCell (p := ⟨w.heap.size + 1, 3, none⟩) (Below.setCell (p := ⟨w.heap.size + 1, 2, none⟩) (Below.setCell (p := ⟨w.heap.size + 1, 1, none⟩) (Below.setCell (p := ⟨w.heap.size + 1, 0, none⟩) (by assumption) (Nat.le_refl _) _) (Nat.le_refl _) _) (Nat.le_refl _) _) (Nat.le_refl _) _) | exact KS.out _ (Below.drew (Below.setCell (p := ⟨w.heap.size + 1, 3, none⟩) (Below.setCell (p := ⟨w.heap.size + 1, 2, none⟩) (Below.setCell (p := ⟨w.heap.size + 1, 1, none⟩) (Below.setCell (p := ⟨w.heap.size + 1, 0, none⟩) (by assumption) (Nat.le_refl _) _) (Nat.le_refl _) _) (Nat.le_refl _) _) (Nat.le_refl _) _))) (first | (go_at_call 39; refine (hC1 _ (hI1.out _ (by ((repeat (first | assumption | with_reducible exact Below.refl _ _ | with_reducible refine Below.drew ?_)))))).mono ?_; rintro x w1 ⟨v, rfl, s1, hO1, hE1, hb1⟩; obtain ⟨ra2, rc2, rfl⟩ := own_slice hO1; have d1 : Below R0.heap.size R0 w1 := step_below2 (by ((repeat (first | assumption | with_reducible exact Below.refl _ _ | with_reducible refine Below.drew ?_)))) (Nat.le_refl _) hb1; have b1 : Below (w.heap.size + 1) R0 w1 := d1.mono hn1) | (go_at_call 41; refine (hC2 _ (hI2.out _ (by ((repeat (first | assumption | with_reducible exact Below.refl _ _ | with_reducible refine Below.drew ?_)))))).mono ?_; rintro x w2 ⟨v, rfl, s2, hO2, hE2, hb2⟩; obtain ⟨ca2, cc2, rfl⟩ := own_slice hO2; have d2 : Below R0.heap.size R0 w2 := step_below2 (by ((repeat (first | assumption | with_reducible exact Below.refl _ _ | with_reducible refine Below.drew ?_)))) (Nat.le_refl _) hb2; have b2 : Below (w.heap.size + 1) R0 w2 := d2.mono hn1) | (go_at_call 43; refine (hC3 _ (hI3.out _ (by ((repeat (first | assumption | with_reducible exact Below.refl _ _ | with_reducible refine Below.drew ?_)))))).mono ?_; rintro x w3 ⟨v, rfl, s3, hO3, hE3, hb3⟩; obtain ⟨ga2, gc2, rfl⟩ := own_slice hO3; have d3 : Below R0.heap.size R0 w3 := step_below2 (by ((repeat (first | assumption | with_reducible exact Below.refl _ _ | with_reducible refine Below.drew ?_)))) (Nat.le_refl _) hb3; have b3 : Below (w.heap.size + 1) R0 w3 := d3.mono hn1; have ⟨z1, p1, f1⟩ := (X.out.below d3 X.out.lt).at)))
 all_goals
   go_wp2_with fail
   have X2 := X.out.below d3 X.out.lt
   have g2 := grown_of hb2 none
   have g3 := grown_of hb3 none
   have e1 : w.heap.size ≤ w1.heap.size := Nat.le_trans hB.out.size d1.size
   have e2 : w.heap.size ≤ w2.heap.size := Nat.le_trans hB.out.size d2.size
   have hm1 : ImgOwn w.heap.size w3 (.slice ra2 m.regs.length rc2) (.slice ca2 m.comps.length cc2) (.slice ga2 m.gates.length gc2) m :=
     ⟨⟨s1, own_base (own_below (own_below hO1 hb2) hb3) hB.out.size, ((hE1.imp fun _ _ q => q.step g2 (nes_none _)).imp fun _ _ q => q.step g3 (nes_none _)).imp fun _ _ q => q.base hB.out.size⟩,
      ⟨s2, own_base (own_below hO2 hb3) e1, (hE2.imp fun _ _ q => q.step g3 (nes_none _)).imp fun _ _ q => q.base e1⟩,
      ⟨s3, own_base hO3 e2, hE3.imp fun _ _ q => q.base e2⟩⟩
   have B2 := hB.out.trans (d3.mono hB.out.size)
   have b4 : Box (((((w3).setCell ⟨(w.heap.size + 1), 0, none⟩ (.slice ra2 m.regs.length rc2)).setCell ⟨(w.heap.size + 1), 1, none⟩ (.slice ca2 m.comps.length cc2)).setCell ⟨(w.heap.size + 1), 2, none⟩ (.slice ga2 m.gates.length gc2)).setCell ⟨(w.heap.size + 1), 3, none⟩ (.int .i64 m.depth)) (w.heap.size + 1) #[.slice ra2 m.regs.length rc2, .slice ca2 m.comps.length cc2, .slice ga2 m.gates.length gc2, .int .i64 m.depth] 26 := Box.setRow X2 [.slice ra2 m.regs.length rc2, .slice ca2 m.comps.length cc2, .slice ga2 m.gates.length gc2, .int .i64 m.depth] rfl
   have B4 : Below w.heap.size w (((((w3).setCell ⟨(w.heap.size + 1), 0, none⟩ (.slice ra2 m.regs.length rc2)).setCell ⟨(w.heap.size + 1), 1, none⟩ (.slice ca2 m.comps.length cc2)).setCell ⟨(w.heap.size + 1), 2, none⟩ (.slice ga2 m.gates.length gc2)).setCell ⟨(w.heap.size + 1), 3, none⟩ (.int .i64 m.depth)) := below_row [.slice ra2 m.regs.length rc2, .slice ca2 m.comps.length cc2, .slice ga2 m.gates.length gc2, .int .i64 m.depth] B2 (by omega)
   have O4 : ImgOwn w.heap.size (((((w3).setCell ⟨(w.heap.size + 1), 0, none⟩ (.slice ra2 m.regs.length rc2)).setCell ⟨(w.heap.size + 1), 1, none⟩ (.slice ca2 m.comps.length cc2)).setCell ⟨(w.heap.size + 1), 2, none⟩ (.slice ga2 m.gates.length gc2)).setCell ⟨(w.heap.size + 1), 3, none⟩ (.int .i64 m.depth)) (.slice ra2 m.regs.length rc2) (.slice ca2 m.comps.length cc2) (.slice ga2 m.gates.length gc2) m := ImgOwn.row (by decide) [.slice ra2 m.regs.length rc2, .slice ca2 m.comps.length cc2, .slice ga2 m.gates.length gc2, .int .i64 m.depth] hm1 X2
   have ⟨_, q4, _⟩ := b4.at
   clear z1 p1 f1 RB X hB b4 X2 hm1 B2
   generalize ((((w3).setCell ⟨(w.heap.size + 1), 0, none⟩ (.slice ra2 m.regs.length rc2)).setCell ⟨(w.heap.size + 1), 1, none⟩ (.slice ca2 m.comps.length cc2)).setCell ⟨(w.heap.size + 1), 2, none⟩ (.slice ga2 m.gates.length gc2)).setCell ⟨(w.heap.size + 1), 3, none⟩ (.int .i64 m.depth) = W4 at *
   simp [bodyPost, results, Tryz.results24, go_sem, q4]
   exact ⟨ra2, rc2, ca2, cc2, ga2, gc2, ⟨⟨rfl, rfl⟩, ⟨rfl, rfl⟩, rfl, rfl⟩, O4, B4⟩
end Go.Proofs.YtiigpncfmakgjaaGreatDoor


namespace Go.Proofs.YtiigpncfmakgjaaGreatDoor
namespace C
open Go.RowKit
open T (Sep Ob Kp Mf TgIn boxOb Fm Tc Ed Vl Cp Bx tgOb mRow mRow_idx mRow_tail mRow_at updV flt Vl.row_len Sl Rg rgB rgT RgIn)

theorem own_iv {w : World} {lo : Nat} {v : Value} {L : List Int} (h : w.ownsRow lo 32 1 v L.length (L.map u64I)) : IvIn w v L ∧ ∀ k, v.ownBlock = some k → lo ≤ k := by
 have hlt := h.lt
 refine ⟨⟨?_, fun k q => (hlt k q).2, ?_⟩, fun k q => (hlt k q).1⟩
 · rcases h.2 with ⟨rfl, h9⟩ | ⟨g, cap, cur, rfl, hb, hg, hc1, hc2, hc3, hc4⟩
   · exact ⟨none, 0, by rw [h9], by omega, .inl h9⟩
   · refine ⟨_, cap, rfl, hc1, .inr ⟨g, 0, rfl, fun i hi => ?_⟩⟩
     have : w.cell? ⟨g, 0 + i, none⟩ = cur[i]? := by simp [World.cell?, hg]
     rw [this]
     have h2 : (L.map u64I)[i]? = some (.int .u64 L[i]) := by simp [hi, u64I]
     rw [← hc4, List.getElem?_take_of_lt (by omega)] at h2
     rw [← h2]
     simp
 · rcases h.2 with ⟨rfl, h9⟩ | ⟨g, cap, cur, rfl, hb, hg, hc1, hc2, hc3, hc4⟩
   · exact ⟨none, 0, by rw [h9], .inl ⟨rfl, rfl⟩⟩
   · refine ⟨_, cap, rfl, .inr ⟨g, 0, rfl, fun j hj => ?_⟩⟩
     have e1 : w.cell? ⟨g, 0 + j, none⟩ = cur[j]? := by simp [World.cell?, hg]
     rw [e1]
     have hj2 : j < cur.size := by omega
     exact ⟨by simp [hj2], by simp [World.frozen?, hg]⟩
def slOf (k : PSlot) : Sl := ⟨k.t.cap, k.t.b, k.t.e, k.t.lo, k.t.hi, k.t.p, k.t.s, k.c.toNat⟩
def rgOf (r : PReg) : Rg := ⟨r.b.toNat, r.n, r.data, r.slots.map slOf⟩
theorem rg_in {w : World} {a : Option Addr} {L : List PReg} (h : RegIn w.heap.size w a L) (hr : ∀ r ∈ L, r.Rng) : RgIn w a (L.map rgOf) := fun i hi => by
 have hi' : i < L.length := by simpa using hi
 obtain ⟨b, off, sa, sc, ha, h1, h2, c0, c1, c2, c3, hs⟩ := h i hi'
 have hR := hr L[i] (List.getElem_mem hi')
 have e : (L.map rgOf)[i] = rgOf L[i] := by simp
 rw [e]
 refine ⟨b, off, sa, sc, ha, h2, ?_, c1, c2, ?_, fun j hj => ?_⟩
 · rw [c0]
   show _ = some (Value.int .u64 ((L[i].b.toNat : Nat) : Int))
   rw [Int.toNat_of_nonneg hR.1.1]
 · show _ = some (Value.slice sa (L[i].slots.map slOf).length sc)
   rw [List.length_map]
   exact c3
 · have hj' : j < L[i].slots.length := by
     have : j < (L[i].slots.map slOf).length := hj
     simpa using this
   obtain ⟨b2, off2, ha2, _, hb2, hc⟩ := hs j hj'
   refine ⟨b2, off2, ha2, hb2, fun o v q => ?_⟩
   have e2 : (rgOf L[i]).slots[j] = slOf L[i].slots[j] := by simp [rgOf]
   rw [e2] at q
   have ho : o < 8 := by have := (List.getElem?_eq_some_iff.1 q).1; simpa [Sl.vals] using this
   have e3 : (slOf L[i].slots[j]).vals = L[i].slots[j].vals := by
     have hk := (hR.2.2.2.2 L[i].slots[j] (List.getElem_mem hj')).2.1
     simp only [slOf, T.Sl.vals, PSlot.vals, PTyp.vals, List.cons_append, List.nil_append]
     rw [Int.toNat_of_nonneg hk]
   rw [e3] at q
   rw [hc o ho]
   exact q
theorem rg_ok {L : List PReg} (hr : ∀ r ∈ L, r.Rng) : ∀ r ∈ L.map rgOf, r.Ok := fun r hx => by
 obtain ⟨x, hx2, rfl⟩ := List.mem_map.1 hx
 have h := hr x hx2
 refine ⟨by have := h.1.2; have := h.1.1; show x.b.toNat < _; omega, h.2.2.1, ?_⟩
 show (x.slots.map slOf).length ≤ _
 rw [List.length_map]
 exact h.2.2.2.1
def bare (m : PImg) : PImg := { m with regs := [] }
theorem fits_of {m : PImg} (hP : POk (bare m)) : (bare m).Fits := by
 refine ⟨⟨by unfold FitB; show 0 * 56 ≤ _; omega, fun r hr => by cases hr⟩, ⟨?_, fun r hr => ?_⟩, ⟨?_, fun r hr => ?_⟩⟩
 · have := hP.cl; unfold FitB; omega
 · obtain ⟨k, hk, rfl⟩ := List.getElem_of_mem hr
   have h1 := (hP.roots k).1
   have h2 := (hP.code k).1
   rw [rootsOf_at _ k hk] at h1
   rw [codeOf_at _ k hk] at h2
   unfold FitB
   omega
 · have := hP.gl; unfold FitB; omega
 · obtain ⟨k, hk, rfl⟩ := List.getElem_of_mem hr
   have h1 := hP.gates k hk
   unfold FitB
   omega
def start (m : PImg) (g : Nat) (A I : List Nat) : Ms := ⟨entF (bare m) g (intsF A) A.length, [], I.map fun x : Nat => (x : Int), [], [], ⟨0, 0, 0⟩, rgB (m.regs.map rgOf) m.regs.length, rgT (m.regs.map rgOf) m.regs.length⟩
theorem nil_in (B e k : Nat) (W : World) : (rowOb B e k (.slice none 0 0) 0 []).In W := World.ownsRow_nil _ _ _ _
theorem sep_void {B : Nat} {W : World} {l : List Ob} (h : Sep B W l) (e k : Nat) (hB : B ≤ W.heap.size) : Sep B W (rowOb B e k (.slice none 0 0) 0 [] :: l) :=
 h.add _ (nil_in B e k W) (fun _ q => by cases q) (Below.refl _ _) hB
theorem sep_low {B B' : Nat} {W : World} {l : List Ob} (h : Sep B W l) (hb : B' ≤ B) : Sep B' W l := ⟨h.ins, h.dis, fun o ho k q => Nat.le_trans hb (h.ge o ho k q)⟩
def zrow (p0 p1 p2 : Value) (d : Int) (km : Nat) (f : Fm) (iv : Value) : List Value := mRow p0 p1 p2 d km f (.slice none 0 0) iv (.slice none 0 0) (.slice none 0 0) ⟨0, 0, 0⟩
theorem build_mc (r0 c0 g0 i0 : Option Addr) (r1 r2 c1 c2 g1 g2 i1 i2 km : Nat) (d : Int) (f : Fm) (W : World) : (Instr.build 81 #[(0, .agg #[.slice r0 r1 r2, .slice c0 c1 c2, .slice g0 g1 g2, .int .i64 d]), (1, .pointer (some ⟨km, 0, none⟩)), (2, .agg f.row.toArray), (4, .slice i0 i1 i2)]).run Tryz.prog W = .ok (.agg (zrow (.slice r0 r1 r2) (.slice c0 c1 c2) (.slice g0 g1 g2) d km f (.slice i0 i1 i2)).toArray) W := by kernel_rfl
theorem yields_mc {ops : Array Oper} {S : World → Prop} {op : Oper} {a : Act} (hw : Region.wanted op (yielded ops a.tmps) = true) (x0 x1 x2 x3 : Operand) (ho : op.op = .build 81 #[(0, x0), (1, x1), (2, x2), (4, x3)])
   (r0 c0 g0 i0 : Option Addr) (r1 r2 c1 c2 g1 g2 i1 i2 km : Nat) (d : Int) (f : Fm) (h0 : a.eval x0 = .agg #[.slice r0 r1 r2, .slice c0 c1 c2, .slice g0 g1 g2, .int .i64 d]) (h1 : a.eval x1 = .pointer (some ⟨km, 0, none⟩)) (h2 : a.eval x2 = .agg f.row.toArray) (h3 : a.eval x3 = .slice i0 i1 i2) :
   YieldsIf Tryz.prog ops S op (.agg (zrow (.slice r0 r1 r2) (.slice c0 c1 c2) (.slice g0 g1 g2) d km f (.slice i0 i1 i2)).toArray) a :=
 .inl ⟨hw, fun w _ => by
   unfold execOp
   simp only [ho, List.map_toArray, List.map_cons, List.map_nil, h0, h1, h2, h3, build_mc, Sem.run_bind, Sem.run_pure, Result.andThen_ok]⟩
def InS (w : World) (a : Option Addr) (L : List Nat) (c : Nat) : Prop := (a = none ∧ L = [] ∧ c = 0) ∨ ∃ b off, a = some ⟨b, off, none⟩ ∧ b < w.heap.size ∧ ∀ i (h : i < L.length), w.cell? ⟨b, off + i, none⟩ = some (.int .u64 L[i])
theorem InS.bl {w W : World} {a : Option Addr} {L : List Nat} {c : Nat} (h : InS w a L c) (g : Bl w W) : InS W a L c := by
 rcases h with h | ⟨b, off, e, hl, hc⟩
 · exact .inl h
 · exact .inr ⟨b, off, e, Nat.lt_of_lt_of_le hl g.size, fun i hi => (g.cell (p := ⟨b, _, none⟩) hl).trans (hc i hi)⟩
theorem clone_in (L : List Nat) (a : Option Addr) (c : Nat) (w : World) (h : InS w a L c) (hl : L.length ≤ 2000000) :
   Calls Tryz.prog 28 #[.slice a L.length c] w fun x w' => ∃ i0 i2, x = .returned (.slice i0 L.length i2) ∧ IvIn w' (.slice i0 L.length i2) (L.map fun x : Nat => (x : Int)) ∧ (∀ k, (Value.slice i0 L.length i2).ownBlock = some k → w.heap.size ≤ k) ∧ Bl w w' := by
 rcases h with ⟨rfl, rfl, rfl⟩ | ⟨b, off, rfl, hb, hc⟩
 · refine (clnil_u64 w).mono ?_
   rintro x w' ⟨rfl, rfl⟩
   exact ⟨none, 0, rfl, ⟨⟨none, 0, rfl, Nat.le_refl _, .inl rfl⟩, fun k q => (by cases q), ⟨none, 0, rfl, .inl ⟨rfl, rfl⟩⟩⟩, fun k q => (by cases q), Bl.refl _⟩
 · refine (clone_u64 b off L.length c ((L.map fun x : Nat => (x : Int)).map u64I) w hb (by simp) (fun j u q => ?_) (fun u q => ?_) hl).mono ?_
   · rw [List.getElem?_map, List.getElem?_map] at q
     by_cases hj : j < L.length
     · rw [List.getElem?_eq_getElem hj] at q
       injection q with q
       rw [hc j hj, ← q]
       rfl
     · rw [List.getElem?_eq_none (by omega)] at q
       cases q
   · obtain ⟨x, _, rfl⟩ := List.mem_map.1 q
     rfl
   · rintro x w' ⟨v, rfl, h1, h2⟩
     have h3 : w'.ownsRow w.heap.size 32 1 v (L.map fun x : Nat => (x : Int)).length ((L.map fun x : Nat => (x : Int)).map u64I) := by rw [List.length_map]; exact h1
     obtain ⟨h4, h5⟩ := own_iv h3
     obtain ⟨i0, i2, e, _⟩ := h4.go
     rw [List.length_map] at e
     subst e
     exact ⟨i0, i2, rfl, h4, h5, h2⟩
end C
end Go.Proofs.YtiigpncfmakgjaaGreatDoor


namespace Go.Proofs.YtiigpncfmakgjaaGreatDoor
set_option maxRecDepth 100000
set_option maxHeartbeats 40000000
namespace C
open Go.ChangeShapes Go.WideShapes Go.ChangeAt Go.RowKit Go.Deep

def Wd (n : Int) : Prop := 0 ≤ n ∧ n < 18446744073709551616
theorem bdz_u64 {n : Int} (h : (Lit.int .u64 n).wf = true) : Wd n := by
 have := bounds_u64 h; unfold Wd; omega
theorem bdz_i64 {n : Int} (h : (Lit.int .i64 n).wf = true) : -9223372036854775808 ≤ n ∧ n < 9223372036854775808 := by
 have := bounds_i64 h; omega
theorem bulkz_one {H : Type} (d : DataW H) : 1 ≤ Rows.uptoBulk d := by
 cases d with
 | lit l => cases l <;> simp [Rows.uptoBulk]
 | _ => simp [Rows.uptoBulk]
theorem bulkz_len {H : Type} (l : List (DataW H)) : l.length ≤ Rows.uptoBulkAll l := by
 induction l with
 | nil => simp [Rows.uptoBulkAll]
 | cons x r ih => have := bulkz_one x; simp only [Rows.uptoBulkAll, List.length_cons]; omega
theorem bulkz_mem {H : Type} {d : DataW H} : ∀ {l : List (DataW H)}, d ∈ l → Rows.uptoBulk d ≤ Rows.uptoBulkAll l
 | x :: r, h => by
   simp only [Rows.uptoBulkAll]
   rcases List.mem_cons.1 h with rfl | h
   · omega
   · have := bulkz_mem h; omega
 | [], h => by simp at h
theorem bulkz_in {H : Type} {l : List (DataW H)} (hk : Rows.uptoSmall H l = true) : ∀ d ∈ l, Rows.uptoBulk d ≤ 1048576 := fun d hd => by
 have h : Rows.uptoBulkAll l ≤ 1048576 := of_decide_eq_true hk
 have := bulkz_mem hd
 omega
theorem choosez {α : Type} (p : Nat → α → Prop) : ∀ n, (∀ i, i < n → ∃ k, p i k) → ∃ L : List α, L.length = n ∧ ∀ i (h : i < L.length), p i L[i]
 | 0, _ => ⟨[], rfl, fun i h => by simp at h⟩
 | n + 1, h => by
   obtain ⟨L, hl, hL⟩ := choosez p n (fun i hi => h i (by omega))
   obtain ⟨k, hk⟩ := h n (by omega)
   refine ⟨L ++ [k], by simp [hl], fun i hi => ?_⟩
   by_cases hin : i < L.length
   · rw [List.getElem_append_left hin]; exact hL i hin
   · have : i = n := by simp at hi; omega
     subst this
     rw [List.getElem_append_right (by omega)]
     simpa [hl] using hk
theorem no_spotz {W : World} {a : Addr} {cs : List Value} {k : Nat} (hk : 0 < k) (h : W.cells? 0 (a.add (0 * k)) k = some cs) : a.spot = none := by
 obtain ⟨_, hl, hc⟩ := World.cells?_some h
 have c0 := hc 0 hk
 simp only [Nat.zero_mul, Addr.add, if_true] at c0
 have : cs[0]? = some (cs[0]'(by omega)) := by simp
 exact World.cell?_spot (c0.trans this)
theorem open_rowsB {H : Type} {enc : TypeId × Value → H} {W : World} {spare : Nat → Bool} {held : Bool} {α : Type} {Q : List Value → α → Prop} {Rg : α → Prop} {k : Nat} {t e : TypeId} (ht : Tryz.prog.underlying t = some (.slice e)) (hce : Tryz.prog.cellsOf e = k) (hk : 0 < k)
   (hel : ∀ (n : Nat) (cs : List Value) (x : DataW H × List MemPlace), DataW.trod enc Tryz.prog W 0 spare held n e cs = some x → ∃ a, Q cs a ∧ (Rows.uptoBulk x.1 ≤ 1048576 → Rg a))
   {fuel : Nat} {cs : List Value} {x : DataW H × List MemPlace} (h : DataW.trod enc Tryz.prog W 0 spare held fuel t cs = some x) :
   ∃ (a : Option Addr) (cap : Nat) (L : List α), cs = [.slice a L.length cap] ∧ (∀ i (h : i < L.length), ∃ b off, a = some ⟨b, off, none⟩ ∧ b < W.heap.size ∧ ∃ cs', Q cs' L[i] ∧ ∀ j, j < k → W.cell? ⟨b, off + i * k + j, none⟩ = cs'[j]?) ∧
     (Rows.uptoBulk x.1 ≤ 1048576 → L.length ≤ 1048575 ∧ ∀ r ∈ L, Rg r) ∧ ((a = none ∧ L = [] ∧ cap = 0) ∨ ∃ b : Addr, a = some b) := by
 rcases open_slice ht h with ⟨rfl, rfl⟩ | ⟨a, len, cap, m, n, D, Pl, rfl, _, hl, hm, hmm, rfl, hx⟩
 · exact ⟨none, 0, [], rfl, fun i hi => by simp at hi, fun _ => ⟨by simp, by simp⟩, .inl ⟨rfl, rfl, rfl⟩⟩
 · have hlm : len ≤ m := by rw [hmm]; split <;> omega
   rw [hce] at hx
   have hk' : ∀ i, i < len → ∃ y, (∃ cs', W.cells? 0 (a.add (i * k)) k = some cs' ∧ Q cs' y) ∧ (Rows.uptoBulk (D i) ≤ 1048576 → Rg y) := fun i hi => by
     obtain ⟨cs', e1, e2⟩ := hx i (by omega)
     obtain ⟨y, q, r⟩ := hel _ _ _ e2
     exact ⟨y, ⟨cs', e1, q⟩, r⟩
   obtain ⟨L, hL, hp⟩ := choosez _ _ hk'
   subst hL
   refine ⟨some a, cap, L, rfl, fun i hi => ?_, fun hli => ?_, .inr ⟨a, rfl⟩⟩
   · have h0 : 0 < L.length := by omega
     obtain ⟨⟨c0, hc0, _⟩, _⟩ := hp 0 h0
     have hs : a.spot = none := no_spotz hk hc0
     obtain ⟨⟨cs', hc, q⟩, _⟩ := hp i hi
     obtain ⟨_, hlen, hcc⟩ := World.cells?_some hc
     obtain ⟨b, off, spot⟩ := a
     obtain rfl : spot = none := hs
     have hcell : ∀ j, j < k → W.cell? ⟨b, off + i * k + j, none⟩ = cs'[j]? := fun j hj => by
       have := hcc j hj
       rwa [addr_addZ, addr_addZ] at this
     have c1 := hcell 0 hk
     have : cs'[0]? = some (cs'[0]'(by omega)) := by simp
     exact ⟨b, off, rfl, World.block_lt_of_cell? W _ (c1.trans this), cs', q, hcell⟩
   · simp only [Rows.uptoBulk] at hli
     have h1 := bulkz_len ((List.range L.length).map D)
     rw [List.length_map, List.length_range] at h1
     refine ⟨by omega, fun r hr => ?_⟩
     obtain ⟨i, hi, rfl⟩ := List.getElem_of_mem hr
     refine (hp i hi).2 ?_
     have : D i ∈ (List.range L.length).map D := List.mem_map.2 ⟨i, List.mem_range.2 hi, rfl⟩
     have := bulkz_mem this
     omega
theorem trod_word {H : Type} {enc : TypeId × Value → H} {W : World} {spare : Nat → Bool} {held : Bool} {n : Nat} {cs : List Value} {x : DataW H × List MemPlace}
   (hf : DataW.trod enc Tryz.prog W 0 spare held n 32 cs = some x) : ∃ k : Int, cs = [.int .u64 k] ∧ Wd k := by
 obtain ⟨k, e0, _, w0⟩ := DataW.trod_int Tryz.underlying32 hf
 exact ⟨k, e0, bdz_u64 w0⟩
theorem slice_has {W : World} {r : Reach} {base : Nat} {t e : TypeId} {a : Addr} {len cap : Nat} (ht : Tryz.prog.underlying t = some (.slice e)) (h : Value.okWide Tryz.prog W r base t (.slice (some a) len cap)) : a.spot = none ∧ a.block < W.heap.size := by
 simp only [Value.okWide, ht, Cell.okWide, Cell.ok] at h
 obtain ⟨_, _, _, h2, row, cells, h3, _⟩ := h
 refine ⟨h2, ?_⟩
 unfold World.shape? at h3
 by_cases q : a.block < W.heap.size
 · exact q
 · rw [Array.getElem?_eq_none (by omega)] at h3
   cases h3
theorem open_ints_ {H : Type} {enc : TypeId × Value → H} {W : World} {r : Reach} {base : Nat} {spare : Nat → Bool} {held : Bool} {a : Option Addr} {len cap : Nat} {d : DataW H} {ps : List MemPlace}
   (hv : Value.okWide Tryz.prog W r base 27 (.slice a len cap)) (h : DataW.Trod enc Tryz.prog W 0 spare held 27 (.slice a len cap) d ps) : ∃ L : List Int, L.length = len ∧ ((a = none ∧ L = [] ∧ cap = 0) ∨ ∃ b off, a = some ⟨b, off, none⟩ ∧ b < W.heap.size ∧ ∀ i (h : i < L.length), W.cell? ⟨b, off + i, none⟩ = some (.int .u64 L[i])) ∧ (∀ x ∈ L, Wd x) ∧ (Rows.uptoBulk d ≤ 1048576 → L.length ≤ 1048575) := by
 obtain ⟨fuel, hf⟩ := h
 obtain ⟨a2, cap2, L, e, hL, hr, hn⟩ := open_rowsB (Q := fun cs (k : Int) => cs = [Value.int .u64 k] ∧ Wd k) (Rg := fun _ => True) Tryz.underlying27 (show Tryz.prog.cellsOf 32 = 1 by kernel_rfl) (by omega) (fun _ _ _ h => by obtain ⟨k, h1, h2⟩ := trod_word h; exact ⟨k, ⟨h1, h2⟩, fun _ => trivial⟩) hf
 simp [Value.cells] at e
 obtain ⟨rfl, rfl, rfl⟩ := e
 refine ⟨L, rfl, ?_, fun x hx => ?_, fun hb => (hr hb).1⟩
 · rcases hn with ⟨h1, h2, h3⟩ | ⟨b, h1⟩
   · exact .inl ⟨h1, h2, h3⟩
   · subst h1
     obtain ⟨s1, s2⟩ := slice_has Tryz.underlying27 hv
     obtain ⟨b, off, sp⟩ := b
     obtain rfl : sp = none := s1
     refine .inr ⟨b, off, rfl, s2, fun i hi => ?_⟩
     obtain ⟨b2, off2, ha, hb, cs', ⟨rfl, _⟩, hc⟩ := hL i hi
     injection ha with ha
     injection ha with q1 q2
     subst q1 q2
     have := hc 0 (by omega)
     rw [Nat.mul_one, Nat.add_zero] at this
     exact this
 · obtain ⟨i, hi, rfl⟩ := List.getElem_of_mem hx
   obtain ⟨b, off, ha, hb, cs', ⟨rfl, q⟩, hc⟩ := hL i hi
   exact q
theorem open_words {H : Type} {enc : TypeId × Value → H} {W : World} {r : Reach} {base : Nat} {spare : Nat → Bool} {held : Bool} {a : Option Addr} {len cap : Nat} {d : DataW H} {ps : List MemPlace}
   (hv : Value.okWide Tryz.prog W r base 27 (.slice a len cap)) (h : DataW.Trod enc Tryz.prog W 0 spare held 27 (.slice a len cap) d ps) : ∃ L : List Nat, L.length = len ∧ InS W a L cap ∧ NumIn W a L ∧ (∀ x ∈ L, x < 18446744073709551616) ∧ (Rows.uptoBulk d ≤ 1048576 → L.length ≤ 1048575) := by
 obtain ⟨L, hl, hin, hw, hb⟩ := open_ints_ hv h
 have hc : ∀ i (h : i < (L.map Int.toNat).length), (((L.map Int.toNat)[i] : Nat) : Int) = L[i]'(by simpa using h) := fun i h => by
   rw [List.getElem_map]
   exact Int.toNat_of_nonneg (hw _ (List.getElem_mem _)).1
 refine ⟨L.map Int.toNat, by rw [List.length_map, hl], ?_, ?_, fun x hx => ?_, fun q => by rw [List.length_map]; exact hb q⟩
 · rcases hin with ⟨h1, h2, h3⟩ | ⟨b, off, h1, h2, h3⟩
   · exact .inl ⟨h1, by rw [h2]; rfl, h3⟩
   · refine .inr ⟨b, off, h1, h2, fun i hi => ?_⟩
     rw [h3 i (by simpa using hi), hc i hi]
 · intro i hi
   rcases hin with ⟨h1, h2, h3⟩ | ⟨b, off, h1, h2, h3⟩
   · rw [h2] at hi; simp at hi
   · refine ⟨b, off, h1, h2, ?_⟩
     rw [h3 i (by simpa using hi), hc i hi]
 · obtain ⟨y, hy, rfl⟩ := List.mem_map.1 hx
   have := hw y hy
   unfold Wd at this
   omega
end C
end Go.Proofs.YtiigpncfmakgjaaGreatDoor


namespace Go.Proofs.YtiigpncfmakgjaaGreatDoor
set_option maxRecDepth 100000
set_option maxHeartbeats 40000000
namespace C
open Go.RowKit
open T (Sep Ob Kp Mf TgIn boxOb Fm Tc Ed Vl Cp Bx tgOb mRow mRow_idx mRow_tail mRow_at updV flt Vl.row_len Sl Rg rgB rgT RgIn newTagged_any)

theorem new_no70 (m : PImg) (g : Int) (A I : List Nat) (ra ca ga aa ia : Option Addr) (rc cc gc ac ic : Nat) (w : World) (ht : TabIn w) (hm : ImgIn w.heap.size w ra ca ga m) (hr : m.Rng) (hq : m.right = 0) (hent : isEnt m g = false) : Calls Tryz.prog 13 #[.agg #[.slice ra m.regs.length rc, .slice ca m.comps.length cc, .slice ga m.gates.length gc, .int .i64 m.depth], .int .i64 g, .slice aa A.length ac, .slice ia I.length ic] w fun x w' => x = .returned (.tuple #[.pointer none, .int .i64 70]) ∧ Bl w w' := by
 have hRt := Hz.mk (fun X (q : Gr w X) => imgRight_any m ra ca ga rc cc gc X (ht.gr q) ((hm.below q.below).mono q.below.size) hr)
 have hP := pok_of m hq hr
 have hEn := Hz.mk (fun X (q : Bl w X) => isEntry_any m g ra ca ga m.regs.length rc m.comps.length cc gc m.depth X ((hm.gates.below q).mono q.size) (fun x hx => by
   obtain ⟨k, hk, rfl⟩ := List.getElem_of_mem hx
   have : m.gates[k].args.length ≤ 7 := (hP.gates k hk).2.2.2.2.1
   omega))
 rw [hent] at hEn
 rw [hq] at hRt
 clear hm hr ht hP hq hent
 go_enter Tryz.func13, Tryz.ntmps13
 go_wp2_with fail
 refine (hRt.out _ ((Gr.refl w).alloc _)).mono ?_
 rintro x W1 ⟨rfl, e1⟩
 have g1 := Hz.mk ((Gr.refl w).alloc (.cells #[.slice ra m.regs.length rc, .slice ca m.comps.length cc, .slice ga m.gates.length gc, .int .i64 m.depth] 26) |>.trans e1).below
 have a1 := Bl.at_ (Bl.gr e1) (At.new w #[.slice ra m.regs.length rc, .slice ca m.comps.length cc, .slice ga m.gates.length gc, .int .i64 m.depth] 26)
 have ⟨l1, p1, _⟩ := a1
 replace a1 := Hz.mk a1
 clear e1 hRt
 go_wp2_with fail
 refine (hEn.out _ g1.out).mono ?_
 rintro x W2 ⟨rfl, e1⟩
 replace g1 := Hz.mk (Bl.trans g1.out e1)
 replace a1 := Hz.mk (Bl.at_ e1 a1.out)
 clear p1 l1 e1 hEn
 have ⟨l1, p1, _⟩ := a1.out
 clear p1
 go_wp2_with fail
 simp [bodyPost, results, Tryz.results13, go_sem]
 exact g1.out
theorem ent_lt {m : PImg} {g : Int} (h : isEnt m g = true) : 0 ≤ g ∧ g < m.gates.length := by
 unfold isEnt at h
 split at h
 · assumption
 · cases h
theorem run_box (row : Array Value) (W : World) : (Instr.box 81 (.agg row)).run Tryz.prog W = .ok (.pointer (some ⟨W.heap.size, 0, none⟩)) (W.alloc (.cells row 81)) := rfl
theorem wp_box_mc {o : Oper} {a : Act} {K : Act → World → Prop} {Q : Exit → Act → World → Prop} {w : World} {x : Operand} (ho : o.op = .box 81 x) (row : Array Value) (hx : a.eval x = .agg row) (h : K (a.put o.dst (.pointer (some ⟨w.heap.size, 0, none⟩))) (w.alloc (.cells row 81))) : o.wp Tryz.prog a w K Q := by
 unfold Oper.wp execOp
 simp only [ho, hx, run_box, Sem.run_bind, Sem.run_pure, Result.andThen_ok]
 exact h
theorem new_ok (m : PImg) (g : Nat) (A I : List Nat) (ra ca ga aa ia : Option Addr) (rc cc gc ac ic : Nat) (w : World) (ht : TabIn w) (hm : ImgIn w.heap.size w ra ca ga m) (hr : m.Rng) (hq : m.right = 0) (hent : isEnt m g = true) (hal : A.length = (argsOf m g).length) (hA : NumIn w aa A) (hI : InS w ia I ic) (hil : I.length ≤ 2000000) :
   Calls Tryz.prog 13 #[.agg #[.slice ra m.regs.length rc, .slice ca m.comps.length cc, .slice ga m.gates.length gc, .int .i64 m.depth], .int .i64 g, .slice aa A.length ac, .slice ia I.length ic] w fun x w' => ∃ a, x = .returned (.tuple #[.pointer (some ⟨a, 0, none⟩), .int .i64 0]) ∧ MIn w.heap.size w' a (bare m) (start m g A I) [] ∧ Below w.heap.size w w' := by
 have hRt := Hz.mk (fun X (q : Gr w X) => imgRight_any m ra ca ga rc cc gc X (ht.gr q) ((hm.below q.below).mono q.below.size) hr)
 have hP : POk (bare m) := pok_of m hq hr
 have hEn := Hz.mk (fun X (q : Bl w X) => isEntry_any m g ra ca ga m.regs.length rc m.comps.length cc gc m.depth X ((hm.gates.below q).mono q.size) (fun x hx => by
   obtain ⟨k, hk, rfl⟩ := List.getElem_of_mem hx
   have : m.gates[k].args.length ≤ 7 := (hP.gates k hk).2.2.2.2.1
   omega))
 rw [hent] at hEn
 rw [hq] at hRt
 obtain ⟨_, e2⟩ := ent_lt hent
 have hk : g < m.gates.length := by omega
 rw [argsOf_at m g hk] at hal
 have hA7 : A.length ≤ 7 := by rw [hal]; exact (hP.gates g hk).2.2.2.2.1
 have hCp := Hz.mk (fun X (q : Bl w X) => Copy_any (bare m) none ca ga 0 cc gc X ⟨fun i hi => absurd hi (Nat.not_lt_zero i), (hm.comps.below q).mono q.size, (hm.gates.below q).mono q.size⟩ (fits_of hP))
 have hNT := Hz.mk (fun X (q : Bl w X) => newTagged_any (m.regs.map rgOf) ra rc (.slice ca m.comps.length cc) (.slice ga m.gates.length gc) (.int .i64 m.depth) X (rg_in ((hm.regs.below q).mono q.size) hr.regs.2) (rg_ok hr.regs.2) (by rw [List.length_map]; exact hr.regs.1))
 rw [List.length_map] at hNT
 have hIt := Hz.mk (fun X (q : Bl w X) => integers_any A aa ac X (hA.bl q) (by omega))
 have hCl := Hz.mk (fun X (q : Bl w X) => clone_in I ia ic X (hI.bl q) hil)
 obtain ⟨b, off, xa, xc, ya, yc, rfl, _, hb, c0, c1, c2, c3, hx, _⟩ := hm.gates g hk
 replace c2 : w.cell? ⟨b, off + g * 4 + 2, none⟩ = some (.slice xa m.gates[g].args.length xc) := c2
 have hc2 := Hz.mk (fun X (q : Bl w X) => (q.cell (p := ⟨b, off + g * 4 + 2, none⟩) hb).trans c2)
 have gi : (g : Int) < m.gates.length := by omega
 rw [← hal] at hc2
 have hal2 := Hz.mk hal
 clear hm hr ht hq hent hx c0 c1 c3 c2 hal hA hI
 go_enter Tryz.func13, Tryz.ntmps13
 go_wp2_with fail
 refine (hRt.out _ ((Gr.refl w).alloc _)).mono ?_
 rintro x W1 ⟨rfl, e1⟩
 have g1 := Hz.mk ((Gr.refl w).alloc (.cells #[.slice ra m.regs.length rc, .slice ca m.comps.length cc, .slice (some ⟨b, off, none⟩) m.gates.length gc, .int .i64 m.depth] 26) |>.trans e1).below
 have a1 := Bl.at_ (Bl.gr e1) (At.new w #[.slice ra m.regs.length rc, .slice ca m.comps.length cc, .slice (some ⟨b, off, none⟩) m.gates.length gc, .int .i64 m.depth] 26)
 have ⟨l1, p1, _⟩ := a1
 replace a1 := Hz.mk a1
 clear e1 hRt
 go_wp2_with fail
 refine (hEn.out _ g1.out).mono ?_
 rintro x W2 ⟨rfl, e1⟩
 replace g1 := Hz.mk (Bl.trans g1.out e1)
 replace a1 := Hz.mk (Bl.at_ e1 a1.out)
 clear p1 l1 e1 hEn
 have ⟨l1, p1, _⟩ := a1.out
 have c2 := hc2.out W2 g1.out
 have hb2 : b < W2.heap.size := Nat.lt_of_lt_of_le hb g1.out.size
 go_wp2_with fail
 refine (hCp.out _ g1.out).mono ?_
 rintro x X5 ⟨ra2, rc2, ca2, cc2, ga2, gc2, rfl, hOwn, e1⟩
 have gX5 : Bl w X5 := Bl.trans g1.out e1
 have a5 := Hz.mk (Bl.at_ e1 a1.out)
 have hlo : w.heap.size ≤ W2.heap.size := g1.out.size
 have hOwn := Hz.mk hOwn
 clear p1 l1 c2 a1
 go_upto_region 9 with fail
 refine wp_world (fun X => Bl X5 X ∧ At X X5.heap.size #[.slice ra2 0 rc2, .slice ca2 m.comps.length cc2, .slice ga2 m.gates.length gc2, .int .i64 m.depth]) ?_ ?_
 · exact ⟨(Bl.refl X5).alloc _, At.new X5 _ _⟩
 rintro X ⟨gX, aX⟩
 have a0 := Bl.at_ gX a5.out
 have gwX : Bl w X := gX5.trans gX
 have hBX : w.heap.size ≤ X.heap.size := gwX.size
 have hg9 := Hz.mk gwX
 have KT : Hz (∀ Y, Bl X Y → (Y.cell? ⟨X5.heap.size, 0, none⟩ = some (.slice ra2 0 rc2) ∧ Y.cell? ⟨X5.heap.size, 1, none⟩ = some (.slice ca2 m.comps.length cc2) ∧ Y.cell? ⟨X5.heap.size, 2, none⟩ = some (.slice ga2 m.gates.length gc2) ∧ Y.cell? ⟨X5.heap.size, 3, none⟩ = some (.int .i64 m.depth)) ∧ Y.cell? ⟨w.heap.size, 0, none⟩ = some (.slice ra m.regs.length rc) ∧ Y.cell? ⟨w.heap.size, 1, none⟩ = some (.slice ca m.comps.length cc) ∧ Y.cell? ⟨w.heap.size, 2, none⟩ = some (.slice (some ⟨b, off, none⟩) m.gates.length gc) ∧ Y.cell? ⟨w.heap.size, 3, none⟩ = some (.int .i64 m.depth)) := Hz.mk (fun Y q => ⟨⟨(Bl.at_ q aX).2.1 0, (Bl.at_ q aX).2.1 1, (Bl.at_ q aX).2.1 2, (Bl.at_ q aX).2.1 3⟩, (Bl.at_ q a0).2.1 0, (Bl.at_ q a0).2.1 1, (Bl.at_ q a0).2.1 2, (Bl.at_ q a0).2.1 3⟩)
 have hSep : Hz (Sep w.heap.size X [ouOb w.heap.size (.slice none 0 0) [], tcOb w.heap.size (.slice none 0 0) [], snapOb W2.heap.size X5]) := Hz.mk (sep_void (sep_void (sep_low ((snap_sep W2.heap.size X5).gr gX) hlo) _ _ hBX) _ _ hBX)
 obtain ⟨hk1, hk2, hk3, hk4⟩ := hP.kl g hk
 have hImg : Hz (∀ Y, Bl X5 Y → ImgIn Y.heap.size Y ra2 ca2 ga2 (bare m)) := Hz.mk (fun Y q => (img_snap hOwn.out (fun k _ hk => q.block k hk)).into)
 have hEt := Hz.mk (fun Y (q : Bl X Y) va (hs : SrcV Y va (intsF A) A.length) => entered_any (bare m) (.slice ra2 0 rc2) (.int .i64 m.depth) g (eOf (bare m) g) (kOf (bare m) g) A.length (intsF A) ca2 ga2 cc2 gc2 va A.length Y hk (hImg.out Y (gX.trans q)).gates (hImg.out Y (gX.trans q)).comps hk3 hk2 hk1 (fun x hx => by
   have := (hP.roots (kOf (bare m) g)).2 x (by rw [rootsOf_at _ _ hk1]; exact hx)
   omega) (by
   have := (hP.roots (kOf (bare m) g)).1
   rw [rootsOf_at _ _ hk1] at this
   omega) hs (by omega))
 rw [← rootsOf_at (bare m) _ hk1] at hEt
 have hEe : rootsJ ⟨g, eOf (bare m) g, ovF (intsF A) (fun _ => zV) A.length⟩ (rootsOf (bare m) (kOf (bare m) g)) (rootsOf (bare m) (kOf (bare m) g)).length = entF (bare m) g (intsF A) A.length := rfl
 rw [hEe] at hEt
 clear hEe
 replace hNT := Hz.mk (fun Y (q : Bl X Y) => hNT.out Y (gwX.trans q))
 replace hIt := Hz.mk (fun Y (q : Bl X Y) => hIt.out Y (gwX.trans q))
 replace hCl := Hz.mk (fun Y (q : Bl X Y) => hCl.out Y (gwX.trans q))
 have hfin : Hz (∀ (U4 : World) SM km i0 i2, Bl X U4 → Sep w.heap.size U4 (inOb (.slice i0 I.length i2) (I.map fun x : Nat => (x : Int)) :: tgOb SM km (rgB (m.regs.map rgOf) m.regs.length) (rgT (m.regs.map rgOf) m.regs.length) :: [ouOb w.heap.size (.slice none 0 0) [], tcOb w.heap.size (.slice none 0 0) [], snapOb W2.heap.size X5]) → MIn w.heap.size (U4.alloc (.cells (zrow (.slice ra2 0 rc2) (.slice ca2 m.comps.length cc2) (.slice ga2 m.gates.length gc2) m.depth km (entF (bare m) g (intsF A) A.length) (.slice i0 I.length i2)).toArray 81)) U4.heap.size (bare m) (start m g A I) []) := Hz.mk (fun U4 SM km i0 i2 q hS => by
   have hB4 : w.heap.size ≤ U4.heap.size := Nat.le_trans hBX q.size
   have h1 := sep_void hS 75 114 hB4
   have hat := At.new U4 (zrow (.slice ra2 0 rc2) (.slice ca2 m.comps.length cc2) (.slice ga2 m.gates.length gc2) m.depth km (entF (bare m) g (intsF A) A.length) (.slice i0 I.length i2)).toArray 81
   have h2 := h1.add (bx_ U4.heap.size (zrow (.slice ra2 0 rc2) (.slice ca2 m.comps.length cc2) (.slice ga2 m.gates.length gc2) m.depth km (entF (bare m) g (intsF A) A.length) (.slice i0 I.length i2))) ⟨hat.1, fun o v e => (hat.2.1 o).trans (by simpa using e), hat.2.2⟩ (fun k e => by have : k = U4.heap.size := e; omega) ((Below.refl _ U4).alloc (Nat.le_refl _) _) hB4
   refine ⟨⟨⟨ra2, rc2, ca2, cc2, ga2, gc2, km, .slice none 0 0, .slice i0 I.length i2, .slice none 0 0, .slice none 0 0, SM, W2.heap.size, X5⟩, ?_, hOwn.out⟩, by rw [World.size_alloc]; omega⟩
   have h3 := sep_perm h2 (List.Perm.cons _ (List.perm_middle (a := tgOb SM km (rgB (m.regs.map rgOf) m.regs.length) (rgT (m.regs.map rgOf) m.regs.length)) (l₁ := [rowOb w.heap.size 75 114 (.slice none 0 0) 0 [], inOb (.slice i0 I.length i2) (I.map fun x : Nat => (x : Int))])))
   rw [List.append_nil]
   exact h3)
 generalize hfE : entF (bare m) g (intsF A) A.length = fE at hEt hfin
 replace hfE := Hz.mk hfE
 replace hP := Hz.mk hP
 clear hCp hImg aX a0 gX gX5 gwX a5 hk1 hk2 hk3 hk4 hOwn hlo g1
 generalize X5.heap.size = kp at *
 generalize hk0 : w.heap.size = k0 at *
 replace hk0 := Hz.mk hk0
 have f0 : Bl X X.drew := (Bl.refl X).drew
 refine wp_region_held_drew (S := (fun X => (X.cell? ⟨kp, 0, none⟩ = some (.slice ra2 0 rc2) ∧ X.cell? ⟨kp, 1, none⟩ = some (.slice ca2 m.comps.length cc2) ∧ X.cell? ⟨kp, 2, none⟩ = some (.slice ga2 m.gates.length gc2) ∧ X.cell? ⟨kp, 3, none⟩ = some (.int .i64 m.depth)) ∧ X.cell? ⟨k0, 0, none⟩ = some (.slice ra m.regs.length rc) ∧ X.cell? ⟨k0, 1, none⟩ = some (.slice ca m.comps.length cc) ∧ X.cell? ⟨k0, 2, none⟩ = some (.slice (some ⟨b, off, none⟩) m.gates.length gc) ∧ X.cell? ⟨k0, 3, none⟩ = some (.int .i64 m.depth))) (by kernel_rfl) (KT.out _ f0) (fun hHeld => ?_)
 refine xso 0 ?_ rfl ?_ (xso 1 ?_ rfl ?_ (xso 3 ?_ rfl ?_ (xso 4 ?_ rfl ?_ (xso 5 ?_ rfl ?_ (xso 8 ?_ rfl ?_ ?_)))))
 iterate 6 (rotate_left; focus ((try simp only [xap]); intro w hSw; (try dsimp only at hSw); go_simp; first | done | with_reducible rfl))
 try simp only [xap]
 refine xrd 2 rfl (fun K hK => ?_)
 go_simp
 refine (hNT.out _ f0).mono ?_
 rintro r U1 ⟨SM, rfl, hTg, hSM, e1⟩
 have f1 := Bl.trans f0 e1
 have hSep1 := Hz.mk ((hSep.out.gr f0).add (tgOb SM _ _ _) hTg (fun k q => Nat.le_of_lt (hSM k q)) e1 (Nat.le_trans hBX f0.size))
 replace hTg := Hz.mk hTg
 replace hSM := Hz.mk hSM
 clear hHeld e1
 refine hK.out _ _ (KT.out _ f1) (fun hHeld => ?_)
 clear hK K
 try simp only [xap]
 refine xrd 6 rfl (fun K hK => ?_)
 go_simp
 refine (hIt.out _ f1).mono ?_
 rintro r U2 ⟨va, rfl, hsrc, e1⟩
 have f2 := Bl.trans f1 e1
 replace hSep1 := Hz.mk (hSep1.out.gr e1)
 replace hsrc := Hz.mk hsrc
 clear hHeld e1
 refine hK.out _ _ (KT.out _ f2) (fun hHeld => ?_)
 clear hK K
 try simp only [xap]
 refine xrd 7 rfl (fun K hK => ?_)
 go_simp
 refine (hEt.out _ f2 va hsrc.out).mono ?_
 rintro r U3 ⟨rfl, e1⟩
 have f3 := Bl.trans f2 e1
 replace hSep1 := Hz.mk (hSep1.out.gr e1)
 clear hHeld e1
 refine hK.out _ _ (KT.out _ f3) (fun hHeld => ?_)
 clear hK K
 try simp only [xap]
 refine xrd 9 rfl (fun K hK => ?_)
 go_simp
 refine (hCl.out _ f3).mono ?_
 rintro r U4 ⟨i0, i2, rfl, hIv, hIn, e1⟩
 have f4 := Bl.trans f3 e1
 have hSep2 := Hz.mk (hSep1.out.add (inOb _ _) hIv hIn e1 (Nat.le_trans hBX f3.size))
 clear hHeld e1 hIv hIn
 refine hK.out _ _ (KT.out _ f4) (fun hHeld => ?_)
 clear hK K
 try simp only [xap]
 refine xtk 10 rfl (yields_mc (by rfl) _ _ _ _ rfl _ _ _ _ _ _ _ _ _ _ _ _ _ _ fE (by rfl) (by rfl) (by rfl) (by rfl)) ?_
 try simp only [xap]
 refine xrd 11 rfl (fun K hK => ?_)
 rw [if_pos (by rfl)]
 refine wp_box_mc rfl _ rfl ?_
 clear hHeld
 refine hK.out _ _ (KT.out _ (f4.alloc _)) (fun hHeld => ?_)
 clear hK K
 try simp only [xap]
 refine xso 12 ?_ rfl ?_ (xso 13 ?_ rfl ?_ ?_)
 iterate 2 (rotate_left; focus ((try simp only [xap]); intro w hSw; (try dsimp only at hSw); go_simp; first | done | with_reducible rfl))
 try simp only [xap]
 refine xdn ?_ _
 clear hHeld
 go_wp2_with fail
 refine bodyPost_ret (v := .tuple #[.pointer (some ⟨U4.heap.size, 0, none⟩), .int .i64 0]) (by simp [results, Tryz.results13, go_sem]) rfl ⟨U4.heap.size, rfl, ?_, ?_⟩
 · have hz := hfin.out U4 _ _ _ _ f4 hSep2.out
   rw [← hk0.out] at hz
   exact hz
 · exact Below.mono ((hg9.out.trans f4).alloc _) (Nat.le_refl _)
end C
end Go.Proofs.YtiigpncfmakgjaaGreatDoor
