import Derived.Test.YtdlcphinjnnhcaaGreatDoorK25
import Derived.BigFrame
import Derived.Test.YtdlcphinjnnhcaaGreatDoorK23
import Derived.Test.YtdlcphinjnnhcaaGreatDoorK24
import Derived.Test.YtdlcphinjnnhcaaGreatDoorK05
import Derived.Test.YtdlcphinjnnhcaaGreatDoorK06
import Derived.Test.YtdlcphinjnnhcaaGreatDoorK20
import Derived.Test.YtdlcphinjnnhcaaGreatDoorK21
import Derived.Test.YtdlcphinjnnhcaaGreatDoorK22
namespace Go.Proofs.YtdlcphinjnnhcaaGreatDoor
namespace Q
open Go.RowKit

theorem range4L {W : World} {b o : Nat} {v0 v1 v2 v3 : Value} (h0 : W.cell? ⟨b, o, none⟩ = some v0) (h1 : W.cell? ⟨b, o + 1, none⟩ = some v1) (h2 : W.cell? ⟨b, o + 1 + 1, none⟩ = some v2) (h3 : W.cell? ⟨b, o + 1 + 1 + 1, none⟩ = some v3) : W.rangeAt b o [v0, v1, v2, v3] := fun j v q => by
 match j with
 | 0 => simp at q; subst q; exact h0
 | 1 => simp at q; subst q; exact h1
 | 2 => simp at q; subst q; exact h2
 | 3 => simp at q; subst q; exact h3
 | j + 4 => simp at q
end Q
end Go.Proofs.YtdlcphinjnnhcaaGreatDoor


namespace Go.Proofs.YtdlcphinjnnhcaaGreatDoor
set_option maxRecDepth 100000
set_option maxHeartbeats 40000000
namespace Q
open Go.RowKit

theorem gr_belowR {w W : World} {B : Nat} (g : Gr w W) (hB : B ≤ w.heap.size) : Below B w W := ⟨g.below.os, g.below.tape, g.below.output, g.below.size, fun k hk => g.below.block k (by omega)⟩
theorem range2L {W : World} {b o : Nat} {v0 v1 : Value} (h0 : W.cell? ⟨b, o, none⟩ = some v0) (h1 : W.cell? ⟨b, o + 1, none⟩ = some v1) : W.rangeAt b o [v0, v1] := fun j v q => by
 match j with
 | 0 => simp at q; subst q; exact h0
 | 1 => simp at q; subst q; exact h1
 | j + 2 => simp at q
theorem drop_at {α : Type} (L : List α) (i : Nat) (h : i < L.length) : L.drop i = L[i] :: L.drop (i + 1) := List.drop_eq_getElem_cons h
theorem regE_place {r : PReg} {f : Int} (hb : 0 ≤ r.b) (h : regE r f = 0) : r.b < 65536 ∧ r.n ≤ 65536 := by
 unfold regE at h
 by_cases q : (placeB r.b r.n f && contentB r.n r.data r.slots.length) = true
 · rw [Bool.and_eq_true] at q
   have q1 := q.1
   unfold placeB at q1
   simp only [Bool.and_eq_true, decide_eq_true_eq, beq_iff_eq] at q1
   obtain ⟨⟨⟨⟨⟨_, _⟩, _⟩, _⟩, h1⟩, h2⟩ := q1
   exact ⟨h1, by omega⟩
 · rw [if_neg q] at h
   cases h
theorem refRight_any (m : PImg) (ra ca ga : Option Addr) (rc cc gc : Nat) (w : World) (hm0 : ImgIn w.heap.size w ra ca ga m) (hr : m.Rng) : Calls Tryz.prog 22 #[.agg #[.slice ra m.regs.length rc, .slice ca m.comps.length cc, .slice ga m.gates.length gc, .int .i64 m.depth]] w fun x w' => x = .returned (.int .i64 m.right) ∧ Gr w w' := by
 by_cases h0 : 8 < (m.regs.length : Int)
 · have hz : m.right = 42 := by
     unfold PImg.right
     rw [if_neg (by unfold countsB; simp only [Bool.and_eq_true, decide_eq_true_eq]; omega)]
   rw [hz]
   clear hz hr hm0
   go_enter Tryz.func22, Tryz.ntmps22
   go_wp2_with fail
   go_ret
   refine ⟨rfl, ?_⟩
   (with_reducible repeat (first | exact Gr.refl _ | refine Gr.alloc ?_ _ | refine Gr.grow ?_ _ | refine Gr.drew ?_ | refine Gr.setCell ?_ _ _ _ (gr_size ?_)))
 by_cases h1 : (m.comps.length : Int) < 1
 · have hz : m.right = 42 := by
     unfold PImg.right
     rw [if_neg (by unfold countsB; simp only [Bool.and_eq_true, decide_eq_true_eq]; omega)]
   rw [hz]
   clear hz hr hm0
   go_enter Tryz.func22, Tryz.ntmps22
   go_wp2_with fail
   go_ret
   refine ⟨rfl, ?_⟩
   (with_reducible repeat (first | exact Gr.refl _ | refine Gr.alloc ?_ _ | refine Gr.grow ?_ _ | refine Gr.drew ?_ | refine Gr.setCell ?_ _ _ _ (gr_size ?_)))
 by_cases h2 : 4 < (m.comps.length : Int)
 · have hz : m.right = 42 := by
     unfold PImg.right
     rw [if_neg (by unfold countsB; simp only [Bool.and_eq_true, decide_eq_true_eq]; omega)]
   rw [hz]
   clear hz hr hm0
   go_enter Tryz.func22, Tryz.ntmps22
   go_wp2_with fail
   go_ret
   refine ⟨rfl, ?_⟩
   (with_reducible repeat (first | exact Gr.refl _ | refine Gr.alloc ?_ _ | refine Gr.grow ?_ _ | refine Gr.drew ?_ | refine Gr.setCell ?_ _ _ _ (gr_size ?_)))
 by_cases h3 : (m.gates.length : Int) < 1
 · have hz : m.right = 42 := by
     unfold PImg.right
     rw [if_neg (by unfold countsB; simp only [Bool.and_eq_true, decide_eq_true_eq]; omega)]
   rw [hz]
   clear hz hr hm0
   go_enter Tryz.func22, Tryz.ntmps22
   go_wp2_with fail
   go_ret
   refine ⟨rfl, ?_⟩
   (with_reducible repeat (first | exact Gr.refl _ | refine Gr.alloc ?_ _ | refine Gr.grow ?_ _ | refine Gr.drew ?_ | refine Gr.setCell ?_ _ _ _ (gr_size ?_)))
 by_cases h4 : 16 < (m.gates.length : Int)
 · have hz : m.right = 42 := by
     unfold PImg.right
     rw [if_neg (by unfold countsB; simp only [Bool.and_eq_true, decide_eq_true_eq]; omega)]
   rw [hz]
   clear hz hr hm0
   go_enter Tryz.func22, Tryz.ntmps22
   go_wp2_with fail
   go_ret
   refine ⟨rfl, ?_⟩
   (with_reducible repeat (first | exact Gr.refl _ | refine Gr.alloc ?_ _ | refine Gr.grow ?_ _ | refine Gr.drew ?_ | refine Gr.setCell ?_ _ _ _ (gr_size ?_)))
 by_cases h5 : m.depth < 1
 · have hz : m.right = 42 := by
     unfold PImg.right
     rw [if_neg (by unfold countsB; simp only [Bool.and_eq_true, decide_eq_true_eq]; omega)]
   rw [hz]
   clear hz hr hm0
   go_enter Tryz.func22, Tryz.ntmps22
   go_wp2_with fail
   go_ret
   refine ⟨rfl, ?_⟩
   (with_reducible repeat (first | exact Gr.refl _ | refine Gr.alloc ?_ _ | refine Gr.grow ?_ _ | refine Gr.drew ?_ | refine Gr.setCell ?_ _ _ _ (gr_size ?_)))
 by_cases h6 : 16 < m.depth
 · have hz : m.right = 42 := by
     unfold PImg.right
     rw [if_neg (by unfold countsB; simp only [Bool.and_eq_true, decide_eq_true_eq]; omega)]
   rw [hz]
   clear hz hr hm0
   go_enter Tryz.func22, Tryz.ntmps22
   go_wp2_with fail
   go_ret
   refine ⟨rfl, ?_⟩
   (with_reducible repeat (first | exact Gr.refl _ | refine Gr.alloc ?_ _ | refine Gr.grow ?_ _ | refine Gr.drew ?_ | refine Gr.setCell ?_ _ _ _ (gr_size ?_)))
 have hz : m.right = (if regsR m.regs 0 = 0 then (if compsR m.gates.length m.comps = 0 then gatesR m.comps m.gates else compsR m.gates.length m.comps) else regsR m.regs 0) := by
   unfold PImg.right
   rw [if_pos (by unfold countsB; simp only [Bool.and_eq_true, decide_eq_true_eq]; omega)]
 replace hz := Hid.mk hz
 have l1 : m.regs.length ≤ 281474976710648 := by omega
 have l2 : m.comps.length ≤ 281474976710648 := by omega
 have l3 : m.gates.length ≤ 281474976710648 := by omega
 have hl2 := Hid.mk hr.comps.1
 have hr1 := Hid.mk hr.regs.2
 have hr2 := Hid.mk hr.comps.2
 have hr3 := Hid.mk hr.gates.2
 clear hr
 replace hm0 := Hid.mk hm0
 go_enter Tryz.func22, Tryz.ntmps22
 go_upto_region 1 with fail
 refine wp_world (fun W => At W w.heap.size #[.slice ra m.regs.length rc, .slice ca m.comps.length cc, .slice ga m.gates.length gc, .int .i64 m.depth] ∧ Gr w W) ⟨At.new w _ _, (Gr.refl w).alloc _⟩ ?_
 rintro W0 ⟨BM, G0⟩
 replace BM := Hid.mk BM
 replace G0 := Hid.mk G0
 have hm : Hid (ImgIn w.heap.size W0 ra ca ga m) := Hid.mk (hm0.out.below (gr_belowR G0.out (Nat.le_refl _)))
 have hB : Hid (w.heap.size ≤ W0.heap.size) := Hid.mk G0.out.below.size
 clear hm0
 have c0 : W0.cell? ⟨w.heap.size, 0, none⟩ = some (.slice ra m.regs.length rc) := BM.out.2.1 0
 have c1 : W0.cell? ⟨w.heap.size, 1, none⟩ = some (.slice ca m.comps.length cc) := BM.out.2.1 1
 have c2 : W0.cell? ⟨w.heap.size, 2, none⟩ = some (.slice ga m.gates.length gc) := BM.out.2.1 2
 have c3 : W0.cell? ⟨w.heap.size, 3, none⟩ = some (.int .i64 m.depth) := BM.out.2.1 3
 go_upto_region 5 with fail
 clear c0 c1 c2 c3
 have G := Hid.mk (Gr.refl W0)
 go_loopw [3, 4] (fun y x wr => ∃ (i : Nat) (fr : Int), y = .int .u64 fr ∧ x = .int .i64 i ∧ i ≤ m.regs.length ∧ Hid (regsR m.regs 0 = regsR (m.regs.drop i) fr) ∧ Hid (Gr W0 wr)) (fun _ x _ => m.regs.length - (intOf x).toNat)
 case atStart => exact ⟨0, 0, rfl, rfl, by omega, Hid.mk (by rw [List.drop_zero]), G⟩
 case round =>
   clear G
   obtain ⟨i, fr, rfl, rfl, hi, hE, G⟩ := hrel
   replace hE := hE.out
   have c0 : wr.cell? ⟨w.heap.size, 0, none⟩ = some (.slice ra m.regs.length rc) := (BM.out.gr G.out).2.1 0
   by_cases hn : i < m.regs.length
   · have hi1 : (i : Int) < (m.regs.length : Int) := by omega
     clear c0
     obtain ⟨b, off, sa, sc, hra, hb1, _, k0, k1, k2, k3, kf⟩ := hm.out.regs i hn
     subst hra
     have hrr := Hid.mk (hr1.out _ (List.getElem_mem hn))
     rw [drop_at _ _ hn, regsR_E] at hE
     generalize m.regs[i] = rr at k0 k1 k2 k3 kf hrr hE
     replace k0 := Hid.mk k0
     replace k1 := Hid.mk k1
     replace k2 := Hid.mk k2
     replace k3 := Hid.mk k3
     replace kf := Hid.mk (kf.below (gr_belowR G.out hB.out))
     have c0 : wr.cell? ⟨w.heap.size, 0, none⟩ = some (.slice (some ⟨b, off, none⟩) m.regs.length rc) := (BM.out.gr G.out).2.1 0
     have d0 := (((gr_belowR G.out hB.out).cell (p := ⟨b, off + i * 4, none⟩) hb1).trans k0.out)
     have d1 := (((gr_belowR G.out hB.out).cell (p := ⟨b, off + i * 4 + 1, none⟩) hb1).trans k1.out)
     have d2 := (((gr_belowR G.out hB.out).cell (p := ⟨b, off + i * 4 + 1 + 1, none⟩) hb1).trans k2.out)
     have d3 := (((gr_belowR G.out hB.out).cell (p := ⟨b, off + i * 4 + 1 + 1 + 1, none⟩) hb1).trans k3.out)
     have hcl := Hid.mk (refRegion_any rr sa sc fr wr (kf.out.mono (Nat.le_trans hB.out G.out.below.size)) hrr.out)
     replace hE := Hid.mk hE
     go_wp2_with fail
     refine hcl.out.mono ?_
     rintro x wq ⟨rfl, q9⟩
     clear c0 d0 d1 d2 d3 hcl kf k2 k3
     replace G := Hid.mk (G.out.trans q9)
     clear q9
     have hg := Hid.mk (regE_place (f := fr) hrr.out.1.1)
     have hb0 := hrr.out.1.1
     have hb2 := hrr.out.2.1.1
     clear hrr
     generalize regE rr fr = E at *
     by_cases h9 : E = 0
     · subst h9
       obtain ⟨p1, p2⟩ := hg.out rfl
       clear hg
       have e8 : IntKind.u64.wrap (rr.b + rr.n) = rr.b + rr.n := by rw [IntKind.wrap_u64]; omega
       replace hE := hE.out
       rw [if_pos rfl] at hE
       have c0 : wq.cell? ⟨w.heap.size, 0, none⟩ = some (.slice (some ⟨b, off, none⟩) m.regs.length rc) := (BM.out.gr G.out).2.1 0
       have d0 := (((gr_belowR G.out hB.out).cell (p := ⟨b, off + i * 4, none⟩) hb1).trans k0.out)
       have d1 := (((gr_belowR G.out hB.out).cell (p := ⟨b, off + i * 4 + 1, none⟩) hb1).trans k1.out)
       replace hE := Hid.mk hE
       clear p1 p2 hb0 hb2
       go_wp2_with fail
       go_quiet (fail)
       clear c0 d0 d1 k0 k1
       go_wp2_with fail
       exact ⟨⟨i + 1, _, rfl, by go_num, by omega, hE, Hid.mk (G.out.drewN _)⟩, by simp [intOf]; omega⟩
     · have h9b : (E == 0) = false := by simpa using h9
       clear hg hb0 hb2
       go_wp2_with fail
       go_ret
       refine ⟨retI ?_, G0.out.trans G.out⟩
       rw [hz.out, hE.out, if_neg h9, if_neg h9]
   · have hi1 : ¬ (i : Int) < (m.regs.length : Int) := by omega
     have ei : i = m.regs.length := by omega
     subst ei
     clear c0
     replace hE := Hid.mk hE
     have c0 : wr.cell? ⟨w.heap.size, 0, none⟩ = some (.slice ra m.regs.length rc) := (BM.out.gr G.out).2.1 0
     have hE1 := hE.out
     rw [List.drop_length] at hE1
     replace hE1 : Hid (regsR m.regs 0 = 0) := Hid.mk hE1
     clear hE
     go_upto_region 12 with fail
     clear c0
     have G4 := G
     clear G
     go_loopw [6] (fun x wr => ∃ i : Nat, x = .int .i64 i ∧ i ≤ m.comps.length ∧ Hid (compsR m.gates.length m.comps = compsR m.gates.length (m.comps.drop i)) ∧ Hid (Gr W0 wr)) (fun x _ => m.comps.length - (intOf x).toNat)
     case atStart => exact ⟨0, rfl, by omega, Hid.mk (by rw [List.drop_zero]), G4⟩
     case round =>
       clear G4
       obtain ⟨i, rfl, hi, hE, G⟩ := hrel
       replace hE := hE.out
       have c1 : wr.cell? ⟨w.heap.size, 1, none⟩ = some (.slice ca m.comps.length cc) := (BM.out.gr G.out).2.1 1
       by_cases hn : i < m.comps.length
       · have hi1 : (i : Int) < (m.comps.length : Int) := by omega
         clear c1
         obtain ⟨b, off, ra', rc', ka, kc', hca, hb1, _, k0, k1, kf, kl⟩ := hm.out.comps i hn
         subst hca
         have hrr := Hid.mk (hr2.out _ (List.getElem_mem hn))
         rw [drop_at _ _ hn, compsR_E] at hE
         generalize m.comps[i] = rr at k0 k1 kf kl hrr hE
         replace k0 := Hid.mk k0
         replace k1 := Hid.mk k1
         replace kf := Hid.mk kf
         replace kl := Hid.mk kl
         replace hE := Hid.mk hE
         have c1 : wr.cell? ⟨w.heap.size, 1, none⟩ = some (.slice (some ⟨b, off, none⟩) m.comps.length cc) := (BM.out.gr G.out).2.1 1
         have KS : Hid (∀ W, Gr wr W → W.cell? ⟨w.heap.size, 1, none⟩ = some (.slice (some ⟨b, off, none⟩) m.comps.length cc) ∧ W.cell? ⟨w.heap.size, 2, none⟩ = some (.slice ga m.gates.length gc) ∧ W.rangeAt b (off + i * 2) [Value.slice ra' rr.roots.length rc', .slice ka rr.code.length kc']) := Hid.mk (fun W q => ⟨(BM.out.gr (G.out.trans q)).2.1 1, (BM.out.gr (G.out.trans q)).2.1 2, range2L (((gr_belowR (G.out.trans q) hB.out).cell (p := ⟨b, off + i * 2, none⟩) hb1).trans k0.out) (((gr_belowR (G.out.trans q) hB.out).cell (p := ⟨b, off + i * 2 + 1, none⟩) hb1).trans k1.out)⟩)
         have hcl := Hid.mk (fun (W : World) (q : Gr wr W) => show Calls Tryz.prog 38 #[.agg (List.toArray [Value.slice ra' rr.roots.length rc', .slice ka rr.code.length kc']), .int .i64 m.gates.length] W _ from refComp_any rr ra' ka rc' kc' m.gates.length W ((kf.out.below (gr_belowR (G.out.trans q) hB.out)).mono (Nat.le_trans hB.out (G.out.trans q).below.size)) ((kl.out.below (gr_belowR (G.out.trans q) hB.out)).mono (Nat.le_trans hB.out (G.out.trans q).below.size)) hrr.out)
         go_upto_region 14 with fail
         have d1 : Gr wr wr.drew := (Gr.refl _).drew
         refine wp_region_held_drew (S := (fun W => W.cell? ⟨w.heap.size, 1, none⟩ = some (.slice (some ⟨b, off, none⟩) m.comps.length cc) ∧ W.cell? ⟨w.heap.size, 2, none⟩ = some (.slice ga m.gates.length gc) ∧ W.rangeAt b (off + i * 2) [Value.slice ra' rr.roots.length rc', .slice ka rr.code.length kc'])) (by kernel_rfl) (KS.out _ d1) (fun hHeld => ?_)
         refine xso 0 ?_ rfl ?_ (xso 1 ?_ rfl ?_ (xso 2 ?_ rfl ?_ (xso 3 ?_ rfl ?_ ?_)))
         iterate 4 (rotate_left; focus ((try simp only [xap]); intro w hSw; (try dsimp only at hSw); go_simp; first | done | with_reducible rfl))
         try simp only [xap]
         refine xtk 4 rfl (yieldsIf_load_mid (by rfl) _ _ rfl _ _ rfl _ _ (fun _ h => h.2.2) Tryz.underlying54 rfl (by kernel_rfl)) ?_
         try simp only [xap]
         refine xso 5 ?_ rfl ?_ (xso 6 ?_ rfl ?_ (xso 7 ?_ rfl ?_ ?_))
         iterate 3 (rotate_left; focus ((try simp only [xap]); intro w hSw; (try dsimp only at hSw); go_simp; first | done | with_reducible rfl))
         try simp only [xap]
         refine xrd 8 rfl (fun K hK => ?_)
         go_simp
         go_wp2_with ((go_at_call 38; refine (hcl.out _ (by (with_reducible repeat (first | assumption | exact Gr.refl _ | refine Gr.alloc ?_ _ | refine Gr.grow ?_ _ | refine Gr.drew ?_ | refine Gr.setCell ?_ _ _ _ (gr_size ?_))))).mono ?_; rintro x wq ⟨rfl, q9⟩; have d1 : Gr wr wq := Gr.trans (by (with_reducible repeat (first | assumption | exact Gr.refl _ | refine Gr.alloc ?_ _ | refine Gr.grow ?_ _ | refine Gr.drew ?_ | refine Gr.setCell ?_ _ _ _ (gr_size ?_)))) q9; clear q9))
         refine hK.out _ _ (KS.out _ d1) (fun hHeld => ?_)
         clear hK K
         try simp only [xap]
         refine xso 9 ?_ rfl ?_ ?_
         rotate_left
         · intro w hSw; (try dsimp only at hSw); go_simp; first | done | with_reducible rfl
         try simp only [xap]
         refine xdn ?_ _
         clear hHeld KS hcl
         replace G := Hid.mk (G.out.trans d1)
         clear d1
         clear k0 k1 kf kl hrr c1
         generalize compE m.gates.length rr = E at *
         by_cases h9 : E = 0
         · subst h9
           replace hE := hE.out
           rw [if_pos rfl] at hE
           replace hE := Hid.mk hE
           go_wp2_with fail
           exact ⟨⟨i + 1, by go_num, by omega, hE, G⟩, by simp [intOf]; omega⟩
         · have h9b : (E == 0) = false := by simpa using h9
           go_wp2_with fail
           go_ret
           refine ⟨retI ?_, G0.out.trans G.out⟩
           rw [hz.out, if_pos hE1.out, hE.out, if_neg h9, if_neg h9]
       · have hi1 : ¬ (i : Int) < (m.comps.length : Int) := by omega
         have ei : i = m.comps.length := by omega
         subst ei
         clear c1
         replace hE := Hid.mk hE
         have c1 : wr.cell? ⟨w.heap.size, 1, none⟩ = some (.slice ca m.comps.length cc) := (BM.out.gr G.out).2.1 1
         have hE2 := hE.out
         rw [List.drop_length] at hE2
         replace hE2 : Hid (compsR m.gates.length m.comps = 0) := Hid.mk hE2
         clear hE
         go_upto_region 18 with fail
         clear c1
         have G5 := G
         clear G
         go_loopw [8] (fun x wr => ∃ i : Nat, x = .int .i64 i ∧ i ≤ m.gates.length ∧ Hid (gatesR m.comps m.gates = gatesR m.comps (m.gates.drop i)) ∧ Hid (Gr W0 wr)) (fun x _ => m.gates.length - (intOf x).toNat)
         case atStart => exact ⟨0, rfl, by omega, Hid.mk (by rw [List.drop_zero]), G5⟩
         case round =>
           clear G5
           obtain ⟨i, rfl, hi, hE, G⟩ := hrel
           replace hE := hE.out
           have c2 : wr.cell? ⟨w.heap.size, 2, none⟩ = some (.slice ga m.gates.length gc) := (BM.out.gr G.out).2.1 2
           by_cases hn : i < m.gates.length
           · have hi1 : (i : Int) < (m.gates.length : Int) := by omega
             clear c2
             obtain ⟨b, off, xa, xc, ya, yc, hga, hb1, _, k0, k1, k2, k3, kf, kl⟩ := hm.out.gates i hn
             subst hga
             have hrr := hr3.out _ (List.getElem_mem hn)
             rw [drop_at _ _ hn, gatesR_E] at hE
             generalize m.gates[i] = rr at k0 k1 k2 k3 kf kl hrr hE
             obtain ⟨gc', ge, ar, re⟩ := rr
             dsimp only at k0 k1 k2 k3 kf kl
             replace hrr := Hid.mk hrr
             replace k0 := Hid.mk k0
             replace k1 := Hid.mk k1
             replace k2 := Hid.mk k2
             replace k3 := Hid.mk k3
             replace kf := Hid.mk kf
             replace kl := Hid.mk kl
             replace hE := Hid.mk hE
             have c2 : wr.cell? ⟨w.heap.size, 2, none⟩ = some (.slice (some ⟨b, off, none⟩) m.gates.length gc) := (BM.out.gr G.out).2.1 2
             have KS : Hid (∀ W, Gr wr W → W.cell? ⟨w.heap.size, 2, none⟩ = some (.slice (some ⟨b, off, none⟩) m.gates.length gc) ∧ W.rangeAt w.heap.size 0 [Value.slice ra m.regs.length rc, .slice ca m.comps.length cc, .slice (some ⟨b, off, none⟩) m.gates.length gc, .int .i64 m.depth] ∧ W.rangeAt b (off + i * 4) [Value.int .i64 gc', .int .i64 ge, .slice xa ar.length xc, .slice ya re.length yc]) := Hid.mk (fun W q => ⟨(BM.out.gr (G.out.trans q)).2.1 2, (BM.out.gr (G.out.trans q)).range, range4L (((gr_belowR (G.out.trans q) hB.out).cell (p := ⟨b, off + i * 4, none⟩) hb1).trans k0.out) (((gr_belowR (G.out.trans q) hB.out).cell (p := ⟨b, off + i * 4 + 1, none⟩) hb1).trans k1.out) (((gr_belowR (G.out.trans q) hB.out).cell (p := ⟨b, off + i * 4 + 1 + 1, none⟩) hb1).trans k2.out) (((gr_belowR (G.out.trans q) hB.out).cell (p := ⟨b, off + i * 4 + 1 + 1 + 1, none⟩) hb1).trans k3.out)⟩)
             have hcl := Hid.mk (fun (W : World) (q : Gr wr W) => show Calls Tryz.prog 39 #[.agg (List.toArray [Value.int .i64 gc', .int .i64 ge, .slice xa ar.length xc, .slice ya re.length yc]), .agg (List.toArray [Value.slice ra m.regs.length rc, .slice ca m.comps.length cc, .slice (some ⟨b, off, none⟩) m.gates.length gc, .int .i64 m.depth])] W _ from refGate_any gc' ge ar re xa ya xc yc m.comps ra ca (some ⟨b, off, none⟩) m.regs.length rc cc m.gates.length gc m.depth W ((kf.out.below (gr_belowR (G.out.trans q) hB.out)).mono (Nat.le_trans hB.out (G.out.trans q).below.size)) ((kl.out.below (gr_belowR (G.out.trans q) hB.out)).mono (Nat.le_trans hB.out (G.out.trans q).below.size)) ((hm.out.comps.below (gr_belowR (G.out.trans q) hB.out)).mono (Nat.le_trans hB.out (G.out.trans q).below.size)) hrr.out.2.2.2.2.1 hrr.out.2.2.2.2.2 hrr.out.2.2.1 hrr.out.2.2.2.1 hl2.out)
             go_upto_region 20 with fail
             have d1 : Gr wr wr.drew := (Gr.refl _).drew
             refine wp_region_held_drew (S := (fun W => W.cell? ⟨w.heap.size, 2, none⟩ = some (.slice (some ⟨b, off, none⟩) m.gates.length gc) ∧ W.rangeAt w.heap.size 0 [Value.slice ra m.regs.length rc, .slice ca m.comps.length cc, .slice (some ⟨b, off, none⟩) m.gates.length gc, .int .i64 m.depth] ∧ W.rangeAt b (off + i * 4) [Value.int .i64 gc', .int .i64 ge, .slice xa ar.length xc, .slice ya re.length yc])) (by kernel_rfl) (KS.out _ d1) (fun hHeld => ?_)
             refine xso 0 ?_ rfl ?_ (xso 1 ?_ rfl ?_ (xso 2 ?_ rfl ?_ (xso 3 ?_ rfl ?_ ?_)))
             iterate 4 (rotate_left; focus ((try simp only [xap]); intro w hSw; (try dsimp only at hSw); go_simp; first | done | with_reducible rfl))
             try simp only [xap]
             refine xtk 4 rfl (yieldsIf_load_mid (by rfl) _ _ rfl _ _ rfl _ _ (fun _ h => h.2.2) Tryz.underlying59 rfl (by kernel_rfl)) ?_
             try simp only [xap]
             refine xtk 5 rfl (yieldsIf_load_mid (by rfl) _ _ rfl _ _ rfl _ _ (fun _ h => h.2.1) Tryz.underlying26 rfl (by kernel_rfl)) ?_
             try simp only [xap]
             refine xrd 6 rfl (fun K hK => ?_)
             go_simp
             go_wp2_with ((go_at_call 39; refine (hcl.out _ (by (with_reducible repeat (first | assumption | exact Gr.refl _ | refine Gr.alloc ?_ _ | refine Gr.grow ?_ _ | refine Gr.drew ?_ | refine Gr.setCell ?_ _ _ _ (gr_size ?_))))).mono ?_; rintro x wq ⟨rfl, q9⟩; have d1 : Gr wr wq := Gr.trans (by (with_reducible repeat (first | assumption | exact Gr.refl _ | refine Gr.alloc ?_ _ | refine Gr.grow ?_ _ | refine Gr.drew ?_ | refine Gr.setCell ?_ _ _ _ (gr_size ?_)))) q9; clear q9))
             refine hK.out _ _ (KS.out _ d1) (fun hHeld => ?_)
             clear hK K
             try simp only [xap]
             refine xso 7 ?_ rfl ?_ ?_
             rotate_left
             · intro w hSw; (try dsimp only at hSw); go_simp; first | done | with_reducible rfl
             try simp only [xap]
             refine xdn ?_ _
             clear hHeld KS hcl
             replace G := Hid.mk (G.out.trans d1)
             clear d1
             clear k0 k1 k2 k3 kf kl hrr c2
             generalize gateE m.comps _ = E at *
             by_cases h9 : E = 0
             · subst h9
               replace hE := hE.out
               rw [if_pos rfl] at hE
               replace hE := Hid.mk hE
               go_wp2_with fail
               exact ⟨⟨i + 1, by go_num, by omega, hE, G⟩, by simp [intOf]; omega⟩
             · have h9b : (E == 0) = false := by simpa using h9
               go_wp2_with fail
               go_ret
               refine ⟨retI ?_, G0.out.trans G.out⟩
               rw [hz.out, if_pos hE1.out, if_pos hE2.out, hE.out, if_neg h9]
           · have hi1 : ¬ (i : Int) < (m.gates.length : Int) := by omega
             have ei : i = m.gates.length := by omega
             subst ei
             clear c2
             replace hE := Hid.mk hE
             have c2 : wr.cell? ⟨w.heap.size, 2, none⟩ = some (.slice ga m.gates.length gc) := (BM.out.gr G.out).2.1 2
             have hE3 := hE.out
             rw [List.drop_length] at hE3
             go_wp2_with fail
             go_ret
             refine ⟨retI ?_, G0.out.trans G.out⟩
             rw [hz.out, if_pos hE1.out, if_pos hE2.out, hE3]
             rfl
end Q
end Go.Proofs.YtdlcphinjnnhcaaGreatDoor


namespace Go.Proofs.YtdlcphinjnnhcaaGreatDoor
set_option maxRecDepth 100000
set_option maxHeartbeats 40000000
namespace Bd
open Go.RowKit
open T (Kp)
open F (boolA)

structure Gs (w : World) (bx : Array Value) (kd kr : Nat) (m : PImg) (F : Nat → Option Cst) (wr : World) : Prop where
 x : At wr w.heap.size bx
 y : At wr (w.heap.size + 1) #[.bool false, .int .u64 0, .int .u64 0, .int .u64 0]
 l : Ir .i64 wr kd m.gates.length (dpV m)
 c : Cr wr kr m.gates.length F
 b : Below w.heap.size w wr
section
variable {w : World} {bx : Array Value} {kd kr : Nat} {m : PImg} {F : Nat → Option Cst} {wr wr' : World}
theorem Gs.past (h : Gs w bx kd kr m F wr) (hb : Below wr.heap.size wr wr') : Gs w bx kd kr m F wr' :=
 ⟨at_past h.x hb, at_past h.y hb, h.l.below hb, h.c.keep (Kp.of_below (S := fun _ => False) hb) id, h.b.trans (hb.mono h.b.size)⟩
theorem Gs.put (h : Gs w bx kd kr m F wr) (h1 : w.heap.size + 1 < kr) (h2 : kd ≠ kr) {g : Nat} (hg : g < m.gates.length) (x : Option Cst) : Gs w bx kd kr m (fun q => if q = g then x else F q) (wr.setCells kr (g * 4) (cs4 x)) :=
 ⟨h.x.other (by omega) _ _, h.y.other (by omega) _ _, h.l.keep (kp_sets wr kr (cs4 x) (g * 4)) h2, h.c.put hg x, h.b.trans ((kp_sets wr kr (cs4 x) (g * 4)).below h.b.size (fun b q => by omega))⟩
def knD (c : Nat → Bool) (F : Nat → Option Cst) : Nat → Bool
 | 0 => true
 | h + 1 => knD c F h && (!c h || (F h).isSome)
theorem knD_true {c : Nat → Bool} : ∀ n, knD c F n = true → ∀ h, h < n → c h = true → (F h).isSome = true
 | 0, _, h, hh, _ => by omega
 | n + 1, e, h, hh, hc => by
   unfold knD at e
   rw [Bool.and_eq_true] at e
   by_cases q : h = n
   · subst q
     rw [hc] at e
     simpa using e.2
   · exact knD_true n e.1 h (by omega) hc
theorem knD_false {c : Nat → Bool} : ∀ n, knD c F n = false → ∃ h, h < n ∧ c h = true ∧ F h = none
 | 0, e => by cases e
 | n + 1, e => by
   unfold knD at e
   cases q : knD c F n with
   | false =>
     obtain ⟨h, h1, h2, h3⟩ := knD_false n q
     exact ⟨h, by omega, h2, h3⟩
   | true =>
     rw [q, Bool.true_and] at e
     cases hc : c n with
     | false => rw [hc] at e; cases e
     | true =>
       rw [hc] at e
       refine ⟨n, by omega, hc, ?_⟩
       cases hF : F n with
       | none => rfl
       | some v => rw [hF] at e; cases e
end
theorem gateD_any (m : PImg) (ra ca ga : Option Addr) (rc cc gc : Nat) (g : Int) (w : World) (hm : ImgIn w.heap.size w ra ca ga m) (hr : m.Rng) :
   Calls Tryz.prog 12 #[imA m ra rc ca cc ga gc, .int .i64 g] w fun e w' => e = .returned (gtV (if hgB m g = true then ev (nxG m) (ctF m) (List.range m.gates.length) g.toNat else none)) ∧ Below w.heap.size w w' := by
 have hR := Hz.mk (fun W (q : Below w.heap.size w W) => Q.refRight_any m ra ca ga rc cc gc W ((hm.below q).mono q.size) hr)
 have hD := Hz.mk (fun W (q : Below w.heap.size w W) (h0 : 0 < m.gates.length) (hok : BOk m) => depthsD_any m ra ca ga rc cc gc h0 hok W ((hm.below q).mono q.size))
 have hCa := Hz.mk (fun W g (q : Below w.heap.size w W) (hok : BOk m) (hg : g < m.gates.length) => callsD_any m ra ca ga rc cc gc g hg hok W ((hm.below q).mono q.size))
 have hWy := Hz.mk (fun W g F kr (q : Below w.heap.size w W) (hok : BOk m) (hg : g < m.gates.length) hF (hc : Cr W kr m.gates.length F) => wayD_any m ra ca ga rc cc gc g hg hok F hF kr W ((hm.below q).mono q.size) hc)
 have hok := Hz.mk (fun (h : m.right = 0) => bok_of m h)
 unfold imA hgB at *
 clear hm hr
 by_cases h1 : m.right = 0
 · by_cases h2 : 0 ≤ g
   · by_cases h3 : g < m.gates.length
     · have h4 : (decide (m.right = 0) && (decide (0 ≤ g) && decide (g < m.gates.length))) = true := by simp [h1, h2, h3]
       rw [if_pos h4]
       clear h4
       obtain ⟨gn, rfl⟩ : ∃ gn : Nat, g = (gn : Int) := ⟨g.toNat, by omega⟩
       have hgn : gn < m.gates.length := by omega
       have h0 : 0 < m.gates.length := by omega
       have hok := hok.out h1
       have hgl := hok.gl
       have hov := Hz.mk (fun F (h : Gw m F ((m.gates.length : Int) + 1) 0) => h.over hok hgn)
       have hst0 := Hz.mk (Gw.start hok)
       have hbd := Hz.mk (fun q (_ : q < m.gates.length) => (show -1 ≤ dpV m q ∧ dpV m q ≤ 16 from by
         unfold dpV
         cases e : ev (nxG m) dpF (List.range m.gates.length) q with
         | none => dsimp only; omega
         | some v =>
           have := evd_le _ (by rw [List.length_range]; omega) q v e
           rw [List.length_range] at this
           dsimp only
           omega))
       replace hok := Hz.mk hok
       rw [Int.toNat_natCast]
       rw [h1] at hR
       replace h1 := Hz.mk h1
       generalize hres : ev (nxG m) (ctF m) (List.range m.gates.length) gn = res at *
       replace hres := Hz.mk hres
       clear h2
       go_enter Tryz.func12, Tryz.ntmps12
       go_upto_region 1 with fail
       refine wp_world (fun W => At W w.heap.size #[.slice ra m.regs.length rc, .slice ca m.comps.length cc, .slice ga m.gates.length gc, .int .i64 m.depth] ∧ At W (w.heap.size + 1) #[.bool false, .int .u64 0, .int .u64 0, .int .u64 0] ∧ Below w.heap.size w W) ⟨at_past (At.new w _ _) (bl_alloc _ _), At.next w _ _ _, (bl_alloc _ _).trans ((bl_alloc _ _).mono (by simp))⟩ ?_
       rintro W ⟨A0, B0, hB⟩
       have k0 : W.cell? ⟨w.heap.size, 0, none⟩ = some (.slice ra m.regs.length rc) := A0.2.1 0
       have k1 : W.cell? ⟨w.heap.size, 1, none⟩ = some (.slice ca m.comps.length cc) := A0.2.1 1
       have k2 : W.cell? ⟨w.heap.size, 2, none⟩ = some (.slice ga m.gates.length gc) := A0.2.1 2
       have k3 : W.cell? ⟨w.heap.size, 3, none⟩ = some (.int .i64 m.depth) := A0.2.1 3
       replace A0 := Hz.mk A0
       replace B0 := Hz.mk B0
       have hWs := hB.size
       replace hB := Hz.mk hB
       go_upto_region 2 with (go_at_call 22; refine (hR.out _ hB.out).mono ?_; rintro r W1 ⟨rfl, g1⟩; have b1 := Hz.mk g1.below; clear g1)
       have hB1 := Hz.mk (hB.out.trans (b1.out.mono hWs))
       have A1 := Hz.mk (at_past A0.out b1.out)
       have B1 := Hz.mk (at_past B0.out b1.out)
       have hlt1 := B1.out.1
       clear k0 k1 k2 k3 hR
       have k0 : W1.cell? ⟨w.heap.size, 0, none⟩ = some (.slice ra m.regs.length rc) := A1.out.2.1 0
       have k1 : W1.cell? ⟨w.heap.size, 1, none⟩ = some (.slice ca m.comps.length cc) := A1.out.2.1 1
       have k2 : W1.cell? ⟨w.heap.size, 2, none⟩ = some (.slice ga m.gates.length gc) := A1.out.2.1 2
       have k3 : W1.cell? ⟨w.heap.size, 3, none⟩ = some (.int .i64 m.depth) := A1.out.2.1 3
       clear A0 B0 hB b1
       have hmk := make_costs m.gates.length (by omega)
       have hzc : (Value.cells (.agg #[.bool false, .int .u64 0, .int .u64 0, .int .u64 0])) = #[.bool false, .int .u64 0, .int .u64 0, .int .u64 0] := by kernel_rfl
       go_upto_region 5 with (go_at_call 23; refine (hD.out _ hB1.out h0 hok.out).mono ?_; rintro r W2 ⟨kd, cap, rfl, hkd, I2, b2⟩; replace I2 := Hz.mk I2; replace b2 := Hz.mk b2)
       clear k0 k1 k2 k3
       have A2 := Hz.mk (at_past A1.out b2.out)
       have B2 := Hz.mk (at_past B1.out b2.out)
       have hB2 := Hz.mk (hB1.out.trans (b2.out.mono hB1.out.size))
       have k2 : W2.cell? ⟨w.heap.size, 2, none⟩ = some (.slice ga m.gates.length gc) := A2.out.2.1 2
       have hk1 := I2.out.lt
       have hk2 := B2.out.1
       have hl2 := A2.out.1
       clear A1 B1 hB1 b2 hkd
       go_upto_region 6 with fail
       refine wp_world (fun X => Cr X W2.heap.size m.gates.length (fun _ => none) ∧ Below W2.heap.size W2 X) ⟨by first | exact Cr.new W2 _ _ | (rw [← hzc]; exact Cr.new W2 _ _), bl_alloc _ _⟩ ?_
       rintro X ⟨cr0, bX⟩
       have st : Hz (Gs w #[.slice ra m.regs.length rc, .slice ca m.comps.length cc, .slice ga m.gates.length gc, .int .i64 m.depth] kd W2.heap.size m (fun _ => none) X ∧ Gw m (fun _ => none) ((0 : Nat) : Int) 0) := Hz.mk ⟨⟨at_past A2.out bX, at_past B2.out bX, I2.out.below bX, cr0, hB2.out.trans (bX.mono hB2.out.size)⟩, hst0.out⟩
       clear A2 B2 I2 hB2 cr0 bX k2 hmk hzc hst0 hlt1
       generalize W2.heap.size = kr at *
       have hne : kd ≠ kr := by omega
       go_upto_region 7 with fail
       go_loopw [8] (fun iv wr => ∃ (n : Nat) (F : Nat → Option Cst), iv = .int .i64 n ∧ n ≤ m.gates.length + 1 ∧ Hz (Gs w #[.slice ra m.regs.length rc, .slice ca m.comps.length cc, .slice ga m.gates.length gc, .int .i64 m.depth] kd kr m F wr ∧ Gw m F n 0)) (fun iv _ => m.gates.length + 1 - (intOf iv).toNat)
       case atStart => exact ⟨0, _, rfl, by omega, st⟩
       case round =>
         clear st
         obtain ⟨n, F, rfl, hn, ⟨G, V⟩⟩ := hrel
         have k2 : wr.cell? ⟨w.heap.size, 2, none⟩ = some (.slice ga m.gates.length gc) := G.x.2.1 2
         by_cases hnl : n ≤ m.gates.length
         · have hn1 : ¬ (m.gates.length : Int) < n := by omega
           have hn2 : (n : Int) ≤ m.gates.length := by omega
           have nw : Hz (wrap64 ((n : Int) + 1) = (n : Int) + 1) := Hz.mk (by unfold wrap64; omega)
           have nx : Hz (IntKind.i64.wrap ((n : Int) + 1) = (n : Int) + 1) := Hz.mk (by rw [IntKind.wrap_i64]; omega)
           have nu : Hz (IntKind.u64.wrap (n : Int) = n) := Hz.mk (wrapU _ (by omega))
           have sG : Hz (Gs w #[.slice ra m.regs.length rc, .slice ca m.comps.length cc, .slice ga m.gates.length gc, .int .i64 m.depth] kd kr m F wr ∧ Gw m F n 0) := Hz.mk ⟨G, V⟩
           replace G := Hz.mk G
           replace V := Hz.mk V
           go_upto_region 10 with fail
           clear k2
           go_loopw [9] (fun iv wr => ∃ (g : Nat) (F : Nat → Option Cst), iv = .int .i64 g ∧ g ≤ m.gates.length ∧ Hz (Gs w #[.slice ra m.regs.length rc, .slice ca m.comps.length cc, .slice ga m.gates.length gc, .int .i64 m.depth] kd kr m F wr ∧ Gw m F n g)) (fun iv _ => m.gates.length - (intOf iv).toNat)
           case atStart => exact ⟨0, _, rfl, by omega, sG⟩
           case round =>
             clear sG G V
             obtain ⟨g, F, rfl, hg, ⟨G, V⟩⟩ := hrel
             obtain ⟨k0, k1, k2, k3⟩ : wr.cell? ⟨w.heap.size, 0, none⟩ = some (.slice ra m.regs.length rc) ∧ wr.cell? ⟨w.heap.size, 1, none⟩ = some (.slice ca m.comps.length cc) ∧ wr.cell? ⟨w.heap.size, 2, none⟩ = some (.slice ga m.gates.length gc) ∧ wr.cell? ⟨w.heap.size, 3, none⟩ = some (.int .i64 m.depth) := ⟨G.x.2.1 0, G.x.2.1 1, G.x.2.1 2, G.x.2.1 3⟩
             by_cases hgl2 : g < m.gates.length
             · have hg1 : (g : Int) < m.gates.length := by omega
               have gw : Hz (wrap64 ((g : Int) + 1) = (g : Int) + 1) := Hz.mk (by unfold wrap64; omega)
               have gx : Hz (IntKind.i64.wrap ((g : Int) + 1) = (g : Int) + 1) := Hz.mk (by rw [IntKind.wrap_i64]; omega)
               have zd := G.l.c g hgl2
               have zk := G.l.lt
               by_cases hd : dpV m g = n
               · have hd1 : ((n : Int) != (n : Int)) = false := by simp
                 rw [hd] at zd
                 have hcl := Hz.mk (hCa.out wr g G.b hok.out hgl2)
                 replace hd := Hz.mk hd
                 replace G := Hz.mk G
                 replace V := Hz.mk V
                 go_upto_region 14 with (go_at_call 30; refine hcl.out.mono ?_; rintro r w5 ⟨gb, rfl, hgb, aB, b5⟩; replace aB := Hz.mk aB; replace b5 := Hz.mk b5)
                 have G5 := Hz.mk (G.out.past b5.out)
                 clear k0 k1 k2 k3 G b5 hcl zd zk
                 generalize hcF : (fun h => decide (h ∈ nxG m g)) = c at *
                 replace hcF := Hz.mk hcF
                 go_upto_region 16 with fail
                 go_loopw [11, 12] (fun kv x wx => ∃ h : Nat, kv = .bool (knD c F h) ∧ x = .int .i64 h ∧ h ≤ m.gates.length ∧ w5 = wx) (fun _ x _ => m.gates.length - (intOf x).toNat)
                 case atStart => exact ⟨0, rfl, rfl, by omega, rfl⟩
                 case round =>
                   obtain ⟨h, rfl, rfl, hh, hwx⟩ := hrel
                   subst hwx
                   by_cases hhl : h < m.gates.length
                   · have hh1 : (h : Int) < m.gates.length := by omega
                     have zc := bool_at aB.out h hhl
                     have zl := aB.out.1
                     have zkn : w5.cell? ⟨kr, h * 4, none⟩ = some (.bool (F h).isSome) := by
                       have := G5.out.c.c h hhl 0 (by omega)
                       rw [Nat.add_zero] at this
                       rw [this]
                       cases F h <;> rfl
                     have zr := G5.out.c.lt
                     have hs : knD c F (h + 1) = (knD c F h && (!c h || (F h).isSome)) := rfl
                     cases hc : c h with
                     | false =>
                       rw [hc] at zc hs
                       rw [Bool.not_false, Bool.true_or, Bool.and_true] at hs
                       replace hs := Hz.mk hs
                       replace hc := Hz.mk hc
                       cases hkk : knD c F h with
                       | true =>
                         rw [hkk] at hs
                         go_wp2_with fail
                         go_roundw
                         all_goals first | exact ⟨h + 1, by rw [hs.out], by first | rfl | simp, by omega, by trivial⟩ | (simp only [intOf]; omega)
                       | false =>
                         rw [hkk] at hs
                         go_wp2_with fail
                         go_roundw
                         all_goals first | exact ⟨h + 1, by rw [hs.out], by first | rfl | simp, by omega, by trivial⟩ | (simp only [intOf]; omega)
                     | true =>
                       rw [hc] at zc hs
                       rw [Bool.not_true, Bool.false_or] at hs
                       replace hs := Hz.mk hs
                       replace hc := Hz.mk hc
                       cases hkk : knD c F h with
                       | true =>
                         rw [hkk] at hs
                         generalize (F h).isSome = fs at *
                         go_wp2_with fail
                         go_roundw
                         all_goals first | exact ⟨h + 1, by rw [hs.out, Bool.true_and], by first | rfl | simp, by omega, by trivial⟩ | (simp only [intOf]; omega)
                       | false =>
                         rw [hkk] at hs
                         generalize (F h).isSome = fs at *
                         go_wp2_with fail
                         go_roundw
                         all_goals first | exact ⟨h + 1, by rw [hs.out, Bool.false_and], by first | rfl | simp, by omega, by trivial⟩ | (simp only [intOf]; omega)
                   · have hh1 : ¬ (h : Int) < m.gates.length := by omega
                     have eh : h = m.gates.length := by omega
                     subst eh
                     clear hhl
                     obtain ⟨k0, k1, k2, k3⟩ : w5.cell? ⟨w.heap.size, 0, none⟩ = some (.slice ra m.regs.length rc) ∧ w5.cell? ⟨w.heap.size, 1, none⟩ = some (.slice ca m.comps.length cc) ∧ w5.cell? ⟨w.heap.size, 2, none⟩ = some (.slice ga m.gates.length gc) ∧ w5.cell? ⟨w.heap.size, 3, none⟩ = some (.int .i64 m.depth) := ⟨G5.out.x.2.1 0, G5.out.x.2.1 1, G5.out.x.2.1 2, G5.out.x.2.1 3⟩
                     have hcl := Hz.mk (hWy.out w5 g F kr G5.out.b hok.out hgl2 V.out.fair G5.out.c)
                     go_upto_region 20 with (go_at_call 31; refine hcl.out.mono ?_; rintro r w6 ⟨s, i, ok, rfl, hwr, b6⟩; replace hwr := Hz.mk hwr; replace b6 := Hz.mk b6)
                     have G6 := Hz.mk (G5.out.past b6.out)
                     clear k0 k1 k2 k3 G5 b6 hcl aB
                     obtain ⟨en, ee, _, _⟩ := entry_rch hok.out hgl2
                     replace gw := gw.out
                     replace gx := gx.out
                     cases hkk : knD c F m.gates.length with
                     | false =>
                       have hmiss : ev (nxG m) (ctF m) (List.range m.gates.length) g = none := by
                         obtain ⟨x, x1, x2, x3⟩ := knD_false _ hkk
                         rw [← hcF.out] at x2
                         exact V.out.miss hok.out hgl2 hd.out ⟨x, by simpa using x2, x3⟩
                       have hnew : Hz (Gs w #[.slice ra m.regs.length rc, .slice ca m.comps.length cc, .slice ga m.gates.length gc, .int .i64 m.depth] kd kr m F w6 ∧ Gw m F n (g + 1)) := Hz.mk ⟨G6.out, V.out.noth hmiss⟩
                       clear hmiss ee
                       go_wp2_with fail
                       clear gw gx
                       go_roundw
                       all_goals first | exact ⟨g + 1, _, by first | rfl | simp, by omega, hnew⟩ | (simp only [intOf]; omega)
                     | true =>
                       have hfd := V.out.find hok.out hgl2 hd.out (fun x hx => knD_true _ hkk x (List.mem_range.1 (nxG_in hok.out g (List.mem_range.2 hgl2) x hx)) (by rw [← hcF.out]; simpa using hx)) (e := en) ee (by have := hwr.out; rw [ee, Int.toNat_natCast] at this; exact this)
                       clear ee
                       cases ok with
                       | false =>
                         rw [if_neg (by simp)] at hfd
                         have hnew : Hz (Gs w #[.slice ra m.regs.length rc, .slice ca m.comps.length cc, .slice ga m.gates.length gc, .int .i64 m.depth] kd kr m F w6 ∧ Gw m F n (g + 1)) := Hz.mk ⟨G6.out, V.out.noth hfd⟩
                         replace hfd := Hz.mk hfd
                         go_wp2_with fail
                         clear gw gx
                         go_roundw
                         all_goals first | exact ⟨g + 1, _, by first | rfl | simp, by omega, hnew⟩ | (simp only [intOf]; omega)
                       | true =>
                         by_cases hs : s < 1099511627777
                         · rw [if_pos ⟨rfl, hs⟩] at hfd
                           have hnew : Hz (Gs w #[.slice ra m.regs.length rc, .slice ca m.comps.length cc, .slice ga m.gates.length gc, .int .i64 m.depth] kd kr m (fun q => if q = g then some ⟨s, n, i⟩ else F q) (w6.setCells kr (g * 4) (cs4 (some ⟨s, n, i⟩))) ∧ Gw m (fun q => if q = g then some ⟨s, n, i⟩ else F q) n (g + 1)) := Hz.mk ⟨G6.out.put hk2 hne hgl2 _, V.out.put hok.out hgl2 hfd⟩
                           have hcc := G6.out.c
                           have P0 : ∃ v, w6.cell? ⟨kr, g * 4, none⟩ = some v := by
                             have := hcc.c g hgl2 0 (by omega)
                             rw [Nat.add_zero] at this
                             rw [this]
                             cases F g <;> exact ⟨_, rfl⟩
                           have P1 : ∃ v, w6.cell? ⟨kr, g * 4 + 1, none⟩ = some v := by
                             rw [hcc.c g hgl2 1 (by omega)]
                             cases F g <;> exact ⟨_, rfl⟩
                           have P2 : ∃ v, w6.cell? ⟨kr, g * 4 + 1 + 1, none⟩ = some v := by
                             rw [show g * 4 + 1 + 1 = g * 4 + 2 by omega, hcc.c g hgl2 2 (by omega)]
                             cases F g <;> exact ⟨_, rfl⟩
                           have P3 : ∃ v, w6.cell? ⟨kr, g * 4 + 1 + 1 + 1, none⟩ = some v := by
                             rw [show g * 4 + 1 + 1 + 1 = g * 4 + 3 by omega, hcc.c g hgl2 3 (by omega)]
                             cases F g <;> exact ⟨_, rfl⟩
                           obtain ⟨v0, P0⟩ := P0
                           obtain ⟨v1, P1⟩ := P1
                           obtain ⟨v2, P2⟩ := P2
                           obtain ⟨v3, P3⟩ := P3
                           have zf := hcc.fr
                           have zr := hcc.lt
                           replace hcc := Hz.mk hcc
                           replace hfd := Hz.mk hfd
                           replace nu := nu.out
                           go_wp2_with fail
                           clear gw gx
                           go_roundw
                           all_goals first | exact ⟨g + 1, _, by first | rfl | simp, by omega, hnew⟩ | (simp only [intOf]; omega)
                         · rw [if_neg (fun q => hs q.2)] at hfd
                           have hs2 : (1099511627777 : Int) ≤ s := by omega
                           have hnew : Hz (Gs w #[.slice ra m.regs.length rc, .slice ca m.comps.length cc, .slice ga m.gates.length gc, .int .i64 m.depth] kd kr m F w6 ∧ Gw m F n (g + 1)) := Hz.mk ⟨G6.out, V.out.noth hfd⟩
                           replace hfd := Hz.mk hfd
                           go_wp2_with fail
                           clear gw gx
                           go_roundw
                           all_goals first | exact ⟨g + 1, _, by first | rfl | simp, by omega, hnew⟩ | (simp only [intOf]; omega)
               · have hd1 : (dpV m g != (n : Int)) = true := by simpa using hd
                 have hnew : Hz (Gs w #[.slice ra m.regs.length rc, .slice ca m.comps.length cc, .slice ga m.gates.length gc, .int .i64 m.depth] kd kr m F wr ∧ Gw m F n (g + 1)) := Hz.mk ⟨G, V.skip hok.out hgl2 hd⟩
                 generalize dpV m g = dv at *
                 replace G := Hz.mk G
                 replace V := Hz.mk V
                 replace gw := gw.out
                 replace gx := gx.out
                 clear hd
                 go_wp2_with fail
                 clear gw gx
                 go_roundw
                 all_goals first | exact ⟨g + 1, _, by first | rfl | simp, by omega, hnew⟩ | (simp only [intOf]; omega)
             · have hg1 : ¬ (g : Int) < m.gates.length := by omega
               have eg : g = m.gates.length := by omega
               subst eg
               have hnew : Hz (Gs w #[.slice ra m.regs.length rc, .slice ca m.comps.length cc, .slice ga m.gates.length gc, .int .i64 m.depth] kd kr m F wr ∧ Gw m F ((n + 1 : Nat) : Int) 0) := Hz.mk ⟨G, by have := V.row; rwa [show ((n + 1 : Nat) : Int) = (n : Int) + 1 by omega]⟩
               replace G := Hz.mk G
               replace V := Hz.mk V
               replace nw := nw.out
               replace nx := nx.out
               go_wp2_with fail
               clear nw nx
               go_roundw
               all_goals first | exact ⟨n + 1, _, by first | rfl | simp, by omega, hnew⟩ | (simp only [intOf]; omega)
         · have hn1 : (m.gates.length : Int) < n := by omega
           have hn2 : ¬ (n : Int) ≤ m.gates.length := by omega
           have en : n = m.gates.length + 1 := by omega
           subst en
           have hFq : F gn = res := by
             have := hov.out F (by have := V; rwa [show ((m.gates.length + 1 : Nat) : Int) = (m.gates.length : Int) + 1 by omega] at this)
             exact this
           clear hov
           have cr := G.c
           replace V := Hz.mk V
           have hi1 : (gn : Int) < m.gates.length := by omega
           cases res with
           | some v =>
             have P0 : wr.cell? ⟨kr, gn * 4, none⟩ = some (.bool true) := by have := cr.c gn hgn 0 (by omega); rw [Nat.add_zero] at this; rw [this, hFq]; rfl
             have P1 : wr.cell? ⟨kr, gn * 4 + 1, none⟩ = some (.int .u64 v.s) := by rw [cr.c gn hgn 1 (by omega), hFq]; rfl
             have P2 : wr.cell? ⟨kr, gn * 4 + 1 + 1, none⟩ = some (.int .u64 v.c) := by rw [show gn * 4 + 1 + 1 = gn * 4 + 2 by omega, cr.c gn hgn 2 (by omega), hFq]; rfl
             have P3 : wr.cell? ⟨kr, gn * 4 + 1 + 1 + 1, none⟩ = some (.int .u64 v.i) := by rw [show gn * 4 + 1 + 1 + 1 = gn * 4 + 3 by omega, cr.c gn hgn 3 (by omega), hFq]; rfl
             have P2' : wr.cell? ⟨kr, gn * 4 + 2, none⟩ = some (.int .u64 v.c) := P2
             have P3' : wr.cell? ⟨kr, gn * 4 + 3, none⟩ = some (.int .u64 v.i) := P3
             have hkl := cr.lt
             have ⟨zl, zp, zf⟩ := G.y
             have hfin := Hz.mk (At.setAll (cs := [Value.bool false, .int .u64 0, .int .u64 0, .int .u64 0]) G.y [Value.bool true, .int .u64 v.s, .int .u64 v.c, .int .u64 v.i] rfl)
             have hkf := Hz.mk ((kp_sets wr (w.heap.size + 1) [Value.bool true, .int .u64 v.s, .int .u64 v.c, .int .u64 v.i] 0).below (B := w.heap.size) (by omega) (fun k q => by omega))
             have hBX := Hz.mk G.b
             replace G := Hz.mk G
             replace cr := Hz.mk cr
             replace hFq := Hz.mk hFq
             go_wp2_with fail
             have ⟨_, q4, _⟩ := hfin.out
             simp only [World.setCells] at q4
             refine bodyPost_ret (v := .agg #[.bool true, .int .u64 v.s, .int .u64 v.c, .int .u64 v.i]) (by simp [results, Tryz.results12, go_sem, q4]) rfl ?_
             exact ⟨rfl, hBX.out.trans hkf.out⟩
           | none =>
             have P0 : wr.cell? ⟨kr, gn * 4, none⟩ = some (.bool false) := by have := cr.c gn hgn 0 (by omega); rw [Nat.add_zero] at this; rw [this, hFq]; rfl
             have P1 : wr.cell? ⟨kr, gn * 4 + 1, none⟩ = some (.int .u64 0) := by rw [cr.c gn hgn 1 (by omega), hFq]; rfl
             have P2 : wr.cell? ⟨kr, gn * 4 + 1 + 1, none⟩ = some (.int .u64 0) := by rw [show gn * 4 + 1 + 1 = gn * 4 + 2 by omega, cr.c gn hgn 2 (by omega), hFq]; rfl
             have P3 : wr.cell? ⟨kr, gn * 4 + 1 + 1 + 1, none⟩ = some (.int .u64 0) := by rw [show gn * 4 + 1 + 1 + 1 = gn * 4 + 3 by omega, cr.c gn hgn 3 (by omega), hFq]; rfl
             have P2' : wr.cell? ⟨kr, gn * 4 + 2, none⟩ = some (.int .u64 0) := P2
             have P3' : wr.cell? ⟨kr, gn * 4 + 3, none⟩ = some (.int .u64 0) := P3
             have hkl := cr.lt
             have ⟨zl, zp, zf⟩ := G.y
             have hfin := Hz.mk (At.setAll (cs := [Value.bool false, .int .u64 0, .int .u64 0, .int .u64 0]) G.y [Value.bool false, .int .u64 0, .int .u64 0, .int .u64 0] rfl)
             have hkf := Hz.mk ((kp_sets wr (w.heap.size + 1) [Value.bool false, .int .u64 0, .int .u64 0, .int .u64 0] 0).below (B := w.heap.size) (by omega) (fun k q => by omega))
             have hBX := Hz.mk G.b
             replace G := Hz.mk G
             replace cr := Hz.mk cr
             replace hFq := Hz.mk hFq
             go_wp2_with fail
             have ⟨_, q4, _⟩ := hfin.out
             simp only [World.setCells] at q4
             refine bodyPost_ret (v := .agg #[.bool false, .int .u64 0, .int .u64 0, .int .u64 0]) (by simp [results, Tryz.results12, go_sem, q4]) rfl ?_
             exact ⟨rfl, hBX.out.trans hkf.out⟩
     · have h4 : (decide (m.right = 0) && (decide (0 ≤ g) && decide (g < m.gates.length))) = false := by simp [h3]
       rw [if_neg (by rw [h4]; simp)]
       clear h4
       have h3' : (m.gates.length : Int) ≤ g := by omega
       rw [h1] at hR
       replace h1 := Hz.mk h1
       go_enter Tryz.func12, Tryz.ntmps12
       go_upto_region 1 with fail
       refine wp_world (fun W => At W w.heap.size #[.slice ra m.regs.length rc, .slice ca m.comps.length cc, .slice ga m.gates.length gc, .int .i64 m.depth] ∧ At W (w.heap.size + 1) #[.bool false, .int .u64 0, .int .u64 0, .int .u64 0] ∧ Below w.heap.size w W) ⟨at_past (At.new w _ _) (bl_alloc _ _), At.next w _ _ _, (bl_alloc _ _).trans ((bl_alloc _ _).mono (by simp))⟩ ?_
       rintro W ⟨A0, B0, hB⟩
       have k0 : W.cell? ⟨w.heap.size, 0, none⟩ = some (.slice ra m.regs.length rc) := A0.2.1 0
       have k1 : W.cell? ⟨w.heap.size, 1, none⟩ = some (.slice ca m.comps.length cc) := A0.2.1 1
       have k2 : W.cell? ⟨w.heap.size, 2, none⟩ = some (.slice ga m.gates.length gc) := A0.2.1 2
       have k3 : W.cell? ⟨w.heap.size, 3, none⟩ = some (.int .i64 m.depth) := A0.2.1 3
       replace A0 := Hz.mk A0
       replace B0 := Hz.mk B0
       have hWs := hB.size
       replace hB := Hz.mk hB
       go_upto_region 2 with (go_at_call 22; refine (hR.out _ hB.out).mono ?_; rintro r W1 ⟨rfl, g1⟩; have b1 := Hz.mk g1.below; clear g1)
       have hB1 := Hz.mk (hB.out.trans (b1.out.mono hWs))
       have A1 := Hz.mk (at_past A0.out b1.out)
       have B1 := Hz.mk (at_past B0.out b1.out)
       have hlt1 := B1.out.1
       clear k0 k1 k2 k3 hR
       have k0 : W1.cell? ⟨w.heap.size, 0, none⟩ = some (.slice ra m.regs.length rc) := A1.out.2.1 0
       have k1 : W1.cell? ⟨w.heap.size, 1, none⟩ = some (.slice ca m.comps.length cc) := A1.out.2.1 1
       have k2 : W1.cell? ⟨w.heap.size, 2, none⟩ = some (.slice ga m.gates.length gc) := A1.out.2.1 2
       have k3 : W1.cell? ⟨w.heap.size, 3, none⟩ = some (.int .i64 m.depth) := A1.out.2.1 3
       clear A0 B0 hB b1
       have ⟨zl, zp, zf⟩ := B1.out
       have hfin := Hz.mk (At.setAll (cs := [Value.bool false, .int .u64 0, .int .u64 0, .int .u64 0]) B1.out [Value.bool false, .int .u64 0, .int .u64 0, .int .u64 0] rfl)
       have hkf := Hz.mk ((kp_sets W1 (w.heap.size + 1) [Value.bool false, .int .u64 0, .int .u64 0, .int .u64 0] 0).below (B := w.heap.size) (by omega) (fun k q => by omega))
       clear B1
       go_wp2_with fail
       have ⟨_, q4, _⟩ := hfin.out
       simp only [World.setCells] at q4
       refine bodyPost_ret (v := .agg #[.bool false, .int .u64 0, .int .u64 0, .int .u64 0]) (by simp [results, Tryz.results12, go_sem, q4]) rfl ?_
       exact ⟨rfl, hB1.out.trans hkf.out⟩
   · have h4 : (decide (m.right = 0) && (decide (0 ≤ g) && decide (g < m.gates.length))) = false := by simp [h2]
     rw [if_neg (by rw [h4]; simp)]
     clear h4
     have h2' : g < 0 := by omega
     rw [h1] at hR
     replace h1 := Hz.mk h1
     go_enter Tryz.func12, Tryz.ntmps12
     go_upto_region 1 with fail
     refine wp_world (fun W => At W w.heap.size #[.slice ra m.regs.length rc, .slice ca m.comps.length cc, .slice ga m.gates.length gc, .int .i64 m.depth] ∧ At W (w.heap.size + 1) #[.bool false, .int .u64 0, .int .u64 0, .int .u64 0] ∧ Below w.heap.size w W) ⟨at_past (At.new w _ _) (bl_alloc _ _), At.next w _ _ _, (bl_alloc _ _).trans ((bl_alloc _ _).mono (by simp))⟩ ?_
     rintro W ⟨A0, B0, hB⟩
     have k0 : W.cell? ⟨w.heap.size, 0, none⟩ = some (.slice ra m.regs.length rc) := A0.2.1 0
     have k1 : W.cell? ⟨w.heap.size, 1, none⟩ = some (.slice ca m.comps.length cc) := A0.2.1 1
     have k2 : W.cell? ⟨w.heap.size, 2, none⟩ = some (.slice ga m.gates.length gc) := A0.2.1 2
     have k3 : W.cell? ⟨w.heap.size, 3, none⟩ = some (.int .i64 m.depth) := A0.2.1 3
     replace A0 := Hz.mk A0
     replace B0 := Hz.mk B0
     have hWs := hB.size
     replace hB := Hz.mk hB
     go_upto_region 2 with (go_at_call 22; refine (hR.out _ hB.out).mono ?_; rintro r W1 ⟨rfl, g1⟩; have b1 := Hz.mk g1.below; clear g1)
     have hB1 := Hz.mk (hB.out.trans (b1.out.mono hWs))
     have A1 := Hz.mk (at_past A0.out b1.out)
     have B1 := Hz.mk (at_past B0.out b1.out)
     have hlt1 := B1.out.1
     clear k0 k1 k2 k3 hR
     have k0 : W1.cell? ⟨w.heap.size, 0, none⟩ = some (.slice ra m.regs.length rc) := A1.out.2.1 0
     have k1 : W1.cell? ⟨w.heap.size, 1, none⟩ = some (.slice ca m.comps.length cc) := A1.out.2.1 1
     have k2 : W1.cell? ⟨w.heap.size, 2, none⟩ = some (.slice ga m.gates.length gc) := A1.out.2.1 2
     have k3 : W1.cell? ⟨w.heap.size, 3, none⟩ = some (.int .i64 m.depth) := A1.out.2.1 3
     clear A0 B0 hB b1
     have ⟨zl, zp, zf⟩ := B1.out
     have hfin := Hz.mk (At.setAll (cs := [Value.bool false, .int .u64 0, .int .u64 0, .int .u64 0]) B1.out [Value.bool false, .int .u64 0, .int .u64 0, .int .u64 0] rfl)
     have hkf := Hz.mk ((kp_sets W1 (w.heap.size + 1) [Value.bool false, .int .u64 0, .int .u64 0, .int .u64 0] 0).below (B := w.heap.size) (by omega) (fun k q => by omega))
     clear B1
     go_wp2_with fail
     have ⟨_, q4, _⟩ := hfin.out
     simp only [World.setCells] at q4
     refine bodyPost_ret (v := .agg #[.bool false, .int .u64 0, .int .u64 0, .int .u64 0]) (by simp [results, Tryz.results12, go_sem, q4]) rfl ?_
     exact ⟨rfl, hB1.out.trans hkf.out⟩
 · have h4 : (decide (m.right = 0) && (decide (0 ≤ g) && decide (g < m.gates.length))) = false := by simp [h1]
   rw [if_neg (by rw [h4]; simp)]
   clear h4
   have h1' : (m.right != 0) = true := by simpa using h1
   generalize m.right = mr at *
   go_enter Tryz.func12, Tryz.ntmps12
   go_upto_region 1 with fail
   refine wp_world (fun W => At W w.heap.size #[.slice ra m.regs.length rc, .slice ca m.comps.length cc, .slice ga m.gates.length gc, .int .i64 m.depth] ∧ At W (w.heap.size + 1) #[.bool false, .int .u64 0, .int .u64 0, .int .u64 0] ∧ Below w.heap.size w W) ⟨at_past (At.new w _ _) (bl_alloc _ _), At.next w _ _ _, (bl_alloc _ _).trans ((bl_alloc _ _).mono (by simp))⟩ ?_
   rintro W ⟨A0, B0, hB⟩
   have k0 : W.cell? ⟨w.heap.size, 0, none⟩ = some (.slice ra m.regs.length rc) := A0.2.1 0
   have k1 : W.cell? ⟨w.heap.size, 1, none⟩ = some (.slice ca m.comps.length cc) := A0.2.1 1
   have k2 : W.cell? ⟨w.heap.size, 2, none⟩ = some (.slice ga m.gates.length gc) := A0.2.1 2
   have k3 : W.cell? ⟨w.heap.size, 3, none⟩ = some (.int .i64 m.depth) := A0.2.1 3
   replace A0 := Hz.mk A0
   replace B0 := Hz.mk B0
   have hWs := hB.size
   replace hB := Hz.mk hB
   go_upto_region 2 with (go_at_call 22; refine (hR.out _ hB.out).mono ?_; rintro r W1 ⟨rfl, g1⟩; have b1 := Hz.mk g1.below; clear g1)
   have hB1 := Hz.mk (hB.out.trans (b1.out.mono hWs))
   have A1 := Hz.mk (at_past A0.out b1.out)
   have B1 := Hz.mk (at_past B0.out b1.out)
   have hlt1 := B1.out.1
   clear k0 k1 k2 k3 hR
   have k0 : W1.cell? ⟨w.heap.size, 0, none⟩ = some (.slice ra m.regs.length rc) := A1.out.2.1 0
   have k1 : W1.cell? ⟨w.heap.size, 1, none⟩ = some (.slice ca m.comps.length cc) := A1.out.2.1 1
   have k2 : W1.cell? ⟨w.heap.size, 2, none⟩ = some (.slice ga m.gates.length gc) := A1.out.2.1 2
   have k3 : W1.cell? ⟨w.heap.size, 3, none⟩ = some (.int .i64 m.depth) := A1.out.2.1 3
   clear A0 B0 hB b1
   have ⟨zl, zp, zf⟩ := B1.out
   have hfin := Hz.mk (At.setAll (cs := [Value.bool false, .int .u64 0, .int .u64 0, .int .u64 0]) B1.out [Value.bool false, .int .u64 0, .int .u64 0, .int .u64 0] rfl)
   have hkf := Hz.mk ((kp_sets W1 (w.heap.size + 1) [Value.bool false, .int .u64 0, .int .u64 0, .int .u64 0] 0).below (B := w.heap.size) (by omega) (fun k q => by omega))
   clear B1
   go_wp2_with fail
   have ⟨_, q4, _⟩ := hfin.out
   simp only [World.setCells] at q4
   refine bodyPost_ret (v := .agg #[.bool false, .int .u64 0, .int .u64 0, .int .u64 0]) (by simp [results, Tryz.results12, go_sem, q4]) rfl ?_
   exact ⟨rfl, hB1.out.trans hkf.out⟩
end Bd
end Go.Proofs.YtdlcphinjnnhcaaGreatDoor


namespace Go.Proofs.YtdlcphinjnnhcaaGreatDoor
set_option maxRecDepth 100000
set_option maxHeartbeats 40000000
namespace Q
open Go.RowKit

def rgMk (_ : World) (v : RgV) : Prop := v = rgM
def gtMk (_ : World) (v : GtV) : Prop := v = gtM
structure TwIn (kk kr kc kg : Nat) (W : World) (m : PImg) (lr : List RgV) (lc : List CpV) (lg : List GtV) : Prop where
 r : At W kr (rowV [] RgV.vals lr).toArray
 c : At W kc (rowV [] CpV.vals lc).toArray
 g : At W kg (rowV [] GtV.vals lg).toArray
 rl : lr.length = m.regs.length + 8
 cl : lc.length = m.comps.length + 8
 gl : lg.length = m.gates.length + 8
 rd : Done (RgOk kk) rgMk W m.regs lr (m.regs.length + 8)
 cd : Done (CpOk kk) (CpMark kk) W m.comps lc (m.comps.length + 8)
 gd : Done (GtOk kk) gtMk W m.gates lg (m.gates.length + 8)
theorem rgOk_keep {kk : Nat} {W W' : World} (k : Kt kk W W') (a : PReg) (b : RgV) (h : RgOk kk W a b) : RgOk kk W' a b := ⟨h.1, h.2.1, h.2.2.1, h.2.2.2.keep k⟩
theorem cpOk_keep {kk : Nat} {W W' : World} (k : Kt kk W W') (a : PComp) (b : CpV) (h : CpOk kk W a b) : CpOk kk W' a b := ⟨h.1.keep k, h.2.keep k⟩
theorem gtOk_keep {kk : Nat} {W W' : World} (k : Kt kk W W') (a : PGate) (b : GtV) (h : GtOk kk W a b) : GtOk kk W' a b := ⟨h.1, h.2.1, h.2.2.1.keep k, h.2.2.2.keep k⟩
theorem cpMark_keep {kk : Nat} {W W' : World} (k : Kt kk W W') (b : CpV) (h : CpMark kk W b) : CpMark kk W' b := by
 obtain ⟨h1, g, h2, h3, h4⟩ := h
 exact ⟨h1, g, h2, h3, k.at_ h4 h3⟩
theorem range4 {W : World} {b o : Nat} {v0 v1 v2 v3 : Value} (h0 : W.cell? ⟨b, o, none⟩ = some v0) (h1 : W.cell? ⟨b, o + 1, none⟩ = some v1) (h2 : W.cell? ⟨b, o + 1 + 1, none⟩ = some v2) (h3 : W.cell? ⟨b, o + 1 + 1 + 1, none⟩ = some v3) : W.rangeAt b o [v0, v1, v2, v3] := fun j v q => by
 match j with
 | 0 => simp at q; subst q; exact h0
 | 1 => simp at q; subst q; exact h1
 | 2 => simp at q; subst q; exact h2
 | 3 => simp at q; subst q; exact h3
 | j + 4 => simp at q
theorem Tw.setO {w : World} {im out : List Value} {lr : List RgV} {lc : List CpV} {lg : List GtV} {W : World} (h : Tw w im out lr lc lg W) (i : Nat) (hi : i < out.length) (v : Value) : Tw w im (out.set i v) lr lc lg (W.setCell ⟨w.heap.size + 1 + 1, i, none⟩ v) :=
 ⟨h.m.other (by omega) i [v], h.res.other (by omega) i [v], by have := h.o.set i v (by simpa using hi); simpa using this, h.r.other (by omega) i [v], h.c.other (by omega) i [v], h.g.other (by omega) i [v], h.gr.setCells (w.heap.size + 1 + 1) (by omega) [v] i⟩
theorem results_row {fn : Func} {p : Tmp} {ty : TypeId} {v : Value} {a : Addr} (h : fn.results = #[.cell p ty]) (tmps : Array Value) (w : World) (ht : tmps.getD p undef = .pointer (some a)) (hl : (loadVar ty a).run Tryz.prog w = .ok v w) :
   (results fn tmps).run Tryz.prog w = .ok v w := by
 have ht' : tmps[p]?.getD undef = .pointer (some a) := by simpa using ht
 simp [results, h, ht', asAddr, hl]
theorem range2 {W : World} {b o : Nat} {v0 v1 : Value} (h0 : W.cell? ⟨b, o, none⟩ = some v0) (h1 : W.cell? ⟨b, o + 1, none⟩ = some v1) : W.rangeAt b o [v0, v1] := fun j v q => by
 match j with
 | 0 => simp at q; subst q; exact h0
 | 1 => simp at q; subst q; exact h1
 | j + 2 => simp at q
theorem Twin_any (m : PImg) (ra ca ga : Option Addr) (rc cc gc : Nat) (w : World) (hm : ImgIn w.heap.size w ra ca ga m) (hF : TwFit m) : Calls Tryz.prog 6 #[.agg [Value.slice ra m.regs.length rc, .slice ca m.comps.length cc, .slice ga m.gates.length gc, .int .i64 m.depth].toArray] w fun x w' => x = .returned (.agg #[.slice (some ⟨w.heap.size + 1 + 1 + 1, 0, none⟩) m.regs.length (m.regs.length + 8), .slice (some ⟨w.heap.size + 1 + 1 + 1 + 1, 0, none⟩) m.comps.length (m.comps.length + 8), .slice (some ⟨w.heap.size + 1 + 1 + 1 + 1 + 1, 0, none⟩) m.gates.length (m.gates.length + 8), .int .i64 m.depth]) ∧ Gr w w' ∧ ∃ lr lc lg, TwIn (w.heap.size + 1 + 1 + 1 + 1 + 1) (w.heap.size + 1 + 1 + 1) (w.heap.size + 1 + 1 + 1 + 1) (w.heap.size + 1 + 1 + 1 + 1 + 1) w' m lr lc lg := by
 have hr := fun W => make_k (vals := RgV.vals) (Z := rgZ) (t := 22) (e := 45) (k := 4) (b := 56) (by omega) rg_len Tryz.underlying22 (by kernel_rfl) (m.regs.length + 8) (by have := hF.r; omega) hF.r W
 rw [show ((m.regs.length + 8 : Nat) : Int) = (m.regs.length : Int) + 8 by omega] at hr
 have hrw : wrap64 ((m.regs.length : Int) + 8) = (m.regs.length : Int) + 8 := by have := hF.r; unfold wrap64; omega
 have hrx : IntKind.i64.wrap ((m.regs.length : Int) + 8) = (m.regs.length : Int) + 8 := by have := hF.r; rw [IntKind.wrap_i64]; omega
 have hc := fun W => make_k (vals := CpV.vals) (Z := cpZ) (t := 23) (e := 54) (k := 2) (b := 48) (by omega) cp_len Tryz.underlying23 (by kernel_rfl) (m.comps.length + 8) (by have := hF.c; omega) hF.c W
 rw [show ((m.comps.length + 8 : Nat) : Int) = (m.comps.length : Int) + 8 by omega] at hc
 have hcw : wrap64 ((m.comps.length : Int) + 8) = (m.comps.length : Int) + 8 := by have := hF.c; unfold wrap64; omega
 have hcx : IntKind.i64.wrap ((m.comps.length : Int) + 8) = (m.comps.length : Int) + 8 := by have := hF.c; rw [IntKind.wrap_i64]; omega
 have hg := fun W => make_k (vals := GtV.vals) (Z := gtZ) (t := 24) (e := 59) (k := 4) (b := 64) (by omega) gt_len Tryz.underlying24 (by kernel_rfl) (m.gates.length + 8) (by have := hF.g; omega) hF.g W
 rw [show ((m.gates.length + 8 : Nat) : Int) = (m.gates.length : Int) + 8 by omega] at hg
 have hgw : wrap64 ((m.gates.length : Int) + 8) = (m.gates.length : Int) + 8 := by have := hF.g; unfold wrap64; omega
 have hgx : IntKind.i64.wrap ((m.gates.length : Int) + 8) = (m.gates.length : Int) + 8 := by have := hF.g; rw [IntKind.wrap_i64]; omega
 have lr1 : m.regs.length ≤ 281474976710648 := by have := hF.r; omega
 have lc1 : m.comps.length ≤ 281474976710648 := by have := hF.c; omega
 have lg1 : m.gates.length ≤ 281474976710648 := by have := hF.g; omega
 replace hm := Hid.mk hm
 replace hF := Hid.mk hF
 generalize eR : (Obj.cells (rowV [] RgV.vals (List.replicate (m.regs.length + 8) rgZ)).toArray 45) = oR at *
 generalize eC : (Obj.cells (rowV [] CpV.vals (List.replicate (m.comps.length + 8) cpZ)).toArray 54) = oC at *
 generalize eG : (Obj.cells (rowV [] GtV.vals (List.replicate (m.gates.length + 8) gtZ)).toArray 59) = oG at *
 replace eR := Hid.mk eR
 replace eC := Hid.mk eC
 replace eG := Hid.mk eG
 have eim := Hid.mk (show [Value.slice ra m.regs.length rc, .slice ca m.comps.length cc, .slice ga m.gates.length gc, .int .i64 m.depth] = [Value.slice ra m.regs.length rc, .slice ca m.comps.length cc, .slice ga m.gates.length gc, .int .i64 m.depth] from rfl)
 generalize hIM : [Value.slice ra m.regs.length rc, .slice ca m.comps.length cc, .slice ga m.gates.length gc, .int .i64 m.depth] = im at eim
 go_enter Tryz.func6, Tryz.ntmps6
 go_upto_region 1 with fail
 refine wp_world (fun W => At W w.heap.size im.toArray ∧ At W (w.heap.size + 1) #[.slice none 0 0, .slice none 0 0, .slice none 0 0, .int .i64 0] ∧ Gr w W ∧ W.heap.size = w.heap.size + 1 + 1) ⟨by rw [← hIM]; exact (At.at_ w _ _ rfl).alloc _, At.at_ _ _ _ (by simp), ((Gr.refl w).alloc _).alloc _, by simp⟩ ?_
 rintro Wa ⟨b0, b1, G, hs⟩
 replace b0 := Hid.mk b0
 replace b1 := Hid.mk b1
 replace G := Hid.mk G
 have c3 : Wa.cell? ⟨w.heap.size, 3, none⟩ = some (.int .i64 m.depth) := by rw [b0.out.2.1, ← hIM]; rfl
 refine wp_region_lit ?_
 iterate 4 (refine wpList_plain rfl (fun K hK => ?_); go_simp; with_reducible refine hK _ _ ?_; clear hK K; (try simp only [xap]))
 have b2 := Hid.mk (At.new' Wa [.slice none 0 0, .slice none 0 0, .slice none 0 0, .int .i64 0] 26 hs)
 refine wpList_plain rfl (fun K hK => ?_)
 refine wp_store_mid _ _ _ rfl _ _ (List.toArray [Value.slice none 0 0, .slice none 0 0, .slice none 0 0, .int .i64 m.depth]) rfl rfl (b2.out.there 0 _ (by simp)) (by kernel_rfl) (all_oneCell_toArray (by intro v hv; simp at hv; rcases hv with rfl | rfl <;> rfl)) (hK _ _ ?_)
 clear hK K
 try simp only [Act.put]
 replace b2 := Hid.mk (b2.out.setAll [Value.slice none 0 0, .slice none 0 0, .slice none 0 0, .int .i64 m.depth] rfl)
 replace b0 := Hid.mk ((b0.out.alloc (Obj.cells #[.slice none 0 0, .slice none 0 0, .slice none 0 0, .int .i64 0] 26)).other (b' := w.heap.size + 1 + 1) (by omega) 0 [Value.slice none 0 0, .slice none 0 0, .slice none 0 0, .int .i64 m.depth])
 replace b1 := Hid.mk ((b1.out.alloc (Obj.cells #[.slice none 0 0, .slice none 0 0, .slice none 0 0, .int .i64 0] 26)).other (b' := w.heap.size + 1 + 1) (by omega) 0 [Value.slice none 0 0, .slice none 0 0, .slice none 0 0, .int .i64 m.depth])
 replace G := Hid.mk ((G.out.alloc (Obj.cells #[.slice none 0 0, .slice none 0 0, .slice none 0 0, .int .i64 0] 26)).setCells (w.heap.size + 1 + 1) (by omega) [Value.slice none 0 0, .slice none 0 0, .slice none 0 0, .int .i64 m.depth] 0)
 replace hs : (World.setCells (Wa.alloc (Obj.cells #[.slice none 0 0, .slice none 0 0, .slice none 0 0, .int .i64 0] 26)) (w.heap.size + 1 + 1) 0 [Value.slice none 0 0, .slice none 0 0, .slice none 0 0, .int .i64 m.depth]).heap.size = w.heap.size + 1 + 1 + 1 := by rw [setCells_size]; simp [hs]
 clear c3
 generalize World.setCells _ _ _ _ = W1 at *
 have c0 : W1.cell? ⟨w.heap.size, 0, none⟩ = some (.slice ra m.regs.length rc) := by rw [b0.out.2.1, ← hIM]; rfl
 go_upto_region 2 with fail
 refine wp_region_lit ?_
 iterate 6 (refine wpList_plain rfl (fun K hK => ?_); go_simp; with_reducible refine hK _ _ ?_; clear hK K; (try simp only [xap]))
 go_upto_region 3 with fail
 have b3 : Hid (At (W1.alloc oR) (w.heap.size + 1 + 1 + 1) (rowV [] RgV.vals (List.replicate (m.regs.length + 8) rgZ)).toArray) := Hid.mk (by rw [← eR.out]; exact At.new' _ _ _ hs)
 replace b0 := Hid.mk (b0.out.alloc oR)
 replace b1 := Hid.mk (b1.out.alloc oR)
 replace b2 := Hid.mk (b2.out.alloc oR)
 replace G := Hid.mk (G.out.alloc oR)
 replace hs : (W1.alloc oR).heap.size = w.heap.size + 1 + 1 + 1 + 1 := by simp [hs]
 clear c0 hr
 generalize W1.alloc oR = W2 at *
 have c0 : W2.cell? ⟨w.heap.size, 1, none⟩ = some (.slice ca m.comps.length cc) := by rw [b0.out.2.1, ← hIM]; rfl
 refine wp_region_lit ?_
 iterate 6 (refine wpList_plain rfl (fun K hK => ?_); go_simp; with_reducible refine hK _ _ ?_; clear hK K; (try simp only [xap]))
 go_upto_region 4 with fail
 have b4 : Hid (At (W2.alloc oC) (w.heap.size + 1 + 1 + 1 + 1) (rowV [] CpV.vals (List.replicate (m.comps.length + 8) cpZ)).toArray) := Hid.mk (by rw [← eC.out]; exact At.new' _ _ _ hs)
 replace b0 := Hid.mk (b0.out.alloc oC)
 replace b1 := Hid.mk (b1.out.alloc oC)
 replace b2 := Hid.mk (b2.out.alloc oC)
 replace b3 := Hid.mk (b3.out.alloc oC)
 replace G := Hid.mk (G.out.alloc oC)
 replace hs : (W2.alloc oC).heap.size = w.heap.size + 1 + 1 + 1 + 1 + 1 := by simp [hs]
 clear c0 hc
 generalize W2.alloc oC = W3 at *
 have c0 : W3.cell? ⟨w.heap.size, 2, none⟩ = some (.slice ga m.gates.length gc) := by rw [b0.out.2.1, ← hIM]; rfl
 refine wp_region_lit ?_
 iterate 6 (refine wpList_plain rfl (fun K hK => ?_); go_simp; with_reducible refine hK _ _ ?_; clear hK K; (try simp only [xap]))
 go_upto_region 6 with fail
 have T0 : Hid (Tw w im [Value.slice none 0 0, .slice none 0 0, .slice none 0 0, .int .i64 m.depth] (List.replicate (m.regs.length + 8) rgZ) (List.replicate (m.comps.length + 8) cpZ) (List.replicate (m.gates.length + 8) gtZ) (W3.alloc oG)) := Hid.mk ⟨b0.out.alloc oG, b1.out.alloc oG, b2.out.alloc oG, b3.out.alloc oG, b4.out.alloc oG, by rw [← eG.out]; exact At.new' _ _ _ hs, G.out.alloc oG⟩
 replace hs : w.heap.size + 1 + 1 + 1 + 1 + 1 < (W3.alloc oG).heap.size := by simp [hs]
 clear c0 hg b0 b1 b2 b3 b4 G eR eC eG
 have D0 := Hid.mk (Done.zero (RgOk (w.heap.size + 1 + 1 + 1 + 1 + 1)) rgMk (W3.alloc oG) m.regs (List.replicate (m.regs.length + 8) rgZ))
 have L0 : Hid ((List.replicate (m.regs.length + 8) rgZ).length = m.regs.length + 8) := Hid.mk (by simp)
 generalize W3.alloc oG = W4 at *
 generalize List.replicate (m.regs.length + 8) rgZ = lr0 at *
 generalize elc : List.replicate (m.comps.length + 8) cpZ = lc0 at *
 generalize elg : List.replicate (m.gates.length + 8) gtZ = lg0 at *
 replace elc := Hid.mk elc
 replace elg := Hid.mk elg
 go_loopw [7] (fun x wr => ∃ (i : Nat) (lr : List RgV), x = .int .i64 i ∧ i ≤ m.regs.length + 8 ∧ Hid (Tw w im [Value.slice none 0 0, .slice none 0 0, .slice none 0 0, .int .i64 m.depth] lr lc0 lg0 wr) ∧ Hid (lr.length = m.regs.length + 8) ∧ Hid (Done (RgOk (w.heap.size + 1 + 1 + 1 + 1 + 1)) rgMk wr m.regs lr i) ∧ Hid (w.heap.size + 1 + 1 + 1 + 1 + 1 < wr.heap.size)) (fun x _ => m.regs.length + 8 - (intOf x).toNat)
 case atStart => exact ⟨0, lr0, rfl, by omega, T0, L0, D0, Hid.mk hs⟩
 case round =>
   clear T0 L0 D0 hs
   obtain ⟨i, lr, rfl, hi, T0, L0, D0, hs⟩ := hrel
   by_cases hlt : i < m.regs.length + 8
   · have hi1 : (i : Int) < (m.regs.length : Int) + 8 := by omega
     have hil : i < lr.length := by rw [L0.out]; exact hlt
     go_upto_region 8 with fail
     refine wp_region_lit ?_
     iterate 4 (refine wpList_plain rfl (fun K hK => ?_); go_simp; with_reducible refine hK _ _ ?_; clear hK K; (try simp only [xap]))
     have hT := Hid.mk (T0.out.r.there (i * 4) 4 (by rw [row_len rg_len, L0.out]; simp; omega))
     have K0 := Hid.mk ((Kt.refl (w.heap.size + 1 + 1 + 1 + 1 + 1) wr).sets (w.heap.size + 1 + 1 + 1) (i * 4) rgM.vals (.inl (by omega)))
     have T1 := Hid.mk (T0.out.setR i hil rgM)
     refine wpList_plain rfl (fun K hK => ?_)
     refine wp_store_mid _ _ _ rfl _ _ (List.toArray (RgV.vals rgM)) rfl rfl hT.out (by kernel_rfl) (all_oneCell_toArray (rg_one _)) (hK _ _ ?_)
     clear hK K hT
     try simp only [Act.put]
     have c0 : (World.setCells wr (w.heap.size + 1 + 1 + 1) (i * 4) rgM.vals).cell? ⟨w.heap.size, 0, none⟩ = some (.slice ra m.regs.length rc) := by rw [T1.out.m.2.1, ← hIM]; rfl
     generalize World.setCells _ _ _ _ = V1 at *
     by_cases hn : i < m.regs.length
     · have hin : (i : Int) < (m.regs.length : Int) := by omega
       obtain ⟨rb, off, sa, sc, hra, hb1, hb2, k0, k1, k2, k3, kf⟩ := hm.out.regs i hn
       subst hra
       have hfit := hF.out.rs _ (List.getElem_mem hn)
       have hrr : Hid (m.regs[i] = m.regs[i]) := Hid.mk rfl
       generalize hrg : m.regs[i] = rr at k0 k1 k2 k3 kf hfit hrr
       replace hrg := Hid.mk hrg
       replace k0 := Hid.mk k0
       replace k1 := Hid.mk k1
       replace k2 := Hid.mk k2
       replace k3 := Hid.mk k3
       replace kf := Hid.mk kf
       replace hfit := Hid.mk hfit
       have rg := Hid.mk (range4 ((T1.out.gr.below.cell (p := ⟨rb, off + i * 4, none⟩) hb1).trans k0.out) ((T1.out.gr.below.cell (p := ⟨rb, off + i * 4 + 1, none⟩) hb1).trans k1.out) ((T1.out.gr.below.cell (p := ⟨rb, off + i * 4 + 1 + 1, none⟩) hb1).trans k2.out) ((T1.out.gr.below.cell (p := ⟨rb, off + i * 4 + 1 + 1 + 1, none⟩) hb1).trans k3.out))
       go_upto_region 10 with fail
       refine wp_region_lit ?_
       iterate 4 (refine wpList_plain rfl (fun K hK => ?_); go_simp; with_reducible refine hK _ _ ?_; clear hK K; (try simp only [xap]))
       refine wpList_plain rfl (fun K hK => ?_)
       refine wp_load_mid _ _ rfl _ (off + i * 4) rfl [Value.int .u64 rr.b, .int .u64 rr.n, .string (str rr.data), .slice sa rr.slots.length sc] _ rg.out Tryz.underlying45 rfl (by kernel_rfl) (hK _ _ ?_)
       clear hK K
       try simp only [xap]
       refine wpList_plain rfl (fun K hK => ?_)
       go_simp
       with_reducible refine hK _ _ ?_
       clear hK K
       try simp only [xap]
       have bx := Hid.mk (At.new V1 [Value.int .u64 0, .int .u64 0, .string { data := #[] }, .slice none 0 0].toArray 45)
       refine wpList_plain rfl (fun K hK => ?_)
       refine wp_store_mid _ _ _ rfl _ _ (List.toArray [Value.int .u64 rr.b, .int .u64 rr.n, .string (str rr.data), .slice sa rr.slots.length sc]) rfl rfl (bx.out.there 0 _ (by simp)) (by kernel_rfl) (all_oneCell_toArray (rg_one ⟨rr.b, rr.n, rr.data, ⟨sa, rr.slots.length, sc⟩⟩)) (hK _ _ ?_)
       clear hK K
       try simp only [Act.put]
       replace bx := Hid.mk (bx.out.setAll [Value.int .u64 rr.b, .int .u64 rr.n, .string (str rr.data), .slice sa rr.slots.length sc] rfl)
       have hk1 : w.heap.size + 1 + 1 + 1 + 1 + 1 < V1.heap.size := Nat.lt_of_lt_of_le hs.out K0.out.size
       have hk2 : wr.heap.size ≤ V1.heap.size := K0.out.size
       have T2 := Hid.mk ((T1.out.grow ((Gr.refl V1).alloc (Obj.cells [Value.int .u64 0, .int .u64 0, .string { data := #[] }, .slice none 0 0].toArray 45))).sets V1.heap.size 0 [Value.int .u64 rr.b, .int .u64 rr.n, .string (str rr.data), .slice sa rr.slots.length sc] hk1)
       have K2 := Hid.mk ((K0.out.trans (Kt.gr ((Gr.refl V1).alloc (Obj.cells [Value.int .u64 0, .int .u64 0, .string { data := #[] }, .slice none 0 0].toArray 45)))).sets V1.heap.size 0 [Value.int .u64 rr.b, .int .u64 rr.n, .string (str rr.data), .slice sa rr.slots.length sc] (.inr hk2))
       clear T1 K0 rg c0
       generalize World.setCells _ _ _ _ = V2 at *
       generalize V1.heap.size = kx at *
       have c0 : V2.cell? ⟨w.heap.size, 0, none⟩ = some (.slice (some ⟨rb, off, none⟩) m.regs.length rc) := by rw [T2.out.m.2.1, ← hIM]; rfl
       have c1 : V2.cell? ⟨rb, off + i * 4 + 1 + 1 + 1, none⟩ = some (.slice sa rr.slots.length sc) := ((T2.out.gr.below.cell (p := ⟨rb, off + i * 4 + 1 + 1 + 1, none⟩) hb1).trans k3.out)
       have hk3 : w.heap.size + 1 + 1 + 1 + 1 + 1 < V2.heap.size := Nat.lt_trans hk1 bx.out.1
       have hcl := Hid.mk (slots_all rr.slots sa sc w.heap.size kx V2 (kf.out.below T2.out.gr.below) hfit.out T2.out.gr.below.size bx.out.1)
       go_upto_region 11 with fail
       refine wp_region_lit ?_
       iterate 6 (refine wpList_plain rfl (fun K hK => ?_); go_simp; with_reducible refine hK _ _ ?_; clear hK K; (try simp only [xap]))
       refine wpList_plain rfl (fun K hK => ?_)
       go_simp
       (go_at_call 14; refine hcl.out.mono ?_; rintro x wq ⟨s, rfl, qs, q9⟩; replace q9 := Hid.mk q9; replace qs := Hid.mk qs)
       with_reducible refine hK _ _ ?_
       clear hK K
       try simp only [xap]
       refine wpList_plain rfl (fun K hK => ?_)
       go_simp
       with_reducible refine hK _ _ ?_
       clear hK K
       try simp only [xap]
       have d1 : ∃ y, wq.cell? ⟨kx, 3, none⟩ = some y := ⟨_, (bx.out.gr q9.out).2.1 3⟩
       obtain ⟨y9, d1⟩ := d1
       have d2 : wq.frozen? ⟨kx, 3, none⟩ = false := (bx.out.gr q9.out).2.2 3
       refine wpList_plain rfl (fun K hK => ?_)
       go_simp
       with_reducible refine hK _ _ ?_
       clear hK K d1 d2 y9
       try simp only [Act.put]
       have x9 := Hid.mk ((Kt.refl kx wq).set kx 3 (.slice s.a s.l s.c) (.inl (Nat.le_refl _)))
       replace qs := Hid.mk (qs.out.keep x9.out)
       replace bx := Hid.mk (show At (World.setCell wq ⟨kx, 3, none⟩ (.slice s.a s.l s.c)) kx (List.toArray [Value.int .u64 rr.b, .int .u64 rr.n, .string (str rr.data), .slice s.a s.l s.c]) from (bx.out.gr q9.out).set 3 (.slice s.a s.l s.c) (by simp))
       replace K2 := Hid.mk ((K2.out.trans (Kt.gr q9.out)).set kx 3 (.slice s.a s.l s.c) (.inr hk2))
       replace T2 := Hid.mk (show Tw w im [Value.slice none 0 0, .slice none 0 0, .slice none 0 0, .int .i64 m.depth] _ _ _ (World.setCell wq ⟨kx, 3, none⟩ (.slice s.a s.l s.c)) from (T2.out.grow q9.out).sets kx 3 [.slice s.a s.l s.c] hk1)
       clear q9 x9 hcl c0 c1 hk3
       generalize World.setCell _ _ _ = V3 at *
       go_upto_region 12 with fail
       refine wp_region_lit ?_
       iterate 2 (refine wpList_plain rfl (fun K hK => ?_); go_simp; with_reducible refine hK _ _ ?_; clear hK K; (try simp only [xap]))
       refine wpList_plain rfl (fun K hK => ?_)
       refine wp_load_mid _ _ rfl _ 0 rfl (RgV.vals ⟨rr.b, rr.n, rr.data, s⟩) _ bx.out.range Tryz.underlying45 rfl (by kernel_rfl) (hK _ _ ?_)
       clear hK K
       try simp only [xap]
       refine wpList_plain rfl (fun K hK => ?_)
       go_simp
       with_reducible refine hK _ _ ?_
       clear hK K
       try simp only [xap]
       have hT := Hid.mk (T2.out.r.there (i * 4) 4 (by rw [row_len rg_len, List.length_set, L0.out]; simp; omega))
       have hl2 : i < (lr.set i rgM).length := by rw [List.length_set]; exact hil
       have T3 := Hid.mk (T2.out.setR i hl2 ⟨rr.b, rr.n, rr.data, s⟩)
       rw [List.set_set] at T3
       have K3 := Hid.mk (K2.out.sets (w.heap.size + 1 + 1 + 1) (i * 4) (RgV.vals ⟨rr.b, rr.n, rr.data, s⟩) (.inl (by omega)))
       have x9 := Hid.mk ((Kt.refl kx V3).sets (w.heap.size + 1 + 1 + 1) (i * 4) (RgV.vals ⟨rr.b, rr.n, rr.data, s⟩) (.inl (by omega)))
       refine wpList_plain rfl (fun K hK => ?_)
       refine wp_store_mid _ _ _ rfl _ _ (List.toArray (RgV.vals ⟨rr.b, rr.n, rr.data, s⟩)) rfl rfl hT.out (by kernel_rfl) (all_oneCell_toArray (rg_one _)) (hK _ _ ?_)
       clear hK K hT hl2 bx T2 K2
       try simp only [Act.put]
       generalize World.setCells _ _ _ _ = V4 at *
       replace qs := Hid.mk ((qs.out.keep x9.out).mono (Nat.le_of_lt hk1))
       have D1 := Hid.mk ((D0.out.keep (rgOk_keep K3.out) (fun _ h => h)).next hil ⟨rr.b, rr.n, rr.data, s⟩ (fun _ => by rw [hrg.out]; exact ⟨rfl, rfl, rfl, qs.out⟩) (fun h => by omega))
       have L1 : Hid ((lr.set i ⟨rr.b, rr.n, rr.data, s⟩).length = m.regs.length + 8) := Hid.mk (by rw [List.length_set]; exact L0.out)
       have hs3 := Hid.mk (Nat.lt_of_lt_of_le hs.out K3.out.size)
       clear x9 qs D0 L0 hs hrg hrr k0 k1 k2 k3 kf hfit
       clear K3
       go_wp2_with fail
       exact ⟨⟨i + 1, _, by go_num, by omega, T3, L1, D1, hs3⟩, by simp [intOf]; omega⟩
     · have hin : ¬ (i : Int) < (m.regs.length : Int) := by omega
       have T3 := T1
       have K3 := K0
       have D1 := Hid.mk ((D0.out.keep (rgOk_keep K3.out) (fun _ h => h)).next hil rgM (fun h => absurd h hn) (fun _ => rfl))
       have L1 : Hid ((lr.set i rgM).length = m.regs.length + 8) := Hid.mk (by rw [List.length_set]; exact L0.out)
       have hs3 := Hid.mk (Nat.lt_of_lt_of_le hs.out K3.out.size)
       clear D0 L0 hs T1 K0
       clear K3
       go_wp2_with fail
       exact ⟨⟨i + 1, _, by go_num, by omega, T3, L1, D1, hs3⟩, by simp [intOf]; omega⟩
   · have hi1 : ¬ (i : Int) < (m.regs.length : Int) + 8 := by omega
     have ei : i = m.regs.length + 8 := by omega
     subst ei
     replace D0 := Hid.mk (show Done (RgOk (w.heap.size + 1 + 1 + 1 + 1 + 1)) rgMk wr m.regs lr (m.regs.length + 8) from D0.out)
     have LR := L0
     have DR := D0
     have LC : Hid (lc0.length = m.comps.length + 8) := Hid.mk (by rw [← elc.out]; simp)
     have DC := Hid.mk (Done.zero (CpOk (w.heap.size + 1 + 1 + 1 + 1 + 1)) (CpMark (w.heap.size + 1 + 1 + 1 + 1 + 1)) wr m.comps lc0)
     clear L0 D0
     go_upto_region 14 with fail
     generalize wr = Wb at *
     go_loopw [9] (fun x wr => ∃ (i : Nat) (lc : List CpV), x = .int .i64 i ∧ i ≤ m.comps.length + 8 ∧ Hid (Tw w im [Value.slice none 0 0, .slice none 0 0, .slice none 0 0, .int .i64 m.depth] lr lc lg0 wr) ∧ Hid (lc.length = m.comps.length + 8) ∧ Hid (Done (CpOk (w.heap.size + 1 + 1 + 1 + 1 + 1)) (CpMark (w.heap.size + 1 + 1 + 1 + 1 + 1)) wr m.comps lc i) ∧ Hid (Done (RgOk (w.heap.size + 1 + 1 + 1 + 1 + 1)) rgMk wr m.regs lr (m.regs.length + 8)) ∧ Hid (w.heap.size + 1 + 1 + 1 + 1 + 1 < wr.heap.size)) (fun x _ => m.comps.length + 8 - (intOf x).toNat)
     case atStart => exact ⟨0, lc0, rfl, by omega, T0, LC, DC, DR, hs⟩
     case round =>
       clear T0 LC DC DR hs
       obtain ⟨i, lc, rfl, hi, T0, L0, D0, DR, hs⟩ := hrel
       by_cases hlt : i < m.comps.length + 8
       · have hi1 : (i : Int) < (m.comps.length : Int) + 8 := by omega
         have hil : i < lc.length := by rw [L0.out]; exact hlt
         go_upto_region 16 with fail
         refine wp_region_lit ?_
         iterate 6 (refine wpList_plain rfl (fun K hK => ?_); go_simp; with_reducible refine hK _ _ ?_; clear hK K; (try simp only [xap]))
         have hT := Hid.mk ((T0.out.c.alloc (Obj.cells #[.int .i64 (-7), .int .u64 0, .int .u64 0, .int .u64 0, .int .u8 0, .int .i64 0] 51)).there (i * 2) 2 (by rw [row_len cp_len, L0.out]; simp; omega))
         have K0 := Hid.mk (((Kt.refl (w.heap.size + 1 + 1 + 1 + 1 + 1) wr).trans (Kt.gr ((Gr.refl wr).alloc (Obj.cells #[.int .i64 (-7), .int .u64 0, .int .u64 0, .int .u64 0, .int .u8 0, .int .i64 0] 51)))).sets (w.heap.size + 1 + 1 + 1 + 1) (i * 2) (CpV.vals (⟨⟨some ⟨wr.heap.size, 0, none⟩, 1, 1⟩, nilS⟩ : CpV)) (.inl (by omega)))
         have T1 := Hid.mk ((T0.out.grow ((Gr.refl wr).alloc (Obj.cells #[.int .i64 (-7), .int .u64 0, .int .u64 0, .int .u64 0, .int .u8 0, .int .i64 0] 51))).setC i hil (⟨⟨some ⟨wr.heap.size, 0, none⟩, 1, 1⟩, nilS⟩ : CpV))
         have bm : Hid (At (World.setCells (wr.alloc (Obj.cells #[.int .i64 (-7), .int .u64 0, .int .u64 0, .int .u64 0, .int .u8 0, .int .i64 0] 51)) (w.heap.size + 1 + 1 + 1 + 1) (i * 2) (CpV.vals (⟨⟨some ⟨wr.heap.size, 0, none⟩, 1, 1⟩, nilS⟩ : CpV))) wr.heap.size (rowV [] PRoot.vals [rootM]).toArray) := Hid.mk ((At.new wr _ _).other (by have := hs.out; omega) _ _)
         refine wpList_plain rfl (fun K hK => ?_)
         refine wp_store_mid _ _ _ rfl _ _ (List.toArray (CpV.vals (⟨⟨some ⟨wr.heap.size, 0, none⟩, 1, 1⟩, nilS⟩ : CpV))) rfl rfl hT.out (by kernel_rfl) (all_oneCell_toArray (cp_one _)) (hK _ _ ?_)
         clear hK K hT
         try simp only [Act.put]
         have c0 : (World.setCells (wr.alloc (Obj.cells #[.int .i64 (-7), .int .u64 0, .int .u64 0, .int .u64 0, .int .u8 0, .int .i64 0] 51)) (w.heap.size + 1 + 1 + 1 + 1) (i * 2) (CpV.vals (⟨⟨some ⟨wr.heap.size, 0, none⟩, 1, 1⟩, nilS⟩ : CpV))).cell? ⟨w.heap.size, 1, none⟩ = some (.slice ca m.comps.length cc) := by rw [T1.out.m.2.1, ← hIM]; rfl
         generalize World.setCells _ _ _ _ = V1 at *
         by_cases hn : i < m.comps.length
         · have hin : (i : Int) < (m.comps.length : Int) := by omega
           obtain ⟨cb, off, ra', rc', ka, kc, hca, hb1, hb2, k0, k1, kr, kl⟩ := hm.out.comps i hn
           subst hca
           have hfit := hF.out.cs _ (List.getElem_mem hn)
           generalize hrg : m.comps[i] = rr at k0 k1 kr kl hfit
           replace hrg := Hid.mk hrg
           replace k0 := Hid.mk k0
           replace k1 := Hid.mk k1
           replace kr := Hid.mk kr
           replace kl := Hid.mk kl
           replace hfit := Hid.mk hfit
           have T2 := T1
           have K2 := K0
           clear T1 K0 c0
           have c0 : V1.cell? ⟨w.heap.size, 1, none⟩ = some (.slice (some ⟨cb, off, none⟩) m.comps.length cc) := by rw [T2.out.m.2.1, ← hIM]; rfl
           have c1 : V1.cell? ⟨cb, off + i * 2, none⟩ = some (.slice ra' rr.roots.length rc') := ((T2.out.gr.below.cell (p := ⟨cb, off + i * 2, none⟩) hb1).trans k0.out)
           have hcl := Hid.mk (roots_all rr.roots ra' rc' w.heap.size (w.heap.size + 1 + 1 + 1 + 1 + 1) V1 (kr.out.below T2.out.gr.below) hfit.out.1 T2.out.gr.below.size (Nat.lt_of_lt_of_le hs.out K2.out.size))
           go_upto_region 18 with fail
           refine wp_region_lit ?_
           iterate 6 (refine wpList_plain rfl (fun K hK => ?_); go_simp; with_reducible refine hK _ _ ?_; clear hK K; (try simp only [xap]))
           refine wpList_plain rfl (fun K hK => ?_)
           go_simp
           (go_at_call 15; refine hcl.out.mono ?_; rintro x wq ⟨s, rfl, qs, q9⟩; replace q9 := Hid.mk q9; replace qs := Hid.mk qs)
           with_reducible refine hK _ _ ?_
           clear hK K
           try simp only [xap]
           refine wpList_plain rfl (fun K hK => ?_)
           go_simp
           with_reducible refine hK _ _ ?_
           clear hK K
           try simp only [xap]
           replace T2 := Hid.mk (T2.out.grow q9.out)
           replace K2 := Hid.mk (K2.out.trans (Kt.gr q9.out))
           clear q9 hcl c0 c1
           generalize wq = V2 at *
           have c0 : V2.cell? ⟨w.heap.size, 1, none⟩ = some (.slice (some ⟨cb, off, none⟩) m.comps.length cc) := by rw [T2.out.m.2.1, ← hIM]; rfl
           have c1 : V2.cell? ⟨cb, off + i * 2 + 1, none⟩ = some (.slice ka rr.code.length kc) := ((T2.out.gr.below.cell (p := ⟨cb, off + i * 2 + 1, none⟩) hb1).trans k1.out)
           have hcl := Hid.mk (insts_all rr.code ka kc w.heap.size (w.heap.size + 1 + 1 + 1 + 1 + 1) V2 (kl.out.below T2.out.gr.below) hfit.out.2 T2.out.gr.below.size (Nat.lt_of_lt_of_le hs.out K2.out.size))
           go_upto_region 19 with fail
           refine wp_region_lit ?_
           iterate 6 (refine wpList_plain rfl (fun K hK => ?_); go_simp; with_reducible refine hK _ _ ?_; clear hK K; (try simp only [xap]))
           refine wpList_plain rfl (fun K hK => ?_)
           go_simp
           (go_at_call 16; refine hcl.out.mono ?_; rintro x wq ⟨t, rfl, qt, q9⟩; replace q9 := Hid.mk q9; replace qt := Hid.mk qt)
           with_reducible refine hK _ _ ?_
           clear hK K
           try simp only [xap]
           refine wpList_plain rfl (fun K hK => ?_)
           go_simp
           with_reducible refine hK _ _ ?_
           clear hK K
           try simp only [xap]
           replace T2 := Hid.mk (T2.out.grow q9.out)
           replace K2 := Hid.mk (K2.out.trans (Kt.gr q9.out))
           replace qs := Hid.mk (qs.out.keep (Kt.gr q9.out))
           clear q9 hcl c0 c1
           generalize wq = V3 at *
           go_upto_region 20 with fail
           refine wp_region_lit ?_
           iterate 6 (refine wpList_plain rfl (fun K hK => ?_); go_simp; with_reducible refine hK _ _ ?_; clear hK K; (try simp only [xap]))
           have kx : Nat := 0
           have bx := True.intro
           have hT := Hid.mk (T2.out.c.there (i * 2) 2 (by rw [row_len cp_len, List.length_set, L0.out]; simp; omega))
           have hl2 : i < (lc.set i (⟨⟨some ⟨wr.heap.size, 0, none⟩, 1, 1⟩, nilS⟩ : CpV)).length := by rw [List.length_set]; exact hil
           have T3 := Hid.mk (T2.out.setC i hl2 ⟨s, t⟩)
           rw [List.set_set] at T3
           have K3 := Hid.mk (K2.out.sets (w.heap.size + 1 + 1 + 1 + 1) (i * 2) (CpV.vals ⟨s, t⟩) (.inl (by omega)))
           have x9 := Hid.mk ((Kt.refl (w.heap.size + 1 + 1 + 1 + 1 + 1) V3).sets (w.heap.size + 1 + 1 + 1 + 1) (i * 2) (CpV.vals ⟨s, t⟩) (.inl (by omega)))
           refine wpList_plain rfl (fun K hK => ?_)
           refine wp_store_mid _ _ _ rfl _ _ (List.toArray (CpV.vals ⟨s, t⟩)) rfl rfl hT.out (by kernel_rfl) (all_oneCell_toArray (cp_one _)) (hK _ _ ?_)
           clear hK K hT hl2 bx T2 K2
           try simp only [Act.put]
           generalize World.setCells _ _ _ _ = V4 at *
           replace qs := Hid.mk (qs.out.keep x9.out)
           replace qt := Hid.mk (qt.out.keep x9.out)
           have D1 := Hid.mk ((D0.out.keep (cpOk_keep K3.out) (cpMark_keep K3.out)).next hil ⟨s, t⟩ (fun _ => by rw [hrg.out]; exact ⟨qs.out, qt.out⟩) (fun h => by omega))
           have L1 : Hid ((lc.set i ⟨s, t⟩).length = m.comps.length + 8) := Hid.mk (by rw [List.length_set]; exact L0.out)
           have hs3 := Hid.mk (Nat.lt_of_lt_of_le hs.out K3.out.size)
           have R1 := Hid.mk (DR.out.keep (rgOk_keep K3.out) (fun _ h => h))
           clear x9 qs qt D0 L0 hs hrg k0 k1 kr kl hfit DR kx
           clear K3
           go_wp2_with fail
           exact ⟨⟨i + 1, _, by go_num, by omega, T3, L1, D1, R1, hs3⟩, by simp [intOf]; omega⟩
         · have hin : ¬ (i : Int) < (m.comps.length : Int) := by omega
           have T3 := T1
           have K3 := K0
           have D1 := Hid.mk ((D0.out.keep (cpOk_keep K3.out) (cpMark_keep K3.out)).next hil (⟨⟨some ⟨wr.heap.size, 0, none⟩, 1, 1⟩, nilS⟩ : CpV) (fun h => absurd h hn) (fun _ => ⟨rfl, wr.heap.size, rfl, hs.out, bm.out⟩))
           have L1 : Hid ((lc.set i (⟨⟨some ⟨wr.heap.size, 0, none⟩, 1, 1⟩, nilS⟩ : CpV)).length = m.comps.length + 8) := Hid.mk (by rw [List.length_set]; exact L0.out)
           have hs3 := Hid.mk (Nat.lt_of_lt_of_le hs.out K3.out.size)
           have R1 := Hid.mk (DR.out.keep (rgOk_keep K3.out) (fun _ h => h))
           clear D0 L0 hs T1 K0 DR bm
           clear K3
           go_wp2_with fail
           exact ⟨⟨i + 1, _, by go_num, by omega, T3, L1, D1, R1, hs3⟩, by simp [intOf]; omega⟩
       · have hi1 : ¬ (i : Int) < (m.comps.length : Int) + 8 := by omega
         have ei : i = m.comps.length + 8 := by omega
         subst ei
         have LCC := L0
         have DC := D0
         have LG : Hid (lg0.length = m.gates.length + 8) := Hid.mk (by rw [← elg.out]; simp)
         have DG := Hid.mk (Done.zero (GtOk (w.heap.size + 1 + 1 + 1 + 1 + 1)) gtMk wr m.gates lg0)
         clear L0 D0
         go_upto_region 22 with fail
         generalize wr = Wc at *
         go_loopw [12] (fun x wr => ∃ (i : Nat) (lg : List GtV), x = .int .i64 i ∧ i ≤ m.gates.length + 8 ∧ Hid (Tw w im [Value.slice none 0 0, .slice none 0 0, .slice none 0 0, .int .i64 m.depth] lr lc lg wr) ∧ Hid (lg.length = m.gates.length + 8) ∧ Hid (Done (GtOk (w.heap.size + 1 + 1 + 1 + 1 + 1)) gtMk wr m.gates lg i) ∧ Hid (Done (CpOk (w.heap.size + 1 + 1 + 1 + 1 + 1)) (CpMark (w.heap.size + 1 + 1 + 1 + 1 + 1)) wr m.comps lc (m.comps.length + 8)) ∧ Hid (Done (RgOk (w.heap.size + 1 + 1 + 1 + 1 + 1)) rgMk wr m.regs lr (m.regs.length + 8)) ∧ Hid (w.heap.size + 1 + 1 + 1 + 1 + 1 < wr.heap.size)) (fun x _ => m.gates.length + 8 - (intOf x).toNat)
         case atStart => exact ⟨0, lg0, rfl, by omega, T0, LG, DG, DC, DR, hs⟩
         case round =>
           clear T0 LG DG DC DR hs
           obtain ⟨i, lg, rfl, hi, T0, L0, D0, DC, DR, hs⟩ := hrel
           by_cases hlt : i < m.gates.length + 8
           · have hi1 : (i : Int) < (m.gates.length : Int) + 8 := by omega
             have hil : i < lg.length := by rw [L0.out]; exact hlt
             go_upto_region 24 with fail
             refine wp_region_lit ?_
             iterate 4 (refine wpList_plain rfl (fun K hK => ?_); go_simp; with_reducible refine hK _ _ ?_; clear hK K; (try simp only [xap]))
             have hT := Hid.mk (T0.out.g.there (i * 4) 4 (by rw [row_len gt_len, L0.out]; simp; omega))
             have K0 := Hid.mk ((Kt.refl (w.heap.size + 1 + 1 + 1 + 1 + 1) wr).sets (w.heap.size + 1 + 1 + 1 + 1 + 1) (i * 4) gtM.vals (.inl (by omega)))
             have T1 := Hid.mk (T0.out.setG i hil gtM)
             refine wpList_plain rfl (fun K hK => ?_)
             refine wp_store_mid _ _ _ rfl _ _ (List.toArray (GtV.vals gtM)) rfl rfl hT.out (by kernel_rfl) (all_oneCell_toArray (gt_one _)) (hK _ _ ?_)
             clear hK K hT
             try simp only [Act.put]
             have c0 : (World.setCells wr (w.heap.size + 1 + 1 + 1 + 1 + 1) (i * 4) gtM.vals).cell? ⟨w.heap.size, 2, none⟩ = some (.slice ga m.gates.length gc) := by rw [T1.out.m.2.1, ← hIM]; rfl
             generalize World.setCells _ _ _ _ = V1 at *
             by_cases hn : i < m.gates.length
             · have hin : (i : Int) < (m.gates.length : Int) := by omega
               obtain ⟨rb, off, xa, xc, ya, yc, hga, hb1, hb2, k0, k1, k2, k3, kx9, ky9⟩ := hm.out.gates i hn
               subst hga
               have hfit := hF.out.gs _ (List.getElem_mem hn)
               generalize hrg : m.gates[i] = rr at k0 k1 k2 k3 kx9 ky9 hfit
               replace hrg := Hid.mk hrg
               replace k0 := Hid.mk k0
               replace k1 := Hid.mk k1
               replace k2 := Hid.mk k2
               replace k3 := Hid.mk k3
               replace kx9 := Hid.mk kx9
               replace ky9 := Hid.mk ky9
               replace hfit := Hid.mk hfit
               have rg := Hid.mk (range4 ((T1.out.gr.below.cell (p := ⟨rb, off + i * 4, none⟩) hb1).trans k0.out) ((T1.out.gr.below.cell (p := ⟨rb, off + i * 4 + 1, none⟩) hb1).trans k1.out) ((T1.out.gr.below.cell (p := ⟨rb, off + i * 4 + 1 + 1, none⟩) hb1).trans k2.out) ((T1.out.gr.below.cell (p := ⟨rb, off + i * 4 + 1 + 1 + 1, none⟩) hb1).trans k3.out))
               go_upto_region 26 with fail
               refine wp_region_lit ?_
               iterate 4 (refine wpList_plain rfl (fun K hK => ?_); go_simp; with_reducible refine hK _ _ ?_; clear hK K; (try simp only [xap]))
               refine wpList_plain rfl (fun K hK => ?_)
               refine wp_load_mid _ _ rfl _ (off + i * 4) rfl [Value.int .i64 rr.c, .int .i64 rr.e, .slice xa rr.args.length xc, .slice ya rr.res.length yc] _ rg.out Tryz.underlying59 rfl (by kernel_rfl) (hK _ _ ?_)
               clear hK K
               try simp only [xap]
               refine wpList_plain rfl (fun K hK => ?_)
               go_simp
               with_reducible refine hK _ _ ?_
               clear hK K
               try simp only [xap]
               have bx := Hid.mk (At.new V1 [Value.int .i64 0, .int .i64 0, .slice none 0 0, .slice none 0 0].toArray 59)
               refine wpList_plain rfl (fun K hK => ?_)
               refine wp_store_mid _ _ _ rfl _ _ (List.toArray [Value.int .i64 rr.c, .int .i64 rr.e, .slice xa rr.args.length xc, .slice ya rr.res.length yc]) rfl rfl (bx.out.there 0 _ (by simp)) (by kernel_rfl) (all_oneCell_toArray (gt_one ⟨rr.c, rr.e, ⟨xa, rr.args.length, xc⟩, ⟨ya, rr.res.length, yc⟩⟩)) (hK _ _ ?_)
               clear hK K
               try simp only [Act.put]
               replace bx := Hid.mk (bx.out.setAll [Value.int .i64 rr.c, .int .i64 rr.e, .slice xa rr.args.length xc, .slice ya rr.res.length yc] rfl)
               have hk1 : w.heap.size + 1 + 1 + 1 + 1 + 1 < V1.heap.size := Nat.lt_of_lt_of_le hs.out K0.out.size
               have hk2 : wr.heap.size ≤ V1.heap.size := K0.out.size
               have T2 := Hid.mk ((T1.out.grow ((Gr.refl V1).alloc (Obj.cells [Value.int .i64 0, .int .i64 0, .slice none 0 0, .slice none 0 0].toArray 59))).sets V1.heap.size 0 [Value.int .i64 rr.c, .int .i64 rr.e, .slice xa rr.args.length xc, .slice ya rr.res.length yc] hk1)
               have K2 := Hid.mk ((K0.out.trans (Kt.gr ((Gr.refl V1).alloc (Obj.cells [Value.int .i64 0, .int .i64 0, .slice none 0 0, .slice none 0 0].toArray 59)))).sets V1.heap.size 0 [Value.int .i64 rr.c, .int .i64 rr.e, .slice xa rr.args.length xc, .slice ya rr.res.length yc] (.inr hk2))
               clear T1 K0 rg c0
               generalize World.setCells _ _ _ _ = V2 at *
               generalize V1.heap.size = kx at *
               have c0 : V2.cell? ⟨w.heap.size, 2, none⟩ = some (.slice (some ⟨rb, off, none⟩) m.gates.length gc) := by rw [T2.out.m.2.1, ← hIM]; rfl
               have c1 : V2.cell? ⟨rb, off + i * 4 + 1 + 1, none⟩ = some (.slice xa rr.args.length xc) := ((T2.out.gr.below.cell (p := ⟨rb, off + i * 4 + 1 + 1, none⟩) hb1).trans k2.out)
               have hk3 : w.heap.size + 1 + 1 + 1 + 1 + 1 < V2.heap.size := Nat.lt_trans hk1 bx.out.1
               have hcl := Hid.mk (typed_all rr.args xa xc w.heap.size kx V2 (kx9.out.below T2.out.gr.below) hfit.out.1 T2.out.gr.below.size bx.out.1)
               go_upto_region 27 with fail
               refine wp_region_lit ?_
               iterate 6 (refine wpList_plain rfl (fun K hK => ?_); go_simp; with_reducible refine hK _ _ ?_; clear hK K; (try simp only [xap]))
               refine wpList_plain rfl (fun K hK => ?_)
               go_simp
               (go_at_call 17; refine hcl.out.mono ?_; rintro x wq ⟨s, rfl, qs, q9⟩; replace q9 := Hid.mk q9; replace qs := Hid.mk qs)
               with_reducible refine hK _ _ ?_
               clear hK K
               try simp only [xap]
               refine wpList_plain rfl (fun K hK => ?_)
               go_simp
               with_reducible refine hK _ _ ?_
               clear hK K
               try simp only [xap]
               have d1 : ∃ y, wq.cell? ⟨kx, 2, none⟩ = some y := ⟨_, (bx.out.gr q9.out).2.1 2⟩
               obtain ⟨y9, d1⟩ := d1
               have d2 : wq.frozen? ⟨kx, 2, none⟩ = false := (bx.out.gr q9.out).2.2 2
               refine wpList_plain rfl (fun K hK => ?_)
               go_simp
               with_reducible refine hK _ _ ?_
               clear hK K d1 d2 y9
               try simp only [Act.put]
               have x9 := Hid.mk ((Kt.refl kx wq).set kx 2 (.slice s.a s.l s.c) (.inl (Nat.le_refl _)))
               replace qs := Hid.mk (qs.out.keep x9.out)
               replace bx := Hid.mk (show At (World.setCell wq ⟨kx, 2, none⟩ (.slice s.a s.l s.c)) kx (List.toArray [Value.int .i64 rr.c, .int .i64 rr.e, .slice s.a s.l s.c, .slice ya rr.res.length yc]) from (bx.out.gr q9.out).set 2 (.slice s.a s.l s.c) (by simp))
               replace K2 := Hid.mk ((K2.out.trans (Kt.gr q9.out)).set kx 2 (.slice s.a s.l s.c) (.inr hk2))
               replace T2 := Hid.mk (show Tw w im [Value.slice none 0 0, .slice none 0 0, .slice none 0 0, .int .i64 m.depth] _ _ _ (World.setCell wq ⟨kx, 2, none⟩ (.slice s.a s.l s.c)) from (T2.out.grow q9.out).sets kx 2 [.slice s.a s.l s.c] hk1)
               clear q9 x9 hcl c0 c1 hk3
               generalize World.setCell _ _ _ = V3 at *
               have c0 : V3.cell? ⟨w.heap.size, 2, none⟩ = some (.slice (some ⟨rb, off, none⟩) m.gates.length gc) := by rw [T2.out.m.2.1, ← hIM]; rfl
               have c1 : V3.cell? ⟨rb, off + i * 4 + 1 + 1 + 1, none⟩ = some (.slice ya rr.res.length yc) := ((T2.out.gr.below.cell (p := ⟨rb, off + i * 4 + 1 + 1 + 1, none⟩) hb1).trans k3.out)
               have hk3 : w.heap.size + 1 + 1 + 1 + 1 + 1 < V3.heap.size := Nat.lt_trans hk1 bx.out.1
               have hcl := Hid.mk (typed_all rr.res ya yc w.heap.size kx V3 (ky9.out.below T2.out.gr.below) hfit.out.2 T2.out.gr.below.size bx.out.1)
               go_upto_region 28 with fail
               refine wp_region_lit ?_
               iterate 6 (refine wpList_plain rfl (fun K hK => ?_); go_simp; with_reducible refine hK _ _ ?_; clear hK K; (try simp only [xap]))
               refine wpList_plain rfl (fun K hK => ?_)
               go_simp
               (go_at_call 17; refine hcl.out.mono ?_; rintro x wq ⟨t, rfl, qt, q9⟩; replace q9 := Hid.mk q9; replace qt := Hid.mk qt)
               with_reducible refine hK _ _ ?_
               clear hK K
               try simp only [xap]
               refine wpList_plain rfl (fun K hK => ?_)
               go_simp
               with_reducible refine hK _ _ ?_
               clear hK K
               try simp only [xap]
               have d1 : ∃ y, wq.cell? ⟨kx, 3, none⟩ = some y := ⟨_, (bx.out.gr q9.out).2.1 3⟩
               obtain ⟨y9, d1⟩ := d1
               have d2 : wq.frozen? ⟨kx, 3, none⟩ = false := (bx.out.gr q9.out).2.2 3
               refine wpList_plain rfl (fun K hK => ?_)
               go_simp
               with_reducible refine hK _ _ ?_
               clear hK K d1 d2 y9
               try simp only [Act.put]
               have x9 := Hid.mk ((Kt.refl kx wq).set kx 3 (.slice t.a t.l t.c) (.inl (Nat.le_refl _)))
               replace qs := Hid.mk (qs.out.keep ((Kt.gr q9.out).trans x9.out))
               replace qt := Hid.mk (qt.out.keep x9.out)
               replace bx := Hid.mk (show At (World.setCell wq ⟨kx, 3, none⟩ (.slice t.a t.l t.c)) kx (List.toArray [Value.int .i64 rr.c, .int .i64 rr.e, .slice s.a s.l s.c, .slice t.a t.l t.c]) from (bx.out.gr q9.out).set 3 (.slice t.a t.l t.c) (by simp))
               replace K2 := Hid.mk ((K2.out.trans (Kt.gr q9.out)).set kx 3 (.slice t.a t.l t.c) (.inr hk2))
               replace T2 := Hid.mk (show Tw w im [Value.slice none 0 0, .slice none 0 0, .slice none 0 0, .int .i64 m.depth] _ _ _ (World.setCell wq ⟨kx, 3, none⟩ (.slice t.a t.l t.c)) from (T2.out.grow q9.out).sets kx 3 [.slice t.a t.l t.c] hk1)
               clear q9 x9 hcl c0 c1 hk3
               generalize World.setCell _ _ _ = V5 at *
               go_upto_region 29 with fail
               refine wp_region_lit ?_
               iterate 2 (refine wpList_plain rfl (fun K hK => ?_); go_simp; with_reducible refine hK _ _ ?_; clear hK K; (try simp only [xap]))
               refine wpList_plain rfl (fun K hK => ?_)
               refine wp_load_mid _ _ rfl _ 0 rfl (GtV.vals ⟨rr.c, rr.e, s, t⟩) _ bx.out.range Tryz.underlying59 rfl (by kernel_rfl) (hK _ _ ?_)
               clear hK K
               try simp only [xap]
               refine wpList_plain rfl (fun K hK => ?_)
               go_simp
               with_reducible refine hK _ _ ?_
               clear hK K
               try simp only [xap]
               have hT := Hid.mk (T2.out.g.there (i * 4) 4 (by rw [row_len gt_len, List.length_set, L0.out]; simp; omega))
               have hl2 : i < (lg.set i gtM).length := by rw [List.length_set]; exact hil
               have T3 := Hid.mk (T2.out.setG i hl2 ⟨rr.c, rr.e, s, t⟩)
               rw [List.set_set] at T3
               have K3 := Hid.mk (K2.out.sets (w.heap.size + 1 + 1 + 1 + 1 + 1) (i * 4) (GtV.vals ⟨rr.c, rr.e, s, t⟩) (.inl (by omega)))
               have x9 := Hid.mk ((Kt.refl kx V5).sets (w.heap.size + 1 + 1 + 1 + 1 + 1) (i * 4) (GtV.vals ⟨rr.c, rr.e, s, t⟩) (.inl (by omega)))
               refine wpList_plain rfl (fun K hK => ?_)
               refine wp_store_mid _ _ _ rfl _ _ (List.toArray (GtV.vals ⟨rr.c, rr.e, s, t⟩)) rfl rfl hT.out (by kernel_rfl) (all_oneCell_toArray (gt_one _)) (hK _ _ ?_)
               clear hK K hT hl2 bx T2 K2
               try simp only [Act.put]
               generalize World.setCells _ _ _ _ = V4 at *
               replace qs := Hid.mk ((qs.out.keep x9.out).mono (Nat.le_of_lt hk1))
               replace qt := Hid.mk ((qt.out.keep x9.out).mono (Nat.le_of_lt hk1))
               have D1 := Hid.mk ((D0.out.keep (gtOk_keep K3.out) (fun _ h => h)).next hil ⟨rr.c, rr.e, s, t⟩ (fun _ => by rw [hrg.out]; exact ⟨rfl, rfl, qs.out, qt.out⟩) (fun h => by omega))
               have L1 : Hid ((lg.set i ⟨rr.c, rr.e, s, t⟩).length = m.gates.length + 8) := Hid.mk (by rw [List.length_set]; exact L0.out)
               have hs3 := Hid.mk (Nat.lt_of_lt_of_le hs.out K3.out.size)
               have R1 := Hid.mk (DR.out.keep (rgOk_keep K3.out) (fun _ h => h))
               have C1 := Hid.mk (DC.out.keep (cpOk_keep K3.out) (cpMark_keep K3.out))
               clear x9 qs qt D0 L0 hs hrg k0 k1 k2 k3 kx9 ky9 hfit DR DC
               clear K3
               go_wp2_with fail
               exact ⟨⟨i + 1, _, by go_num, by omega, T3, L1, D1, C1, R1, hs3⟩, by simp [intOf]; omega⟩
             · have hin : ¬ (i : Int) < (m.gates.length : Int) := by omega
               have T3 := T1
               have K3 := K0
               have D1 := Hid.mk ((D0.out.keep (gtOk_keep K3.out) (fun _ h => h)).next hil gtM (fun h => absurd h hn) (fun _ => rfl))
               have L1 : Hid ((lg.set i gtM).length = m.gates.length + 8) := Hid.mk (by rw [List.length_set]; exact L0.out)
               have hs3 := Hid.mk (Nat.lt_of_lt_of_le hs.out K3.out.size)
               have R1 := Hid.mk (DR.out.keep (rgOk_keep K3.out) (fun _ h => h))
               have C1 := Hid.mk (DC.out.keep (cpOk_keep K3.out) (cpMark_keep K3.out))
               clear D0 L0 hs T1 K0 DR DC
               clear K3
               go_wp2_with fail
               exact ⟨⟨i + 1, _, by go_num, by omega, T3, L1, D1, C1, R1, hs3⟩, by simp [intOf]; omega⟩
           · have hi1 : ¬ (i : Int) < (m.gates.length : Int) + 8 := by omega
             have ei : i = m.gates.length + 8 := by omega
             subst ei
             have LG := L0
             have DG := D0
             clear L0 D0
             go_upto_region 30 with fail
             generalize wr = Wd at *
             have c0 : Wd.cell? ⟨w.heap.size, 0, none⟩ = some (.slice ra m.regs.length rc) := by rw [T0.out.m.2.1, ← hIM]; rfl
             have d1 : Wd.cell? ⟨w.heap.size + 1 + 1, 0, none⟩ = some (.slice none 0 0) := T0.out.o.2.1 0
             have d2 : Wd.frozen? ⟨w.heap.size + 1 + 1, 0, none⟩ = false := T0.out.o.2.2 0
             have hle9 : (m.regs.length : Int) ≤ (m.regs.length : Int) + 8 := by omega
             go_upto_region 30 with fail
             refine wp_region_lit ?_
             iterate 6 (refine wpList_plain rfl (fun K hK => ?_); go_simp; with_reducible refine hK _ _ ?_; clear hK K; (try simp only [xap]))
             refine wpList_plain rfl (fun K hK => ?_)
             go_simp
             with_reducible refine hK _ _ ?_
             clear hK K
             try simp only [Act.put]
             have K9 := Hid.mk ((Kt.refl (w.heap.size + 1 + 1 + 1 + 1 + 1) Wd).set (w.heap.size + 1 + 1) 0 (.slice (some ⟨w.heap.size + 1 + 1 + 1, 0, none⟩) m.regs.length (m.regs.length + 8)) (.inl (by omega)))
             replace T0 := Hid.mk (T0.out.setO 0 (by simp) (.slice (some ⟨w.heap.size + 1 + 1 + 1, 0, none⟩) m.regs.length (m.regs.length + 8)))
             replace DR := Hid.mk (DR.out.keep (rgOk_keep K9.out) (fun _ h => h))
             replace DC := Hid.mk (DC.out.keep (cpOk_keep K9.out) (cpMark_keep K9.out))
             replace DG := Hid.mk (DG.out.keep (gtOk_keep K9.out) (fun _ h => h))
             simp only [List.set_cons_zero] at T0
             clear c0 d1 d2 hle9 K9
             generalize World.setCell _ _ _ = We at *
             have c0 : We.cell? ⟨w.heap.size, 1, none⟩ = some (.slice ca m.comps.length cc) := by rw [T0.out.m.2.1, ← hIM]; rfl
             have d1 : We.cell? ⟨w.heap.size + 1 + 1, 1, none⟩ = some (.slice none 0 0) := T0.out.o.2.1 1
             have d2 : We.frozen? ⟨w.heap.size + 1 + 1, 1, none⟩ = false := T0.out.o.2.2 1
             have hle9 : (m.comps.length : Int) ≤ (m.comps.length : Int) + 8 := by omega
             go_upto_region 31 with fail
             refine wp_region_lit ?_
             iterate 6 (refine wpList_plain rfl (fun K hK => ?_); go_simp; with_reducible refine hK _ _ ?_; clear hK K; (try simp only [xap]))
             refine wpList_plain rfl (fun K hK => ?_)
             go_simp
             with_reducible refine hK _ _ ?_
             clear hK K
             try simp only [Act.put]
             have K9 := Hid.mk ((Kt.refl (w.heap.size + 1 + 1 + 1 + 1 + 1) We).set (w.heap.size + 1 + 1) 1 (.slice (some ⟨w.heap.size + 1 + 1 + 1 + 1, 0, none⟩) m.comps.length (m.comps.length + 8)) (.inl (by omega)))
             replace T0 := Hid.mk (T0.out.setO 1 (by simp) (.slice (some ⟨w.heap.size + 1 + 1 + 1 + 1, 0, none⟩) m.comps.length (m.comps.length + 8)))
             replace DR := Hid.mk (DR.out.keep (rgOk_keep K9.out) (fun _ h => h))
             replace DC := Hid.mk (DC.out.keep (cpOk_keep K9.out) (cpMark_keep K9.out))
             replace DG := Hid.mk (DG.out.keep (gtOk_keep K9.out) (fun _ h => h))
             simp only [List.set_cons_zero, List.set_cons_succ] at T0
             clear c0 d1 d2 hle9 K9
             generalize World.setCell _ _ _ = Wf at *
             have c0 : Wf.cell? ⟨w.heap.size, 2, none⟩ = some (.slice ga m.gates.length gc) := by rw [T0.out.m.2.1, ← hIM]; rfl
             have d1 : Wf.cell? ⟨w.heap.size + 1 + 1, 2, none⟩ = some (.slice none 0 0) := T0.out.o.2.1 2
             have d2 : Wf.frozen? ⟨w.heap.size + 1 + 1, 2, none⟩ = false := T0.out.o.2.2 2
             have hle9 : (m.gates.length : Int) ≤ (m.gates.length : Int) + 8 := by omega
             go_upto_region 32 with fail
             refine wp_region_lit ?_
             iterate 6 (refine wpList_plain rfl (fun K hK => ?_); go_simp; with_reducible refine hK _ _ ?_; clear hK K; (try simp only [xap]))
             refine wpList_plain rfl (fun K hK => ?_)
             go_simp
             with_reducible refine hK _ _ ?_
             clear hK K
             try simp only [Act.put]
             have K9 := Hid.mk ((Kt.refl (w.heap.size + 1 + 1 + 1 + 1 + 1) Wf).set (w.heap.size + 1 + 1) 2 (.slice (some ⟨w.heap.size + 1 + 1 + 1 + 1 + 1, 0, none⟩) m.gates.length (m.gates.length + 8)) (.inl (by omega)))
             replace T0 := Hid.mk (T0.out.setO 2 (by simp) (.slice (some ⟨w.heap.size + 1 + 1 + 1 + 1 + 1, 0, none⟩) m.gates.length (m.gates.length + 8)))
             replace DR := Hid.mk (DR.out.keep (rgOk_keep K9.out) (fun _ h => h))
             replace DC := Hid.mk (DC.out.keep (cpOk_keep K9.out) (cpMark_keep K9.out))
             replace DG := Hid.mk (DG.out.keep (gtOk_keep K9.out) (fun _ h => h))
             simp only [List.set_cons_zero, List.set_cons_succ] at T0
             clear c0 d1 d2 hle9 K9
             generalize World.setCell _ _ _ = Wg at *
             go_upto_region 33 with fail
             refine wp_region_lit ?_
             refine wpList_plain rfl (fun K hK => ?_)
             refine wp_load_mid _ _ rfl _ 0 rfl [Value.slice (some ⟨w.heap.size + 1 + 1 + 1, 0, none⟩) m.regs.length (m.regs.length + 8), .slice (some ⟨w.heap.size + 1 + 1 + 1 + 1, 0, none⟩) m.comps.length (m.comps.length + 8), .slice (some ⟨w.heap.size + 1 + 1 + 1 + 1 + 1, 0, none⟩) m.gates.length (m.gates.length + 8), .int .i64 m.depth] _ T0.out.o.range Tryz.underlying26 rfl (by kernel_rfl) (hK _ _ ?_)
             clear hK K
             try simp only [xap]
             have hT := Hid.mk (At.there (cs := [.slice none 0 0, .slice none 0 0, .slice none 0 0, .int .i64 0]) T0.out.res 0 4 (by simp))
             have K9 := Hid.mk ((Kt.refl (w.heap.size + 1 + 1 + 1 + 1 + 1) Wg).sets (w.heap.size + 1) 0 [Value.slice (some ⟨w.heap.size + 1 + 1 + 1, 0, none⟩) m.regs.length (m.regs.length + 8), .slice (some ⟨w.heap.size + 1 + 1 + 1 + 1, 0, none⟩) m.comps.length (m.comps.length + 8), .slice (some ⟨w.heap.size + 1 + 1 + 1 + 1 + 1, 0, none⟩) m.gates.length (m.gates.length + 8), .int .i64 m.depth] (.inl (by omega)))
             have G9 := Hid.mk (T0.out.gr.setCells (w.heap.size + 1) (by omega) [Value.slice (some ⟨w.heap.size + 1 + 1 + 1, 0, none⟩) m.regs.length (m.regs.length + 8), .slice (some ⟨w.heap.size + 1 + 1 + 1 + 1, 0, none⟩) m.comps.length (m.comps.length + 8), .slice (some ⟨w.heap.size + 1 + 1 + 1 + 1 + 1, 0, none⟩) m.gates.length (m.gates.length + 8), .int .i64 m.depth] 0)
             have S9 := Hid.mk (At.setAll (cs := [.slice none 0 0, .slice none 0 0, .slice none 0 0, .int .i64 0]) T0.out.res [Value.slice (some ⟨w.heap.size + 1 + 1 + 1, 0, none⟩) m.regs.length (m.regs.length + 8), .slice (some ⟨w.heap.size + 1 + 1 + 1 + 1, 0, none⟩) m.comps.length (m.comps.length + 8), .slice (some ⟨w.heap.size + 1 + 1 + 1 + 1 + 1, 0, none⟩) m.gates.length (m.gates.length + 8), .int .i64 m.depth] rfl).range
             have TI9 : Hid (TwIn (w.heap.size + 1 + 1 + 1 + 1 + 1) (w.heap.size + 1 + 1 + 1) (w.heap.size + 1 + 1 + 1 + 1) (w.heap.size + 1 + 1 + 1 + 1 + 1) (World.setCells Wg (w.heap.size + 1) 0 [Value.slice (some ⟨w.heap.size + 1 + 1 + 1, 0, none⟩) m.regs.length (m.regs.length + 8), .slice (some ⟨w.heap.size + 1 + 1 + 1 + 1, 0, none⟩) m.comps.length (m.comps.length + 8), .slice (some ⟨w.heap.size + 1 + 1 + 1 + 1 + 1, 0, none⟩) m.gates.length (m.gates.length + 8), .int .i64 m.depth]) m lr lc lg) := Hid.mk ⟨T0.out.r.other (by omega) _ _, T0.out.c.other (by omega) _ _, T0.out.g.other (by omega) _ _, LR.out, LCC.out, LG.out, DR.out.keep (rgOk_keep K9.out) (fun _ h => h), DC.out.keep (cpOk_keep K9.out) (cpMark_keep K9.out), DG.out.keep (gtOk_keep K9.out) (fun _ h => h)⟩
             refine wpList_plain rfl (fun K hK => ?_)
             refine wp_store_mid _ _ _ rfl _ _ (List.toArray [Value.slice (some ⟨w.heap.size + 1 + 1 + 1, 0, none⟩) m.regs.length (m.regs.length + 8), .slice (some ⟨w.heap.size + 1 + 1 + 1 + 1, 0, none⟩) m.comps.length (m.comps.length + 8), .slice (some ⟨w.heap.size + 1 + 1 + 1 + 1 + 1, 0, none⟩) m.gates.length (m.gates.length + 8), .int .i64 m.depth]) rfl rfl hT.out (by kernel_rfl) (all_oneCell_toArray (by intro v hv; simp at hv; rcases hv with rfl | rfl | rfl | rfl <;> rfl)) (hK _ _ ?_)
             clear hK K hT T0 DR DC DG LR LCC LG K9
             try simp only [Act.put]
             generalize World.setCells _ _ _ _ = Wz at *
             have hrun := Hid.mk (run_loadVar_mid (P := Tryz.prog) Wz (w.heap.size + 1) 0 26 [Value.slice (some ⟨w.heap.size + 1 + 1 + 1, 0, none⟩) m.regs.length (m.regs.length + 8), .slice (some ⟨w.heap.size + 1 + 1 + 1 + 1, 0, none⟩) m.comps.length (m.comps.length + 8), .slice (some ⟨w.heap.size + 1 + 1 + 1 + 1 + 1, 0, none⟩) m.gates.length (m.gates.length + 8), .int .i64 m.depth] _ S9.out Tryz.underlying26 rfl (by kernel_rfl))
             clear S9
             go_wp2_with fail
             refine bodyPost_ret (v := .agg (List.toArray [Value.slice (some ⟨w.heap.size + 1 + 1 + 1, 0, none⟩) m.regs.length (m.regs.length + 8), .slice (some ⟨w.heap.size + 1 + 1 + 1 + 1, 0, none⟩) m.comps.length (m.comps.length + 8), .slice (some ⟨w.heap.size + 1 + 1 + 1 + 1 + 1, 0, none⟩) m.gates.length (m.gates.length + 8), .int .i64 m.depth])) ?_ rfl ⟨rfl, G9.out, lr, lc, lg, TI9.out⟩
             exact results_row Tryz.results6 _ _ rfl hrun.out
end Q
end Go.Proofs.YtdlcphinjnnhcaaGreatDoor
