import Derived.Test.YtdlcphinjnnhcaaGreatDoorK27
import Derived.BigFrame
import Derived.Test.YtdlcphinjnnhcaaGreatDoorK22
import Derived.Test.YtdlcphinjnnhcaaGreatDoorK16
namespace Go.Proofs.YtdlcphinjnnhcaaGreatDoor
set_option maxRecDepth 100000
set_option maxHeartbeats 40000000
namespace Q
open Go.RowKit

theorem TwIn.gr {kk kr kc kg : Nat} {W W' : World} {m : PImg} {lr : List RgV} {lc : List CpV} {lg : List GtV} (h : TwIn kk kr kc kg W m lr lc lg) (q : Gr W W') : TwIn kk kr kc kg W' m lr lc lg :=
 ⟨h.r.gr q, h.c.gr q, h.g.gr q, h.rl, h.cl, h.gl, h.rd.keep (rgOk_keep (Kt.gr q)) (fun _ h => h), h.cd.keep (cpOk_keep (Kt.gr q)) (cpMark_keep (Kt.gr q)), h.gd.keep (gtOk_keep (Kt.gr q)) (fun _ h => h)⟩
theorem wr8_of (n i : Nat) (h : n ≤ 281474976710648) (hi : i < 8) : wrap64 ((n : Int) + (i : Int)) = (n : Int) + (i : Int) ∧ IntKind.i64.wrap ((n : Int) + (i : Int)) = (n : Int) + (i : Int) ∧ (n : Int) + (i : Int) < (n : Int) + 8 ∧ 0 ≤ (n : Int) + (i : Int) ∧ ((n : Int) + (i : Int)).toNat = n + i ∧ ¬ (n : Int) + (i : Int) < 0 :=
 ⟨by unfold wrap64; omega, by rw [IntKind.wrap_i64]; omega, by omega, by omega, by omega, by omega⟩
theorem elem_at {α : Type} {f : α → List Value} {k : Nat} (hf : ∀ x, (f x).length = k) {w : World} {b : Nat} {L : List α} (h : At w b (rowV [] f L).toArray) (i : Nat) (v : α) (hv : L[i]? = some v) : w.rangeAt b (i * k) (f v) := by
 obtain ⟨hi, rfl⟩ := List.getElem?_eq_some_iff.1 hv
 exact h.elem (pre := []) hf i hi (i * k) (by simp)
theorem Still_any (m : PImg) (ra ca ga : Option Addr) (rc cc gc B kk kr kc kg : Nat) (lr : List RgV) (lc : List CpV) (lg : List GtV) (w : World) (hT0 : TwIn kk kr kc kg w m lr lc lg) (hm0 : ImgIn B w ra ca ga m) (hB0 : B ≤ w.heap.size) (hF : TwFit m) : Calls Tryz.prog 9 #[.agg #[.slice (some ⟨kr, 0, none⟩) m.regs.length (m.regs.length + 8), .slice (some ⟨kc, 0, none⟩) m.comps.length (m.comps.length + 8), .slice (some ⟨kg, 0, none⟩) m.gates.length (m.gates.length + 8), .int .i64 m.depth], .agg #[.slice ra m.regs.length rc, .slice ca m.comps.length cc, .slice ga m.gates.length gc, .int .i64 m.depth]] w fun x w' => x = .returned (.bool true) ∧ Gr w w' := by
 have l1 : m.regs.length ≤ 281474976710648 := by have := hF.r; omega
 have l2 : m.comps.length ≤ 281474976710648 := by have := hF.c; omega
 have l3 : m.gates.length ≤ 281474976710648 := by have := hF.g; omega
 have b1w : wrap64 ((m.regs.length : Int) + 8) = (m.regs.length : Int) + 8 := by unfold wrap64; omega
 have b1x : IntKind.i64.wrap ((m.regs.length : Int) + 8) = (m.regs.length : Int) + 8 := by rw [IntKind.wrap_i64]; omega
 have b1l : (m.regs.length : Int) ≤ (m.regs.length : Int) + 8 := by omega
 have b2w : wrap64 ((m.comps.length : Int) + 8) = (m.comps.length : Int) + 8 := by unfold wrap64; omega
 have b2x : IntKind.i64.wrap ((m.comps.length : Int) + 8) = (m.comps.length : Int) + 8 := by rw [IntKind.wrap_i64]; omega
 have b2l : (m.comps.length : Int) ≤ (m.comps.length : Int) + 8 := by omega
 have b3w : wrap64 ((m.gates.length : Int) + 8) = (m.gates.length : Int) + 8 := by unfold wrap64; omega
 have b3x : IntKind.i64.wrap ((m.gates.length : Int) + 8) = (m.gates.length : Int) + 8 := by rw [IntKind.wrap_i64]; omega
 have b3l : (m.gates.length : Int) ≤ (m.gates.length : Int) + 8 := by omega
 replace hT0 := Hid.mk hT0
 replace hm0 := Hid.mk hm0
 replace hF := Hid.mk hF
 replace hB0 := Hid.mk hB0
 go_enter Tryz.func9, Tryz.ntmps9
 go_upto_region 1 with fail
 refine wp_world (fun W => At W (w.heap.size) #[.slice (some ⟨kr, 0, none⟩) m.regs.length (m.regs.length + 8), .slice (some ⟨kc, 0, none⟩) m.comps.length (m.comps.length + 8), .slice (some ⟨kg, 0, none⟩) m.gates.length (m.gates.length + 8), .int .i64 m.depth] ∧ At W (w.heap.size + 1) #[.slice ra m.regs.length rc, .slice ca m.comps.length cc, .slice ga m.gates.length gc, .int .i64 m.depth] ∧ Gr w W) ⟨(At.at_ w _ _ rfl).alloc _, At.at_ _ _ _ (by simp), ((Gr.refl w).alloc _).alloc _⟩ ?_
 rintro W0 ⟨BT, BM, G0⟩
 replace BT := Hid.mk BT
 replace BM := Hid.mk BM
 have t0 : W0.cell? ⟨w.heap.size, 0, none⟩ = some (.slice (some ⟨kr, 0, none⟩) m.regs.length (m.regs.length + 8)) := BT.out.2.1 0
 have c0 : W0.cell? ⟨w.heap.size + 1, 0, none⟩ = some (.slice ra m.regs.length rc) := BM.out.2.1 0
 have t1 : W0.cell? ⟨w.heap.size, 1, none⟩ = some (.slice (some ⟨kc, 0, none⟩) m.comps.length (m.comps.length + 8)) := BT.out.2.1 1
 have c1 : W0.cell? ⟨w.heap.size + 1, 1, none⟩ = some (.slice ca m.comps.length cc) := BM.out.2.1 1
 have t2 : W0.cell? ⟨w.heap.size, 2, none⟩ = some (.slice (some ⟨kg, 0, none⟩) m.gates.length (m.gates.length + 8)) := BT.out.2.1 2
 have c2 : W0.cell? ⟨w.heap.size + 1, 2, none⟩ = some (.slice ga m.gates.length gc) := BM.out.2.1 2
 have t3 : W0.cell? ⟨w.heap.size, 3, none⟩ = some (.int .i64 m.depth) := BT.out.2.1 3
 have c3 : W0.cell? ⟨w.heap.size + 1, 3, none⟩ = some (.int .i64 m.depth) := BM.out.2.1 3
 replace G0 := Hid.mk G0
 have hT := Hid.mk (hT0.out.gr G0.out)
 have hm : Hid (ImgIn B W0 ra ca ga m) := Hid.mk (hm0.out.below (gr_below G0.out hB0.out))
 have hB : Hid (B ≤ W0.heap.size) := Hid.mk (Nat.le_trans hB0.out G0.out.below.size)
 clear hT0 hm0 hB0
 go_upto_region 4 with fail
 clear t0 t1 t2 t3 c0 c1 c2 c3
 have G := Hid.mk (Gr.refl W0)
 go_loopw [5] (fun x wr => ∃ i : Nat, x = .int .i64 i ∧ i ≤ m.regs.length ∧ Hid (Gr W0 wr)) (fun x _ => m.regs.length - (intOf x).toNat)
 case atStart => exact ⟨0, rfl, by omega, G⟩
 case round =>
   clear G
   obtain ⟨i, rfl, hi, G⟩ := hrel
   have t9 := BT.out.gr G.out
   have c9 := BM.out.gr G.out
   by_cases hn : i < m.regs.length
   · have hi1 : (i : Int) < (m.regs.length : Int) := by omega
     have c0 : wr.cell? ⟨w.heap.size + 1, 0, none⟩ = some (.slice ra m.regs.length rc) := c9.2.1 0
     clear t9 c9
     obtain ⟨v, hv, hok⟩ := (hT.out.rd i (by omega)).1 hn
     obtain ⟨b, off, sa, sc, hra, hb1, _, k0, k1, k2, k3, kf⟩ := hm.out.regs i hn
     subst hra
     have hfit := hF.out.rs _ (List.getElem_mem hn)
     obtain ⟨vb, vn, vd, vs⟩ := v
     obtain ⟨rfl, rfl, rfl, hsl⟩ := hok
     replace hsl := Hid.mk hsl
     replace kf := Hid.mk kf
     have rg := Hid.mk (range4 k0 k1 k2 k3)
     have rA := Hid.mk (elem_at rg_len hT.out.r i _ hv)
     clear k0 k1 k2 k3 hv
     have KS : Hid (∀ W, Gr wr W → W.cell? ⟨w.heap.size, 0, none⟩ = some (.slice (some ⟨kr, 0, none⟩) m.regs.length (m.regs.length + 8)) ∧ W.cell? ⟨w.heap.size + 1, 0, none⟩ = some (.slice (some ⟨b, off, none⟩) m.regs.length rc) ∧ W.rangeAt kr (i * 4) (RgV.vals ⟨m.regs[i].b, m.regs[i].n, m.regs[i].data, vs⟩) ∧ W.rangeAt b (off + i * 4) [Value.int .u64 m.regs[i].b, .int .u64 m.regs[i].n, .string (str m.regs[i].data), .slice sa m.regs[i].slots.length sc]) := Hid.mk (fun W q => ⟨(BT.out.gr (G.out.trans q)).2.1 0, (BM.out.gr (G.out.trans q)).2.1 0, range_gr rA.out hT.out.r.1 (gr_below (G.out.trans q) (Nat.le_refl _)), range_gr rg.out hb1 (gr_below (G.out.trans q) hB.out)⟩)
     have hcl := Hid.mk (fun (W : World) (q : Gr wr W) => show Calls Tryz.prog 24 #[.agg (RgV.vals ⟨m.regs[i].b, m.regs[i].n, m.regs[i].data, vs⟩).toArray, .agg (List.toArray [Value.int .u64 m.regs[i].b, .int .u64 m.regs[i].n, .string (str m.regs[i].data), .slice sa m.regs[i].slots.length sc])] W _ from stillRegion_any m.regs[i] vs sa sc B kk W (hsl.out.keep (Kt.gr (G.out.trans q))) (kf.out.below (gr_below (G.out.trans q) hB.out)) (Nat.le_trans hB.out (G.out.trans q).below.size) (by omega))
     go_upto_region 6 with fail
     have d1 : Gr wr wr.drew := (Gr.refl _).drew
     refine wp_region_held_drew (S := (fun W => W.cell? ⟨w.heap.size, 0, none⟩ = some (.slice (some ⟨kr, 0, none⟩) m.regs.length (m.regs.length + 8)) ∧ W.cell? ⟨w.heap.size + 1, 0, none⟩ = some (.slice (some ⟨b, off, none⟩) m.regs.length rc) ∧ W.rangeAt kr (i * 4) (RgV.vals ⟨m.regs[i].b, m.regs[i].n, m.regs[i].data, vs⟩) ∧ W.rangeAt b (off + i * 4) [Value.int .u64 m.regs[i].b, .int .u64 m.regs[i].n, .string (str m.regs[i].data), .slice sa m.regs[i].slots.length sc])) (by kernel_rfl) (KS.out _ d1) (fun hHeld => ?_)
     refine xso 0 ?_ rfl ?_ (xso 1 ?_ rfl ?_ (xso 2 ?_ rfl ?_ (xso 3 ?_ rfl ?_ ?_)))
     iterate 4 (rotate_left; focus ((try simp only [xap]); intro w hSw; (try dsimp only at hSw); go_simp; first | done | with_reducible rfl))
     try simp only [xap]
     refine xtk 4 rfl (yieldsIf_load_mid (by rfl) _ _ rfl _ _ rfl _ _ (fun _ h => h.2.2.1) Tryz.underlying45 rfl (by kernel_rfl)) ?_
     try simp only [xap]
     refine xso 5 ?_ rfl ?_ (xso 6 ?_ rfl ?_ (xso 7 ?_ rfl ?_ (xso 8 ?_ rfl ?_ ?_)))
     iterate 4 (rotate_left; focus ((try simp only [xap]); intro w hSw; (try dsimp only at hSw); go_simp; first | done | with_reducible rfl))
     try simp only [xap]
     refine xtk 9 rfl (yieldsIf_load_mid (by rfl) _ _ rfl _ _ rfl _ _ (fun _ h => h.2.2.2) Tryz.underlying45 rfl (by kernel_rfl)) ?_
     try simp only [xap]
     refine xrd 10 rfl (fun K hK => ?_)
     go_simp
     go_wp2_with ((go_at_call 24; refine (hcl.out _ (by (repeat (first | with_reducible assumption | with_reducible exact Gr.refl _ | with_reducible refine Gr.drew ?_ | with_reducible refine Gr.alloc ?_ _)))).mono ?_; rintro x wq ⟨rfl, q9⟩; have d1 : Gr wr wq := Gr.trans (by (repeat (first | with_reducible assumption | with_reducible exact Gr.refl _ | with_reducible refine Gr.drew ?_ | with_reducible refine Gr.alloc ?_ _))) q9; clear q9))
     refine hK.out _ _ (KS.out _ d1) (fun hHeld => ?_)
     clear hK K
     try simp only [xap]
     refine xso 11 ?_ rfl ?_ ?_
     rotate_left
     · intro w hSw; (try dsimp only at hSw); go_simp; first | done | with_reducible rfl
     try simp only [xap]
     refine xdn ?_ _
     clear hHeld KS hcl
     replace G := Hid.mk (G.out.trans d1)
     clear d1
     generalize wq = wr at *
     clear rA rg kf hsl
     go_wp2_with fail
     exact ⟨⟨i + 1, by go_num, by omega, G⟩, by simp [intOf]; omega⟩
   · have hi1 : ¬ (i : Int) < (m.regs.length : Int) := by omega
     have c0 : wr.cell? ⟨w.heap.size + 1, 0, none⟩ = some (.slice ra m.regs.length rc) := c9.2.1 0
     have G2 := G
     clear G
     have z0 := G2.out
     go_upto_region 10 with fail
     clear t9 c9 z0 c0
     go_loopw [7] (fun x wr => ∃ i : Nat, x = .int .i64 i ∧ i ≤ m.comps.length ∧ Hid (Gr W0 wr)) (fun x _ => m.comps.length - (intOf x).toNat)
     case atStart => exact ⟨0, rfl, by omega, G2⟩
     case round =>
       clear G2
       obtain ⟨i, rfl, hi, G⟩ := hrel
       have t9 := BT.out.gr G.out
       have c9 := BM.out.gr G.out
       by_cases hn : i < m.comps.length
       · have hi1 : (i : Int) < (m.comps.length : Int) := by omega
         have c1 : wr.cell? ⟨w.heap.size + 1, 1, none⟩ = some (.slice ca m.comps.length cc) := c9.2.1 1
         clear t9 c9
         obtain ⟨v, hv, hok⟩ := (hT.out.cd i (by omega)).1 hn
         obtain ⟨b, off, ra', rc', ka, kc', hca, hb1, _, k0, k1, fr, fk⟩ := hm.out.comps i hn
         subst hca
         have hfit := hF.out.cs _ (List.getElem_mem hn)
         obtain ⟨vr, vk⟩ := v
         obtain ⟨⟨g1, e1, _, A1⟩, ⟨g2, e2, _, A2⟩⟩ := hok
         dsimp only at e1 e2
         subst e1 e2
         replace A1 := Hid.mk A1
         replace A2 := Hid.mk A2
         replace fr := Hid.mk fr
         replace fk := Hid.mk fk
         have rg := Hid.mk (range2 k0 k1)
         have rA := Hid.mk (elem_at cp_len hT.out.c i _ hv)
         clear k0 k1 hv
         have KS : Hid (∀ W, Gr wr W → W.cell? ⟨w.heap.size, 1, none⟩ = some (.slice (some ⟨kc, 0, none⟩) m.comps.length (m.comps.length + 8)) ∧ W.cell? ⟨w.heap.size + 1, 1, none⟩ = some (.slice (some ⟨b, off, none⟩) m.comps.length cc) ∧ W.rangeAt kc (i * 2) (CpV.vals ⟨⟨some ⟨g1, 0, none⟩, m.comps[i].roots.length, m.comps[i].roots.length + 8⟩, ⟨some ⟨g2, 0, none⟩, m.comps[i].code.length, m.comps[i].code.length + 8⟩⟩) ∧ W.rangeAt b (off + i * 2) [Value.slice ra' m.comps[i].roots.length rc', .slice ka m.comps[i].code.length kc']) := Hid.mk (fun W q => ⟨(BT.out.gr (G.out.trans q)).2.1 1, (BM.out.gr (G.out.trans q)).2.1 1, range_gr rA.out hT.out.c.1 (gr_below (G.out.trans q) (Nat.le_refl _)), range_gr rg.out hb1 (gr_below (G.out.trans q) hB.out)⟩)
         have hcl := Hid.mk (fun (W : World) (q : Gr wr W) => show Calls Tryz.prog 25 #[.agg (CpV.vals ⟨⟨some ⟨g1, 0, none⟩, m.comps[i].roots.length, m.comps[i].roots.length + 8⟩, ⟨some ⟨g2, 0, none⟩, m.comps[i].code.length, m.comps[i].code.length + 8⟩⟩).toArray, .agg (List.toArray [Value.slice ra' m.comps[i].roots.length rc', .slice ka m.comps[i].code.length kc'])] W _ from stillComp_any m.comps[i] ra' ka rc' kc' B g1 g2 W (A1.out.gr (G.out.trans q)) (A2.out.gr (G.out.trans q)) (fr.out.below (gr_below (G.out.trans q) hB.out)) (fk.out.below (gr_below (G.out.trans q) hB.out)) (Nat.le_trans hB.out (G.out.trans q).below.size) (by omega) (by omega))
         go_upto_region 12 with fail
         have d1 : Gr wr wr.drew := (Gr.refl _).drew
         refine wp_region_held_drew (S := (fun W => W.cell? ⟨w.heap.size, 1, none⟩ = some (.slice (some ⟨kc, 0, none⟩) m.comps.length (m.comps.length + 8)) ∧ W.cell? ⟨w.heap.size + 1, 1, none⟩ = some (.slice (some ⟨b, off, none⟩) m.comps.length cc) ∧ W.rangeAt kc (i * 2) (CpV.vals ⟨⟨some ⟨g1, 0, none⟩, m.comps[i].roots.length, m.comps[i].roots.length + 8⟩, ⟨some ⟨g2, 0, none⟩, m.comps[i].code.length, m.comps[i].code.length + 8⟩⟩) ∧ W.rangeAt b (off + i * 2) [Value.slice ra' m.comps[i].roots.length rc', .slice ka m.comps[i].code.length kc'])) (by kernel_rfl) (KS.out _ d1) (fun hHeld => ?_)
         refine xso 0 ?_ rfl ?_ (xso 1 ?_ rfl ?_ (xso 2 ?_ rfl ?_ (xso 3 ?_ rfl ?_ ?_)))
         iterate 4 (rotate_left; focus ((try simp only [xap]); intro w hSw; (try dsimp only at hSw); go_simp; first | done | with_reducible rfl))
         try simp only [xap]
         refine xtk 4 rfl (yieldsIf_load_mid (by rfl) _ _ rfl _ _ rfl _ _ (fun _ h => h.2.2.1) Tryz.underlying54 rfl (by kernel_rfl)) ?_
         try simp only [xap]
         refine xso 5 ?_ rfl ?_ (xso 6 ?_ rfl ?_ (xso 7 ?_ rfl ?_ (xso 8 ?_ rfl ?_ ?_)))
         iterate 4 (rotate_left; focus ((try simp only [xap]); intro w hSw; (try dsimp only at hSw); go_simp; first | done | with_reducible rfl))
         try simp only [xap]
         refine xtk 9 rfl (yieldsIf_load_mid (by rfl) _ _ rfl _ _ rfl _ _ (fun _ h => h.2.2.2) Tryz.underlying54 rfl (by kernel_rfl)) ?_
         try simp only [xap]
         refine xrd 10 rfl (fun K hK => ?_)
         go_simp
         go_wp2_with ((go_at_call 25; refine (hcl.out _ (by (repeat (first | with_reducible assumption | with_reducible exact Gr.refl _ | with_reducible refine Gr.drew ?_ | with_reducible refine Gr.alloc ?_ _)))).mono ?_; rintro x wq ⟨rfl, q9⟩; have d1 : Gr wr wq := Gr.trans (by (repeat (first | with_reducible assumption | with_reducible exact Gr.refl _ | with_reducible refine Gr.drew ?_ | with_reducible refine Gr.alloc ?_ _))) q9; clear q9))
         refine hK.out _ _ (KS.out _ d1) (fun hHeld => ?_)
         clear hK K
         try simp only [xap]
         refine xso 11 ?_ rfl ?_ ?_
         rotate_left
         · intro w hSw; (try dsimp only at hSw); go_simp; first | done | with_reducible rfl
         try simp only [xap]
         refine xdn ?_ _
         clear hHeld KS hcl
         replace G := Hid.mk (G.out.trans d1)
         clear d1
         generalize wq = wr at *
         clear rA rg fr fk A1 A2
         go_wp2_with fail
         exact ⟨⟨i + 1, by go_num, by omega, G⟩, by simp [intOf]; omega⟩
       · have hi1 : ¬ (i : Int) < (m.comps.length : Int) := by omega
         have c1 : wr.cell? ⟨w.heap.size + 1, 1, none⟩ = some (.slice ca m.comps.length cc) := c9.2.1 1
         have G3 := G
         clear G
         have z0 := G3.out
         go_upto_region 16 with fail
         clear t9 c9 z0 c1
         go_loopw [9] (fun x wr => ∃ i : Nat, x = .int .i64 i ∧ i ≤ m.gates.length ∧ Hid (Gr W0 wr)) (fun x _ => m.gates.length - (intOf x).toNat)
         case atStart => exact ⟨0, rfl, by omega, G3⟩
         case round =>
           clear G3
           obtain ⟨i, rfl, hi, G⟩ := hrel
           have t9 := BT.out.gr G.out
           have c9 := BM.out.gr G.out
           by_cases hn : i < m.gates.length
           · have hi1 : (i : Int) < (m.gates.length : Int) := by omega
             have c2 : wr.cell? ⟨w.heap.size + 1, 2, none⟩ = some (.slice ga m.gates.length gc) := c9.2.1 2
             clear t9 c9
             obtain ⟨v, hv, hok⟩ := (hT.out.gd i (by omega)).1 hn
             obtain ⟨b, off, xa, xc, ya, yc, hga, hb1, _, k0, k1, k2, k3, fx, fy⟩ := hm.out.gates i hn
             subst hga
             have hfit := hF.out.gs _ (List.getElem_mem hn)
             obtain ⟨vc, ve, vx, vy⟩ := v
             obtain ⟨e3, e4, ⟨g1, e1, _, A1⟩, ⟨g2, e2, _, A2⟩⟩ := hok
             dsimp only at e1 e2 e3 e4
             subst e1 e2 e3 e4
             replace A1 := Hid.mk A1
             replace A2 := Hid.mk A2
             replace fx := Hid.mk fx
             replace fy := Hid.mk fy
             replace k0 := Hid.mk k0
             replace k1 := Hid.mk k1
             replace k2 := Hid.mk k2
             replace k3 := Hid.mk k3
             have rA := Hid.mk (elem_at gt_len hT.out.g i _ hv)
             clear hv
             clear c2
             have c2 : wr.cell? ⟨w.heap.size + 1, 2, none⟩ = some (.slice (some ⟨b, off, none⟩) m.gates.length gc) := (BM.out.gr G.out).2.1 2
             have KS : Hid (∀ W, Gr wr W → W.cell? ⟨w.heap.size, 2, none⟩ = some (.slice (some ⟨kg, 0, none⟩) m.gates.length (m.gates.length + 8)) ∧ W.cell? ⟨w.heap.size + 1, 2, none⟩ = some (.slice (some ⟨b, off, none⟩) m.gates.length gc) ∧ W.cell? ⟨kg, i * 4 + 1 + 1, none⟩ = some (.slice (some ⟨g1, 0, none⟩) m.gates[i].args.length (m.gates[i].args.length + 8)) ∧ W.cell? ⟨b, off + i * 4 + 1 + 1, none⟩ = some (.slice xa m.gates[i].args.length xc)) := Hid.mk (fun W q => ⟨(BT.out.gr (G.out.trans q)).2.1 2, (BM.out.gr (G.out.trans q)).2.1 2, (range_gr rA.out hT.out.g.1 (gr_below (G.out.trans q) (Nat.le_refl _))) 2 _ rfl, ((gr_below (G.out.trans q) hB.out).cell (p := ⟨b, off + i * 4 + 1 + 1, none⟩) hb1).trans k2.out⟩)
             have hcl := Hid.mk (fun (W : World) (q : Gr wr W) => stillTypes_any m.gates[i].args xa xc B g1 W (A1.out.gr (G.out.trans q)) (fx.out.below (gr_below (G.out.trans q) hB.out)) (Nat.le_trans hB.out (G.out.trans q).below.size) (by omega))
             go_upto_region 18 with fail
             have d1 : Gr wr wr.drew := (Gr.refl _).drew
             refine wp_region_held_drew (S := (fun W => W.cell? ⟨w.heap.size, 2, none⟩ = some (.slice (some ⟨kg, 0, none⟩) m.gates.length (m.gates.length + 8)) ∧ W.cell? ⟨w.heap.size + 1, 2, none⟩ = some (.slice (some ⟨b, off, none⟩) m.gates.length gc) ∧ W.cell? ⟨kg, i * 4 + 1 + 1, none⟩ = some (.slice (some ⟨g1, 0, none⟩) m.gates[i].args.length (m.gates[i].args.length + 8)) ∧ W.cell? ⟨b, off + i * 4 + 1 + 1, none⟩ = some (.slice xa m.gates[i].args.length xc))) (by kernel_rfl) (KS.out _ d1) (fun hHeld => ?_)
             refine xso 0 ?_ rfl ?_ (xso 1 ?_ rfl ?_ (xso 2 ?_ rfl ?_ (xso 3 ?_ rfl ?_ (xso 4 ?_ rfl ?_ (xso 5 ?_ rfl ?_ (xso 6 ?_ rfl ?_ (xso 7 ?_ rfl ?_ (xso 8 ?_ rfl ?_ (xso 9 ?_ rfl ?_ (xso 10 ?_ rfl ?_ (xso 11 ?_ rfl ?_ ?_)))))))))))
             iterate 12 (rotate_left; focus ((try simp only [xap]); intro w hSw; (try dsimp only at hSw); go_simp; first | done | with_reducible rfl))
             try simp only [xap]
             refine xrd 12 rfl (fun K hK => ?_)
             go_simp
             go_wp2_with ((go_at_call 26; refine (hcl.out _ (by (repeat (first | with_reducible assumption | with_reducible exact Gr.refl _ | with_reducible refine Gr.drew ?_ | with_reducible refine Gr.alloc ?_ _)))).mono ?_; rintro x wq ⟨rfl, q9⟩; have d1 : Gr wr wq := Gr.trans (by (repeat (first | with_reducible assumption | with_reducible exact Gr.refl _ | with_reducible refine Gr.drew ?_ | with_reducible refine Gr.alloc ?_ _))) q9; clear q9))
             refine hK.out _ _ (KS.out _ d1) (fun hHeld => ?_)
             clear hK K
             try simp only [xap]
             refine xso 13 ?_ rfl ?_ ?_
             rotate_left
             · intro w hSw; (try dsimp only at hSw); go_simp; first | done | with_reducible rfl
             try simp only [xap]
             refine xdn ?_ _
             clear hHeld KS hcl
             replace G := Hid.mk (G.out.trans d1)
             clear d1
             generalize wq = wr at *
             clear c2
             have KS : Hid (∀ W, Gr wr W → W.cell? ⟨w.heap.size, 2, none⟩ = some (.slice (some ⟨kg, 0, none⟩) m.gates.length (m.gates.length + 8)) ∧ W.cell? ⟨w.heap.size + 1, 2, none⟩ = some (.slice (some ⟨b, off, none⟩) m.gates.length gc) ∧ W.cell? ⟨kg, i * 4 + 1 + 1 + 1, none⟩ = some (.slice (some ⟨g2, 0, none⟩) m.gates[i].res.length (m.gates[i].res.length + 8)) ∧ W.cell? ⟨b, off + i * 4 + 1 + 1 + 1, none⟩ = some (.slice ya m.gates[i].res.length yc)) := Hid.mk (fun W q => ⟨(BT.out.gr (G.out.trans q)).2.1 2, (BM.out.gr (G.out.trans q)).2.1 2, (range_gr rA.out hT.out.g.1 (gr_below (G.out.trans q) (Nat.le_refl _))) 3 _ rfl, ((gr_below (G.out.trans q) hB.out).cell (p := ⟨b, off + i * 4 + 1 + 1 + 1, none⟩) hb1).trans k3.out⟩)
             have hcl := Hid.mk (fun (W : World) (q : Gr wr W) => stillTypes_any m.gates[i].res ya yc B g2 W (A2.out.gr (G.out.trans q)) (fy.out.below (gr_below (G.out.trans q) hB.out)) (Nat.le_trans hB.out (G.out.trans q).below.size) (by omega))
             go_upto_region 19 with fail
             have d1 : Gr wr wr.drew := (Gr.refl _).drew
             refine wp_region_held_drew (S := (fun W => W.cell? ⟨w.heap.size, 2, none⟩ = some (.slice (some ⟨kg, 0, none⟩) m.gates.length (m.gates.length + 8)) ∧ W.cell? ⟨w.heap.size + 1, 2, none⟩ = some (.slice (some ⟨b, off, none⟩) m.gates.length gc) ∧ W.cell? ⟨kg, i * 4 + 1 + 1 + 1, none⟩ = some (.slice (some ⟨g2, 0, none⟩) m.gates[i].res.length (m.gates[i].res.length + 8)) ∧ W.cell? ⟨b, off + i * 4 + 1 + 1 + 1, none⟩ = some (.slice ya m.gates[i].res.length yc))) (by kernel_rfl) (KS.out _ d1) (fun hHeld => ?_)
             refine xso 0 ?_ rfl ?_ (xso 1 ?_ rfl ?_ (xso 2 ?_ rfl ?_ (xso 3 ?_ rfl ?_ (xso 4 ?_ rfl ?_ (xso 5 ?_ rfl ?_ (xso 6 ?_ rfl ?_ (xso 7 ?_ rfl ?_ (xso 8 ?_ rfl ?_ (xso 9 ?_ rfl ?_ (xso 10 ?_ rfl ?_ (xso 11 ?_ rfl ?_ ?_)))))))))))
             iterate 12 (rotate_left; focus ((try simp only [xap]); intro w hSw; (try dsimp only at hSw); go_simp; first | done | with_reducible rfl))
             try simp only [xap]
             refine xrd 12 rfl (fun K hK => ?_)
             go_simp
             go_wp2_with ((go_at_call 26; refine (hcl.out _ (by (repeat (first | with_reducible assumption | with_reducible exact Gr.refl _ | with_reducible refine Gr.drew ?_ | with_reducible refine Gr.alloc ?_ _)))).mono ?_; rintro x wq ⟨rfl, q9⟩; have d1 : Gr wr wq := Gr.trans (by (repeat (first | with_reducible assumption | with_reducible exact Gr.refl _ | with_reducible refine Gr.drew ?_ | with_reducible refine Gr.alloc ?_ _))) q9; clear q9))
             refine hK.out _ _ (KS.out _ d1) (fun hHeld => ?_)
             clear hK K
             try simp only [xap]
             refine xso 13 ?_ rfl ?_ ?_
             rotate_left
             · intro w hSw; (try dsimp only at hSw); go_simp; first | done | with_reducible rfl
             try simp only [xap]
             refine xdn ?_ _
             clear hHeld KS hcl
             replace G := Hid.mk (G.out.trans d1)
             clear d1
             generalize wq = wr at *
             have KS : Hid (∀ W, Gr wr W → W.cell? ⟨w.heap.size, 2, none⟩ = some (.slice (some ⟨kg, 0, none⟩) m.gates.length (m.gates.length + 8)) ∧ W.cell? ⟨w.heap.size + 1, 2, none⟩ = some (.slice (some ⟨b, off, none⟩) m.gates.length gc) ∧ W.cell? ⟨kg, i * 4, none⟩ = some (.int .i64 m.gates[i].c) ∧ W.cell? ⟨kg, i * 4 + 1, none⟩ = some (.int .i64 m.gates[i].e) ∧ W.cell? ⟨b, off + i * 4, none⟩ = some (.int .i64 m.gates[i].c) ∧ W.cell? ⟨b, off + i * 4 + 1, none⟩ = some (.int .i64 m.gates[i].e)) := Hid.mk (fun W q => ⟨(BT.out.gr (G.out.trans q)).2.1 2, (BM.out.gr (G.out.trans q)).2.1 2, (range_gr rA.out hT.out.g.1 (gr_below (G.out.trans q) (Nat.le_refl _))) 0 _ rfl, (range_gr rA.out hT.out.g.1 (gr_below (G.out.trans q) (Nat.le_refl _))) 1 _ rfl, ((gr_below (G.out.trans q) hB.out).cell (p := ⟨b, off + i * 4, none⟩) hb1).trans k0.out, ((gr_below (G.out.trans q) hB.out).cell (p := ⟨b, off + i * 4 + 1, none⟩) hb1).trans k1.out⟩)
             go_upto_region 20 with fail
             have d1 : Gr wr wr.drew := (Gr.refl _).drew
             refine wp_region_held_drew (S := (fun W => W.cell? ⟨w.heap.size, 2, none⟩ = some (.slice (some ⟨kg, 0, none⟩) m.gates.length (m.gates.length + 8)) ∧ W.cell? ⟨w.heap.size + 1, 2, none⟩ = some (.slice (some ⟨b, off, none⟩) m.gates.length gc) ∧ W.cell? ⟨kg, i * 4, none⟩ = some (.int .i64 m.gates[i].c) ∧ W.cell? ⟨kg, i * 4 + 1, none⟩ = some (.int .i64 m.gates[i].e) ∧ W.cell? ⟨b, off + i * 4, none⟩ = some (.int .i64 m.gates[i].c) ∧ W.cell? ⟨b, off + i * 4 + 1, none⟩ = some (.int .i64 m.gates[i].e))) (by kernel_rfl) (KS.out _ d1) (fun hHeld => ?_)
             refine xso 0 ?_ rfl ?_ (xso 1 ?_ rfl ?_ (xso 2 ?_ rfl ?_ ?_))
             iterate 3 (rotate_left; focus ((try simp only [xap]); intro w hSw; (try dsimp only at hSw); go_simp; first | done | with_reducible rfl))
             try simp only [xap]
             refine xso 3 ?_ rfl ?_ ?_
             rotate_left
             · intro w hSw; (try dsimp only at hSw); go_simp; first | done | with_reducible rfl
             try simp only [xap]
             refine xso 4 ?_ rfl ?_ (xso 5 ?_ rfl ?_ (xso 6 ?_ rfl ?_ ?_))
             iterate 3 (rotate_left; focus ((try simp only [xap]); intro w hSw; (try dsimp only at hSw); go_simp; first | done | with_reducible rfl))
             try simp only [xap]
             refine xso 7 ?_ rfl ?_ ?_
             rotate_left
             · intro w hSw; (try dsimp only at hSw); go_simp; first | done | with_reducible rfl
             try simp only [xap]
             refine xso 8 ?_ rfl ?_ ?_
             rotate_left
             · intro w hSw; (try dsimp only at hSw); go_simp; first | done | with_reducible rfl
             try simp only [xap]
             refine xso 9 ?_ rfl ?_ ?_
             rotate_left
             · intro w hSw; (try dsimp only at hSw); go_simp; first | done | with_reducible rfl
             try simp only [xap]
             refine xso 10 ?_ rfl ?_ ?_
             rotate_left
             · intro w hSw; (try dsimp only at hSw); go_simp; first | done | with_reducible rfl
             try simp only [xap]
             refine xso 11 ?_ rfl ?_ ?_
             rotate_left
             · intro w hSw; (try dsimp only at hSw); go_simp; first | done | with_reducible rfl
             try simp only [xap]
             refine xso 12 ?_ rfl ?_ ?_
             rotate_left
             · intro w hSw; (try dsimp only at hSw); go_simp; first | done | with_reducible rfl
             try simp only [xap]
             refine xso 13 ?_ rfl ?_ ?_
             rotate_left
             · intro w hSw; (try dsimp only at hSw); go_simp; first | done | with_reducible rfl
             try simp only [xap]
             refine xso 14 ?_ rfl ?_ ?_
             rotate_left
             · intro w hSw; (try dsimp only at hSw); go_simp; first | done | with_reducible rfl
             try simp only [xap]
             refine xso 15 ?_ rfl ?_ ?_
             rotate_left
             · intro w hSw; (try dsimp only at hSw); go_simp; first | done | with_reducible rfl
             try simp only [xap]
             refine xso 16 ?_ rfl ?_ ?_
             rotate_left
             · intro w hSw; (try dsimp only at hSw); go_simp; first | done | with_reducible rfl
             try simp only [xap]
             refine xso 17 ?_ rfl ?_ ?_
             rotate_left
             · intro w hSw; (try dsimp only at hSw); go_simp; first | done | with_reducible rfl
             try simp only [xap]
             refine xso 18 ?_ rfl ?_ ?_
             rotate_left
             · intro w hSw; (try dsimp only at hSw); go_simp; first | done | with_reducible rfl
             try simp only [xap]
             refine xso 19 ?_ rfl ?_ (xso 20 ?_ rfl ?_ (xso 21 ?_ rfl ?_ ?_))
             iterate 3 (rotate_left; focus ((try simp only [xap]); intro w hSw; (try dsimp only at hSw); go_simp; first | done | with_reducible rfl))
             try simp only [xap]
             refine xso 22 ?_ rfl ?_ ?_
             rotate_left
             · intro w hSw; (try dsimp only at hSw); go_simp; first | done | with_reducible rfl
             try simp only [xap]
             refine xso 23 ?_ rfl ?_ ?_
             rotate_left
             · intro w hSw; (try dsimp only at hSw); go_simp; first | done | with_reducible rfl
             try simp only [xap]
             refine xso 24 ?_ rfl ?_ ?_
             rotate_left
             · intro w hSw; (try dsimp only at hSw); go_simp; first | done | with_reducible rfl
             try simp only [xap]
             refine xso 25 ?_ rfl ?_ ?_
             rotate_left
             · intro w hSw; (try dsimp only at hSw); go_simp; first | done | with_reducible rfl
             try simp only [xap]
             refine xso 26 ?_ rfl ?_ ?_
             rotate_left
             · intro w hSw; (try dsimp only at hSw); go_simp; first | done | with_reducible rfl
             try simp only [xap]
             refine xso 27 ?_ rfl ?_ ?_
             rotate_left
             · intro w hSw; (try dsimp only at hSw); go_simp; first | done | with_reducible rfl
             try simp only [xap]
             refine xso 28 ?_ rfl ?_ ?_
             rotate_left
             · intro w hSw; (try dsimp only at hSw); go_simp; first | done | with_reducible rfl
             try simp only [xap]
             refine xso 29 ?_ rfl ?_ ?_
             rotate_left
             · intro w hSw; (try dsimp only at hSw); go_simp; first | done | with_reducible rfl
             try simp only [xap]
             refine xso 30 ?_ rfl ?_ ?_
             rotate_left
             · intro w hSw; (try dsimp only at hSw); go_simp; first | done | with_reducible rfl
             try simp only [xap]
             refine xso 31 ?_ rfl ?_ ?_
             rotate_left
             · intro w hSw; (try dsimp only at hSw); go_simp; first | done | with_reducible rfl
             try simp only [xap]
             refine xso 32 ?_ rfl ?_ ?_
             rotate_left
             · intro w hSw; (try dsimp only at hSw); go_simp; first | done | with_reducible rfl
             try simp only [xap]
             refine xso 33 ?_ rfl ?_ ?_
             rotate_left
             · intro w hSw; (try dsimp only at hSw); go_simp; first | done | with_reducible rfl
             try simp only [xap]
             refine xso 34 ?_ rfl ?_ (xso 35 ?_ rfl ?_ ?_)
             iterate 2 (rotate_left; focus ((try simp only [xap]); intro w hSw; (try dsimp only at hSw); go_simp; first | done | with_reducible rfl))
             try simp only [xap]
             refine xdn ?_ _
             clear hHeld KS 
             replace G := Hid.mk (G.out.trans d1)
             clear d1
             generalize wr.drew = wr at *
             clear rA fx fy A1 A2 k0 k1 k2 k3
             go_wp2_with fail
             exact ⟨⟨i + 1, by go_num, by omega, G⟩, by simp [intOf]; omega⟩
           · have hi1 : ¬ (i : Int) < (m.gates.length : Int) := by omega
             have c2 : wr.cell? ⟨w.heap.size + 1, 2, none⟩ = some (.slice ga m.gates.length gc) := c9.2.1 2
             have c0 : wr.cell? ⟨w.heap.size + 1, 0, none⟩ = some (.slice ra m.regs.length rc) := c9.2.1 0
             have c1 : wr.cell? ⟨w.heap.size + 1, 1, none⟩ = some (.slice ca m.comps.length cc) := c9.2.1 1
             have t0 : wr.cell? ⟨w.heap.size, 0, none⟩ = some (.slice (some ⟨kr, 0, none⟩) m.regs.length (m.regs.length + 8)) := t9.2.1 0
             have t1 : wr.cell? ⟨w.heap.size, 1, none⟩ = some (.slice (some ⟨kc, 0, none⟩) m.comps.length (m.comps.length + 8)) := t9.2.1 1
             have t2 : wr.cell? ⟨w.heap.size, 2, none⟩ = some (.slice (some ⟨kg, 0, none⟩) m.gates.length (m.gates.length + 8)) := t9.2.1 2
             have G4 := G
             clear G
             go_upto_region 26 with fail
             clear t9 c9 c0 c1 c2 t0 t1 t2
             go_loopw [15] (fun x wr => ∃ i : Nat, x = .int .i64 i ∧ i ≤ 8 ∧ Hid (Gr W0 wr)) (fun x _ => 8 - (intOf x).toNat)
             case atStart => exact ⟨0, rfl, by omega, G4⟩
             case round =>
               clear G4
               obtain ⟨i, rfl, hi, G⟩ := hrel
               have t9 := BT.out.gr G.out
               have c9 := BM.out.gr G.out
               by_cases hn : i < 8
               · have hi1 : (i : Int) < 8 := by omega
                 clear t9 c9
                 obtain ⟨v2, hv2, hk2, g1, e1, _, A1⟩ := (hT.out.cd (m.comps.length + i) (by omega)).2 (by omega)
                 obtain ⟨v1, hv1, q1⟩ := (hT.out.rd (m.regs.length + i) (by omega)).2 (by omega)
                 obtain ⟨v3, hv3, q3⟩ := (hT.out.gd (m.gates.length + i) (by omega)).2 (by omega)
                 have q1' : v1 = rgM := q1
                 have q3' : v3 = gtM := q3
                 subst q1' q3'
                 obtain ⟨vr, vk⟩ := v2
                 dsimp only at hk2 e1
                 subst hk2 e1
                 clear q1 q3
                 replace A1 := Hid.mk (A1.gr G.out)
                 have r2 := Hid.mk (range_gr (elem_at cp_len hT.out.c _ _ hv2) hT.out.c.1 (gr_below G.out (Nat.le_refl _)))
                 have r1 := Hid.mk (fun (W : World) (q : Gr W0 W) => range_gr (elem_at rg_len hT.out.r _ _ hv1) hT.out.r.1 (gr_below q (Nat.le_refl _)))
                 have r3 := Hid.mk (fun (W : World) (q : Gr W0 W) => range_gr (elem_at gt_len hT.out.g _ _ hv3) hT.out.g.1 (gr_below q (Nat.le_refl _)))
                 clear hv1 hv2 hv3
                 have c1 : wr.cell? ⟨w.heap.size + 1, 1, none⟩ = some (.slice ca m.comps.length cc) := (BM.out.gr G.out).2.1 1
                 obtain ⟨y2i, y2j, y2k, y2n, y2t, y2m⟩ := wr8_of m.comps.length i l2 hn
                 go_upto_region 28 with fail
                 refine wp_region_lit ?_
                 iterate 7 (refine wpList_plain rfl (fun K hK => ?_); go_simp; with_reducible refine hK _ _ ?_; clear hK K; (try simp only [xap]))
                 refine wpList_plain rfl (fun K hK => ?_)
                 refine wp_load_mid _ _ rfl _ ((m.comps.length + i) * 2) rfl (CpV.vals ⟨⟨some ⟨g1, 0, none⟩, 1, 1⟩, nilS⟩) _ r2.out Tryz.underlying54 rfl (by kernel_rfl) (hK _ _ ?_)
                 clear hK K
                 try simp only [xap]
                 refine wpList_plain rfl (fun K hK => ?_)
                 go_simp
                 with_reducible refine hK _ _ ?_
                 clear hK K
                 try simp only [xap]
                 have x1 := Hid.mk (At.new wr [Value.slice none 0 0, .slice none 0 0].toArray 54)
                 refine wpList_plain rfl (fun K hK => ?_)
                 refine wp_store_mid _ _ _ rfl _ _ (List.toArray (CpV.vals ⟨⟨some ⟨g1, 0, none⟩, 1, 1⟩, nilS⟩)) rfl rfl (x1.out.there 0 _ (by first | exact Nat.le_refl _ | simp)) (by kernel_rfl) (all_oneCell_toArray (cp_one _)) (hK _ _ ?_)
                 clear hK K
                 try simp only [Act.put]
                 replace x1 := Hid.mk (x1.out.setAll (CpV.vals ⟨⟨some ⟨g1, 0, none⟩, 1, 1⟩, nilS⟩) rfl)
                 replace A1 := Hid.mk ((A1.out.alloc (Obj.cells [Value.slice none 0 0, .slice none 0 0].toArray 54)).other (b' := wr.heap.size) (Nat.ne_of_lt A1.out.1) 0 (CpV.vals ⟨⟨some ⟨g1, 0, none⟩, 1, 1⟩, nilS⟩))
                 have hk9 : W0.heap.size ≤ wr.heap.size := G.out.below.size
                 replace G := Hid.mk ((G.out.alloc (Obj.cells [Value.slice none 0 0, .slice none 0 0].toArray 54)).setCells wr.heap.size hk9 (CpV.vals ⟨⟨some ⟨g1, 0, none⟩, 1, 1⟩, nilS⟩) 0)
                 generalize World.setCells _ _ _ _ = V1 at *
                 generalize wr.heap.size = ka1 at *
                 clear hk9
                 clear r2 c1
                 have c0 : V1.cell? ⟨w.heap.size + 1, 0, none⟩ = some (.slice ra m.regs.length rc) := (BM.out.gr G.out).2.1 0
                 have rr1 := Hid.mk (r1.out V1 G.out)
                 clear r1 y2i y2j y2k y2n y2t y2m
                 obtain ⟨y1i, y1j, y1k, y1n, y1t, y1m⟩ := wr8_of m.regs.length i l1 hn
                 go_upto_region 29 with fail
                 refine wp_region_lit ?_
                 iterate 7 (refine wpList_plain rfl (fun K hK => ?_); go_simp; with_reducible refine hK _ _ ?_; clear hK K; (try simp only [xap]))
                 refine wpList_plain rfl (fun K hK => ?_)
                 refine wp_load_mid _ _ rfl _ ((m.regs.length + i) * 4) rfl (RgV.vals rgM) _ rr1.out Tryz.underlying45 rfl (by kernel_rfl) (hK _ _ ?_)
                 clear hK K
                 try simp only [xap]
                 refine wpList_plain rfl (fun K hK => ?_)
                 go_simp
                 with_reducible refine hK _ _ ?_
                 clear hK K
                 try simp only [xap]
                 have x2 := Hid.mk (At.new V1 [Value.int .u64 0, .int .u64 0, .string { data := #[] }, .slice none 0 0].toArray 45)
                 refine wpList_plain rfl (fun K hK => ?_)
                 refine wp_store_mid _ _ _ rfl _ _ (List.toArray (RgV.vals rgM)) rfl rfl (x2.out.there 0 _ (by first | exact Nat.le_refl _ | simp)) (by kernel_rfl) (all_oneCell_toArray (rg_one _)) (hK _ _ ?_)
                 clear hK K
                 try simp only [Act.put]
                 replace x2 := Hid.mk (x2.out.setAll (RgV.vals rgM) rfl)
                 replace A1 := Hid.mk ((A1.out.alloc (Obj.cells [Value.int .u64 0, .int .u64 0, .string { data := #[] }, .slice none 0 0].toArray 45)).other (b' := V1.heap.size) (Nat.ne_of_lt A1.out.1) 0 (RgV.vals rgM))
                 replace x1 := Hid.mk ((x1.out.alloc (Obj.cells [Value.int .u64 0, .int .u64 0, .string { data := #[] }, .slice none 0 0].toArray 45)).other (b' := V1.heap.size) (Nat.ne_of_lt x1.out.1) 0 (RgV.vals rgM))
                 have hk9 : W0.heap.size ≤ V1.heap.size := G.out.below.size
                 replace G := Hid.mk ((G.out.alloc (Obj.cells [Value.int .u64 0, .int .u64 0, .string { data := #[] }, .slice none 0 0].toArray 45)).setCells V1.heap.size hk9 (RgV.vals rgM) 0)
                 generalize World.setCells _ _ _ _ = V2 at *
                 generalize V1.heap.size = ka2 at *
                 clear hk9
                 clear rr1 c0
                 have c2 : V2.cell? ⟨w.heap.size + 1, 2, none⟩ = some (.slice ga m.gates.length gc) := (BM.out.gr G.out).2.1 2
                 have rr3 := Hid.mk (r3.out V2 G.out)
                 clear r3 y1i y1j y1k y1n y1t y1m
                 obtain ⟨y3i, y3j, y3k, y3n, y3t, y3m⟩ := wr8_of m.gates.length i l3 hn
                 go_upto_region 30 with fail
                 refine wp_region_lit ?_
                 iterate 7 (refine wpList_plain rfl (fun K hK => ?_); go_simp; with_reducible refine hK _ _ ?_; clear hK K; (try simp only [xap]))
                 refine wpList_plain rfl (fun K hK => ?_)
                 refine wp_load_mid _ _ rfl _ ((m.gates.length + i) * 4) rfl (GtV.vals gtM) _ rr3.out Tryz.underlying59 rfl (by kernel_rfl) (hK _ _ ?_)
                 clear hK K
                 try simp only [xap]
                 refine wpList_plain rfl (fun K hK => ?_)
                 go_simp
                 with_reducible refine hK _ _ ?_
                 clear hK K
                 try simp only [xap]
                 have x3 := Hid.mk (At.new V2 [Value.int .i64 0, .int .i64 0, .slice none 0 0, .slice none 0 0].toArray 59)
                 refine wpList_plain rfl (fun K hK => ?_)
                 refine wp_store_mid _ _ _ rfl _ _ (List.toArray (GtV.vals gtM)) rfl rfl (x3.out.there 0 _ (by first | exact Nat.le_refl _ | simp)) (by kernel_rfl) (all_oneCell_toArray (gt_one _)) (hK _ _ ?_)
                 clear hK K
                 try simp only [Act.put]
                 replace x3 := Hid.mk (x3.out.setAll (GtV.vals gtM) rfl)
                 replace A1 := Hid.mk ((A1.out.alloc (Obj.cells [Value.int .i64 0, .int .i64 0, .slice none 0 0, .slice none 0 0].toArray 59)).other (b' := V2.heap.size) (Nat.ne_of_lt A1.out.1) 0 (GtV.vals gtM))
                 replace x1 := Hid.mk ((x1.out.alloc (Obj.cells [Value.int .i64 0, .int .i64 0, .slice none 0 0, .slice none 0 0].toArray 59)).other (b' := V2.heap.size) (Nat.ne_of_lt x1.out.1) 0 (GtV.vals gtM))
                 replace x2 := Hid.mk ((x2.out.alloc (Obj.cells [Value.int .i64 0, .int .i64 0, .slice none 0 0, .slice none 0 0].toArray 59)).other (b' := V2.heap.size) (Nat.ne_of_lt x2.out.1) 0 (GtV.vals gtM))
                 have hk9 : W0.heap.size ≤ V2.heap.size := G.out.below.size
                 replace G := Hid.mk ((G.out.alloc (Obj.cells [Value.int .i64 0, .int .i64 0, .slice none 0 0, .slice none 0 0].toArray 59)).setCells V2.heap.size hk9 (GtV.vals gtM) 0)
                 generalize World.setCells _ _ _ _ = V3 at *
                 generalize V2.heap.size = ka3 at *
                 clear hk9
                 clear rr3 c2 y3i y3j y3k y3n y3t y3m
                 have s1 : V3.cell? ⟨ka1, 0, none⟩ = some (.slice (some ⟨g1, 0, none⟩) 1 1) := x1.out.2.1 0
                 have s2 : V3.cell? ⟨ka1, 1, none⟩ = some (.slice none 0 0) := x1.out.2.1 1
                 have s3 : V3.cell? ⟨g1, 0, none⟩ = some (.int .i64 (-7)) := A1.out.2.1 0
                 have s4 : V3.cell? ⟨ka2, 2, none⟩ = some (.string { data := #[109, 97, 114, 107] }) := x2.out.2.1 2
                 have s5 : V3.cell? ⟨ka2, 0, none⟩ = some (.int .u64 77) := x2.out.2.1 0
                 have s6 : V3.cell? ⟨ka3, 0, none⟩ = some (.int .i64 (-7)) := x3.out.2.1 0
                 clear x1 x2 x3 A1
                 go_upto_region 31 with fail
                 refine wp_region_lit ?_
                 iterate 5 (refine wpList_plain rfl (fun K hK => ?_); go_simp; with_reducible refine hK _ _ ?_; clear hK K; (try simp only [xap]))
                 refine BigFrame.wpList_want (by rfl) (fun K hK => ?_)
                 go_simp
                 with_reducible refine hK _ _ ?_
                 clear hK K
                 try simp only [xap]
                 refine BigFrame.wpList_want (by rfl) (fun K hK => ?_)
                 go_simp
                 with_reducible refine hK _ _ ?_
                 clear hK K
                 try simp only [xap]
                 refine BigFrame.wpList_want (by rfl) (fun K hK => ?_)
                 go_simp
                 with_reducible refine hK _ _ ?_
                 clear hK K
                 try simp only [xap]
                 refine BigFrame.wpList_want (by rfl) (fun K hK => ?_)
                 go_simp
                 with_reducible refine hK _ _ ?_
                 clear hK K
                 try simp only [xap]
                 iterate 2 (refine wpList_plain rfl (fun K hK => ?_); go_simp; with_reducible refine hK _ _ ?_; clear hK K; (try simp only [xap]))
                 refine BigFrame.wpList_want (by rfl) (fun K hK => ?_)
                 go_simp
                 with_reducible refine hK _ _ ?_
                 clear hK K
                 try simp only [xap]
                 refine BigFrame.wpList_want (by rfl) (fun K hK => ?_)
                 go_simp
                 with_reducible refine hK _ _ ?_
                 clear hK K
                 try simp only [xap]
                 refine BigFrame.wpList_want (by rfl) (fun K hK => ?_)
                 go_simp
                 with_reducible refine hK _ _ ?_
                 clear hK K
                 try simp only [xap]
                 refine BigFrame.wpList_want (by rfl) (fun K hK => ?_)
                 go_simp
                 with_reducible refine hK _ _ ?_
                 clear hK K
                 try simp only [xap]
                 refine BigFrame.wpList_want (by rfl) (fun K hK => ?_)
                 go_simp
                 with_reducible refine hK _ _ ?_
                 clear hK K
                 try simp only [xap]
                 refine BigFrame.wpList_want (by rfl) (fun K hK => ?_)
                 go_simp
                 with_reducible refine hK _ _ ?_
                 clear hK K
                 try simp only [xap]
                 iterate 2 (refine wpList_plain rfl (fun K hK => ?_); go_simp; with_reducible refine hK _ _ ?_; clear hK K; (try simp only [xap]))
                 refine BigFrame.wpList_want (by rfl) (fun K hK => ?_)
                 go_simp
                 with_reducible refine hK _ _ ?_
                 clear hK K
                 try simp only [xap]
                 refine BigFrame.wpList_want (by rfl) (fun K hK => ?_)
                 go_simp
                 with_reducible refine hK _ _ ?_
                 clear hK K
                 try simp only [xap]
                 refine BigFrame.wpList_want (by rfl) (fun K hK => ?_)
                 go_simp
                 with_reducible refine hK _ _ ?_
                 clear hK K
                 try simp only [xap]
                 iterate 2 (refine wpList_plain rfl (fun K hK => ?_); go_simp; with_reducible refine hK _ _ ?_; clear hK K; (try simp only [xap]))
                 refine BigFrame.wpList_want (by rfl) (fun K hK => ?_)
                 go_simp
                 with_reducible refine hK _ _ ?_
                 clear hK K
                 try simp only [xap]
                 refine BigFrame.wpList_want (by rfl) (fun K hK => ?_)
                 go_simp
                 with_reducible refine hK _ _ ?_
                 clear hK K
                 try simp only [xap]
                 refine BigFrame.wpList_want (by rfl) (fun K hK => ?_)
                 go_simp
                 with_reducible refine hK _ _ ?_
                 clear hK K
                 try simp only [xap]
                 iterate 2 (refine wpList_plain rfl (fun K hK => ?_); go_simp; with_reducible refine hK _ _ ?_; clear hK K; (try simp only [xap]))
                 refine BigFrame.wpList_want (by rfl) (fun K hK => ?_)
                 go_simp
                 with_reducible refine hK _ _ ?_
                 clear hK K
                 try simp only [xap]
                 refine BigFrame.wpList_want (by rfl) (fun K hK => ?_)
                 go_simp
                 with_reducible refine hK _ _ ?_
                 clear hK K
                 try simp only [xap]
                 refine BigFrame.wpList_want (by rfl) (fun K hK => ?_)
                 go_simp
                 with_reducible refine hK _ _ ?_
                 clear hK K
                 try simp only [xap]
                 refine wpList_plain rfl (fun K hK => ?_)
                 go_simp
                 with_reducible refine hK _ _ ?_
                 clear hK K
                 try simp only [xap]
                 clear s1 s2 s3 s4 s5 s6
                 go_wp2_with fail
                 exact ⟨⟨i + 1, by go_num, by omega, G⟩, by simp [intOf]; omega⟩
               · have hi1 : ¬ (i : Int) < 8 := by omega
                 go_wp2_with fail
                 go_ret
                 exact ⟨rfl, G0.out.trans G.out⟩
end Q
end Go.Proofs.YtdlcphinjnnhcaaGreatDoor


namespace Go.Proofs.YtdlcphinjnnhcaaGreatDoor
set_option maxRecDepth 100000
set_option maxHeartbeats 40000000
namespace Bd
open Go.RowKit
open T (Kp)
open Q (RgV CpV GtV Sl LsOk TwIn marked instM rootM)

def haltI : Ins := { op := 27, a := 0, b := 0, c := 0, m := 0 }
def bendL : List Ins → List Ins
 | [] => []
 | _ :: t => haltI :: t
def bendC (c : PComp) : PComp := { c with code := bendL c.code }
def bendP (m : PImg) : PImg := { m with comps := m.comps.map bendC }
theorem bendL_len (L : List Ins) : (bendL L).length = L.length := by cases L <;> rfl
theorem bendP_rng {m : PImg} (h : m.Rng) : (bendP m).Rng := by
 refine ⟨h.regs, ⟨by simp [bendP]; exact h.comps.1, fun c hc => ?_⟩, h.gates, h.depth⟩
 simp only [bendP, List.mem_map] at hc
 obtain ⟨d, hd, rfl⟩ := hc
 obtain ⟨h1, h2, h3, h4⟩ := h.comps.2 d hd
 refine ⟨h1, by show (bendL d.code).length ≤ maxI; rw [bendL_len]; exact h2, ?_, h4⟩
 show OpsIn (bendL d.code)
 cases hq : d.code with
 | nil => rw [hq] at h3; exact h3
 | cons a t =>
   rw [hq] at h3
   intro k hk
   rcases List.mem_cons.1 hk with rfl | hk
   · simp [haltI]
   · exact h3 k (by simp [hk])
theorem vals_inj {a b : Ins} (h : a.vals = b.vals) : a = b := by
 cases a; cases b
 simp [Ins.vals] at h
 simp [h]
theorem flat_inj : ∀ (L M : List Ins), L.flatMap Ins.vals = M.flatMap Ins.vals → L = M
 | [], [], _ => rfl
 | [], b :: M, h => by simp [Ins.vals] at h
 | a :: L, [], h => by simp [Ins.vals] at h
 | a :: L, b :: M, h => by
   rw [List.flatMap_cons, List.flatMap_cons] at h
   have h1 := List.append_inj h rfl
   rw [vals_inj h1.1, flat_inj L M h1.2]
theorem at_one {w : World} {b : Nat} {cs cs' : Array Value} (h : At w b cs) (g : At w b cs') : cs = cs' := by
 apply Array.ext_getElem?
 intro i
 rw [← h.2.1 i, ← g.2.1 i]
theorem rows_one {w : World} {b : Nat} {L M : List Ins} (h : At w b (rowV [] Ins.vals (marked instM L)).toArray) (g : At w b (rowV [] Ins.vals (marked instM M)).toArray) : L = M := by
 have e := at_one h g
 have e2 : rowV [] Ins.vals (marked instM L) = rowV [] Ins.vals (marked instM M) := by simpa using congrArg Array.toList e
 unfold rowV at e2
 have e3 := flat_inj _ _ (by simpa using e2)
 unfold Q.marked at e3
 exact List.append_cancel_right e3
def CodeAt (m : PImg) (lc : List CpV) (b : Nat) : Prop := ∃ k v, k < m.comps.length ∧ lc[k]? = some v ∧ v.k.a = some ⟨b, 0, none⟩
structure Bnt (kk : Nat) (m : PImg) (lc : List CpV) (w wr : World) (i : Nat) : Prop where
 row : ∀ k (hk : k < m.comps.length) v, lc[k]? = some v → ∃ g L', v.k = ⟨some ⟨g, 0, none⟩, m.comps[k].code.length, m.comps[k].code.length + 8⟩ ∧ kk < g ∧ g < w.heap.size ∧ At wr g (rowV [] Ins.vals (marked instM L')).toArray ∧ (L' = m.comps[k].code ∨ L' = bendL m.comps[k].code) ∧ (k < i → L' = bendL m.comps[k].code)
 kp : Kp (CodeAt m lc) w wr
section
variable {kk kr kc kg : Nat} {m : PImg} {lr : List RgV} {lc : List CpV} {lg : List GtV} {w wr : World} {i : Nat}
theorem Bnt.start (h : TwIn kk kr kc kg w m lr lc lg) : Bnt kk m lc w w 0 := by
 refine ⟨fun k hk v hv => ?_, Kp.refl _ _⟩
 obtain ⟨v', hv', hok⟩ := (h.cd k (by omega)).1 hk
 rw [hv] at hv'
 injection hv' with hv'
 subst hv'
 obtain ⟨g, e1, e2, e3⟩ := hok.2
 exact ⟨g, m.comps[k].code, e1, e2, e3.1, e3, .inl rfl, fun h => by omega⟩
theorem Bnt.past {w' : World} (h : Bnt kk m lc w wr i) (hb : Below wr.heap.size wr w') : Bnt kk m lc w w' i := by
 refine ⟨fun k hk v hv => ?_, h.kp.trans (Kp.of_below hb) (fun _ q => q)⟩
 obtain ⟨g, L', h1, h2, h3, h4, h5⟩ := h.row k hk v hv
 exact ⟨g, L', h1, h2, h3, at_past h4 hb, h5⟩
theorem Bnt.skip (h : Bnt kk m lc w wr i) (hi : i < m.comps.length) (h0 : m.comps[i].code = []) : Bnt kk m lc w wr (i + 1) := by
 refine ⟨fun k hk v hv => ?_, h.kp⟩
 obtain ⟨g, L', h1, h2, h3, h4, h5, h6⟩ := h.row k hk v hv
 refine ⟨g, L', h1, h2, h3, h4, h5, fun q => ?_⟩
 by_cases e : k = i
 · subst e
   rw [h0] at h5 ⊢
   rcases h5 with e | e <;> rw [e]
   rfl
 · exact h6 (by omega)
theorem bend_two {L M : List Ins} (h : L ≠ []) (e : M = L ∨ M = bendL L) : ∃ x t, M = x :: t ∧ bendL L = haltI :: t := by
 cases L with
 | nil => exact absurd rfl h
 | cons a t =>
   rcases e with e | e
   · exact ⟨a, t, e, rfl⟩
   · exact ⟨haltI, t, e, rfl⟩
theorem Bnt.put (h : Bnt kk m lc w wr i) (hi : i < m.comps.length) {v : CpV} (hv : lc[i]? = some v) {g : Nat} (hg : v.k.a = some ⟨g, 0, none⟩) (h0 : m.comps[i].code ≠ []) : Bnt kk m lc w (wr.setCells g 0 haltI.vals) (i + 1) := by
 obtain ⟨g1, L1, r1, r2, r3, r4, r5, r6⟩ := h.row i hi v hv
 rw [r1] at hg
 injection hg with hg
 injection hg with hg
 subst hg
 obtain ⟨x, t, ex, eb⟩ := bend_two h0 r5
 subst ex
 have hs : At (wr.setCells g1 0 haltI.vals) g1 (rowV [] Ins.vals (marked instM (haltI :: t))).toArray := by
   have := r4.setElem (k := 5) (fun _ => rfl) 0 (by simp [Q.marked]) haltI 0 (by simp)
   exact this
 refine ⟨fun k hk u hu => ?_, h.kp.trans (kp_sets wr g1 haltI.vals 0) (fun b e => ?_)⟩
 · obtain ⟨g, L', h1, h2, h3, h4, h5, h6⟩ := h.row k hk u hu
   by_cases e : g = g1
   · subst e
     have eL := rows_one h4 r4
     subst eL
     have hne : m.comps[k].code ≠ [] := fun q => by
       rw [q] at h5
       rcases h5 with e | e <;> cases e
     obtain ⟨x2, t2, ex2, eb2⟩ := bend_two hne h5
     injection ex2 with e3 e4
     subst e4
     exact ⟨g, haltI :: t, h1, h2, h3, hs, .inr eb2.symm, fun _ => eb2.symm⟩
   · refine ⟨g, L', h1, h2, h3, h4.other e 0 haltI.vals, h5, fun q => ?_⟩
     by_cases e2 : k = i
     · subst e2
       rw [hv] at hu
       injection hu with hu
       subst hu
       rw [r1] at h1
       injection h1 with h1
       injection h1 with h1
       injection h1 with h1
       exact absurd h1.symm e
     · exact h6 (by omega)
 · subst e
   exact .inl ⟨i, v, hi, hv, by rw [r1]⟩
theorem code_not (h : TwIn kk kr kc kg w m lr lc lg) {b : Nat} {cs : List Value} (hb : At w b cs.toArray) {x : Value} {t : List Value} (hc : cs = x :: t) (hx : ∀ o, x ≠ .int .u8 o) : ¬ CodeAt m lc b := by
 rintro ⟨k, v, hk, hv, e⟩
 obtain ⟨g, L', h1, h2, h3, h4, h5, h6⟩ := (Bnt.start h).row k hk v hv
 rw [h1] at e
 injection e with e
 injection e with e
 subst e
 have e1 := hb.2.1 0
 rw [h4.2.1 0, hc] at e1
 cases L' with
 | nil =>
   simp [rowV, Q.marked, Ins.vals] at e1
   exact hx _ e1.symm
 | cons a t =>
   simp [rowV, Q.marked, Ins.vals] at e1
   exact hx _ e1.symm
theorem row_head {α : Type} (f : α → List Value) (M : α) (P : Value → Prop) (hf : ∀ a, ∃ x t, f a = x :: t ∧ P x) (L : List α) : ∃ x t, rowV [] f (marked M L) = x :: t ∧ P x := by
 cases L with
 | nil =>
   obtain ⟨x, t, e, hp⟩ := hf M
   refine ⟨x, t ++ (List.replicate 7 M).flatMap f, ?_, hp⟩
   show [] ++ ([] ++ List.replicate 8 M).flatMap f = _
   rw [List.nil_append, List.nil_append, List.replicate_succ, List.flatMap_cons, e]
   rfl
 | cons a L =>
   obtain ⟨x, t, e, hp⟩ := hf a
   refine ⟨x, t ++ (L ++ List.replicate 8 M).flatMap f, ?_, hp⟩
   show [] ++ ((a :: L) ++ List.replicate 8 M).flatMap f = _
   rw [List.nil_append, List.cons_append, List.flatMap_cons, e]
   rfl
theorem ls_keep (h : TwIn kk kr kc kg w m lr lc lg) (hk : Kp (CodeAt m lc) w wr) {α : Type} {f : α → List Value} {M : α} (hf : ∀ a, ∃ x t, f a = x :: t ∧ ∀ o, x ≠ .int .u8 o) {L : List α} {s : Sl} (hl : LsOk f M kk w L s) : LsOk f M kk wr L s := by
 obtain ⟨g, e1, e2, e3⟩ := hl
 obtain ⟨x, t, e4, hx⟩ := row_head f M (fun x => ∀ o, x ≠ .int .u8 o) hf L
 exact ⟨g, e1, e2, at_keep e3 hk (code_not h e3 e4 hx)⟩
theorem Bnt.done (h : TwIn kk kr kc kg w m lr lc lg) (hb : Bnt kk m lc w wr m.comps.length) (hle : kr ≤ kk ∧ kc ≤ kk ∧ kg ≤ kk) : TwIn kk kr kc kg wr (bendP m) lr lc lg := by
 have hlow : ∀ b, b ≤ kk → ¬ CodeAt m lc b := fun b hb2 ⟨k, v, hk, hv, e⟩ => by
   obtain ⟨g, L', h1, h2, h3, h4, h5, h6⟩ := hb.row k hk v hv
   rw [h1] at e
   injection e with e
   injection e with e
   omega
 have f1 : ∀ a : PRoot, ∃ x t, a.vals = x :: t ∧ ∀ o, x ≠ .int .u8 o := fun a => ⟨_, _, rfl, fun o e => by injection e with e; cases e⟩
 have f2 : ∀ a : PTyp, ∃ x t, a.vals = x :: t ∧ ∀ o, x ≠ .int .u8 o := fun a => ⟨_, _, rfl, fun o e => by cases e⟩
 have f3 : ∀ a : PSlot, ∃ x t, a.vals = x :: t ∧ ∀ o, x ≠ .int .u8 o := fun a => ⟨_, _, rfl, fun o e => by cases e⟩
 refine ⟨at_keep h.r hb.kp (hlow _ hle.1), at_keep h.c hb.kp (hlow _ hle.2.1), at_keep h.g hb.kp (hlow _ hle.2.2), h.rl, by rw [h.cl]; simp [bendP], h.gl, ?_, ?_, ?_⟩
 · refine h.rd.keep (fun a b q => ⟨q.1, q.2.1, q.2.2.1, ?_⟩) (fun _ q => q)
   rcases q.2.2.2 with q | ⟨q0, q⟩
   · exact .inl q
   · exact .inr ⟨q0, ls_keep h hb.kp f3 q⟩
 · have hl : (bendP m).comps.length = m.comps.length := by simp [bendP]
   intro j hj
   rw [hl] at hj
   refine ⟨fun q9 => ?_, fun q9 => ?_⟩
   · have q : j < m.comps.length := by omega
     obtain ⟨v, hv, hok⟩ := (h.cd j hj).1 q
     obtain ⟨g, L', h1, h2, h3, h4, h5, h6⟩ := hb.row j q v hv
     have e := h6 q
     subst e
     have ej : ∀ q2, (bendP m).comps[j]'q2 = bendC m.comps[j] := fun q2 => by simp [bendP]
     refine ⟨v, hv, ?_⟩
     rw [ej]
     refine ⟨ls_keep h hb.kp f1 hok.1, g, ?_, h2, h4⟩
     show v.k = ⟨some ⟨g, 0, none⟩, (bendL m.comps[j].code).length, (bendL m.comps[j].code).length + 8⟩
     rw [bendL_len]
     exact h1
   · obtain ⟨v, hv, h1, g, h2, h3, h4⟩ := (h.cd j hj).2 (by omega)
     refine ⟨v, hv, h1, g, h2, h3, at_keep h4 hb.kp (code_not h h4 (x := .int .i64 rootM.r) rfl (fun o e => by injection e with e; cases e))⟩
 · exact h.gd.keep (fun a b q => ⟨q.1, q.2.1, ls_keep h hb.kp f2 q.2.2.1, ls_keep h hb.kp f2 q.2.2.2⟩) (fun _ q => q)
theorem Bnt.low (hb : Bnt kk m lc w wr i) : ∀ b, b ≤ kk → ¬ CodeAt m lc b := fun b hb2 ⟨k, v, hk, hv, e⟩ => by
 obtain ⟨g, L', h1, h2, h3, h4, h5, h6⟩ := hb.row k hk v hv
 rw [h1] at e
 injection e with e
 injection e with e
 omega
end
theorem bend_any (kk kr kc kg : Nat) (m : PImg) (lr : List RgV) (lc : List CpV) (lg : List GtV) (w : World) (h : TwIn kk kr kc kg w m lr lc lg) (hle : kr ≤ kk ∧ kc ≤ kk ∧ kg ≤ kk) (hcl : m.comps.length ≤ 281474976710648) :
   Calls Tryz.prog 10 #[.agg #[.slice (some ⟨kr, 0, none⟩) m.regs.length (m.regs.length + 8), .slice (some ⟨kc, 0, none⟩) m.comps.length (m.comps.length + 8), .slice (some ⟨kg, 0, none⟩) m.gates.length (m.gates.length + 8), .int .i64 m.depth]] w fun e w' => e = .returned (.tuple #[]) ∧ TwIn kk kr kc kg w' (bendP m) lr lc lg ∧ Kp (CodeAt m lc) w w' := by
 have hdn := Hz.mk (fun wr (hb : Bnt kk m lc w wr m.comps.length) => hb.done h hle)
 have hrow := Hz.mk (fun wr i (hb : Bnt kk m lc w wr i) => (at_keep h.c hb.kp (hb.low _ hle.2.1)))
 have hcd := Hz.mk (fun i (hi : i < m.comps.length) => (h.cd i (by omega)).1 hi)
 have h0 := Hz.mk (Bnt.start h)
 clear h
 go_enter Tryz.func10, Tryz.ntmps10
 go_upto_region 1 with fail
 refine wp_world (fun W => At W w.heap.size #[.slice (some ⟨kr, 0, none⟩) m.regs.length (m.regs.length + 8), .slice (some ⟨kc, 0, none⟩) m.comps.length (m.comps.length + 8), .slice (some ⟨kg, 0, none⟩) m.gates.length (m.gates.length + 8), .int .i64 m.depth] ∧ Below w.heap.size w W) ⟨At.new w _ _, (Below.refl _ _).alloc (Nat.le_refl _) _⟩ ?_
 rintro W ⟨A0, hB⟩
 have st : Hz (Bnt kk m lc w W 0 ∧ At W w.heap.size #[.slice (some ⟨kr, 0, none⟩) m.regs.length (m.regs.length + 8), .slice (some ⟨kc, 0, none⟩) m.comps.length (m.comps.length + 8), .slice (some ⟨kg, 0, none⟩) m.gates.length (m.gates.length + 8), .int .i64 m.depth]) := Hz.mk ⟨h0.out.past hB, A0⟩
 clear A0 hB h0
 go_upto_region 2 with fail
 go_loopw [2] (fun iv wr => ∃ i : Nat, iv = .int .i64 i ∧ i ≤ m.comps.length ∧ Hz (Bnt kk m lc w wr i ∧ At wr w.heap.size #[.slice (some ⟨kr, 0, none⟩) m.regs.length (m.regs.length + 8), .slice (some ⟨kc, 0, none⟩) m.comps.length (m.comps.length + 8), .slice (some ⟨kg, 0, none⟩) m.gates.length (m.gates.length + 8), .int .i64 m.depth])) (fun iv _ => m.comps.length - (intOf iv).toNat)
 case atStart => exact ⟨0, rfl, by omega, st⟩
 case round =>
   clear st
   obtain ⟨i, rfl, hi, ⟨hb, A0⟩⟩ := hrel
   have k1 : wr.cell? ⟨w.heap.size, 1, none⟩ = some (.slice (some ⟨kc, 0, none⟩) m.comps.length (m.comps.length + 8)) := A0.2.1 1
   have iw : Hz (wrap64 ((i : Int) + 1) = (i : Int) + 1) := Hz.mk (by unfold wrap64; omega)
   have ix : Hz (IntKind.i64.wrap ((i : Int) + 1) = (i : Int) + 1) := Hz.mk (by rw [IntKind.wrap_i64]; omega)
   by_cases hlt : i < m.comps.length
   · have hi1 : (i : Int) < m.comps.length := by omega
     obtain ⟨v, hv, hok⟩ := hcd.out i hlt
     obtain ⟨g, L', r1, r2, r3, r4, r5, r6⟩ := hb.row i hlt v hv
     have q := Q.elem_atL Q.cp_len (hrow.out wr i hb) i _ hv
     have q1 : wr.cell? ⟨kc, i * 2 + 1, none⟩ = some (.slice (some ⟨g, 0, none⟩) m.comps[i].code.length (m.comps[i].code.length + 8)) := by
       have := q 1 _ rfl
       rw [this]
       show some (v.k.val) = _
       rw [r1]; rfl
     have hkc := (hrow.out wr i hb).1
     clear q hok
     by_cases h0 : m.comps[i].code = []
     · have hl0 : m.comps[i].code.length = 0 := by rw [h0]; rfl
       have hnew : Hz (Bnt kk m lc w wr (i + 1) ∧ At wr w.heap.size #[.slice (some ⟨kr, 0, none⟩) m.regs.length (m.regs.length + 8), .slice (some ⟨kc, 0, none⟩) m.comps.length (m.comps.length + 8), .slice (some ⟨kg, 0, none⟩) m.gates.length (m.gates.length + 8), .int .i64 m.depth]) := Hz.mk ⟨hb.skip hlt h0, A0⟩
       clear r4 r5 r6 h0 r1
       generalize m.comps[i].code.length = n at *
       subst hl0
       replace hb := Hz.mk hb
       replace A0 := Hz.mk A0
       replace iw := iw.out
       replace ix := ix.out
       go_wp2_with fail
       clear iw ix
       go_roundw
       all_goals first | exact ⟨i + 1, by first | rfl | simp, by omega, hnew⟩ | (simp only [intOf]; omega)
     · have hl0 : 0 < m.comps[i].code.length := List.length_pos_iff.2 h0
       have hl1 : (0 : Int) < m.comps[i].code.length := by omega
       have hva : v.k.a = some ⟨g, 0, none⟩ := by rw [r1]
       have hnew : Hz (Bnt kk m lc w (wr.setCells g 0 haltI.vals) (i + 1) ∧ At (wr.setCells g 0 haltI.vals) w.heap.size #[.slice (some ⟨kr, 0, none⟩) m.regs.length (m.regs.length + 8), .slice (some ⟨kc, 0, none⟩) m.comps.length (m.comps.length + 8), .slice (some ⟨kg, 0, none⟩) m.gates.length (m.gates.length + 8), .int .i64 m.depth]) := Hz.mk ⟨hb.put hlt hv hva h0, A0.other (by omega) 0 haltI.vals⟩
       obtain ⟨x, t, ex, _⟩ := bend_two h0 r5
       subst ex
       have z0 : wr.cell? ⟨g, 0, none⟩ = some (.int .u8 x.op) := r4.2.1 0
       have z1 : wr.cell? ⟨g, 1, none⟩ = some (.int .i64 x.a) := r4.2.1 1
       have z2 : wr.cell? ⟨g, 2, none⟩ = some (.int .i64 x.b) := r4.2.1 2
       have z3 : wr.cell? ⟨g, 3, none⟩ = some (.int .i64 x.c) := r4.2.1 3
       have z4 : wr.cell? ⟨g, 4, none⟩ = some (.int .i64 x.m) := r4.2.1 4
       have zf := r4.2.2
       have zg := r4.1
       clear r4 r5 r6 h0 r1
       generalize m.comps[i].code.length = n at *
       replace hb := Hz.mk hb
       replace A0 := Hz.mk A0
       replace iw := iw.out
       replace ix := ix.out
       go_wp2_with fail
       clear iw ix
       go_roundw
       all_goals first | exact ⟨i + 1, by first | rfl | simp, by omega, hnew⟩ | (simp only [intOf]; omega)
   · have hi1 : ¬ (i : Int) < m.comps.length := by omega
     have ei : i = m.comps.length := by omega
     subst ei
     have hfin := Hz.mk (hdn.out wr hb)
     have hkp := Hz.mk hb.kp
     replace hb := Hz.mk hb
     replace A0 := Hz.mk A0
     go_wp2_with fail
     refine bodyPost_end (v := .tuple #[]) (results_none rfl _ _ _) rfl ?_
     exact ⟨rfl, hfin.out, hkp.out⟩
end Bd
end Go.Proofs.YtdlcphinjnnhcaaGreatDoor


namespace Go.Proofs.YtdlcphinjnnhcaaGreatDoor
set_option maxRecDepth 100000
set_option maxHeartbeats 40000000
namespace Bd
open Go.RowKit
open T (Kp)
open F (rchB)

def oneP (L : List Ins) : PImg := ⟨[], [⟨[], L⟩], [⟨0, 0, [], []⟩], 1⟩
theorem calL_none {L : List Ins} {e : Int} (h : ∀ k ∈ L, k.op ≠ 31) : calL L e = [] := by
 unfold calL
 rw [List.map_eq_nil_iff, List.filter_eq_nil_iff]
 intro pc hp
 rw [List.mem_range] at hp
 unfold calB
 rw [List.getElem?_eq_getElem hp]
 have := h _ (List.getElem_mem hp)
 simp [this]
def cst1 (L : List Ins) : Option Cst :=
 match sumS L (stF L (fun _ => 0)) 0 with
 | none => none
 | some s => if 1099511627776 < s then none else some ⟨s, 0, (sumS L (inF L (fun _ => 0)) 0).getD 0⟩
theorem nxG_one {L : List Ins} (h : ∀ k ∈ L, k.op ≠ 31) : nxG (oneP L) 0 = [] := calL_none h
theorem gate_one {L : List Ins} (h : ∀ k ∈ L, k.op ≠ 31) : ev (nxG (oneP L)) (ctF (oneP L)) (List.range (oneP L).gates.length) 0 = cst1 L := by
 have e := nxG_one h
 show evF (nxG (oneP L)) (ctF (oneP L)) 1 0 = _
 rw [evF_put (vs := []) (by rw [e]; rfl)]
 unfold ctF
 rw [e]
 rfl
theorem deep_one {L : List Ins} (h : ∀ k ∈ L, k.op ≠ 31) : ev (nxG (oneP L)) dpF (List.range (oneP L).gates.length) 0 = some 0 := by
 have e := nxG_one h
 show evF (nxG (oneP L)) dpF 1 0 = _
 rw [evF_put (vs := []) (by rw [e]; rfl)]
 rfl
theorem one_rng {L : List Ins} (h : L.length ≤ 400) (ho : OpsIn L) : (oneP L).Rng :=
 ⟨⟨by unfold maxG; simp [oneP], fun r q => by cases q⟩, ⟨by unfold maxG; simp [oneP], fun c q => by
     have : c = ⟨[], L⟩ := by simpa [oneP] using q
     subst this
     exact ⟨by unfold maxG; simp, by unfold maxI; show L.length ≤ _; omega, ho, fun k q => (by cases q)⟩⟩,
   ⟨by unfold maxG; simp [oneP], fun g q => by
     have : g = ⟨0, 0, [], []⟩ := by simpa [oneP] using q
     subst this
     exact ⟨by unfold J64; show -9223372036854775808 ≤ (0 : Int) ∧ (0 : Int) < 9223372036854775808; omega, by unfold J64; show -9223372036854775808 ≤ (0 : Int) ∧ (0 : Int) < 9223372036854775808; omega, by unfold maxG; simp, by unfold maxG; simp, ⟨fun k q => (by cases q), fun k q => (by cases q)⟩⟩⟩, by show J64 1; unfold J64; omega⟩
def sm1 : List Ins := [⟨1, 1, 0, 0, 5⟩, ⟨27, 1, 0, 0, 0⟩]
def sm2 : List Ins := [⟨29, 1, 0, 0, 0⟩, ⟨21, 1, 0, 0, 4⟩, ⟨29, 2, 0, 0, 0⟩, ⟨30, 2, 0, 0, 0⟩, ⟨32, 0, 0, 0, 0⟩]
def sm3 : List Ins := [⟨11, 1, 1, 0, -1⟩, ⟨22, 1, 0, 0, 0⟩, ⟨32, 0, 0, 0, 0⟩]
theorem sm1_c : cst1 sm1 = some ⟨2, 0, 0⟩ := by kernel_rfl
theorem sm2_c : cst1 sm2 = some ⟨5, 0, 2⟩ := by kernel_rfl
theorem sm3_c : cst1 sm3 = none := by kernel_rfl
theorem sm1_h : hgB (oneP sm1) 0 = true := by kernel_rfl
theorem sm2_h : hgB (oneP sm2) 0 = true := by kernel_rfl
theorem sm3_h : hgB (oneP sm3) 0 = true := by kernel_rfl
theorem ops_in (L : List Ins) (h : (L.all fun k => decide (0 ≤ k.op) && decide (k.op < 256)) = true) : OpsIn L := fun k hk => by
 have := List.all_eq_true.1 h k hk
 simpa using this
theorem one_any (L : List Ins) (ka : Option Addr) (kc : Nat) (w : World) (hL : LIn w.heap.size w ka L) :
   Calls Tryz.prog 13 #[.slice ka L.length kc] w fun e w' => ∃ c g, e = .returned (imA (oneP L) none 0 (some ⟨c, 0, none⟩) 1 (some ⟨g, 0, none⟩) 1) ∧ ImgIn w'.heap.size w' none (some ⟨c, 0, none⟩) (some ⟨g, 0, none⟩) (oneP L) ∧ Below w.heap.size w w' := by
 replace hL := Hz.mk hL
 go_enter Tryz.func13, Tryz.ntmps13
 go_wp2_with fail
 refine bodyPost_ret (v := .agg #[.slice none 0 0, .slice (some ⟨w.heap.size + 1, 0, none⟩) 1 1, .slice (some ⟨w.heap.size + 1 + 1, 0, none⟩) 1 1, .int .i64 1]) (by simp [results, Tryz.results13, go_sem]) rfl ?_
 refine ⟨w.heap.size + 1, w.heap.size + 1 + 1, rfl, ?_, ?_⟩
 · generalize hX : Obj.cells #[Value.slice none 0 0, Value.slice (some { block := w.heap.size + 1, off := 0 }) 1 1, Value.slice (some { block := w.heap.size + 1 + 1, off := 0 }) 1 1, Value.int IntKind.i64 1] 26 = X
   have b1 := bl_alloc w X
   have e1 : (w.alloc X).heap.size = w.heap.size + 1 := by simp
   have a1 := At.new (w.alloc X) #[Value.slice none 0 0, Value.slice ka L.length kc] 54
   rw [e1] at a1
   generalize hW1 : (w.alloc X).alloc (.cells #[Value.slice none 0 0, Value.slice ka L.length kc] 54) = W1 at *
   have b2 : Below w.heap.size w W1 := by rw [← hW1]; exact b1.trans ((bl_alloc _ _).mono (by simp))
   have e2 : W1.heap.size = w.heap.size + 1 + 1 := by rw [← hW1]; simp
   have a2 := At.new W1 #[Value.int IntKind.i64 0, Value.int IntKind.i64 0, Value.slice none 0 0, Value.slice none 0 0] 59
   rw [e2] at a2
   have a1' := at_past a1 (bl_alloc W1 (.cells #[Value.int IntKind.i64 0, Value.int IntKind.i64 0, Value.slice none 0 0, Value.slice none 0 0] 59))
   have b3 := b2.trans ((bl_alloc W1 (.cells #[Value.int IntKind.i64 0, Value.int IntKind.i64 0, Value.slice none 0 0, Value.slice none 0 0] 59)).mono b2.size)
   refine ⟨fun i hi => absurd hi (by simp [oneP]), fun i hi => ?_, fun i hi => ?_⟩
   · obtain rfl : i = 0 := by simp [oneP] at hi; omega
     exact ⟨w.heap.size + 1, 0, none, 0, ka, kc, rfl, a1'.1, a1'.1, a1'.2.1 0, a1'.2.1 1, FIn.nil _ _ _ _ _, (hL.out.below b3).mono b3.size⟩
   · obtain rfl : i = 0 := by simp [oneP] at hi; omega
     exact ⟨w.heap.size + 1 + 1, 0, none, 0, none, 0, rfl, a2.1, a2.1, a2.2.1 0, a2.2.1 1, a2.2.1 2, a2.2.1 3, FIn.nil _ _ _ _ _, FIn.nil _ _ _ _ _⟩
 · exact (bl_alloc _ _).trans (((bl_alloc _ _).mono (by simp)).trans ((bl_alloc _ _).mono (by simp <;> omega)))
end Bd
end Go.Proofs.YtdlcphinjnnhcaaGreatDoor


namespace Go.Proofs.YtdlcphinjnnhcaaGreatDoor
set_option maxRecDepth 100000
set_option maxHeartbeats 40000000
namespace Bd
open Go.RowKit
open T (Kp)

def flt (L : List Ins) : List Value := L.flatMap fun k => [.int .u8 k.op, .int .i64 k.a, .int .i64 k.b, .int .i64 k.c, .int .i64 k.m]
theorem flt_at : ∀ (L : List Ins) (i : Nat) (hi : i < L.length) (j : Nat), j < 5 → (flt L)[i * 5 + j]? = [Value.int .u8 L[i].op, .int .i64 L[i].a, .int .i64 L[i].b, .int .i64 L[i].c, .int .i64 L[i].m][j]?
 | [], i, hi, _, _ => by simp at hi
 | k :: L, 0, _, j, hj => by
   unfold flt
   rw [List.flatMap_cons, Nat.zero_mul, Nat.zero_add, List.getElem?_append_left (by simpa using hj)]
   rfl
 | k :: L, i + 1, hi, j, hj => by
   have h := flt_at L i (by simpa using hi) j hj
   unfold flt at h ⊢
   rw [List.flatMap_cons, List.getElem?_append_right (by simp; omega)]
   simp only [List.length_cons, List.length_nil, List.getElem_cons_succ]
   rw [← h]
   congr 1
   omega
theorem lin_of {w : World} {k : Nat} {L : List Ins} (h : At w k (flt L).toArray) : LIn w.heap.size w (some ⟨k, 0, none⟩) L := fun i hi => by
 have hc : ∀ j, j < 5 → w.cell? ⟨k, i * 5 + j, none⟩ = [Value.int .u8 L[i].op, .int .i64 L[i].a, .int .i64 L[i].b, .int .i64 L[i].c, .int .i64 L[i].m][j]? := fun j hj => by
   rw [h.2.1, List.getElem?_toArray]
   exact flt_at L i hi j hj
 refine ⟨k, 0, rfl, h.1, h.1, ?_⟩
 rw [Nat.zero_add]
 exact ⟨hc 0 (by omega), hc 1 (by omega), hc 2 (by omega), hc 3 (by omega), hc 4 (by omega)⟩
theorem headB_any (w : World) (ht : TabIn w) :
   Calls Tryz.prog 5 #[] w fun e w' => e = .returned (.bool true) ∧ Below w.heap.size w w' := by
 have hT := Hz.mk (fun W (q : Below w.heap.size w W) => ht.below q ht.size)
 have G1 := Hz.mk (fun W c g (t : TabIn W) (h : ImgIn W.heap.size W none (some ⟨c, 0, none⟩) (some ⟨g, 0, none⟩) (oneP sm1)) => Gate_any (oneP sm1) none (some ⟨c, 0, none⟩) (some ⟨g, 0, none⟩) 0 1 1 0 W t h (one_rng (by decide) (ops_in sm1 (by kernel_rfl))))
 have G2 := Hz.mk (fun W c g (t : TabIn W) (h : ImgIn W.heap.size W none (some ⟨c, 0, none⟩) (some ⟨g, 0, none⟩) (oneP sm2)) => Gate_any (oneP sm2) none (some ⟨c, 0, none⟩) (some ⟨g, 0, none⟩) 0 1 1 0 W t h (one_rng (by decide) (ops_in sm2 (by kernel_rfl))))
 have G3 := Hz.mk (fun W c g (t : TabIn W) (h : ImgIn W.heap.size W none (some ⟨c, 0, none⟩) (some ⟨g, 0, none⟩) (oneP sm3)) => Gate_any (oneP sm3) none (some ⟨c, 0, none⟩) (some ⟨g, 0, none⟩) 0 1 1 0 W t h (one_rng (by decide) (ops_in sm3 (by kernel_rfl))))
 have D3 := Hz.mk (fun W c g (t : TabIn W) (h : ImgIn W.heap.size W none (some ⟨c, 0, none⟩) (some ⟨g, 0, none⟩) (oneP sm3)) => Deep_any (oneP sm3) none (some ⟨c, 0, none⟩) (some ⟨g, 0, none⟩) 0 1 1 0 W t h (one_rng (by decide) (ops_in sm3 (by kernel_rfl))))
 rw [sm1_h, if_pos rfl, Int.toNat_zero, gate_one (by decide), sm1_c] at G1
 rw [sm2_h, if_pos rfl, Int.toNat_zero, gate_one (by decide), sm2_c] at G2
 rw [sm3_h, if_pos rfl, Int.toNat_zero, gate_one (by decide), sm3_c] at G3
 rw [sm3_h, if_pos rfl, Int.toNat_zero, deep_one (by decide)] at D3
 have O1 := Hz.mk (fun W k (h : At W k (flt sm1).toArray) => one_any sm1 (some ⟨k, 0, none⟩) 2 W (lin_of h))
 have O2 := Hz.mk (fun W k (h : At W k (flt sm2).toArray) => one_any sm2 (some ⟨k, 0, none⟩) 5 W (lin_of h))
 have O3 := Hz.mk (fun W k (h : At W k (flt sm3).toArray) => one_any sm3 (some ⟨k, 0, none⟩) 3 W (lin_of h))
 unfold imA gtV at *
 replace ht := Hz.mk ht
 have hI : ∀ (L : List Ins) (W W' : World) c g, ImgIn W.heap.size W none (some ⟨c, 0, none⟩) (some ⟨g, 0, none⟩) (oneP L) → Below W.heap.size W W' → ImgIn W'.heap.size W' none (some ⟨c, 0, none⟩) (some ⟨g, 0, none⟩) (oneP L) := fun L W W' c g h q => (h.below q).mono q.size
 replace hI := Hz.mk hI
 go_enter Tryz.func5, Tryz.ntmps5
 have hB : Hz (Below w.heap.size w w) := Hz.mk (Below.refl _ _)
 go_upto_region 2 with (go_at_call 13; refine (O1.out _ w.heap.size (At.new w _ _)).mono ?_; rintro r W1 ⟨c1, g1, rfl, im1, b1⟩; replace b1 := (bl_alloc w _).trans (b1.mono (by simp)); replace im1 := Hz.mk im1; replace b1 := Hz.mk b1)
 replace hB := Hz.mk (hB.out.trans (b1.out.mono hB.out.size))
 clear b1 O1
 refine wp_world (fun X => At X W1.heap.size #[.slice none (oneP sm1).regs.length 0, .slice (some ⟨c1, 0, none⟩) (oneP sm1).comps.length 1, .slice (some ⟨g1, 0, none⟩) (oneP sm1).gates.length 1, .int .i64 (oneP sm1).depth] ∧ Below W1.heap.size W1 X) ⟨(by first | exact At.new W1 _ _ | simpa using At.new W1 #[.slice none (oneP sm1).regs.length 0, .slice (some ⟨c1, 0, none⟩) (oneP sm1).comps.length 1, .slice (some ⟨g1, 0, none⟩) (oneP sm1).gates.length 1, .int .i64 (oneP sm1).depth] _), (by repeat (first | exact Below.refl _ _ | refine Below.alloc ?_ (by simp <;> omega) _ | refine Below.setCell ?_ (by simp <;> omega) _))⟩ ?_
 rintro X1 ⟨a1, hb1⟩
 replace im1 := Hz.mk (hI.out _ _ _ _ _ im1.out hb1)
 replace hB := Hz.mk (hB.out.trans (hb1.mono hB.out.size))
 generalize W1.heap.size = kx1 at *
 have bx1 := Hz.mk a1
 clear a1 hb1
 go_upto_region 3 with (go_at_call 13; refine (O2.out _ X1.heap.size (At.new X1 _ _)).mono ?_; rintro r W2 ⟨c2, g2, rfl, im2, b2⟩; replace b2 := (bl_alloc X1 _).trans (b2.mono (by simp)); replace im2 := Hz.mk im2; replace b2 := Hz.mk b2)
 replace bx1 := Hz.mk (at_past bx1.out b2.out)
 replace im1 := Hz.mk (hI.out _ _ _ _ _ im1.out b2.out)
 replace hB := Hz.mk (hB.out.trans (b2.out.mono hB.out.size))
 clear b2 O2
 refine wp_world (fun X => At X W2.heap.size #[.slice none (oneP sm2).regs.length 0, .slice (some ⟨c2, 0, none⟩) (oneP sm2).comps.length 1, .slice (some ⟨g2, 0, none⟩) (oneP sm2).gates.length 1, .int .i64 (oneP sm2).depth] ∧ Below W2.heap.size W2 X) ⟨(by first | exact At.new W2 _ _ | simpa using At.new W2 #[.slice none (oneP sm2).regs.length 0, .slice (some ⟨c2, 0, none⟩) (oneP sm2).comps.length 1, .slice (some ⟨g2, 0, none⟩) (oneP sm2).gates.length 1, .int .i64 (oneP sm2).depth] _), (by repeat (first | exact Below.refl _ _ | refine Below.alloc ?_ (by simp <;> omega) _ | refine Below.setCell ?_ (by simp <;> omega) _))⟩ ?_
 rintro X2 ⟨a2, hb2⟩
 replace bx1 := Hz.mk (at_past bx1.out hb2)
 replace im1 := Hz.mk (hI.out _ _ _ _ _ im1.out hb2)
 replace im2 := Hz.mk (hI.out _ _ _ _ _ im2.out hb2)
 replace hB := Hz.mk (hB.out.trans (hb2.mono hB.out.size))
 generalize W2.heap.size = kx2 at *
 have bx2 := Hz.mk a2
 clear a2 hb2
 go_upto_region 4 with (go_at_call 13; refine (O3.out _ X2.heap.size (At.new X2 _ _)).mono ?_; rintro r W3 ⟨c3, g3, rfl, im3, b3⟩; replace b3 := (bl_alloc X2 _).trans (b3.mono (by simp)); replace im3 := Hz.mk im3; replace b3 := Hz.mk b3)
 replace bx1 := Hz.mk (at_past bx1.out b3.out)
 replace bx2 := Hz.mk (at_past bx2.out b3.out)
 replace im1 := Hz.mk (hI.out _ _ _ _ _ im1.out b3.out)
 replace im2 := Hz.mk (hI.out _ _ _ _ _ im2.out b3.out)
 replace hB := Hz.mk (hB.out.trans (b3.out.mono hB.out.size))
 clear b3 O3
 refine wp_world (fun X => At X W3.heap.size #[.slice none (oneP sm3).regs.length 0, .slice (some ⟨c3, 0, none⟩) (oneP sm3).comps.length 1, .slice (some ⟨g3, 0, none⟩) (oneP sm3).gates.length 1, .int .i64 (oneP sm3).depth] ∧ Below W3.heap.size W3 X) ⟨(by first | exact At.new W3 _ _ | simpa using At.new W3 #[.slice none (oneP sm3).regs.length 0, .slice (some ⟨c3, 0, none⟩) (oneP sm3).comps.length 1, .slice (some ⟨g3, 0, none⟩) (oneP sm3).gates.length 1, .int .i64 (oneP sm3).depth] _), (by repeat (first | exact Below.refl _ _ | refine Below.alloc ?_ (by simp <;> omega) _ | refine Below.setCell ?_ (by simp <;> omega) _))⟩ ?_
 rintro X3 ⟨a3, hb3⟩
 replace bx1 := Hz.mk (at_past bx1.out hb3)
 replace bx2 := Hz.mk (at_past bx2.out hb3)
 replace im1 := Hz.mk (hI.out _ _ _ _ _ im1.out hb3)
 replace im2 := Hz.mk (hI.out _ _ _ _ _ im2.out hb3)
 replace im3 := Hz.mk (hI.out _ _ _ _ _ im3.out hb3)
 replace hB := Hz.mk (hB.out.trans (hb3.mono hB.out.size))
 generalize W3.heap.size = kx3 at *
 have bx3 := Hz.mk a3
 clear a3 hb3
 have q0 : X3.cell? ⟨kx1, 0, none⟩ = some (.slice none (oneP sm1).regs.length 0) := bx1.out.2.1 0
 have q1 : X3.cell? ⟨kx1, 1, none⟩ = some (.slice (some ⟨c1, 0, none⟩) (oneP sm1).comps.length 1) := bx1.out.2.1 1
 have q2 : X3.cell? ⟨kx1, 2, none⟩ = some (.slice (some ⟨g1, 0, none⟩) (oneP sm1).gates.length 1) := bx1.out.2.1 2
 have q3 : X3.cell? ⟨kx1, 3, none⟩ = some (.int .i64 (oneP sm1).depth) := bx1.out.2.1 3
 have hc1 := Hz.mk (G1.out X3 _ _ (hT.out _ hB.out) im1.out)
 go_upto_region 5 with (go_at_call 11; refine hc1.out.mono ?_; rintro r V1 ⟨rfl, b1⟩; replace b1 := Hz.mk b1)
 clear q0 q1 q2 q3 hc1 G1
 replace bx1 := Hz.mk (at_past bx1.out b1.out)
 replace bx2 := Hz.mk (at_past bx2.out b1.out)
 replace bx3 := Hz.mk (at_past bx3.out b1.out)
 replace im1 := Hz.mk (hI.out _ _ _ _ _ im1.out b1.out)
 replace im2 := Hz.mk (hI.out _ _ _ _ _ im2.out b1.out)
 replace im3 := Hz.mk (hI.out _ _ _ _ _ im3.out b1.out)
 replace hB := Hz.mk (hB.out.trans (b1.out.mono hB.out.size))
 clear b1
 refine wp_world (fun X => At X V1.heap.size #[.bool true, .int .u64 2, .int .u64 0, .int .u64 0] ∧ Below V1.heap.size V1 X) ⟨(by first | exact At.new V1 _ _ | simpa using At.new V1 #[.bool true, .int .u64 2, .int .u64 0, .int .u64 0] _), (by repeat (first | exact Below.refl _ _ | refine Below.alloc ?_ (by simp <;> omega) _ | refine Below.setCell ?_ (by simp <;> omega) _))⟩ ?_
 rintro X4 ⟨a4, hb4⟩
 replace bx1 := Hz.mk (at_past bx1.out hb4)
 replace bx2 := Hz.mk (at_past bx2.out hb4)
 replace bx3 := Hz.mk (at_past bx3.out hb4)
 replace im1 := Hz.mk (hI.out _ _ _ _ _ im1.out hb4)
 replace im2 := Hz.mk (hI.out _ _ _ _ _ im2.out hb4)
 replace im3 := Hz.mk (hI.out _ _ _ _ _ im3.out hb4)
 replace hB := Hz.mk (hB.out.trans (hb4.mono hB.out.size))
 generalize V1.heap.size = kc1 at *
 have cx1 := Hz.mk a4
 clear a4 hb4
 have q0 : X4.cell? ⟨kx2, 0, none⟩ = some (.slice none (oneP sm2).regs.length 0) := bx2.out.2.1 0
 have q1 : X4.cell? ⟨kx2, 1, none⟩ = some (.slice (some ⟨c2, 0, none⟩) (oneP sm2).comps.length 1) := bx2.out.2.1 1
 have q2 : X4.cell? ⟨kx2, 2, none⟩ = some (.slice (some ⟨g2, 0, none⟩) (oneP sm2).gates.length 1) := bx2.out.2.1 2
 have q3 : X4.cell? ⟨kx2, 3, none⟩ = some (.int .i64 (oneP sm2).depth) := bx2.out.2.1 3
 have hc2 := Hz.mk (G2.out X4 _ _ (hT.out _ hB.out) im2.out)
 go_upto_region 6 with (go_at_call 11; refine hc2.out.mono ?_; rintro r V2 ⟨rfl, b2⟩; replace b2 := Hz.mk b2)
 clear q0 q1 q2 q3 hc2 G2
 replace bx1 := Hz.mk (at_past bx1.out b2.out)
 replace bx2 := Hz.mk (at_past bx2.out b2.out)
 replace bx3 := Hz.mk (at_past bx3.out b2.out)
 replace cx1 := Hz.mk (at_past cx1.out b2.out)
 replace im1 := Hz.mk (hI.out _ _ _ _ _ im1.out b2.out)
 replace im2 := Hz.mk (hI.out _ _ _ _ _ im2.out b2.out)
 replace im3 := Hz.mk (hI.out _ _ _ _ _ im3.out b2.out)
 replace hB := Hz.mk (hB.out.trans (b2.out.mono hB.out.size))
 clear b2
 refine wp_world (fun X => At X V2.heap.size #[.bool true, .int .u64 5, .int .u64 0, .int .u64 2] ∧ Below V2.heap.size V2 X) ⟨(by first | exact At.new V2 _ _ | simpa using At.new V2 #[.bool true, .int .u64 5, .int .u64 0, .int .u64 2] _), (by repeat (first | exact Below.refl _ _ | refine Below.alloc ?_ (by simp <;> omega) _ | refine Below.setCell ?_ (by simp <;> omega) _))⟩ ?_
 rintro X5 ⟨a5, hb5⟩
 replace bx1 := Hz.mk (at_past bx1.out hb5)
 replace bx2 := Hz.mk (at_past bx2.out hb5)
 replace bx3 := Hz.mk (at_past bx3.out hb5)
 replace cx1 := Hz.mk (at_past cx1.out hb5)
 replace im1 := Hz.mk (hI.out _ _ _ _ _ im1.out hb5)
 replace im2 := Hz.mk (hI.out _ _ _ _ _ im2.out hb5)
 replace im3 := Hz.mk (hI.out _ _ _ _ _ im3.out hb5)
 replace hB := Hz.mk (hB.out.trans (hb5.mono hB.out.size))
 generalize V2.heap.size = kc2 at *
 have cx2 := Hz.mk a5
 clear a5 hb5
 have q0 : X5.cell? ⟨kx3, 0, none⟩ = some (.slice none (oneP sm3).regs.length 0) := bx3.out.2.1 0
 have q1 : X5.cell? ⟨kx3, 1, none⟩ = some (.slice (some ⟨c3, 0, none⟩) (oneP sm3).comps.length 1) := bx3.out.2.1 1
 have q2 : X5.cell? ⟨kx3, 2, none⟩ = some (.slice (some ⟨g3, 0, none⟩) (oneP sm3).gates.length 1) := bx3.out.2.1 2
 have q3 : X5.cell? ⟨kx3, 3, none⟩ = some (.int .i64 (oneP sm3).depth) := bx3.out.2.1 3
 have hc3 := Hz.mk (G3.out X5 _ _ (hT.out _ hB.out) im3.out)
 go_upto_region 7 with (go_at_call 11; refine hc3.out.mono ?_; rintro r V3 ⟨rfl, b3⟩; replace b3 := Hz.mk b3)
 clear q0 q1 q2 q3 hc3 G3
 replace bx1 := Hz.mk (at_past bx1.out b3.out)
 replace bx2 := Hz.mk (at_past bx2.out b3.out)
 replace bx3 := Hz.mk (at_past bx3.out b3.out)
 replace cx1 := Hz.mk (at_past cx1.out b3.out)
 replace cx2 := Hz.mk (at_past cx2.out b3.out)
 replace im1 := Hz.mk (hI.out _ _ _ _ _ im1.out b3.out)
 replace im2 := Hz.mk (hI.out _ _ _ _ _ im2.out b3.out)
 replace im3 := Hz.mk (hI.out _ _ _ _ _ im3.out b3.out)
 replace hB := Hz.mk (hB.out.trans (b3.out.mono hB.out.size))
 clear b3
 refine wp_world (fun X => At X V3.heap.size #[.bool false, .int .u64 0, .int .u64 0, .int .u64 0] ∧ Below V3.heap.size V3 X) ⟨(by first | exact At.new V3 _ _ | simpa using At.new V3 #[.bool false, .int .u64 0, .int .u64 0, .int .u64 0] _), (by repeat (first | exact Below.refl _ _ | refine Below.alloc ?_ (by simp <;> omega) _ | refine Below.setCell ?_ (by simp <;> omega) _))⟩ ?_
 rintro X6 ⟨a6, hb6⟩
 replace bx1 := Hz.mk (at_past bx1.out hb6)
 replace bx2 := Hz.mk (at_past bx2.out hb6)
 replace bx3 := Hz.mk (at_past bx3.out hb6)
 replace cx1 := Hz.mk (at_past cx1.out hb6)
 replace cx2 := Hz.mk (at_past cx2.out hb6)
 replace im1 := Hz.mk (hI.out _ _ _ _ _ im1.out hb6)
 replace im2 := Hz.mk (hI.out _ _ _ _ _ im2.out hb6)
 replace im3 := Hz.mk (hI.out _ _ _ _ _ im3.out hb6)
 replace hB := Hz.mk (hB.out.trans (hb6.mono hB.out.size))
 generalize V3.heap.size = kc3 at *
 have cx3 := Hz.mk a6
 clear a6 hb6
 have q0 : X6.cell? ⟨kx3, 0, none⟩ = some (.slice none (oneP sm3).regs.length 0) := bx3.out.2.1 0
 have q1 : X6.cell? ⟨kx3, 1, none⟩ = some (.slice (some ⟨c3, 0, none⟩) (oneP sm3).comps.length 1) := bx3.out.2.1 1
 have q2 : X6.cell? ⟨kx3, 2, none⟩ = some (.slice (some ⟨g3, 0, none⟩) (oneP sm3).gates.length 1) := bx3.out.2.1 2
 have q3 : X6.cell? ⟨kx3, 3, none⟩ = some (.int .i64 (oneP sm3).depth) := bx3.out.2.1 3
 have hd := Hz.mk (D3.out X6 _ _ (hT.out _ hB.out) im3.out)
 unfold tupi at hd
 go_upto_region 8 with (go_at_call 7; refine hd.out.mono ?_; rintro r V4 ⟨rfl, b4⟩; replace b4 := Hz.mk b4)
 clear q0 q1 q2 q3 hd D3
 replace bx1 := Hz.mk (at_past bx1.out b4.out)
 replace bx2 := Hz.mk (at_past bx2.out b4.out)
 replace bx3 := Hz.mk (at_past bx3.out b4.out)
 replace cx1 := Hz.mk (at_past cx1.out b4.out)
 replace cx2 := Hz.mk (at_past cx2.out b4.out)
 replace cx3 := Hz.mk (at_past cx3.out b4.out)
 replace im1 := Hz.mk (hI.out _ _ _ _ _ im1.out b4.out)
 replace im2 := Hz.mk (hI.out _ _ _ _ _ im2.out b4.out)
 replace im3 := Hz.mk (hI.out _ _ _ _ _ im3.out b4.out)
 replace hB := Hz.mk (hB.out.trans (b4.out.mono hB.out.size))
 have e10 : V4.cell? ⟨kc1, 0, none⟩ = some (.bool true) := cx1.out.2.1 0
 have e11 : V4.cell? ⟨kc1, 1, none⟩ = some (.int .u64 2) := cx1.out.2.1 1
 have e12 : V4.cell? ⟨kc1, 2, none⟩ = some (.int .u64 0) := cx1.out.2.1 2
 have e13 : V4.cell? ⟨kc1, 3, none⟩ = some (.int .u64 0) := cx1.out.2.1 3
 have e20 : V4.cell? ⟨kc2, 0, none⟩ = some (.bool true) := cx2.out.2.1 0
 have e21 : V4.cell? ⟨kc2, 1, none⟩ = some (.int .u64 5) := cx2.out.2.1 1
 have e22 : V4.cell? ⟨kc2, 2, none⟩ = some (.int .u64 0) := cx2.out.2.1 2
 have e23 : V4.cell? ⟨kc2, 3, none⟩ = some (.int .u64 2) := cx2.out.2.1 3
 have e30 : V4.cell? ⟨kc3, 0, none⟩ = some (.bool false) := cx3.out.2.1 0
 have e31 : V4.cell? ⟨kc3, 1, none⟩ = some (.int .u64 0) := cx3.out.2.1 1
 have e32 : V4.cell? ⟨kc3, 2, none⟩ = some (.int .u64 0) := cx3.out.2.1 2
 have e33 : V4.cell? ⟨kc3, 3, none⟩ = some (.int .u64 0) := cx3.out.2.1 3
 go_wp2_with fail
 go_ret
 exact ⟨rfl, hB.out⟩
end Bd
end Go.Proofs.YtdlcphinjnnhcaaGreatDoor
