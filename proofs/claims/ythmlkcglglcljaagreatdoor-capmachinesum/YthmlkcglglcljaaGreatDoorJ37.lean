import Derived.Test.YthmlkcglglcljaaGreatDoorJ36
namespace Go.Proofs.YthmlkcglglcljaaGreatDoor
set_option maxRecDepth 100000
set_option maxHeartbeats 40000000
namespace C
open Go.RowKit
open T (Sep Ob Kp Mf TgIn boxOb Fm Tc Ed Vl Cp Bx tgOb mRow mRow_idx mRow_tail mRow_at updV flt Vl.row_len kp_setCells setCells_size)

theorem bx_there {w : World} {a : Nat} {f : Fm} (h : Bx w a f.row) (f' : Fm) : w.there a 0 f'.row.toArray.size := fun j hj => by
 have hj' : j < 114 := by rw [List.size_toArray, fmRow_len] at hj; exact hj
 have e : f.row[j]? = some (f.row[j]'(by rw [fmRow_len]; exact hj')) := List.getElem?_eq_getElem _
 rw [Nat.zero_add]
 exact ⟨by rw [h.at_ j _ e]; rfl, h.fr _⟩
theorem run_alloc_fm (W : World) : (Instr.alloc 86 true (.tuple #[])).run Tryz.prog W = .ok (.pointer (some ⟨W.heap.size, 0, none⟩)) (W.alloc (.cells Tryz.zeroCells86 86)) := by kernel_rfl
theorem wp_alloc_fm {o : Oper} {a : Act} {K : Act → World → Prop} {Q : Exit → Act → World → Prop} {w : World} (ho : o.op = .alloc 86) (h : K (a.put o.dst (.pointer (some ⟨w.heap.size, 0, none⟩))) (w.alloc (.cells Tryz.zeroCells86 86))) : o.wp Tryz.prog a w K Q := by
 unfold Oper.wp execOp
 simp only [ho, run_alloc_fm, Sem.run_bind, Sem.run_pure, Result.andThen_ok]
 exact h
theorem new_fm (X : World) (f : Fm) : Bx (X.alloc (.cells Tryz.zeroCells86 86)) X.heap.size (⟨0, 0, fun _ => zV⟩ : Fm).row ∧ Bx ((X.alloc (.cells Tryz.zeroCells86 86)).setCells X.heap.size 0 f.row) X.heap.size f.row ∧ Bl X ((X.alloc (.cells Tryz.zeroCells86 86)).setCells X.heap.size 0 f.row) := by
 have h := bx_zero (At.new X Tryz.zeroCells86 86)
 exact ⟨h, (store_fm _ _ _ f h).2.1, ((Bl.refl X).alloc _).sets _ (Nat.le_refl _) _ _⟩
theorem call_any (B : Nat) (W0 : World) (a : Nat) (P : PImg) (s : Ms) (l : List Ob) (g : Nat) (h : MIn B W0 a P s l) (hP : POk P) (hg : g < P.gates.length) (hpc : s.at_.pc < 1000000000) (hsl : s.st.length ≤ 1000000) :
   Calls Tryz.prog 106 #[.pointer (some ⟨a, 0, none⟩), .int .i64 g] W0 fun x w' => Dv B W0 a P s l (callM P s g) x w' := by
 obtain ⟨b, off, gc, xa, xc, ya, yc, c2, hblt, cx, _, hTy⟩ := h.gateTy g hg
 have hlt := h.alt
 have gi : (g : Int) < P.gates.length := by omega
 have hn7 : P.gates[g].args.length ≤ 7 := (hP.gates g hg).2.2.2.2.1
 obtain ⟨hk1, hk2, hk3, hk4⟩ := hP.kl g hg
 have hrt : ∀ x ∈ P.comps[kOf P g].roots, 0 ≤ x.r ∧ x.r < 16 := fun x hx => by
   have := (hP.roots (kOf P g)).2 x (by rw [rootsOf_at P _ hk1]; exact hx)
   omega
 have hrl : P.comps[kOf P g].roots.length ≤ 1000000 := by
   have := (hP.roots (kOf P g)).1
   rw [rootsOf_at P _ hk1] at this
   omega
 have hH := Hz.mk (fun X (q : Bl W0 X) => handed_any B X a P s l P.gates[g].args xa xc (h.gr q) (hTy X q).1 hn7)
 replace h := Hz.mk h
 clear hTy
 unfold callM
 rw [argsOf_at P g hg]
 cases hq : fitN s.at_.regs P.gates[g].args P.gates[g].args.length with
 | false =>
   rw [hq] at hH
   rw [if_neg (by decide)]
   simp only [HdV, pan] at hH
   simp only [Dv, pan]
   go_enter Tryz.func106, Tryz.ntmps106
   go_wp2_with (refine (hH.out _ (Bl.refl _)).mono ?_; rintro x w1 ⟨rfl, e1⟩)
   exact ⟨rfl, rfl, h.out.gr e1, Below.mono e1 h.out.le⟩
 | true =>
   rw [hq] at hH
   rw [if_pos rfl]
   simp only [HdV] at hH
   clear hq
   generalize hfE : entF P g s.at_.regs P.gates[g].args.length = fE
   generalize hfN : s.next.at_ = fN
   replace hfE := Hz.mk hfE
   replace hfN := Hz.mk hfN
   by_cases hd : P.depth ≤ (s.st.length : Int)
   · rw [if_pos hd]
     simp only [Dv, pan]
     go_enter Tryz.func106, Tryz.ntmps106
     go_wp2_with fail
     refine (hH.out _ (Bl.refl _)).mono ?_
     rintro x W ⟨rfl, e1⟩
     have hB := Hz.mk (Below.mono e1 h.out.le)
     replace h := Hz.mk (h.out.gr e1)
     clear e1 c2 cx hblt hH hlt
     go_upto_region 1 with fail
     replace hB : Hz (Below B W0 W.drew) := Hz.mk (hB.out.trans (Below.refl _ W).drew)
     replace h := Hz.mk (h.out.gr (Below.refl _ W).drew)
     obtain ⟨c3, ta, tk, c119⟩ := h.out.depAt
     refine wp_region_held_drew (S := (fun X => X.cell? ⟨a, 119, none⟩ = some (.slice ta s.st.length tk) ∧ X.cell? ⟨a, 3, none⟩ = some (.int .i64 P.depth))) (by kernel_rfl) (⟨c119, c3⟩) (fun hHeld => ?_)
     refine xso 0 ?_ rfl ?_ (xso 1 ?_ rfl ?_ (xso 2 ?_ rfl ?_ (xso 3 ?_ rfl ?_ (xso 4 ?_ rfl ?_ (xso 5 ?_ rfl ?_ (xso 6 ?_ rfl ?_ (xso 7 ?_ rfl ?_ (xso 8 ?_ rfl ?_ (xso 9 ?_ rfl ?_ (xso 10 ?_ rfl ?_ ?_))))))))))
     iterate 11 (rotate_left; focus ((try simp only [xap]); intro w hSw; (try dsimp only at hSw); go_simp; first | done | with_reducible rfl))
     try simp only [xap]
     refine xdn ?_ _
     clear hHeld c3 c119
     generalize W.drew = V at *
     go_wp2_with fail
     exact ⟨rfl, rfl, h.out, hB.out⟩
   · rw [if_neg hd]
     simp only [Dv]
     go_enter Tryz.func106, Tryz.ntmps106
     go_wp2_with fail
     refine (hH.out _ (Bl.refl _)).mono ?_
     rintro x W ⟨rfl, e1⟩
     have hB := Hz.mk (Below.mono e1 h.out.le)
     replace h := Hz.mk (h.out.gr e1)
     clear e1 c2 cx hblt hH hlt
     go_upto_region 1 with fail
     replace hB : Hz (Below B W0 W.drew) := Hz.mk (hB.out.trans (Below.refl _ W).drew)
     replace h := Hz.mk (h.out.gr (Below.refl _ W).drew)
     obtain ⟨c3, ta, tk, c119⟩ := h.out.depAt
     refine wp_region_held_drew (S := (fun X => X.cell? ⟨a, 119, none⟩ = some (.slice ta s.st.length tk) ∧ X.cell? ⟨a, 3, none⟩ = some (.int .i64 P.depth))) (by kernel_rfl) (⟨c119, c3⟩) (fun hHeld => ?_)
     refine xso 0 ?_ rfl ?_ (xso 1 ?_ rfl ?_ (xso 2 ?_ rfl ?_ (xso 3 ?_ rfl ?_ (xso 4 ?_ rfl ?_ (xso 5 ?_ rfl ?_ (xso 6 ?_ rfl ?_ (xso 7 ?_ rfl ?_ (xso 8 ?_ rfl ?_ (xso 9 ?_ rfl ?_ (xso 10 ?_ rfl ?_ ?_))))))))))
     iterate 11 (rotate_left; focus ((try simp only [xap]); intro w hSw; (try dsimp only at hSw); go_simp; first | done | with_reducible rfl))
     try simp only [xap]
     refine xdn ?_ _
     clear hHeld c3 c119
     generalize W.drew = V at *
     go_upto_region 3 with fail
     obtain ⟨ra, rc, ca, cc, ga, gc, p0, p1, p2, p3, hI⟩ := h.out.progAt
     have hltV := h.out.alt
     have hleV := h.out.le
     have hent := Hz.mk (fun X (q : Bl V X) => entered_any P (.slice ra P.regs.length rc) (.int .i64 P.depth) g (eOf P g) (kOf P g) P.gates[g].args.length s.at_.regs ca ga cc gc (some ⟨a, 14, none⟩) 15 X hg (hI X q).gates (hI X q).comps hk3 hk2 hk1 hrt hrl ((h.out.gr q).src _ (by omega)) (by omega))
     rw [← rootsOf_at P _ hk1] at hent
     replace hI := Hz.mk hI
     have hEe : rootsJ ⟨g, eOf P g, ovF s.at_.regs (fun _ => zV) P.gates[g].args.length⟩ (rootsOf P (kOf P g)) (rootsOf P (kOf P g)).length = entF P g s.at_.regs P.gates[g].args.length := rfl
     rw [hEe, hfE.out] at hent
     refine wp_region_lit ?_
     iterate 6 (refine wpList_plain rfl (fun K hK => ?_); go_simp; with_reducible refine hK _ _ ?_; clear hK K; (try simp only [xap]))
     refine wpList_plain rfl (fun K hK => ?_)
     go_simp
     (refine (hent.out _ (Bl.refl _)).mono ?_; rintro r X1 ⟨rfl, g1⟩; have hB1 := Hz.mk (hB.out.trans (Below.mono g1 h.out.le)); replace h := Hz.mk (h.out.gr g1); obtain ⟨n1, n2, n3⟩ := new_fm X1 fE; replace n1 := Hz.mk n1; replace n2 := Hz.mk n2; replace n3 := Hz.mk n3; clear g1 p0 p1 p2 p3)
     with_reducible refine hK _ _ ?_
     clear hK K
     try simp only [xap]
     refine wpList_plain rfl (fun K hK => ?_)
     refine wp_alloc_fm rfl (hK _ _ ?_)
     clear hK K
     try simp only [xap]
     refine wpList_store_mid rfl _ _ _ rfl _ _ (List.toArray fE.row) rfl rfl (bx_there n1.out fE) (fm_info fE) (fm_one fE) ?_
     try simp only [Act.put]
     clear n1
     have hM := Hz.mk (h.out.add (bx_ X1.heap.size fE.row) n2.out (fun k q => by have : k = X1.heap.size := q; omega) n3.out)
     replace hB := Hz.mk (hB1.out.trans (Below.mono n3.out h.out.le))
     generalize World.setCells _ _ _ _ = Y at *
     generalize X1.heap.size = kf at *
     clear h hB1 n2 n3 hent hI
     have hnx := Hz.mk (next_any B a P s _ Y hM.out hpc)
     go_wp2_with fail
     refine hnx.out.mono ?_
     rintro r Y2 ⟨rfl, h, hB2⟩
     replace hB := Hz.mk (hB.out.trans hB2)
     clear hB2 hM hnx
     have hleY := h.le
     have halt := h.alt
     replace h := Hz.mk h
     generalize hxs : s.st.flatMap Fm.row = xs
     obtain ⟨ta2, tk2, c119, hO2, hap⟩ := h.out.push fN s.st fN xs rfl hfN.out hxs
     generalize ta2 = ta at *
     generalize tk2 = tk at *
     replace hO2 := Hz.mk hO2
     replace hap := Hz.mk hap
     replace hxs := Hz.mk hxs
     have f0 : Bl Y2 Y2.drew := (Bl.refl Y2).drew
     have hHA : Hz (∀ X, Bl Y2 X → X.rangeAt a 5 fN.row) := Hz.mk (fun X q => hfN.out ▸ (h.out.gr q).handAt)
     have hS5 := hHA.out _ f0
     go_upto_region 5 with fail
     refine wp_region_held_drew (S := (fun X => X.rangeAt a 5 fN.row)) (by kernel_rfl) (hS5) (fun hHeld => ?_)
     refine xso 0 ?_ rfl ?_ (xso 1 ?_ rfl ?_ (xso 2 ?_ rfl ?_ (xso 3 ?_ rfl ?_ (xso 5 ?_ rfl ?_ (xso 6 ?_ rfl ?_ (xso 7 ?_ rfl ?_ ?_))))))
     iterate 7 (rotate_left; focus ((try simp only [xap]); intro w hSw; (try dsimp only at hSw); go_simp; first | done | with_reducible rfl))
     try simp only [xap]
     refine xtk 8 rfl (yieldsIf_load_mid (by rfl) _ _ rfl _ _ rfl _ _ (fun _ h => h) Tryz.underlying86 rfl info85) ?_
     try simp only [xap]
     refine wpAnyH_ready (rs := [4, 9]) (by kernel_rfl) (by simp) ?_
     refine (xcn rfl (fun K hK => ?_) (xcn rfl (fun K hK => ?_) AllReadyH.nil))
     · skip
       have c9 := (f0.cell (p := ⟨a, 119, none⟩) halt).trans c119
       go_simp
       clear hHeld
       refine hK.out _ _ (hHA.out _ f0) (fun hHeld => ?_)
       clear hK K c9
       try simp only [xap]
       refine xrd 9 rfl (fun K hK => ?_)
       rw [if_pos (by rfl)]
       refine wp_build_frs _ rfl fN (by rfl) ?_
       clear hHeld
       have hX : At (Y2.drew.alloc (.cells fN.row.toArray 86)) (Y2.drew.heap.size) fN.row.toArray := At.new Y2.drew _ _
       have f1 : Bl Y2 (Y2.drew.alloc (.cells fN.row.toArray 86)) := f0.alloc _
       generalize hVV : Y2.drew.alloc (.cells fN.row.toArray 86) = Q1 at *
       clear hVV f0
       obtain ⟨kX, hkX⟩ : ∃ kX, Y2.drew.heap.size = kX := ⟨_, rfl⟩
       rw [hkX] at hX ⊢
       clear hkX
       replace hX := Hz.mk hX
       refine hK.out _ _ (hHA.out _ f1) (fun hHeld => ?_)
       clear hK K
       try simp only [xap]
       refine xrd 10 rfl (fun K hK => ?_)
       refine wp_append_z _ _ 87 86 (.agg Tryz.zeroCells86) 114 912 rfl Tryz.underlying87 (by kernel_rfl) (by kernel_rfl) (by decide) (by decide) B (.slice ta s.st.length tk) s.st.length xs fN.row (by rfl) (hO2.out Q1 f1) kX (by rfl) hX.out (fmRow_len _) (oneCell_row _) hsl (Nat.le_trans hleY f1.size) ?_
       intro g9 cap9 W9 k1 k2 k3
       obtain ⟨⟨u, cu⟩, fu, hR9, hM9, hBe⟩ := hap.out Q1 W9 g9 cap9 f1 k1 k2 k3
       replace hM9 := Hz.mk hM9
       replace hR9 := Hz.mk hR9
       clear k1 k2 k3 hHeld
       have hlt9 := World.block_lt_of_cell? W9 _ cu
       refine hK.out _ _ hR9.out (fun hHeld => ?_)
       clear hK K
       try simp only [xap]
       refine xso 11 ?_ rfl ?_ (xso 12 ?_ rfl ?_ ?_)
       iterate 2 (rotate_left; focus ((try simp only [xap]); intro w hSw; (try dsimp only at hSw); go_simp; first | done | with_reducible rfl))
       try simp only [xap]
       refine xrd 13 rfl (fun K hK => ?_)
       go_simp
       clear hHeld
       refine hK.out _ _ (show World.rangeAt _ a 5 fN.row from hfN.out ▸ (show World.rangeAt _ a 5 s.next.at_.row from hM9.out.handAt)) (fun hHeld => ?_)
       clear hK K
       try simp only [Act.put]
       refine xdn ?_ _
       clear hHeld cu fu hR9 hlt9
       replace hB := Hz.mk (hB.out.trans hBe)
       generalize World.setCell _ _ _ = Y9 at *
       clear h hX hap hO2 hHA
       have hAq := Hz.mk (hM9.out.there (bx_ kf fE.row) (.head _))
       replace hAq : Hz (Bx Y9 kf fE.row) := Hz.mk hAq.out
       have hth := Hz.mk (hM9.out.there5 fE)
       have hN := hM9.out.hand fE
       replace hB := Hz.mk (hB.out.trans hN.2)
       replace hN := Hz.mk hN.1
       go_upto_region 6 with fail
       refine wp_region_lit ?_
       refine wpList_plain rfl (fun K hK => ?_)
       go_simp
       with_reducible refine hK _ _ ?_
       clear hK K
       try simp only [xap]
       refine wpList_load_mid rfl _ _ rfl _ 0 rfl fE.row _ (bx_at0 hAq.out) Tryz.underlying86 rfl info85 ?_
       try simp only [xap]
       iterate 2 (refine wpList_plain rfl (fun K hK => ?_); go_simp; with_reducible refine hK _ _ ?_; clear hK K; (try simp only [xap]))
       refine wpList_store_mid rfl _ _ _ rfl _ _ (List.toArray fE.row) rfl rfl hth.out (fm_info fE) (fm_one fE) ?_
       try simp only [Act.put]
       generalize World.setCells _ _ _ _ = Y11 at *
       go_wp2_with fail
       first | go_end0 | ((try simp only [Exit.inBlock, Exit.then]); refine bodyPost_ret (results_none rfl _ _ _) rfl ?_)
       exact ⟨rfl, hN.out.drop, hB.out⟩
     · skip
       rw [if_pos (by rfl)]
       refine wp_build_frs _ rfl fN (by rfl) ?_
       clear hHeld
       have hX : At (Y2.drew.alloc (.cells fN.row.toArray 86)) (Y2.drew.heap.size) fN.row.toArray := At.new Y2.drew _ _
       have f1 : Bl Y2 (Y2.drew.alloc (.cells fN.row.toArray 86)) := f0.alloc _
       generalize hVV : Y2.drew.alloc (.cells fN.row.toArray 86) = Q1 at *
       clear hVV f0
       obtain ⟨kX, hkX⟩ : ∃ kX, Y2.drew.heap.size = kX := ⟨_, rfl⟩
       rw [hkX] at hX ⊢
       clear hkX
       replace hX := Hz.mk hX
       refine hK.out _ _ (hHA.out _ f1) (fun hHeld => ?_)
       clear hK K
       try simp only [xap]
       refine xrd 4 rfl (fun K hK => ?_)
       have c9 := (f1.cell (p := ⟨a, 119, none⟩) halt).trans c119
       go_simp
       clear hHeld
       refine hK.out _ _ (hHA.out _ f1) (fun hHeld => ?_)
       clear hK K c9
       try simp only [xap]
       refine xrd 10 rfl (fun K hK => ?_)
       refine wp_append_z _ _ 87 86 (.agg Tryz.zeroCells86) 114 912 rfl Tryz.underlying87 (by kernel_rfl) (by kernel_rfl) (by decide) (by decide) B (.slice ta s.st.length tk) s.st.length xs fN.row (by rfl) (hO2.out Q1 f1) kX (by rfl) hX.out (fmRow_len _) (oneCell_row _) hsl (Nat.le_trans hleY f1.size) ?_
       intro g9 cap9 W9 k1 k2 k3
       obtain ⟨⟨u, cu⟩, fu, hR9, hM9, hBe⟩ := hap.out Q1 W9 g9 cap9 f1 k1 k2 k3
       replace hM9 := Hz.mk hM9
       replace hR9 := Hz.mk hR9
       clear k1 k2 k3 hHeld
       have hlt9 := World.block_lt_of_cell? W9 _ cu
       refine hK.out _ _ hR9.out (fun hHeld => ?_)
       clear hK K
       try simp only [xap]
       refine xso 11 ?_ rfl ?_ (xso 12 ?_ rfl ?_ ?_)
       iterate 2 (rotate_left; focus ((try simp only [xap]); intro w hSw; (try dsimp only at hSw); go_simp; first | done | with_reducible rfl))
       try simp only [xap]
       refine xrd 13 rfl (fun K hK => ?_)
       go_simp
       clear hHeld
       refine hK.out _ _ (show World.rangeAt _ a 5 fN.row from hfN.out ▸ (show World.rangeAt _ a 5 s.next.at_.row from hM9.out.handAt)) (fun hHeld => ?_)
       clear hK K
       try simp only [Act.put]
       refine xdn ?_ _
       clear hHeld cu fu hR9 hlt9
       replace hB := Hz.mk (hB.out.trans hBe)
       generalize World.setCell _ _ _ = Y9 at *
       clear h hX hap hO2 hHA
       have hAq := Hz.mk (hM9.out.there (bx_ kf fE.row) (.head _))
       replace hAq : Hz (Bx Y9 kf fE.row) := Hz.mk hAq.out
       have hth := Hz.mk (hM9.out.there5 fE)
       have hN := hM9.out.hand fE
       replace hB := Hz.mk (hB.out.trans hN.2)
       replace hN := Hz.mk hN.1
       go_upto_region 6 with fail
       refine wp_region_lit ?_
       refine wpList_plain rfl (fun K hK => ?_)
       go_simp
       with_reducible refine hK _ _ ?_
       clear hK K
       try simp only [xap]
       refine wpList_load_mid rfl _ _ rfl _ 0 rfl fE.row _ (bx_at0 hAq.out) Tryz.underlying86 rfl info85 ?_
       try simp only [xap]
       iterate 2 (refine wpList_plain rfl (fun K hK => ?_); go_simp; with_reducible refine hK _ _ ?_; clear hK K; (try simp only [xap]))
       refine wpList_store_mid rfl _ _ _ rfl _ _ (List.toArray fE.row) rfl rfl hth.out (fm_info fE) (fm_one fE) ?_
       try simp only [Act.put]
       generalize World.setCells _ _ _ _ = Y11 at *
       go_wp2_with fail
       first | go_end0 | ((try simp only [Exit.inBlock, Exit.then]); refine bodyPost_ret (results_none rfl _ _ _) rfl ?_)
       exact ⟨rfl, hN.out.drop, hB.out⟩
end C
end Go.Proofs.YthmlkcglglcljaaGreatDoor


namespace Go.Proofs.YthmlkcglglcljaaGreatDoor
set_option maxRecDepth 100000
set_option maxHeartbeats 40000000
namespace C
open Go.RowKit
open T (Sep Ob Kp Mf TgIn boxOb Fm Tc Ed Vl Cp Bx tgOb mRow mRow_idx mRow_tail mRow_at updV flt Vl.row_len kp_setCells setCells_size)

theorem first_any (a n : Nat) (r : Nat → Vl) (w : World) (h : RgAt w a (1 + 0) (r 1)) (hn : n ≤ 15) : Calls Tryz.prog 133 #[.slice (some ⟨a, 14, none⟩) n 15] w fun x w' => x = .returned (.int .u64 (firstV r n)) ∧ Bl w w' := by
 have hlt := h.lt
 obtain ⟨r0, r1, r2, r3, r4, r5, r6⟩ := h.from1
 simp only [Nat.zero_mul, Nat.add_zero] at r0 r1 r2 r3 r4 r5 r6
 unfold firstV
 generalize r 1 = v at *
 cases n with
 | zero =>
   rw [if_pos rfl]
   go_enter Tryz.func133, Tryz.ntmps133
   go_wp2_with fail
   go_ret
   exact ⟨rfl, Bl.refl _⟩
 | succ n =>
   have hn0 : ((n : Int) + 1 == 0) = false := by simpa using (by omega : ¬ (n : Int) + 1 = 0)
   have hn1 : (0 : Int) < (n : Int) + 1 := by omega
   rw [if_neg (by omega)]
   cases hg : v.g
   · rw [if_neg (by decide)]
     rw [hg] at r0
     clear hg
     go_enter Tryz.func133, Tryz.ntmps133
     go_wp2_with fail
     go_ret
     exact ⟨rfl, (Bl.refl _).alloc _⟩
   · rw [if_pos rfl]
     rw [hg] at r0
     clear hg
     go_enter Tryz.func133, Tryz.ntmps133
     go_wp2_with fail
     go_ret
     exact ⟨rfl, (Bl.refl _).alloc _⟩
theorem ret_any (B : Nat) (W0 : World) (a : Nat) (P : PImg) (s : Ms) (l : List Ob) (h : MIn B W0 a P s l) (hP : POk P) (hg : s.at_.gate < P.gates.length) (hsl : s.st.length ≤ 1000000) :
   Calls Tryz.prog 107 #[.pointer (some ⟨a, 0, none⟩)] W0 fun x w' => Dv B W0 a P s l (retM P s) x w' := by
 obtain ⟨b, off, gc, xa, xc, ya, yc, c2, hblt, _, cy, hTy⟩ := h.gateTy s.at_.gate hg
 have c5 := h.cell.1
 have hlt := h.alt
 have gi : (s.at_.gate : Int) < P.gates.length := by omega
 have hn7 : P.gates[s.at_.gate].res.length ≤ 7 := (hP.gates s.at_.gate hg).2.2.2.2.2
 have hH := Hz.mk (fun X (q : Bl W0 X) => handed_any B X a P s l P.gates[s.at_.gate].res ya yc (h.gr q) (hTy X q).2 hn7)
 have KT : Hz (∀ X, Bl W0 X → X.cell? ⟨a, 2, none⟩ = some (.slice (some ⟨b, off, none⟩) P.gates.length gc) ∧ X.cell? ⟨a, 5, none⟩ = some (.int .i64 s.at_.gate) ∧ X.cell? ⟨b, off + s.at_.gate * 4 + 3, none⟩ = some (.slice ya P.gates[s.at_.gate].res.length yc)) := Hz.mk (fun X q => ⟨(q.cell (p := ⟨a, 2, none⟩) hlt).trans c2, (q.cell (p := ⟨a, 5, none⟩) hlt).trans c5, (q.cell (p := ⟨b, _, none⟩) hblt).trans cy⟩)
 replace h := Hz.mk h
 clear hTy c2 cy c5 hblt
 unfold retM
 rw [resOf_at P s.at_.gate hg]
 cases hq : fitN s.at_.regs P.gates[s.at_.gate].res P.gates[s.at_.gate].res.length with
 | false =>
   rw [hq] at hH
   rw [if_neg (by decide)]
   simp only [HdV, pan] at hH
   simp only [Dv, pan]
   go_enter Tryz.func107, Tryz.ntmps107
   go_upto_region 0 with fail
   have gD : Bl W0 W0.drew := (Bl.refl W0).drew
   refine wp_region_held_drew (S := (fun X => X.cell? ⟨a, 2, none⟩ = some (.slice (some ⟨b, off, none⟩) P.gates.length gc) ∧ X.cell? ⟨a, 5, none⟩ = some (.int .i64 s.at_.gate) ∧ X.cell? ⟨b, off + s.at_.gate * 4 + 3, none⟩ = some (.slice ya P.gates[s.at_.gate].res.length yc))) (by kernel_rfl) (KT.out _ gD) (fun hHeld => ?_)
   refine xso 0 ?_ rfl ?_ (xso 1 ?_ rfl ?_ (xso 2 ?_ rfl ?_ (xso 3 ?_ rfl ?_ (xso 4 ?_ rfl ?_ (xso 5 ?_ rfl ?_ (xso 6 ?_ rfl ?_ (xso 7 ?_ rfl ?_ (xso 8 ?_ rfl ?_ (xso 9 ?_ rfl ?_ (xso 10 ?_ rfl ?_ (xso 11 ?_ rfl ?_ (xso 12 ?_ rfl ?_ (xso 13 ?_ rfl ?_ ?_)))))))))))))
   iterate 14 (rotate_left; focus ((try simp only [xap]); intro w hSw; (try dsimp only at hSw); go_simp; first | done | with_reducible rfl))
   try simp only [xap]
   refine xrd 14 rfl (fun K hK => ?_)
   go_simp
   go_wp2_with (refine (hH.out _ gD).mono ?_; rintro r X1 ⟨rfl, e1⟩)
   exact ⟨rfl, rfl, h.out.gr (gD.trans e1), Below.mono (gD.trans e1) h.out.le⟩
 | true =>
   rw [hq] at hH
   rw [if_pos rfl]
   simp only [HdV] at hH
   clear hq
   rcases List.eq_nil_or_concat s.st with hst | ⟨L, t, hst⟩
   · rw [hst]
     simp only [List.getLast?_nil, Dv, pan]
     go_enter Tryz.func107, Tryz.ntmps107
     go_upto_region 0 with fail
     have gD : Bl W0 W0.drew := (Bl.refl W0).drew
     refine wp_region_held_drew (S := (fun X => X.cell? ⟨a, 2, none⟩ = some (.slice (some ⟨b, off, none⟩) P.gates.length gc) ∧ X.cell? ⟨a, 5, none⟩ = some (.int .i64 s.at_.gate) ∧ X.cell? ⟨b, off + s.at_.gate * 4 + 3, none⟩ = some (.slice ya P.gates[s.at_.gate].res.length yc))) (by kernel_rfl) (KT.out _ gD) (fun hHeld => ?_)
     refine xso 0 ?_ rfl ?_ (xso 1 ?_ rfl ?_ (xso 2 ?_ rfl ?_ (xso 3 ?_ rfl ?_ (xso 4 ?_ rfl ?_ (xso 5 ?_ rfl ?_ (xso 6 ?_ rfl ?_ (xso 7 ?_ rfl ?_ (xso 8 ?_ rfl ?_ (xso 9 ?_ rfl ?_ (xso 10 ?_ rfl ?_ (xso 11 ?_ rfl ?_ (xso 12 ?_ rfl ?_ (xso 13 ?_ rfl ?_ ?_)))))))))))))
     iterate 14 (rotate_left; focus ((try simp only [xap]); intro w hSw; (try dsimp only at hSw); go_simp; first | done | with_reducible rfl))
     try simp only [xap]
     refine xrd 14 rfl (fun K hK => ?_)
     go_simp
     refine (hH.out _ gD).mono ?_
     rintro r X1 ⟨rfl, e1⟩
     clear hHeld
     refine hK.out _ _ (KT.out _ (gD.trans e1)) (fun hHeld => ?_)
     clear hK K
     try simp only [xap]
     refine xso 15 ?_ rfl ?_ ?_
     rotate_left
     · intro w hSw; (try dsimp only at hSw); go_simp; first | done | with_reducible rfl
     try simp only [xap]
     refine xdn ?_ _
     clear hHeld KT hH
     have hB := Hz.mk (Below.mono (gD.trans e1) h.out.le)
     replace h := Hz.mk (h.out.gr (gD.trans e1))
     clear e1 gD
     obtain ⟨_, ta, tk, c119⟩ := h.out.depAt
     rw [hst] at c119
     replace c119 : X1.cell? ⟨a, 119, none⟩ = some (.slice ta 0 tk) := c119
     have hlx := h.out.alt
     have hFi := Hz.mk (first_any a P.gates[s.at_.gate].res.length s.at_.regs X1 (h.out.rg 1 (by omega)) (by omega))
     go_wp2_with fail
     refine hFi.out.mono ?_
     rintro r X2 ⟨rfl, e1⟩
     replace hB := Hz.mk (hB.out.trans (Below.mono e1 h.out.le))
     replace h := Hz.mk (h.out.gr e1)
     clear e1 c119
     go_wp2_with fail
     exact ⟨rfl, rfl, h.out, hB.out⟩
   · rw [hst]
     rw [List.concat_eq_append] at hst ⊢
     rw [List.getLast?_concat, List.dropLast_concat]
     generalize hfB : backF t s.at_.regs P.gates[s.at_.gate].res.length = fB
     have hlL : L.length ≤ 1000000 := by rw [hst] at hsl; simp at hsl; omega
     have e1 : IntKind.i64.wrap ((L.length : Int) + 1 - 1) = L.length := by rw [IntKind.wrap_i64]; omega
     have e2 : ¬ (L.length : Int) < 0 := by omega
     have e3 : (L.length : Int) < L.length + 1 := by omega
     replace hfB := Hz.mk hfB
     simp only [Dv]
     go_enter Tryz.func107, Tryz.ntmps107
     go_upto_region 0 with fail
     have gD : Bl W0 W0.drew := (Bl.refl W0).drew
     refine wp_region_held_drew (S := (fun X => X.cell? ⟨a, 2, none⟩ = some (.slice (some ⟨b, off, none⟩) P.gates.length gc) ∧ X.cell? ⟨a, 5, none⟩ = some (.int .i64 s.at_.gate) ∧ X.cell? ⟨b, off + s.at_.gate * 4 + 3, none⟩ = some (.slice ya P.gates[s.at_.gate].res.length yc))) (by kernel_rfl) (KT.out _ gD) (fun hHeld => ?_)
     refine xso 0 ?_ rfl ?_ (xso 1 ?_ rfl ?_ (xso 2 ?_ rfl ?_ (xso 3 ?_ rfl ?_ (xso 4 ?_ rfl ?_ (xso 5 ?_ rfl ?_ (xso 6 ?_ rfl ?_ (xso 7 ?_ rfl ?_ (xso 8 ?_ rfl ?_ (xso 9 ?_ rfl ?_ (xso 10 ?_ rfl ?_ (xso 11 ?_ rfl ?_ (xso 12 ?_ rfl ?_ (xso 13 ?_ rfl ?_ ?_)))))))))))))
     iterate 14 (rotate_left; focus ((try simp only [xap]); intro w hSw; (try dsimp only at hSw); go_simp; first | done | with_reducible rfl))
     try simp only [xap]
     refine xrd 14 rfl (fun K hK => ?_)
     go_simp
     refine (hH.out _ gD).mono ?_
     rintro r X1 ⟨rfl, e1⟩
     clear hHeld
     refine hK.out _ _ (KT.out _ (gD.trans e1)) (fun hHeld => ?_)
     clear hK K
     try simp only [xap]
     refine xso 15 ?_ rfl ?_ ?_
     rotate_left
     · intro w hSw; (try dsimp only at hSw); go_simp; first | done | with_reducible rfl
     try simp only [xap]
     refine xdn ?_ _
     clear hHeld KT hH
     have hB := Hz.mk (Below.mono (gD.trans e1) h.out.le)
     replace h := Hz.mk (h.out.gr (gD.trans e1))
     clear e1 gD
     obtain ⟨g9, c9, c119, hcl, hgl, hf119, hrg, -⟩ := h.out.top L t hst
     have hlx := h.out.alt
     obtain ⟨n1, n2, n3⟩ := new_fm X1 t
     have hM := Hz.mk (h.out.add (bx_ X1.heap.size t.row) n2 (fun k q => by have : k = X1.heap.size := q; omega) n3)
     replace hB := Hz.mk (hB.out.trans (Below.mono n3 h.out.le))
     have hkf : Hz (X1.heap.size ≠ a) := Hz.mk (by omega)
     replace n1 := Hz.mk n1
     replace n2 := Hz.mk n2
     replace n3 := Hz.mk n3
     go_upto_region 4 with fail
     refine wp_region_lit ?_
     iterate 6 (refine wpList_plain rfl (fun K hK => ?_); go_simp; with_reducible refine hK _ _ ?_; clear hK K; (try simp only [xap]))
     refine wpList_load_mid rfl _ _ rfl _ (L.length * 114) rfl t.row _ hrg Tryz.underlying86 rfl info85 ?_
     try simp only [xap]
     refine wpList_plain rfl (fun K hK => ?_)
     refine wp_alloc_fm rfl (hK _ _ ?_)
     clear hK K
     try simp only [xap]
     refine wpList_store_mid rfl _ _ _ rfl _ _ (List.toArray t.row) rfl rfl (bx_there n1.out t) (fm_info t) (fm_one t) ?_
     try simp only [Act.put]
     clear n1 n3 c119 hcl hgl hf119 hrg h n2
     generalize World.setCells _ _ _ _ = Y at *
     generalize X1.heap.size = kf at *
     have hbx : Bx Y kf t.row := hM.out.there (bx_ kf t.row) (.head _)
     obtain ⟨hq1, k4, k5⟩ := copy_fm Y kf t s.at_.regs P.gates[s.at_.gate].res.length (some ⟨a, 14, none⟩) 15 hbx (hM.out.src _ (by omega)) (by omega)
     rw [show ({ t with regs := ovF s.at_.regs t.regs P.gates[s.at_.gate].res.length } : Fm) = fB from hfB.out] at k4
     have hS2 := hM.out.side (o := bx_ kf t.row) (o' := bx_ kf fB.row) k4 k5 (fun k q => .inl q)
     clear hbx hM
     generalize World.setCells Y _ _ _ = Y2 at *
     replace hB := Hz.mk (hB.out.trans hS2.2)
     have h := Hz.mk hS2.1
     clear hS2 k4 k5
     have hlY := h.out.alt
     go_upto_region 6 with fail
     clear hq1
     generalize g9 = g8 at *
     generalize c9 = c8 at *
     obtain ⟨g9, c9, c119, hcl, hgl, hf119, hrg, hT⟩ := h.out.top L t hst
     replace hT := Hz.mk hT
     clear hrg
     have hcl2 : (L.length : Int) ≤ c9 := by omega
     go_upto_region 7 with fail
     replace hB := Hz.mk (hB.out.trans hT.out.2)
     replace h := Hz.mk hT.out.1
     clear hT c119 hcl hgl hf119
     generalize World.setCell _ _ _ = Y3 at *
     have hAq : Hz (Bx Y3 kf fB.row) := Hz.mk (h.out.there (bx_ kf fB.row) (.head _))
     have hth := Hz.mk (h.out.there5 fB)
     have hN := h.out.hand fB
     replace hB := Hz.mk (hB.out.trans hN.2)
     replace hN := Hz.mk hN.1
     clear h
     refine wp_region_lit ?_
     refine wpList_plain rfl (fun K hK => ?_)
     go_simp
     with_reducible refine hK _ _ ?_
     clear hK K
     try simp only [xap]
     refine wpList_load_mid rfl _ _ rfl _ 0 rfl fB.row _ (bx_at0 hAq.out) Tryz.underlying86 rfl info85 ?_
     try simp only [xap]
     iterate 2 (refine wpList_plain rfl (fun K hK => ?_); go_simp; with_reducible refine hK _ _ ?_; clear hK K; (try simp only [xap]))
     refine wpList_store_mid rfl _ _ _ rfl _ _ (List.toArray fB.row) rfl rfl hth.out (fm_info fB) (fm_one fB) ?_
     try simp only [Act.put]
     generalize World.setCells _ _ _ _ = Y11 at *
     go_wp2_with fail
     first | go_end0 | ((try simp only [Exit.inBlock, Exit.then]); refine bodyPost_ret (results_none rfl _ _ _) rfl ?_)
     refine ⟨rfl, ?_, hB.out⟩
     rw [hfB.out]
     exact hN.out.drop
end C
end Go.Proofs.YthmlkcglglcljaaGreatDoor


namespace Go.Proofs.YthmlkcglglcljaaGreatDoor
set_option maxRecDepth 100000
set_option maxHeartbeats 40000000
namespace C
open Go.RowKit
open T (Sep Ob Kp Mf TgIn boxOb Fm Tc Ed Vl Cp Bx tgOb mRow mRow_idx mRow_tail mRow_at updV flt ofI ofI_agg capability_any)

def cpL (c : Cp) : List Value := [.int .u64 c.b, .int .u64 c.e, .int .u64 c.c, .int .u8 c.p, .int .i64 c.s]
theorem cpL_one (c : Cp) : (cpL c).toArray.all (fun x => x.oneCell') = true := by simp [cpL, Value.oneCell']
theorem codeCap_any (B : Nat) (a : Nat) (P : PImg) (s : Ms) (l : List Ob) (w : World) (h : MIn B w a P s l) (hP : POk P) (hg : s.at_.gate < P.gates.length) (pc : Nat) (hpc : pc < (codeOf P (kOf P s.at_.gate)).length) :
   Calls Tryz.prog 102 #[.pointer (some ⟨a, 0, none⟩), .int .i64 pc] w fun x w' => x = .returned (Cp.val (ccap P (kOf P s.at_.gate) pc)) ∧ Bl w w' := by
 obtain ⟨hk1, hk2, _, _⟩ := hP.kl _ hg
 obtain ⟨ra, rc, ca, cc, ga, gc, p0, p1, p2, p3, hI⟩ := h.progAt
 have hlt := h.alt
 have hcl := (hP.code (kOf P s.at_.gate)).1
 rw [codeOf_at P _ hk1] at hpc hcl
 have hcap : ccap P (kOf P s.at_.gate) pc = ⟨codeBase (kOf P s.at_.gate), codeBase (kOf P s.at_.gate) + P.comps[kOf P s.at_.gate].code.length * 8, codeBase (kOf P s.at_.gate) + pc * 8, 16, 0⟩ := by unfold ccap; rw [codeOf_at P _ hk1]
 have hC := fun X (q : Bl w X) => comp_any B a P s l X (h.gr q) hg
 rw [hk2] at hC
 have hCC := fun X (q : Bl w X) => (CodeCap_yes P (kOf P s.at_.gate) pc ra ca ga P.regs.length rc cc P.gates.length gc X (hI X q).comps hk1 (by have := hP.cl; unfold maxG; omega) ⟨by omega, by omega⟩ (by unfold maxI; omega)).mono (R' := fun x w' => x = .returned (.tuple #[.agg (cpL (ccap P (kOf P s.at_.gate) pc)).toArray, .bool true]) ∧ Bl X w') (by rintro x w' ⟨rfl, g⟩; exact ⟨by rw [hcap]; rfl, g.below⟩)
 clear hcap
 show Calls Tryz.prog 102 #[.pointer (some ⟨a, 0, none⟩), .int .i64 pc] w fun x w' => x = .returned (.agg (cpL (ccap P (kOf P s.at_.gate) pc)).toArray) ∧ Bl w w'
 generalize ccap P (kOf P s.at_.gate) pc = c at *
 have gV : Bl w (w.alloc (.cells (List.toArray [Value.int .u64 0, .int .u64 0, .int .u64 0, .int .u8 0, .int .i64 0]) 35)) := (Bl.refl w).alloc _
 have hR0 : At (w.alloc (.cells (List.toArray [Value.int .u64 0, .int .u64 0, .int .u64 0, .int .u8 0, .int .i64 0]) 35)) w.heap.size (List.toArray [Value.int .u64 0, .int .u64 0, .int .u64 0, .int .u8 0, .int .i64 0]) := At.new w _ _
 have KT : Hz (∀ X, Bl (w.alloc (.cells (List.toArray [Value.int .u64 0, .int .u64 0, .int .u64 0, .int .u8 0, .int .i64 0]) 35)) X → X.cell? ⟨a, 0, none⟩ = some (.slice ra P.regs.length rc) ∧ X.cell? ⟨a, 1, none⟩ = some (.slice ca P.comps.length cc) ∧ X.cell? ⟨a, 2, none⟩ = some (.slice ga P.gates.length gc) ∧ X.cell? ⟨a, 3, none⟩ = some (.int .i64 P.depth)) := Hz.mk (fun X q => ⟨((gV.trans q).cell (p := ⟨a, 0, none⟩) hlt).trans p0, ((gV.trans q).cell (p := ⟨a, 1, none⟩) hlt).trans p1, ((gV.trans q).cell (p := ⟨a, 2, none⟩) hlt).trans p2, ((gV.trans q).cell (p := ⟨a, 3, none⟩) hlt).trans p3⟩)
 replace hC := Hz.mk (fun X (q : Bl (w.alloc (.cells (List.toArray [Value.int .u64 0, .int .u64 0, .int .u64 0, .int .u8 0, .int .i64 0]) 35)) X) => hC X (gV.trans q))
 replace hCC := Hz.mk (fun X (q : Bl (w.alloc (.cells (List.toArray [Value.int .u64 0, .int .u64 0, .int .u64 0, .int .u8 0, .int .i64 0]) 35)) X) => hCC X (gV.trans q))
 replace hR0 := Hz.mk hR0
 replace h := Hz.mk h
 clear p0 p1 p2 p3 hI hk2 hcl hpc
 go_enter Tryz.func102, Tryz.ntmps102
 go_upto_region 1 with fail
 generalize hV : w.alloc (.cells (List.toArray [Value.int .u64 0, .int .u64 0, .int .u64 0, .int .u8 0, .int .i64 0]) 35) = V at *
 clear hV
 have g0 : Bl V V.drew := (Bl.refl V).drew
 refine wp_region_held_drew (S := (fun X => X.cell? ⟨a, 0, none⟩ = some (.slice ra P.regs.length rc) ∧ X.cell? ⟨a, 1, none⟩ = some (.slice ca P.comps.length cc) ∧ X.cell? ⟨a, 2, none⟩ = some (.slice ga P.gates.length gc) ∧ X.cell? ⟨a, 3, none⟩ = some (.int .i64 P.depth))) (by kernel_rfl) (KT.out _ g0) (fun hHeld => ?_)
 refine xso 0 ?_ rfl ?_ (xso 1 ?_ rfl ?_ (xso 2 ?_ rfl ?_ (xso 3 ?_ rfl ?_ (xso 4 ?_ rfl ?_ (xso 6 ?_ rfl ?_ ?_)))))
 iterate 6 (rotate_left; focus ((try simp only [xap]); intro w hSw; (try dsimp only at hSw); go_simp; first | done | with_reducible rfl))
 try simp only [xap]
 refine wpAnyH_ready (rs := [5, 11]) (by kernel_rfl) (by simp) ?_
 refine (xcn rfl (fun K hK => ?_) (xcn rfl (fun K hK => ?_) AllReadyH.nil))
 · skip
   go_simp
   go_wp2_with (refine (hC.out _ g0).mono ?_; rintro r X1 ⟨rfl, gg⟩; have g1 := g0.trans gg; clear gg g0 hHeld)
   refine hK.out _ _ (KT.out _ g1) (fun hHeld => ?_)
   clear hK K
   try simp only [xap]
   refine wpAnyH_ready (rs := [7, 11]) (by kernel_rfl) (by simp) ?_
   refine (xcn rfl (fun K hK => ?_) (xcn rfl (fun K hK => ?_) AllReadyH.nil))
   · skip
     go_simp
     go_wp2_with (refine (hCC.out _ g1).mono ?_; rintro r X2 ⟨rfl, gg⟩; have g2 := g1.trans gg; clear gg g1 hHeld)
     refine hK.out _ _ (KT.out _ g2) (fun hHeld => ?_)
     clear hK K
     try simp only [xap]
     refine xso 8 ?_ rfl ?_ (xso 9 ?_ rfl ?_ (xso 10 ?_ rfl ?_ ?_))
     iterate 3 (rotate_left; focus ((try simp only [xap]); intro w hSw; (try dsimp only at hSw); go_simp; first | done | with_reducible rfl))
     try simp only [xap]
     refine xrd 11 rfl (fun K hK => ?_)
     go_simp
     clear hHeld
     have hAf : At (X2.alloc (.cells (List.toArray [Value.int .u64 0, .int .u64 0, .int .u64 0, .int .u8 0, .int .i64 0]) 35)) (X2.heap.size) (List.toArray [Value.int .u64 0, .int .u64 0, .int .u64 0, .int .u8 0, .int .i64 0]) := At.new X2 _ _
     have g3 : Bl V (X2.alloc (.cells (List.toArray [Value.int .u64 0, .int .u64 0, .int .u64 0, .int .u8 0, .int .i64 0]) 35)) := g2.alloc _
     have hks : V.heap.size ≤ X2.heap.size := g2.size
     generalize hVV : X2.alloc (.cells (List.toArray [Value.int .u64 0, .int .u64 0, .int .u64 0, .int .u8 0, .int .i64 0]) 35) = X3 at *
     clear hVV g2
     replace hAf := Hz.mk hAf
     obtain ⟨kf, hkf⟩ : ∃ kf, X2.heap.size = kf := ⟨_, rfl⟩
     rw [hkf] at hAf ⊢
     replace hks : V.heap.size ≤ kf := by omega
     clear hkf
     refine hK.out _ _ (KT.out _ g3) (fun hHeld => ?_)
     clear hK K
     try simp only [xap]
     refine xrd 12 rfl (fun K hK => ?_)
     rw [if_pos (by rfl)]
     have hth := Hz.mk (At.there hAf.out 0 5 (by decide))
     have hA9 := Hz.mk (At.setAll hAf.out (cpL c) rfl)
     have g4 := g3.sets kf hks (cpL c) 0
     refine wp_store_mid _ _ _ rfl _ _ (List.toArray (cpL c)) rfl rfl (show World.there _ _ _ _ from hth.out) (by kernel_rfl) (cpL_one _) ?_
     clear hHeld
     refine hK.out _ _ (KT.out _ g4) (fun hHeld => ?_)
     clear hK K hth hAf
     try simp only [Act.put]
     refine xso 13 ?_ rfl ?_ ?_
     rotate_left
     · intro w hSw; (try dsimp only at hSw); go_simp; first | done | with_reducible rfl
     try simp only [xap]
     refine xdn ?_ _
     clear hHeld
     generalize World.setCells _ _ _ _ = Y at *
     have hR1 := Hz.mk (T.at_below hR0.out g4 hR0.out.1)
     have gY := gV.trans g4
     clear hR0
     go_upto_region 2 with fail
     have hth := Hz.mk (At.there hR1.out 0 5 (by decide))
     have hA8 := Hz.mk (At.setAll hR1.out (cpL c) rfl)
     have g9 := gY.sets w.heap.size (Nat.le_refl _) (cpL c) 0
     refine wp_region_lit ?_
     refine wpList_load_mid rfl _ _ rfl _ 0 rfl (cpL c) _ hA9.out.range Tryz.underlying35 rfl (by kernel_rfl) ?_
     try simp only [xap]
     refine wpList_store_mid rfl _ _ _ rfl _ _ (List.toArray (cpL c)) rfl rfl (show World.there _ _ _ _ from hth.out) (by kernel_rfl) (cpL_one _) ?_
     try simp only [Act.put]
     generalize World.setCells _ _ _ _ = Y9 at *
     have hrun := run_loadVar_mid (P := Tryz.prog) Y9 w.heap.size 0 35 (cpL c) _ hA8.out.range Tryz.underlying35 rfl (by kernel_rfl)
     replace g9 := Hz.mk g9
     go_wp2_with fail
     refine bodyPost_ret (v := .agg (List.toArray (cpL c))) ?_ rfl ⟨rfl, g9.out⟩
     exact results_cellE Tryz.results102 _ _ rfl hrun
   · skip
     go_simp
     clear hHeld
     have hAf : At (X1.alloc (.cells (List.toArray [Value.int .u64 0, .int .u64 0, .int .u64 0, .int .u8 0, .int .i64 0]) 35)) (X1.heap.size) (List.toArray [Value.int .u64 0, .int .u64 0, .int .u64 0, .int .u8 0, .int .i64 0]) := At.new X1 _ _
     have g2 : Bl V (X1.alloc (.cells (List.toArray [Value.int .u64 0, .int .u64 0, .int .u64 0, .int .u8 0, .int .i64 0]) 35)) := g1.alloc _
     have hks : V.heap.size ≤ X1.heap.size := g1.size
     generalize hVV : X1.alloc (.cells (List.toArray [Value.int .u64 0, .int .u64 0, .int .u64 0, .int .u8 0, .int .i64 0]) 35) = X2 at *
     clear hVV g1
     replace hAf := Hz.mk hAf
     obtain ⟨kf, hkf⟩ : ∃ kf, X1.heap.size = kf := ⟨_, rfl⟩
     rw [hkf] at hAf ⊢
     replace hks : V.heap.size ≤ kf := by omega
     clear hkf
     refine hK.out _ _ (KT.out _ g2) (fun hHeld => ?_)
     clear hK K
     try simp only [xap]
     refine xrd 7 rfl (fun K hK => ?_)
     go_simp
     go_wp2_with (refine (hCC.out _ g2).mono ?_; rintro r X3 ⟨rfl, gg⟩; have g3 := g2.trans gg; replace hAf := Hz.mk (Bl.at_ gg hAf.out); clear gg g2 hHeld)
     refine hK.out _ _ (KT.out _ g3) (fun hHeld => ?_)
     clear hK K
     try simp only [xap]
     refine xso 8 ?_ rfl ?_ (xso 9 ?_ rfl ?_ (xso 10 ?_ rfl ?_ ?_))
     iterate 3 (rotate_left; focus ((try simp only [xap]); intro w hSw; (try dsimp only at hSw); go_simp; first | done | with_reducible rfl))
     try simp only [xap]
     refine xrd 12 rfl (fun K hK => ?_)
     rw [if_pos (by rfl)]
     have hth := Hz.mk (At.there hAf.out 0 5 (by decide))
     have hA9 := Hz.mk (At.setAll hAf.out (cpL c) rfl)
     have g4 := g3.sets kf hks (cpL c) 0
     refine wp_store_mid _ _ _ rfl _ _ (List.toArray (cpL c)) rfl rfl (show World.there _ _ _ _ from hth.out) (by kernel_rfl) (cpL_one _) ?_
     clear hHeld
     refine hK.out _ _ (KT.out _ g4) (fun hHeld => ?_)
     clear hK K hth hAf
     try simp only [Act.put]
     refine xso 13 ?_ rfl ?_ ?_
     rotate_left
     · intro w hSw; (try dsimp only at hSw); go_simp; first | done | with_reducible rfl
     try simp only [xap]
     refine xdn ?_ _
     clear hHeld
     generalize World.setCells _ _ _ _ = Y at *
     have hR1 := Hz.mk (T.at_below hR0.out g4 hR0.out.1)
     have gY := gV.trans g4
     clear hR0
     go_upto_region 2 with fail
     have hth := Hz.mk (At.there hR1.out 0 5 (by decide))
     have hA8 := Hz.mk (At.setAll hR1.out (cpL c) rfl)
     have g9 := gY.sets w.heap.size (Nat.le_refl _) (cpL c) 0
     refine wp_region_lit ?_
     refine wpList_load_mid rfl _ _ rfl _ 0 rfl (cpL c) _ hA9.out.range Tryz.underlying35 rfl (by kernel_rfl) ?_
     try simp only [xap]
     refine wpList_store_mid rfl _ _ _ rfl _ _ (List.toArray (cpL c)) rfl rfl (show World.there _ _ _ _ from hth.out) (by kernel_rfl) (cpL_one _) ?_
     try simp only [Act.put]
     generalize World.setCells _ _ _ _ = Y9 at *
     have hrun := run_loadVar_mid (P := Tryz.prog) Y9 w.heap.size 0 35 (cpL c) _ hA8.out.range Tryz.underlying35 rfl (by kernel_rfl)
     replace g9 := Hz.mk g9
     go_wp2_with fail
     refine bodyPost_ret (v := .agg (List.toArray (cpL c))) ?_ rfl ⟨rfl, g9.out⟩
     exact results_cellE Tryz.results102 _ _ rfl hrun
 · skip
   go_simp
   clear hHeld
   have hAf : At ((V.alloc (.cells (List.toArray [Value.int .u64 0, .int .u64 0, .int .u64 0, .int .u8 0, .int .i64 0]) 35)).drew) (V.heap.size) (List.toArray [Value.int .u64 0, .int .u64 0, .int .u64 0, .int .u8 0, .int .i64 0]) := (At.new V _ _).drew
   have g1 : Bl V ((V.alloc (.cells (List.toArray [Value.int .u64 0, .int .u64 0, .int .u64 0, .int .u8 0, .int .i64 0]) 35)).drew) := ((Bl.refl V).alloc _).drew
   have hks : V.heap.size ≤ V.heap.size := Nat.le_refl _
   generalize hVV : (V.alloc (.cells (List.toArray [Value.int .u64 0, .int .u64 0, .int .u64 0, .int .u8 0, .int .i64 0]) 35)).drew = X1 at *
   clear hVV g0
   replace hAf := Hz.mk hAf
   obtain ⟨kf, hkf⟩ : ∃ kf, V.heap.size = kf := ⟨_, rfl⟩
   rw [hkf] at hAf ⊢
   replace hks : V.heap.size ≤ kf := by omega
   clear hkf
   refine hK.out _ _ (KT.out _ g1) (fun hHeld => ?_)
   clear hK K
   try simp only [xap]
   refine xrd 5 rfl (fun K hK => ?_)
   go_simp
   go_wp2_with (refine (hC.out _ g1).mono ?_; rintro r X2 ⟨rfl, gg⟩; have g2 := g1.trans gg; replace hAf := Hz.mk (Bl.at_ gg hAf.out); clear gg g1 hHeld)
   refine hK.out _ _ (KT.out _ g2) (fun hHeld => ?_)
   clear hK K
   try simp only [xap]
   refine xrd 7 rfl (fun K hK => ?_)
   go_simp
   go_wp2_with (refine (hCC.out _ g2).mono ?_; rintro r X3 ⟨rfl, gg⟩; have g3 := g2.trans gg; replace hAf := Hz.mk (Bl.at_ gg hAf.out); clear gg g2 hHeld)
   refine hK.out _ _ (KT.out _ g3) (fun hHeld => ?_)
   clear hK K
   try simp only [xap]
   refine xso 8 ?_ rfl ?_ (xso 9 ?_ rfl ?_ (xso 10 ?_ rfl ?_ ?_))
   iterate 3 (rotate_left; focus ((try simp only [xap]); intro w hSw; (try dsimp only at hSw); go_simp; first | done | with_reducible rfl))
   try simp only [xap]
   refine xrd 12 rfl (fun K hK => ?_)
   rw [if_pos (by rfl)]
   have hth := Hz.mk (At.there hAf.out 0 5 (by decide))
   have hA9 := Hz.mk (At.setAll hAf.out (cpL c) rfl)
   have g4 := g3.sets kf hks (cpL c) 0
   refine wp_store_mid _ _ _ rfl _ _ (List.toArray (cpL c)) rfl rfl (show World.there _ _ _ _ from hth.out) (by kernel_rfl) (cpL_one _) ?_
   clear hHeld
   refine hK.out _ _ (KT.out _ g4) (fun hHeld => ?_)
   clear hK K hth hAf
   try simp only [Act.put]
   refine xso 13 ?_ rfl ?_ ?_
   rotate_left
   · intro w hSw; (try dsimp only at hSw); go_simp; first | done | with_reducible rfl
   try simp only [xap]
   refine xdn ?_ _
   clear hHeld
   generalize World.setCells _ _ _ _ = Y at *
   have hR1 := Hz.mk (T.at_below hR0.out g4 hR0.out.1)
   have gY := gV.trans g4
   clear hR0
   go_upto_region 2 with fail
   have hth := Hz.mk (At.there hR1.out 0 5 (by decide))
   have hA8 := Hz.mk (At.setAll hR1.out (cpL c) rfl)
   have g9 := gY.sets w.heap.size (Nat.le_refl _) (cpL c) 0
   refine wp_region_lit ?_
   refine wpList_load_mid rfl _ _ rfl _ 0 rfl (cpL c) _ hA9.out.range Tryz.underlying35 rfl (by kernel_rfl) ?_
   try simp only [xap]
   refine wpList_store_mid rfl _ _ _ rfl _ _ (List.toArray (cpL c)) rfl rfl (show World.there _ _ _ _ from hth.out) (by kernel_rfl) (cpL_one _) ?_
   try simp only [Act.put]
   generalize World.setCells _ _ _ _ = Y9 at *
   have hrun := run_loadVar_mid (P := Tryz.prog) Y9 w.heap.size 0 35 (cpL c) _ hA8.out.range Tryz.underlying35 rfl (by kernel_rfl)
   replace g9 := Hz.mk g9
   go_wp2_with fail
   refine bodyPost_ret (v := .agg (List.toArray (cpL c))) ?_ rfl ⟨rfl, g9.out⟩
   exact results_cellE Tryz.results102 _ _ rfl hrun
end C
end Go.Proofs.YthmlkcglglcljaaGreatDoor


namespace Go.Proofs.YthmlkcglglcljaaGreatDoor
set_option maxRecDepth 100000
set_option maxHeartbeats 40000000
namespace C
open Go.RowKit
open T (Sep Ob Kp Mf TgIn boxOb Fm Tc Ed Vl Cp Bx tgOb mRow mRow_idx mRow_tail mRow_at updV flt ofI ofI_agg capability_any)

def tgtC (P : PImg) (k : Nat) (c : Cp) : Except Ed Nat :=
 if T.accessF c.b c.e c.c c.p c.s 0 8 16 = 0 then (if offC k c.c < (codeOf P k).length * 8 ∧ offC k c.c % 8 = 0 then .ok (offC k c.c / 8).toNat else .error (flt 8)) else .error (flt (T.accessF c.b c.e c.c c.p c.s 0 8 16))
theorem tgtR_eq (P : PImg) (k : Nat) (v : Vl) : tgtR P k v = if v.g then tgtC P k v.c else .error (flt 1) := rfl
def NtV : Except Ed Nat → Ending
 | .ok n => .returned (.int .i64 n)
 | .error e => pan e
theorem target_any (B : Nat) (a : Nat) (P : PImg) (s : Ms) (l : List Ob) (c : Cp) (w : World) (h : MIn B w a P s l) (hP : POk P) (hg : s.at_.gate < P.gates.length) :
   Calls Tryz.prog 103 #[.pointer (some ⟨a, 0, none⟩), Cp.val c] w fun x w' => x = NtV (tgtC P (kOf P s.at_.gate) c) ∧ MIn B w' a P s l ∧ Below B w w' := by
 obtain ⟨hk1, _, _, hk4⟩ := hP.kl _ hg
 have hcl := (hP.code (kOf P s.at_.gate)).1
 have hk5 := hP.cl
 have h2 := Hz.mk (h.new #[.int .u64 c.b, .int .u64 c.e, .int .u64 c.c, .int .u8 c.p, .int .i64 c.s] 35)
 have hA := Hz.mk (fun X => cwAcc c 0 8 16 X)
 have hCd := Hz.mk (fun X l' (q : MIn B X a P s l') => codeCap_any B a P s l' X q hP hg 0 (by omega))
 unfold tgtC
 unfold Cp.val at *
 clear h
 generalize hf : T.accessF c.b c.e c.c c.p c.s 0 8 16 = f at *
 clear hf
 by_cases h0 : f = 0
 · subst h0
   rw [if_pos rfl]
   have hW := Hz.mk allow_ok
   have e1 : IntKind.u64.wrap ((ccap P (kOf P s.at_.gate) 0).e - (ccap P (kOf P s.at_.gate) 0).b) = ((codeOf P (kOf P s.at_.gate)).length : Int) * 8 := by
     simp only [ccap, codeBase, IntKind.wrap_u64]; omega
   have e2 : (ccap P (kOf P s.at_.gate) 0).b = codeBase (kOf P s.at_.gate) := rfl
   have e3 : IntKind.u64.wrap (c.c - codeBase (kOf P s.at_.gate)) = offC (kOf P s.at_.gate) c.c := rfl
   have o0 : 0 ≤ offC (kOf P s.at_.gate) c.c := wrap_u64_nonneg _
   rw [← e2] at e3
   clear e2
   generalize ccap P (kOf P s.at_.gate) 0 = d at *
   generalize offC (kOf P s.at_.gate) c.c = o at *
   generalize (codeOf P (kOf P s.at_.gate)).length = n at *
   have t1 : Int.tmod o 8 = o % 8 := Int.tmod_eq_emod_of_nonneg o0
   have t2 : Int.tdiv o 8 = o / 8 := Int.tdiv_eq_ediv_of_nonneg o0
   by_cases h1 : o < (n : Int) * 8 ∧ o % 8 = 0
   · rw [if_pos h1]
     obtain ⟨q1, q2⟩ := h1
     have q3 : decide ((n : Int) * 8 ≤ o) = false := by simp; omega
     obtain ⟨k, hk⟩ : ∃ k, (o / 8).toNat = k := ⟨_, rfl⟩
     have q4 : IntKind.i64.wrap (o / 8) = (k : Int) := by rw [IntKind.wrap_i64]; omega
     rw [hk]
     replace hk := Hz.mk hk
     have q5 : (o % 8 != 0) = false := by simpa using q2
     have q6 : ¬ (n : Int) * 8 ≤ o := by omega
     replace q1 := Hz.mk q1
     replace q2 := Hz.mk q2
     simp only [NtV]
     go_enter Tryz.func103, Tryz.ntmps103
     go_upto_region 1 with fail
     refine wp_world (fun W => MIn B W a P s (boxOb w.heap.size #[.int .u64 c.b, .int .u64 c.e, .int .u64 c.c, .int .u8 c.p, .int .i64 c.s] :: l) ∧ Below B w W) h2.out ?_
     clear h2
     rintro W ⟨h, hB⟩
     generalize w.heap.size = kb at *
     have ⟨_, p0, _⟩ := h.there (boxOb kb #[.int .u64 c.b, .int .u64 c.e, .int .u64 c.c, .int .u8 c.p, .int .i64 c.s]) (.head _)
     replace h := Hz.mk h
     replace hB := Hz.mk hB
     go_wp2_with fail
     refine (hA.out _).mono ?_
     rintro r X1 ⟨rfl, e1⟩
     replace hB := Hz.mk (hB.out.trans (h.out.bl e1).2)
     replace h := Hz.mk (h.out.bl e1).1
     clear e1 p0
     go_wp2_with fail
     refine (hW.out _).mono ?_
     rintro r X2 ⟨rfl, rfl⟩
     go_wp2_with fail
     refine (hCd.out _ _ h.out).mono ?_
     rintro r X3 ⟨rfl, e1⟩
     replace hB := Hz.mk (hB.out.trans (h.out.bl e1).2)
     replace h := Hz.mk (h.out.bl e1).1
     clear e1
     have h5 := Hz.mk (h.out.new #[.int .u64 d.b, .int .u64 d.e, .int .u64 d.c, .int .u8 d.p, .int .i64 d.s] 35)
     go_upto_region 3 with fail
     refine wp_world (fun X => MIn B X a P s (boxOb X3.heap.size #[.int .u64 d.b, .int .u64 d.e, .int .u64 d.c, .int .u8 d.p, .int .i64 d.s] :: boxOb kb #[.int .u64 c.b, .int .u64 c.e, .int .u64 c.c, .int .u8 c.p, .int .i64 c.s] :: l) ∧ Below B w X) ⟨h5.out.1, hB.out.trans h5.out.2⟩ ?_
     clear h5 h hB
     rintro X4 ⟨h, hB⟩
     generalize X3.heap.size = k5 at *
     have ⟨_, p5, _⟩ := h.there (boxOb k5 #[.int .u64 d.b, .int .u64 d.e, .int .u64 d.c, .int .u8 d.p, .int .i64 d.s]) (.head _)
     have ⟨_, p0, _⟩ := h.there (boxOb kb #[.int .u64 c.b, .int .u64 c.e, .int .u64 c.c, .int .u8 c.p, .int .i64 c.s]) (.tail _ (.head _))
     replace h := Hz.mk h
     replace hB := Hz.mk hB
     go_wp2_with fail
     go_ret
     exact ⟨rfl, h.out.drop.drop, hB.out⟩
   · rw [if_neg h1]
     have hF := Hz.mk (fail_any 8)
     simp only [NtV, pan] at hF ⊢
     by_cases q1 : (n : Int) * 8 ≤ o
     · have q3 : decide ((n : Int) * 8 ≤ o) = true := by simpa using q1
       clear h1
       go_enter Tryz.func103, Tryz.ntmps103
       go_upto_region 1 with fail
       refine wp_world (fun W => MIn B W a P s (boxOb w.heap.size #[.int .u64 c.b, .int .u64 c.e, .int .u64 c.c, .int .u8 c.p, .int .i64 c.s] :: l) ∧ Below B w W) h2.out ?_
       clear h2
       rintro W ⟨h, hB⟩
       generalize w.heap.size = kb at *
       have ⟨_, p0, _⟩ := h.there (boxOb kb #[.int .u64 c.b, .int .u64 c.e, .int .u64 c.c, .int .u8 c.p, .int .i64 c.s]) (.head _)
       replace h := Hz.mk h
       replace hB := Hz.mk hB
       go_wp2_with fail
       refine (hA.out _).mono ?_
       rintro r X1 ⟨rfl, e1⟩
       replace hB := Hz.mk (hB.out.trans (h.out.bl e1).2)
       replace h := Hz.mk (h.out.bl e1).1
       clear e1 p0
       go_wp2_with fail
       refine (hW.out _).mono ?_
       rintro r X2 ⟨rfl, rfl⟩
       go_wp2_with fail
       refine (hCd.out _ _ h.out).mono ?_
       rintro r X3 ⟨rfl, e1⟩
       replace hB := Hz.mk (hB.out.trans (h.out.bl e1).2)
       replace h := Hz.mk (h.out.bl e1).1
       clear e1
       have h5 := Hz.mk (h.out.new #[.int .u64 d.b, .int .u64 d.e, .int .u64 d.c, .int .u8 d.p, .int .i64 d.s] 35)
       go_upto_region 3 with fail
       refine wp_world (fun X => MIn B X a P s (boxOb X3.heap.size #[.int .u64 d.b, .int .u64 d.e, .int .u64 d.c, .int .u8 d.p, .int .i64 d.s] :: boxOb kb #[.int .u64 c.b, .int .u64 c.e, .int .u64 c.c, .int .u8 c.p, .int .i64 c.s] :: l) ∧ Below B w X) ⟨h5.out.1, hB.out.trans h5.out.2⟩ ?_
       clear h5 h hB
       rintro X4 ⟨h, hB⟩
       generalize X3.heap.size = k5 at *
       have ⟨_, p5, _⟩ := h.there (boxOb k5 #[.int .u64 d.b, .int .u64 d.e, .int .u64 d.c, .int .u8 d.p, .int .i64 d.s]) (.head _)
       have ⟨_, p0, _⟩ := h.there (boxOb kb #[.int .u64 c.b, .int .u64 c.e, .int .u64 c.c, .int .u8 c.p, .int .i64 c.s]) (.tail _ (.head _))
       replace h := Hz.mk h
       replace hB := Hz.mk hB
       go_wp2_with (refine (hF.out _).mono ?_; rintro r X9 ⟨rfl, rfl⟩)
       exact ⟨rfl, rfl, h.out.drop.drop, hB.out⟩
     · have q3 : decide ((n : Int) * 8 ≤ o) = false := by simpa using q1
       have q5 : (o % 8 != 0) = true := by simp; omega
       clear h1
       go_enter Tryz.func103, Tryz.ntmps103
       go_upto_region 1 with fail
       refine wp_world (fun W => MIn B W a P s (boxOb w.heap.size #[.int .u64 c.b, .int .u64 c.e, .int .u64 c.c, .int .u8 c.p, .int .i64 c.s] :: l) ∧ Below B w W) h2.out ?_
       clear h2
       rintro W ⟨h, hB⟩
       generalize w.heap.size = kb at *
       have ⟨_, p0, _⟩ := h.there (boxOb kb #[.int .u64 c.b, .int .u64 c.e, .int .u64 c.c, .int .u8 c.p, .int .i64 c.s]) (.head _)
       replace h := Hz.mk h
       replace hB := Hz.mk hB
       go_wp2_with fail
       refine (hA.out _).mono ?_
       rintro r X1 ⟨rfl, e1⟩
       replace hB := Hz.mk (hB.out.trans (h.out.bl e1).2)
       replace h := Hz.mk (h.out.bl e1).1
       clear e1 p0
       go_wp2_with fail
       refine (hW.out _).mono ?_
       rintro r X2 ⟨rfl, rfl⟩
       go_wp2_with fail
       refine (hCd.out _ _ h.out).mono ?_
       rintro r X3 ⟨rfl, e1⟩
       replace hB := Hz.mk (hB.out.trans (h.out.bl e1).2)
       replace h := Hz.mk (h.out.bl e1).1
       clear e1
       have h5 := Hz.mk (h.out.new #[.int .u64 d.b, .int .u64 d.e, .int .u64 d.c, .int .u8 d.p, .int .i64 d.s] 35)
       go_upto_region 3 with fail
       refine wp_world (fun X => MIn B X a P s (boxOb X3.heap.size #[.int .u64 d.b, .int .u64 d.e, .int .u64 d.c, .int .u8 d.p, .int .i64 d.s] :: boxOb kb #[.int .u64 c.b, .int .u64 c.e, .int .u64 c.c, .int .u8 c.p, .int .i64 c.s] :: l) ∧ Below B w X) ⟨h5.out.1, hB.out.trans h5.out.2⟩ ?_
       clear h5 h hB
       rintro X4 ⟨h, hB⟩
       generalize X3.heap.size = k5 at *
       have ⟨_, p5, _⟩ := h.there (boxOb k5 #[.int .u64 d.b, .int .u64 d.e, .int .u64 d.c, .int .u8 d.p, .int .i64 d.s]) (.head _)
       have ⟨_, p0, _⟩ := h.there (boxOb kb #[.int .u64 c.b, .int .u64 c.e, .int .u64 c.c, .int .u8 c.p, .int .i64 c.s]) (.tail _ (.head _))
       replace h := Hz.mk h
       replace hB := Hz.mk hB
       go_wp2_with (refine (hF.out _).mono ?_; rintro r X9 ⟨rfl, rfl⟩)
       exact ⟨rfl, rfl, h.out.drop.drop, hB.out⟩
 · rw [if_neg h0]
   have hW := Hz.mk (fun X => allow_bad f X h0)
   simp only [NtV, pan] at hW ⊢
   go_enter Tryz.func103, Tryz.ntmps103
   go_upto_region 1 with fail
   refine wp_world (fun W => MIn B W a P s (boxOb w.heap.size #[.int .u64 c.b, .int .u64 c.e, .int .u64 c.c, .int .u8 c.p, .int .i64 c.s] :: l) ∧ Below B w W) h2.out ?_
   clear h2
   rintro W ⟨h, hB⟩
   generalize w.heap.size = kb at *
   have ⟨_, p0, _⟩ := h.there (boxOb kb #[.int .u64 c.b, .int .u64 c.e, .int .u64 c.c, .int .u8 c.p, .int .i64 c.s]) (.head _)
   replace h := Hz.mk h
   replace hB := Hz.mk hB
   go_wp2_with fail
   refine (hA.out _).mono ?_
   rintro r X1 ⟨rfl, e1⟩
   replace hB := Hz.mk (hB.out.trans (h.out.bl e1).2)
   replace h := Hz.mk (h.out.bl e1).1
   clear e1 p0
   go_wp2_with (refine (hW.out _).mono ?_; rintro r X2 ⟨rfl, rfl⟩)
   exact ⟨rfl, rfl, h.out.drop, hB.out⟩
end C
end Go.Proofs.YthmlkcglglcljaaGreatDoor
