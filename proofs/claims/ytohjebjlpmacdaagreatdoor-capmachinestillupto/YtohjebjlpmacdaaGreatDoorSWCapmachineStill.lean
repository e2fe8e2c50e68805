import Derived.Test.YtohjebjlpmacdaaGreatDoorS45
namespace Go.Proofs.YtohjebjlpmacdaaGreatDoor
set_option maxRecDepth 100000
set_option maxHeartbeats 40000000
namespace C
open Go.RowKit
open T (Sep Ob Kp Mf TgIn boxOb Fm Tc Ed Vl Cp Bx tgOb mRow updV flt regRow regRow_at regRow_len Vl.row_len)

theorem still_nil (m : PImg) (gate : Int) (A I : List Nat) (ra ca ga aa ia : Option Addr) (rc cc gc ac ic : Nat) (w : World) (ht : TabIn w) (hBg : ∀ X, Bl w X → Calls Tryz.prog 11 #[.agg #[.slice ra m.regs.length rc, .slice ca m.comps.length cc, .slice ga m.gates.length gc, .int .i64 m.depth], .int .i64 gate, .slice aa A.length ac, .slice ia I.length ic] X fun x w' => x = .returned (.pointer none) ∧ Bl X w') : Calls Tryz.prog 5 #[.agg #[.slice ra m.regs.length rc, .slice ca m.comps.length cc, .slice ga m.gates.length gc, .int .i64 m.depth], .int .i64 gate, .slice aa A.length ac, .slice ia I.length ic] w fun x w' => x = .returned (.bool true) ∧ Below w.heap.size w w' := by
 go_enter Tryz.func5, Tryz.ntmps5
 go_upto_region 1 with fail
 refine wp_world (fun W => At W w.heap.size #[.slice ra m.regs.length rc, .slice ca m.comps.length cc, .slice ga m.gates.length gc, .int .i64 m.depth] ∧ Bl w W) ⟨At.new w _ _, (Bl.refl _).alloc _⟩ ?_
 rintro W ⟨A0, g0⟩
 have hEx := Hz.mk (examples_any W (TabIn.bl ht g0))
 replace A0 := Hz.mk A0
 replace g0 := Hz.mk g0
 obtain ⟨k0, hk0⟩ : ∃ k0, w.heap.size = k0 := ⟨_, rfl⟩
 rw [hk0] at A0 ⊢
 replace hk0 := Hz.mk hk0
 go_wp2_with fail
 refine hEx.out.mono ?_
 rintro r W2 ⟨rfl, e1⟩
 replace g0 := Hz.mk (Bl.trans g0.out e1)
 replace A0 := Hz.mk (Bl.at_ e1 A0.out)
 clear e1 hEx
 have ⟨l0, p0, _⟩ := A0.out
 go_wp2_with fail
 refine (hBg _ g0.out).mono ?_
 rintro r W3 ⟨rfl, e1⟩
 replace g0 := Hz.mk (Bl.trans g0.out e1)
 clear p0 l0 A0 e1
 go_wp2_with fail
 go_ret
 exact ⟨rfl, g0.out⟩
theorem still_some (m : PImg) (gate : Int) (A I : List Nat) (ra ca ga aa ia : Option Addr) (rc cc gc ac ic : Nat) (w : World) (ht : TabIn w) (P : PImg) (s0 : Ms) (hP : POk P) (ok0 : Okm P 0 s0) (h00 : s0.over.e = 0) (hBg : ∀ X, Bl w X → Calls Tryz.prog 11 #[.agg #[.slice ra m.regs.length rc, .slice ca m.comps.length cc, .slice ga m.gates.length gc, .int .i64 m.depth], .int .i64 gate, .slice aa A.length ac, .slice ia I.length ic] X fun x w' => ∃ a B, x = .returned (.pointer (some ⟨a, 0, none⟩)) ∧ MIn B w' a P s0 [] ∧ X.heap.size ≤ B ∧ Bl X w') : Calls Tryz.prog 5 #[.agg #[.slice ra m.regs.length rc, .slice ca m.comps.length cc, .slice ga m.gates.length gc, .int .i64 m.depth], .int .i64 gate, .slice aa A.length ac, .slice ia I.length ic] w fun x w' => x = .returned (.bool true) ∧ Below w.heap.size w w' := by
 go_enter Tryz.func5, Tryz.ntmps5
 go_upto_region 1 with fail
 refine wp_world (fun W => At W w.heap.size #[.slice ra m.regs.length rc, .slice ca m.comps.length cc, .slice ga m.gates.length gc, .int .i64 m.depth] ∧ Bl w W) ⟨At.new w _ _, (Bl.refl _).alloc _⟩ ?_
 rintro W ⟨A0, g0⟩
 have hEx := Hz.mk (examples_any W (TabIn.bl ht g0))
 replace A0 := Hz.mk A0
 replace g0 := Hz.mk g0
 obtain ⟨k0, hk0⟩ : ∃ k0, w.heap.size = k0 := ⟨_, rfl⟩
 rw [hk0] at A0 ⊢
 replace hk0 := Hz.mk hk0
 go_wp2_with fail
 refine hEx.out.mono ?_
 rintro r W2 ⟨rfl, e1⟩
 replace g0 := Hz.mk (Bl.trans g0.out e1)
 replace A0 := Hz.mk (Bl.at_ e1 A0.out)
 clear e1 hEx
 have ⟨l0, p0, _⟩ := A0.out
 go_wp2_with fail
 refine (hBg _ g0.out).mono ?_
 rintro r W3 ⟨a, B, rfl, hM, hBk, e1⟩
 replace g0 := Hz.mk (Bl.trans g0.out e1)
 have hwB : w.heap.size ≤ B := by rw [hk0.out]; omega
 have hfin : Hz (∀ X, Below B W3 X → Below w.heap.size w X) := Hz.mk (fun X q => Below.trans g0.out (Below.mono q hwB))
 clear p0 l0 e1 hBk hwB A0 hBg g0 hk0
 have hs0 : Hz (Okm P 0 s0 ∧ s0.over.e = 0) := Hz.mk ⟨ok0, h00⟩
 have hMs := Hz.mk hM
 clear ok0 h00 hM
 replace hP := Hz.mk hP
 go_wp2_with fail
 go_loopw [11] (fun i wr => ∃ (j : Nat) (s : Ms), i = .int .i64 j ∧ j ≤ 300 ∧ MIn B wr a P s [] ∧ Below B W3 wr ∧ Okm P j s ∧ s.over.e = 0) (fun i _ => 300 - (intOf i).toNat)
 case atStart => exact ⟨0, s0, rfl, by omega, hMs.out, Below.refl _ _, hs0.out⟩
 case round =>
   clear hMs hs0
   obtain ⟨j, s, rfl, hj, h, hB, ok0, h0⟩ := hrel
   replace h := Hz.mk h
   replace hB := Hz.mk hB
   by_cases hjl : j < 300
   · have jl : (j : Int) < 300 := by omega
     have ok := Hz.mk ok0
     have hol : Hz (s.out.length ≤ 1000000) := Hz.mk (Nat.le_trans ok0.out (by omega))
     have htl : Hz (s.tou.length ≤ 1000000) := Hz.mk (Nat.le_trans ok0.tou (by omega))
     obtain ⟨Rs, hR⟩ : ∃ Rs, (⟨(T.rowB s.b 0 65536).toArray⟩ : ByteArray) = Rs := ⟨_, rfl⟩
     replace hR := Hz.mk hR
     replace h0 := Hz.mk h0
     go_upto_region 8 with fail
     clear ok0
     refine wp_region_lit ?_
     refine wpList_plain rfl (fun K hK => ?_)
     go_simp
     with_reducible refine hK _ _ ?_
     clear hK K
     try simp only [xap]
     refine wpList_plain rfl (fun K hK => ?_)
     go_simp
     (refine (snap_any B a P s [] _ h.out).mono ?_; rintro r Y1 ⟨rfl, e1⟩; replace hB := Hz.mk (hB.out.trans (h.out.bl e1).2); replace h := Hz.mk (h.out.bl e1).1; clear e1; have hA7 : At (Y1.alloc (.cells (snR zS).toArray 59)) Y1.heap.size (snR zS).toArray := At.new Y1 _ _; have hth := Hz.mk (At.there hA7 0 115 (by rw [snR_len]; decide)); have hA8 := Hz.mk (At.setAll hA7 (snR s) (by rw [snR_len, snR_len])); have g9 := Hz.mk (((Bl.refl Y1).alloc (.cells (snR zS).toArray 59)).sets Y1.heap.size (Nat.le_refl _) (snR s) 0); replace hA7 := Hz.mk hA7)
     with_reducible refine hK _ _ ?_
     clear hK K
     try simp only [xap]
     refine wpList_plain rfl (fun K hK => ?_)
     refine wp_alloc_sn rfl (hK _ _ ?_)
     clear hK K
     try simp only [xap]
     refine wpList_store_mid rfl _ _ _ rfl _ _ (List.toArray (snR s)) rfl rfl (show World.there _ _ _ _ by rw [show (snR s).toArray.size = 115 from snR_len s]; exact hth.out) (by rw [List.size_toArray, snR_len]; kernel_rfl) (snR_one s) ?_
     try simp only [Act.put]
     clear hth hA7
     have h9 := Hz.mk (h.out.add (boxOb Y1.heap.size (snR s).toArray) hA8.out (fun k q => by have : k = Y1.heap.size := q; omega) g9.out)
     replace hB := Hz.mk (hB.out.trans (Below.mono g9.out h.out.le))
     replace h := h9
     clear h9 g9 hA8
     generalize World.setCells _ _ _ _ = X1 at *
     generalize Y1.heap.size = ks at *
     go_wp2_with fail
     refine (outs_any B X1 a P s _ h.out hol.out).mono ?_
     rintro r X2 ⟨va1, c1, rfl, -, e1⟩
     replace hB := Hz.mk (hB.out.trans (Below.mono e1 h.out.le))
     replace h := Hz.mk (h.out.gr e1)
     clear e1
     go_wp2_with fail
     refine (tcs_any B X2 a P s _ h.out htl.out).mono ?_
     rintro r X3 ⟨va1, c1, rfl, -, e1⟩
     replace hB := Hz.mk (hB.out.trans (Below.mono e1 h.out.le))
     replace h := Hz.mk (h.out.gr e1)
     clear e1
     go_wp2_with fail
     refine (memory_any B a P s _ X3 h.out).mono ?_
     rintro r X3b ⟨km, SM, rfl, hTm, e1⟩
     replace hTm := Hz.mk hTm
     replace hB := Hz.mk (hB.out.trans (Below.mono e1 h.out.le))
     replace h := Hz.mk (h.out.gr e1)
     clear e1
     go_wp2_with fail
     refine (bytes_any SM km s.b s.t X3b hTm.out Rs hR.out).mono ?_
     rintro r X4 ⟨rfl, e1⟩
     clear hTm
     replace hB := Hz.mk (hB.out.trans (Below.mono e1 h.out.le))
     replace h := Hz.mk (h.out.gr e1)
     clear e1
     cases hq : stepM P s with
     | error e =>
       obtain ⟨t, ht0⟩ : ∃ t, s.ended e = t := ⟨_, rfl⟩
       have hst : Hz (stepsM P 1 s = t) := Hz.mk ((stepsM_err h0.out hq).trans ht0)
       have hoff : Hz ((t.over.f ≠ 0 ↔ t.over.e = 7) ∧ t.out = s.out ∧ t.tou = s.tou ∧ t.b = s.b ∧ snR t = snR s ∧ t.at_ = s.at_) := Hz.mk (by subst ht0; exact ⟨(step_end hq).2.2, rfl, rfl, rfl, rfl, rfl⟩)
       have het : ¬ t.over.e = 0 := by subst ht0; exact step_err hq
       clear hq ht0
       have hol2 : Hz (t.out.length ≤ 1000000) := Hz.mk (by rw [hoff.out.2.1]; exact hol.out)
       have htl2 : Hz (t.tou.length ≤ 1000000) := Hz.mk (by rw [hoff.out.2.2.1]; exact htl.out)
       have hlo : Hz (s.out.length ≤ t.out.length ∧ t.out.length ≤ s.out.length + 1) := Hz.mk (by rw [hoff.out.2.1]; omega)
       have hlt : Hz (s.tou.length ≤ t.tou.length ∧ t.tou.length ≤ s.tou.length + 1) := Hz.mk (by rw [hoff.out.2.2.1]; omega)
       replace het := Hz.mk het
       go_wp2_with fail
       refine (step_oc P hP.out s j ok.out (by omega) t hst.out B X4 a _ h.out).mono ?_
       rintro r X5 ⟨rfl, h6, hB6⟩
       replace hB := Hz.mk (hB.out.trans hB6)
       replace h := Hz.mk h6
       clear h6 hB6
       have h9 := Hz.mk (h.out.new #[.int .i64 t.over.e, .int .u64 t.over.v, .int .i64 t.over.f, .int .i64 t.at_.gate, .int .i64 t.at_.pc] 44)
       go_upto_region 13 with fail
       refine wp_world (fun X => MIn B X a P t (boxOb X5.heap.size #[.int .i64 t.over.e, .int .u64 t.over.v, .int .i64 t.over.f, .int .i64 t.at_.gate, .int .i64 t.at_.pc] :: [boxOb ks (snR s).toArray]) ∧ Below B W3 X) ⟨h9.out.1, hB.out.trans h9.out.2⟩ ?_
       clear h9 h hB
       rintro X6 ⟨h, hB⟩
       replace h := Hz.mk h
       replace hB := Hz.mk hB
       generalize X5.heap.size = ko at *
       go_wp2_with fail
       refine (tcs_any B X6 a P t _ h.out htl2.out).mono ?_
       rintro r X7 ⟨vt, ct, rfl, hT, e1⟩
       replace hT := Hz.mk hT
       replace hB := Hz.mk (hB.out.trans (Below.mono e1 h.out.le))
       replace h := Hz.mk (h.out.gr e1)
       clear e1
       have n1 : ¬ (t.out.length : Int) < (s.out.length : Int) := by have := hlo.out; omega
       go_wp2_with fail
       refine (outs_any B X7 a P t _ h.out hol2.out).mono ?_
       rintro r X8 ⟨va1, c1, rfl, -, e1⟩
       replace hT := Hz.mk (hT.out.below e1)
       replace hB := Hz.mk (hB.out.trans (Below.mono e1 h.out.le))
       replace h := Hz.mk (h.out.gr e1)
       clear e1
       have n2 : wrap64 ((s.out.length : Int) + 1) = (s.out.length : Int) + 1 := by have := hol.out; unfold wrap64; omega
       have n3 : ¬ (s.out.length : Int) + 1 < (t.out.length : Int) := by have := hlo.out; omega
       have n4 : ¬ (t.tou.length : Int) < (s.tou.length : Int) := by have := hlt.out; omega
       have n5 : wrap64 ((s.tou.length : Int) + 1) = (s.tou.length : Int) + 1 := by have := htl.out; unfold wrap64; omega
       have n6 : ¬ (s.tou.length : Int) + 1 < (t.tou.length : Int) := by have := hlt.out; omega
       go_wp2_with fail
       refine (outs_any B X8 a P t _ h.out hol2.out).mono ?_
       rintro r X9 ⟨va1, c1, rfl, -, e1⟩
       replace hT := Hz.mk (hT.out.below e1)
       replace hB := Hz.mk (hB.out.trans (Below.mono e1 h.out.le))
       replace h := Hz.mk (h.out.gr e1)
       clear e1
       have A1 := h.out.there (boxOb ko #[.int .i64 t.over.e, .int .u64 t.over.v, .int .i64 t.over.f, .int .i64 t.at_.gate, .int .i64 t.at_.pc]) (.head _)
       have y0 : X9.cell? ⟨ko, 0, none⟩ = some (.int .i64 t.over.e) := A1.2.1 0
       clear A1
       replace het := het.out
       have he1 : (t.over.e != 0) = true := by simpa using het
       have a2 : ((t.tou.length : Int) == (s.tou.length : Int)) = true := by rw [hoff.out.2.2.1]; simp
       have hfe : (t.over.f != 0) = (t.over.e == 7) := by
         have := hoff.out.1
         by_cases q : t.over.e = 7
         · have := this.2 q
           simp [q, this]
         · have : t.over.f = 0 := by
             by_cases z : t.over.f = 0
             · exact z
             · exact absurd (this.1 z) q
           simp [q, this]
       obtain ⟨b9, hb9⟩ : ∃ b, (t.over.e == 7) = b := ⟨_, rfl⟩
       rw [hb9] at hfe
       have KS : Hz (∀ V, Bl X9 V → (V.rangeAt ks 0 (snR s) ∧ V.cell? ⟨ks, 0, none⟩ = some (.int .i64 s.at_.gate) ∧ V.cell? ⟨ks, 1, none⟩ = some (.int .i64 s.at_.pc) ∧ V.cell? ⟨ko, 0, none⟩ = some (.int .i64 t.over.e) ∧ V.cell? ⟨ko, 2, none⟩ = some (.int .i64 t.over.f) ∧ V.cell? ⟨ko, 3, none⟩ = some (.int .i64 s.at_.gate) ∧ V.cell? ⟨ko, 4, none⟩ = some (.int .i64 s.at_.pc))) := Hz.mk (fun V q => by
         have h := h.out.gr q
         have A0 := h.there (boxOb ks (snR s).toArray) (by simp)
         have A1 := h.there (boxOb ko #[.int .i64 t.over.e, .int .u64 t.over.v, .int .i64 t.over.f, .int .i64 t.at_.gate, .int .i64 t.at_.pc]) (by simp)
         exact ⟨fun j v r => by rw [Nat.zero_add]; exact (A0.2.1 j).trans (by simpa using r), A0.2.1 0, A0.2.1 1, A1.2.1 0, A1.2.1 2, (A1.2.1 3).trans (by simp [hoff.out.2.2.2.2.2]), (A1.2.1 4).trans (by simp [hoff.out.2.2.2.2.2])⟩)
       have a3 : Hz (snR t = snR s) := Hz.mk hoff.out.2.2.2.2.1
       have a1 : Hz (t.out.length = s.out.length) := Hz.mk (by rw [hoff.out.2.1])
       have hRt : Hz ((⟨(T.rowB t.b 0 65536).toArray⟩ : ByteArray) = Rs) := Hz.mk (by rw [hoff.out.2.2.2.1]; exact hR.out)
       clear hR
       go_upto_region 17 with fail
       clear y0 n1 n2 n3 n4 n5 n6
       have heq := sn_eql s
       have hz1 := snR_len s
       have g0 : Bl X9 X9.drew := (Bl.refl _).drew
       clear hT hlo hlt
       refine wp_region_held_drew (S := (fun V => V.rangeAt ks 0 (snR s) ∧ V.cell? ⟨ks, 0, none⟩ = some (.int .i64 s.at_.gate) ∧ V.cell? ⟨ks, 1, none⟩ = some (.int .i64 s.at_.pc) ∧ V.cell? ⟨ko, 0, none⟩ = some (.int .i64 t.over.e) ∧ V.cell? ⟨ko, 2, none⟩ = some (.int .i64 t.over.f) ∧ V.cell? ⟨ko, 3, none⟩ = some (.int .i64 s.at_.gate) ∧ V.cell? ⟨ko, 4, none⟩ = some (.int .i64 s.at_.pc))) (by kernel_rfl) (KS.out _ g0) (fun hHeld => ?_)
       refine xso 0 ?_ rfl ?_ ?_
       rotate_left
       · intro w hSw; (try dsimp only at hSw); go_simp; first | done | with_reducible rfl
       try simp only [xap]
       refine xtk 2 rfl (yieldsIf_load_mid (by rfl) _ _ rfl _ _ rfl _ _ (fun _ h => h.1) Tryz.underlying59 rfl (by rw [snR_len]; kernel_rfl)) ?_
       try simp only [xap]
       refine xrd 1 rfl (fun K hK => ?_)
       go_simp
       go_wp2_with (refine (snap_any B a P t _ _ (h.out.gr g0)).mono ?_; rintro r U1 ⟨rfl, gg⟩; have g1 := Bl.trans g0 gg; rw [a3.out]; clear gg g0 hHeld)
       refine hK.out _ _ (KS.out _ g1) (fun hHeld => ?_)
       clear hK K
       try simp only [xap]
       refine xso 3 ?_ rfl ?_ (xso 4 ?_ rfl ?_ ?_)
       iterate 2 (rotate_left; focus ((try simp only [xap]); intro w hSw; (try dsimp only at hSw); go_simp; first | done | with_reducible rfl))
       try simp only [xap]
       refine xso 5 ?_ rfl ?_ ?_
       rotate_left
       · intro w hSw; (try dsimp only at hSw); go_simp; first | done | with_reducible rfl
       try simp only [xap]
       refine xso 8 ?_ rfl ?_ ?_
       rotate_left
       · intro w hSw; (try dsimp only at hSw); go_simp; first | done | with_reducible rfl
       try simp only [xap]
       refine xrd 6 rfl (fun K hK => ?_)
       go_simp
       go_wp2_with (refine (outs_any B _ a P t _ (h.out.gr g1) hol2.out).mono ?_; rintro r U2 ⟨va1, c1, rfl, _, gg⟩; rw [a1.out]; have g2 := Bl.trans g1 gg; clear gg g1 hHeld)
       refine hK.out _ _ (KS.out _ g2) (fun hHeld => ?_)
       clear hK K
       try simp only [xap]
       refine xso 7 ?_ rfl ?_ ?_
       rotate_left
       · intro w hSw; (try dsimp only at hSw); go_simp; first | done | with_reducible rfl
       try simp only [xap]
       refine xso 9 ?_ rfl ?_ (xso 10 ?_ rfl ?_ (xso 11 ?_ rfl ?_ ?_))
       iterate 3 (rotate_left; focus ((try simp only [xap]); intro w hSw; (try dsimp only at hSw); go_simp; first | done | with_reducible rfl))
       try simp only [xap]
       refine xso 12 ?_ rfl ?_ ?_
       rotate_left
       · intro w hSw; (try dsimp only at hSw); go_simp; first | done | with_reducible rfl
       try simp only [xap]
       refine xso 13 ?_ rfl ?_ ?_
       rotate_left
       · intro w hSw; (try dsimp only at hSw); go_simp; first | done | with_reducible rfl
       try simp only [xap]
       refine xso 14 ?_ rfl ?_ ?_
       rotate_left
       · intro w hSw; (try dsimp only at hSw); go_simp; first | done | with_reducible rfl
       try simp only [xap]
       refine xso 15 ?_ rfl ?_ (xso 16 ?_ rfl ?_ (xso 17 ?_ rfl ?_ ?_))
       iterate 3 (rotate_left; focus ((try simp only [xap]); intro w hSw; (try dsimp only at hSw); go_simp; first | done | with_reducible rfl))
       try simp only [xap]
       refine xso 18 ?_ rfl ?_ ?_
       rotate_left
       · intro w hSw; (try dsimp only at hSw); go_simp; first | done | with_reducible rfl
       try simp only [xap]
       refine xso 21 ?_ rfl ?_ ?_
       rotate_left
       · intro w hSw; (try dsimp only at hSw); go_simp; first | done | with_reducible rfl
       try simp only [xap]
       refine xrd 19 rfl (fun K hK => ?_)
       go_simp
       go_wp2_with (refine (memory_any B a P t _ _ (h.out.gr g2)).mono ?_; rintro r U3 ⟨km2, SM2, rfl, hTm, gg⟩; replace hTm := Hz.mk hTm; have g3 := Bl.trans g2 gg; clear gg g2 hHeld)
       refine hK.out _ _ (KS.out _ g3) (fun hHeld => ?_)
       clear hK K
       try simp only [xap]
       refine xrd 20 rfl (fun K hK => ?_)
       go_simp
       go_wp2_with (refine (bytes_any SM2 km2 t.b t.t _ hTm.out Rs hRt.out).mono ?_; rintro r U4 ⟨rfl, gg⟩; have g4 := Bl.trans g3 gg; clear gg g3 hHeld hTm)
       refine hK.out _ _ (KS.out _ g4) (fun hHeld => ?_)
       clear hK K
       try simp only [xap]
       refine xso 22 ?_ rfl ?_ (xso 23 ?_ rfl ?_ (xso 24 ?_ rfl ?_ ?_))
       iterate 3 (rotate_left; focus ((try simp only [xap]); intro w hSw; (try dsimp only at hSw); go_simp; first | done | with_reducible rfl))
       try simp only [xap]
       refine xso 25 ?_ rfl ?_ ?_
       rotate_left
       · intro w hSw; (try dsimp only at hSw); go_simp; first | done | with_reducible rfl
       try simp only [xap]
       refine xso 26 ?_ rfl ?_ ?_
       rotate_left
       · intro w hSw; (try dsimp only at hSw); go_simp; first | done | with_reducible rfl
       try simp only [xap]
       refine xso 27 ?_ rfl ?_ ?_
       rotate_left
       · intro w hSw; (try dsimp only at hSw); go_simp; first | done | with_reducible rfl
       try simp only [xap]
       refine xso 28 ?_ rfl ?_ ?_
       rotate_left
       · intro w hSw; (try dsimp only at hSw); go_simp; first | done | with_reducible rfl
       try simp only [xap]
       refine xso 29 ?_ rfl ?_ (xso 30 ?_ rfl ?_ (xso 31 ?_ rfl ?_ ?_))
       iterate 3 (rotate_left; focus ((try simp only [xap]); intro w hSw; (try dsimp only at hSw); go_simp; first | done | with_reducible rfl))
       try simp only [xap]
       refine xso 32 ?_ rfl ?_ ?_
       rotate_left
       · intro w hSw; (try dsimp only at hSw); go_simp; first | done | with_reducible rfl
       try simp only [xap]
       refine xso 33 ?_ rfl ?_ ?_
       rotate_left
       · intro w hSw; (try dsimp only at hSw); go_simp; first | done | with_reducible rfl
       try simp only [xap]
       refine xso 34 ?_ rfl ?_ ?_
       rotate_left
       · intro w hSw; (try dsimp only at hSw); go_simp; first | done | with_reducible rfl
       try simp only [xap]
       refine xso 35 ?_ rfl ?_ ?_
       rotate_left
       · intro w hSw; (try dsimp only at hSw); go_simp; first | done | with_reducible rfl
       try simp only [xap]
       refine xso 36 ?_ rfl ?_ (xso 37 ?_ rfl ?_ (xso 38 ?_ rfl ?_ ?_))
       iterate 3 (rotate_left; focus ((try simp only [xap]); intro w hSw; (try dsimp only at hSw); go_simp; first | done | with_reducible rfl))
       try simp only [xap]
       refine xso 39 ?_ rfl ?_ ?_
       rotate_left
       · intro w hSw; (try dsimp only at hSw); go_simp; first | done | with_reducible rfl
       try simp only [xap]
       refine xso 40 ?_ rfl ?_ ?_
       rotate_left
       · intro w hSw; (try dsimp only at hSw); go_simp; first | done | with_reducible rfl
       try simp only [xap]
       refine xso 41 ?_ rfl ?_ ?_
       rotate_left
       · intro w hSw; (try dsimp only at hSw); go_simp; first | done | with_reducible rfl
       try simp only [xap]
       refine xso 42 ?_ rfl ?_ ?_
       rotate_left
       · intro w hSw; (try dsimp only at hSw); go_simp; first | done | with_reducible rfl
       try simp only [xap]
       refine xso 43 ?_ rfl ?_ ?_
       rotate_left
       · intro w hSw; (try dsimp only at hSw); go_simp; first | done | with_reducible rfl
       try simp only [xap]
       refine xso 44 ?_ rfl ?_ ?_
       rotate_left
       · intro w hSw; (try dsimp only at hSw); go_simp; first | done | with_reducible rfl
       try simp only [xap]
       refine xso 45 ?_ rfl ?_ (xso 46 ?_ rfl ?_ (xso 47 ?_ rfl ?_ ?_))
       iterate 3 (rotate_left; focus ((try simp only [xap]); intro w hSw; (try dsimp only at hSw); go_simp; first | done | with_reducible rfl))
       try simp only [xap]
       refine xdn ?_ _
       clear hHeld KS
       replace hB := Hz.mk (hB.out.trans (Below.mono g4 h.out.le))
       go_wp2_with fail
       go_ret
       exact ⟨rfl, hfin.out _ hB.out⟩
     | ok t =>
       have hst : Hz (stepsM P 1 s = t) := Hz.mk (stepsM_ok h0.out hq)
       have het : Hz (t.over.e = 0) := Hz.mk (by rw [step_over hq]; exact h0.out)
       have ok1 := Hz.mk (okm_step hP.out ok.out hq)
       have hon := step_on hq
       clear hq
       have hlo : Hz (s.out.length ≤ t.out.length ∧ t.out.length ≤ s.out.length + 1) := Hz.mk (by rcases hon.out with q | ⟨_, q⟩ <;> rw [q] <;> simp)
       have hlt : Hz (s.tou.length ≤ t.tou.length ∧ t.tou.length ≤ s.tou.length + 1) := Hz.mk (by rcases hon.tou with ⟨q, _⟩ | ⟨_, q, _⟩ <;> rw [q] <;> simp)
       have hol2 : Hz (t.out.length ≤ 1000000) := Hz.mk (Nat.le_trans ok1.out.out (by omega))
       have htl2 : Hz (t.tou.length ≤ 1000000) := Hz.mk (Nat.le_trans ok1.out.tou (by omega))
       have hto := Hz.mk hon.tou
       clear hon
       go_wp2_with fail
       refine (step_oc P hP.out s j ok.out (by omega) t hst.out B X4 a _ h.out).mono ?_
       rintro r X5 ⟨rfl, h6, hB6⟩
       replace hB := Hz.mk (hB.out.trans hB6)
       replace h := Hz.mk h6
       clear h6 hB6
       have h9 := Hz.mk (h.out.new #[.int .i64 t.over.e, .int .u64 t.over.v, .int .i64 t.over.f, .int .i64 t.at_.gate, .int .i64 t.at_.pc] 44)
       go_upto_region 13 with fail
       refine wp_world (fun X => MIn B X a P t (boxOb X5.heap.size #[.int .i64 t.over.e, .int .u64 t.over.v, .int .i64 t.over.f, .int .i64 t.at_.gate, .int .i64 t.at_.pc] :: [boxOb ks (snR s).toArray]) ∧ Below B W3 X) ⟨h9.out.1, hB.out.trans h9.out.2⟩ ?_
       clear h9 h hB
       rintro X6 ⟨h, hB⟩
       replace h := Hz.mk h
       replace hB := Hz.mk hB
       generalize X5.heap.size = ko at *
       go_wp2_with fail
       refine (tcs_any B X6 a P t _ h.out htl2.out).mono ?_
       rintro r X7 ⟨vt, ct, rfl, hT, e1⟩
       replace hT := Hz.mk hT
       replace hB := Hz.mk (hB.out.trans (Below.mono e1 h.out.le))
       replace h := Hz.mk (h.out.gr e1)
       clear e1
       have n1 : ¬ (t.out.length : Int) < (s.out.length : Int) := by have := hlo.out; omega
       go_wp2_with fail
       refine (outs_any B X7 a P t _ h.out hol2.out).mono ?_
       rintro r X8 ⟨va1, c1, rfl, -, e1⟩
       replace hT := Hz.mk (hT.out.below e1)
       replace hB := Hz.mk (hB.out.trans (Below.mono e1 h.out.le))
       replace h := Hz.mk (h.out.gr e1)
       clear e1
       have n2 : wrap64 ((s.out.length : Int) + 1) = (s.out.length : Int) + 1 := by have := hol.out; unfold wrap64; omega
       have n3 : ¬ (s.out.length : Int) + 1 < (t.out.length : Int) := by have := hlo.out; omega
       have n4 : ¬ (t.tou.length : Int) < (s.tou.length : Int) := by have := hlt.out; omega
       have n5 : wrap64 ((s.tou.length : Int) + 1) = (s.tou.length : Int) + 1 := by have := htl.out; unfold wrap64; omega
       have n6 : ¬ (s.tou.length : Int) + 1 < (t.tou.length : Int) := by have := hlt.out; omega
       go_wp2_with fail
       refine (outs_any B X8 a P t _ h.out hol2.out).mono ?_
       rintro r X9 ⟨va1, c1, rfl, -, e1⟩
       replace hT := Hz.mk (hT.out.below e1)
       replace hB := Hz.mk (hB.out.trans (Below.mono e1 h.out.le))
       replace h := Hz.mk (h.out.gr e1)
       clear e1
       have A1 := h.out.there (boxOb ko #[.int .i64 t.over.e, .int .u64 t.over.v, .int .i64 t.over.f, .int .i64 t.at_.gate, .int .i64 t.at_.pc]) (.head _)
       have y0 : X9.cell? ⟨ko, 0, none⟩ = some (.int .i64 t.over.e) := A1.2.1 0
       clear A1
       rw [het.out] at y0
       rcases hto.out with ⟨q1, q2⟩ | ⟨x, q1, hin⟩
       · clear hto
         have d1 : ¬ (s.tou.length : Int) < (t.tou.length : Int) := by rw [q1]; omega
         have d2 : ((t.tou.length : Int) == (s.tou.length : Int)) = true := by rw [q1]; simp
         have hRt : Hz ((⟨(T.rowB t.b 0 65536).toArray⟩ : ByteArray) = Rs) := Hz.mk (by rw [q2]; exact hR.out)
         clear hR q1 q2 hT hlo hlt
         go_wp2_with fail
         refine (memory_any B a P t _ X9 h.out).mono ?_
         rintro r X10 ⟨km, SM, rfl, hTm, e1⟩
         replace hTm := Hz.mk hTm
         clear n1 n2 n3 n4 n5 n6
         replace hB := Hz.mk (hB.out.trans (Below.mono e1 h.out.le))
         replace h := Hz.mk (h.out.gr e1)
         clear e1
         go_wp2_with fail
         refine (bytes_any SM km t.b t.t X10 hTm.out Rs hRt.out).mono ?_
         rintro r X11 ⟨rfl, e1⟩
         clear hTm
         replace hB := Hz.mk (hB.out.trans (Below.mono e1 h.out.le))
         replace h := Hz.mk (h.out.gr e1)
         clear e1
         go_wp2_with fail
         exact ⟨⟨j + 1, t, by go_num, by omega, h.out.drop.drop, hB.out, ok1.out, het.out⟩, by simp [intOf]; omega⟩
       · clear hto
         have hl1 : t.tou.length = s.tou.length + 1 := by rw [q1]; simp
         have d1 : (s.tou.length : Int) < (t.tou.length : Int) := by omega
         have d2 : ((t.tou.length : Int) == (s.tou.length : Int)) = false := by rw [hl1]; simp; omega
         have hx : t.tou[s.tou.length]'(by omega) = x := by simp [q1]
         obtain ⟨tb, tof, rfl, hlt1, hrg⟩ := eat3 hT.out (Bl.refl X9) s.tou.length (by omega)
         rw [hx] at hrg
         obtain ⟨xs, xa, xz⟩ := x
         have c0 : X9.cell? ⟨tb, tof + s.tou.length * 3, none⟩ = some (.bool xs) := hrg 0 _ rfl
         have c1 : X9.cell? ⟨tb, tof + s.tou.length * 3 + 1, none⟩ = some (.int .u64 xa) := hrg 1 _ rfl
         have c2 : X9.cell? ⟨tb, tof + s.tou.length * 3 + 1 + 1, none⟩ = some (.int .u64 xz) := hrg 2 _ rfl
         obtain ⟨i1, i2⟩ := hin
         simp only at i1 i2
         replace hx := Hz.mk hx
         clear hrg hT hlo hlt hx q1 hR
         have h9 := Hz.mk (h.out.new #[.bool xs, .int .u64 xa, .int .u64 xz] 78)
         replace hl1 := Hz.mk hl1
         go_upto_region 20 with fail
         refine wp_world (fun X => MIn B X a P t (boxOb X9.heap.size #[.bool xs, .int .u64 xa, .int .u64 xz] :: [boxOb ko #[.int .i64 t.over.e, .int .u64 t.over.v, .int .i64 t.over.f, .int .i64 t.at_.gate, .int .i64 t.at_.pc], boxOb ks (snR s).toArray]) ∧ Below B W3 X) ⟨h9.out.1, hB.out.trans h9.out.2⟩ ?_
         clear h9 h hB c0 c1 c2 n1 n2 n3 n4 n5 n6
         rintro X10 ⟨h, hB⟩
         replace h := Hz.mk h
         replace hB := Hz.mk hB
         generalize X9.heap.size = kk at *
         have A1 := h.out.there (boxOb kk #[.bool xs, .int .u64 xa, .int .u64 xz]) (.head _)
         have c1 : X10.cell? ⟨kk, 1, none⟩ = some (.int .u64 xa) := A1.2.1 1
         have c2 : X10.cell? ⟨kk, 2, none⟩ = some (.int .u64 xz) := A1.2.1 2
         clear A1
         have m1 : ¬ (65536 : Int) ≤ (xa : Int) := by omega
         have m2 : IntKind.u64.wrap (65536 - (xa : Int)) = 65536 - (xa : Int) := by rw [IntKind.wrap_u64]; omega
         have m3 : ¬ 65536 - (xa : Int) < (xz : Int) := by omega
         rcases i2 with rfl | rfl | ⟨rfl, i3⟩
         · go_wp2_with fail
           exact ⟨⟨j + 1, t, by go_num, by omega, h.out.drop.drop.drop, hB.out, ok1.out, het.out⟩, by simp [intOf]; omega⟩
         · go_wp2_with fail
           exact ⟨⟨j + 1, t, by go_num, by omega, h.out.drop.drop.drop, hB.out, ok1.out, het.out⟩, by simp [intOf]; omega⟩
         · have m4 : (Int.tmod (xa : Int) 16) = 0 := by rw [Int.tmod_eq_emod_of_nonneg (by omega)]; omega
           go_wp2_with fail
           exact ⟨⟨j + 1, t, by go_num, by omega, h.out.drop.drop.drop, hB.out, ok1.out, het.out⟩, by simp [intOf]; omega⟩
   · have jl : ¬ (j : Int) < 300 := by omega
     replace ok0 := Hz.mk ok0
     replace h0 := Hz.mk h0
     go_wp2_with fail
     go_ret
     exact ⟨rfl, hfin.out _ hB.out⟩
theorem walk_CapmachineStill (m : PImg) (gate : Int) (A I : List Nat) (ra ca ga aa ia : Option Addr) (rc cc gc ac ic : Nat) (w : World) (ht : TabIn w) (hm : ImgIn w.heap.size w ra ca ga m) (hr : m.Rng) (hf : Q.TwFit m) (hA : NumIn w aa A) (hI : InS w ia I ic) (hAb : ∀ x ∈ A, x < 18446744073709551616) (hIb : ∀ x ∈ I, x < 18446744073709551616) (hil : I.length ≤ 2000000) : Calls Tryz.prog 5 #[.agg #[.slice ra m.regs.length rc, .slice ca m.comps.length cc, .slice ga m.gates.length gc, .int .i64 m.depth], .int .i64 gate, .slice aa A.length ac, .slice ia I.length ic] w fun x w' => x = .returned (.bool true) ∧ Below w.heap.size w w' := by
 by_cases hrt : m.right = 0
 · have hth := th_of m hrt hr
   have hP : POk (bare m) := pok_of m hrt hr
   by_cases hg : gate < 0
   · exact still_nil m gate A I ra ca ga aa ia rc cc gc ac ic w ht (fun X q => begun_neg m gate A I ra ca ga aa ia rc cc gc ac ic X (TabIn.bl ht q) ((hm.below q).mono q.size) hr hf hrt hg)
   · obtain ⟨n, rfl⟩ : ∃ n : Nat, gate = n := ⟨gate.toNat, by omega⟩
     have hgl : n % m.gates.length < m.gates.length := Nat.mod_lt _ hth.ne
     cases hent : isEnt m (n % m.gates.length)
     · exact still_nil m n A I ra ca ga aa ia rc cc gc ac ic w ht (fun X q => begun_shut m n _ A I ra ca ga aa ia rc cc gc ac ic X (TabIn.bl ht q) ((hm.below q).mono q.size) hr hf (hA.bl q) hrt rfl hgl hent)
     · have hal : m.gates[n % m.gates.length].args.length ≤ 7 := (hP.gates _ hgl).2.2.2.2.1
       exact still_some m n A I ra ca ga aa ia rc cc gc ac ic w ht (bare m) _ hP (start_ok hrt hr hgl (ents_lt A _ hAb (by omega)) hIb hil) rfl (fun X q => begun_ok m n _ A I ra ca ga aa ia rc cc gc ac ic X (TabIn.bl ht q) ((hm.below q).mono q.size) hr hf (hA.bl q) (hI.bl q) hil hrt rfl hgl hent)
 · exact still_nil m gate A I ra ca ga aa ia rc cc gc ac ic w ht (fun X q => begun_wrong m gate A I ra ca ga aa ia rc cc gc ac ic X (TabIn.bl ht q) ((hm.below q).mono q.size) hr hrt)
end C
end Go.Proofs.YtohjebjlpmacdaaGreatDoor
