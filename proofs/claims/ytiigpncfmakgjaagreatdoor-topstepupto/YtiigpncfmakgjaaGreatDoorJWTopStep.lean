import Derived.Test.YtiigpncfmakgjaaGreatDoorJ46
import Derived.Test.YtiigpncfmakgjaaGreatDoorJ45
namespace Go.Proofs.YtiigpncfmakgjaaGreatDoor
set_option maxRecDepth 100000
set_option maxHeartbeats 40000000
namespace C
open Go.RowKit
open T (Sep Ob Kp Mf TgIn boxOb Fm Tc Ed Vl Cp Bx tgOb mRow updV flt regRow regRow_at regRow_len Vl.row_len)

theorem top_nil (m : PImg) (gate : Int) (A I : List Nat) (ra ca ga aa ia : Option Addr) (rc cc gc ac ic : Nat) (w : World) (ht : TabIn w) (hBg : ∀ X, Bl w X → Calls Tryz.prog 5 #[.agg #[.slice ra m.regs.length rc, .slice ca m.comps.length cc, .slice ga m.gates.length gc, .int .i64 m.depth], .int .i64 gate, .slice aa A.length ac, .slice ia I.length ic] X fun x w' => x = .returned (.tuple #[.pointer none, .int .i64 0, .slice none 0 0]) ∧ Bl X w') : Calls Tryz.prog 3 #[.agg #[.slice ra m.regs.length rc, .slice ca m.comps.length cc, .slice ga m.gates.length gc, .int .i64 m.depth], .int .i64 gate, .slice aa A.length ac, .slice ia I.length ic] w fun x w' => x = .returned (.bool true) ∧ Below w.heap.size w w' := by
 go_enter Tryz.func3, Tryz.ntmps3
 go_upto_region 1 with fail
 refine wp_world (fun W => At W w.heap.size #[.slice ra m.regs.length rc, .slice ca m.comps.length cc, .slice ga m.gates.length gc, .int .i64 m.depth] ∧ Bl w W) ⟨At.new w _ _, (Bl.refl _).alloc _⟩ ?_
 rintro W ⟨A0, g0⟩
 have hEx := Hz.mk (walks_any W (TabIn.bl ht g0))
 replace A0 := Hz.mk A0
 replace g0 := Hz.mk g0
 obtain ⟨k0, hk0⟩ : ∃ k0, w.heap.size = k0 := ⟨_, rfl⟩
 rw [hk0] at A0 ⊢
 replace hk0 := Hz.mk hk0
 go_wp2_with fail
 refine hEx.out.mono ?_
 rintro r W2 ⟨rfl, e1⟩
 replace g0 := Hz.mk (Bl.trans g0.out e1)
 replace A0 := Hz.mk (Bl.at_ e1 A0.out)
 clear e1 hEx
 have ⟨l0, p0, _⟩ := A0.out
 go_wp2_with fail
 refine (hBg _ g0.out).mono ?_
 rintro r W3 ⟨rfl, e1⟩
 replace g0 := Hz.mk (Bl.trans g0.out e1)
 clear p0 l0 A0 e1
 go_wp2_with fail
 go_ret
 exact ⟨rfl, g0.out⟩
theorem top_w8 {n : Nat} (h : n ≤ 1000000) : wrap64 ((n : Int) + 1) = (n : Int) + 1 := by unfold wrap64; omega
theorem top_w9 {n : Nat} (h : n ≤ 1000000) : IntKind.i64.wrap ((n : Int) + 1) = (n : Int) + 1 := by rw [IntKind.wrap_i64]; omega
theorem cap_yes (m : PImg) (j n : Nat) (ra ca ga : Option Addr) (rn rc cc gn gc : Nat) (w : World) (hc : CompIn w.heap.size w ca m.comps) (hj : j < m.comps.length) (hl : m.comps.length ≤ maxG) (hn : m.comps[j].code.length = n) (he : 0 < n) (hk : n ≤ 400) :
   Calls Tryz.prog 10 #[.agg #[.slice ra rn rc, .slice ca m.comps.length cc, .slice ga gn gc, .int .i64 m.depth], .int .i64 j, .int .i64 0] w fun x w' => x = .returned (.tuple #[.agg #[.int .u64 (codeBase j), .int .u64 (codeBase j + (n : Nat) * 8), .int .u64 (codeBase j), .int .u8 16, .int .i64 0], .bool true]) ∧ Bl w w' := by
 subst hn
 refine (CodeCap_yes m j 0 ra ca ga rn rc cc gn gc w hc hj hl ⟨by omega, by omega⟩ (Nat.le_trans hk (by decide))).mono ?_
 rintro x w' ⟨rfl, g⟩
 exact ⟨by simp, g.below⟩
theorem top_some (m : PImg) (gate gg : Int) (A I : List Nat) (ra ca ga aa ia : Option Addr) (rc cc gc ac ic : Nat) (w : World) (ht : TabIn w) (hm : ImgIn w.heap.size w ra ca ga m) (hrc : m.comps.length ≤ maxG) (P : PImg) (hPm : P = bare m) (s0 : Ms) (hP : POk P) (ok0 : Okm P 0 s0) (h00 : s0.over.e = 0) (hBg : ∀ X, Bl w X → Calls Tryz.prog 5 #[.agg #[.slice ra m.regs.length rc, .slice ca m.comps.length cc, .slice ga m.gates.length gc, .int .i64 m.depth], .int .i64 gate, .slice aa A.length ac, .slice ia I.length ic] X fun x w' => ∃ a B v, x = .returned (.tuple #[.pointer (some ⟨a, 0, none⟩), .int .i64 gg, v]) ∧ MIn B w' a P s0 [] ∧ X.heap.size ≤ B ∧ Bl X w') : Calls Tryz.prog 3 #[.agg #[.slice ra m.regs.length rc, .slice ca m.comps.length cc, .slice ga m.gates.length gc, .int .i64 m.depth], .int .i64 gate, .slice aa A.length ac, .slice ia I.length ic] w fun x w' => x = .returned (.bool true) ∧ Below w.heap.size w w' := by
 go_enter Tryz.func3, Tryz.ntmps3
 go_upto_region 1 with fail
 refine wp_world (fun W => At W w.heap.size #[.slice ra m.regs.length rc, .slice ca m.comps.length cc, .slice ga m.gates.length gc, .int .i64 m.depth] ∧ Bl w W) ⟨At.new w _ _, (Bl.refl _).alloc _⟩ ?_
 rintro W ⟨A0, g0⟩
 have hEx := Hz.mk (walks_any W (TabIn.bl ht g0))
 replace A0 := Hz.mk A0
 replace g0 := Hz.mk g0
 obtain ⟨k0, hk0⟩ : ∃ k0, w.heap.size = k0 := ⟨_, rfl⟩
 rw [hk0] at A0 ⊢
 replace hk0 := Hz.mk hk0
 go_wp2_with fail
 refine hEx.out.mono ?_
 rintro r W2 ⟨rfl, e1⟩
 replace g0 := Hz.mk (Bl.trans g0.out e1)
 replace A0 := Hz.mk (Bl.at_ e1 A0.out)
 clear e1 hEx
 have ⟨l0, p0, _⟩ := A0.out
 go_wp2_with fail
 refine (hBg _ g0.out).mono ?_
 rintro r W3 ⟨a, B, vv, rfl, hM, hBk, e1⟩
 replace g0 := Hz.mk (Bl.trans g0.out e1)
 have hkB : k0 < B := Nat.lt_of_lt_of_le l0 hBk
 have hwB : w.heap.size ≤ B := by rw [hk0.out]; omega
 replace A0 := Hz.mk (Bl.at_ e1 A0.out)
 have hA0 : Hz (∀ X, Below B W3 X → At X k0 #[.slice ra m.regs.length rc, .slice ca m.comps.length cc, .slice ga m.gates.length gc, .int .i64 m.depth]) := Hz.mk (fun X q => T.at_below A0.out q hkB)
 have hcx : Hz (∀ X, Below B W3 X → ImgIn X.heap.size X ra ca ga m) := Hz.mk (fun X q => (hm.below (Below.trans g0.out (Below.mono q hwB))).mono (Below.trans g0.out (Below.mono q hwB)).size)
 have hI1 : Hz (ImgIn w.heap.size W3 ra ca ga m) := Hz.mk (hm.below g0.out)
 have hfin : Hz (∀ X, Below B W3 X → Below w.heap.size w X) := Hz.mk (fun X q => Below.trans g0.out (Below.mono q hwB))
 clear p0 l0 e1 hBk hm
 have hs0 : Hz (Okm P 0 s0 ∧ s0.over.e = 0) := Hz.mk ⟨ok0, h00⟩
 have hMs := Hz.mk hM
 clear ok0 h00 hM hBg
 replace hP := Hz.mk hP
 replace hPm := Hz.mk hPm
 replace hrc := Hz.mk hrc
 go_wp2_with fail
 go_loopw [13] (fun i wr => ∃ (j : Nat) (s : Ms), i = .int .i64 j ∧ j ≤ 300 ∧ MIn B wr a P s [] ∧ Below B W3 wr ∧ Okm P j s ∧ s.over.e = 0) (fun i _ => 300 - (intOf i).toNat)
 case atStart => exact ⟨0, s0, rfl, by omega, hMs.out, Below.refl _ _, hs0.out.1, hs0.out.2⟩
 case round =>
   clear hMs hs0
   obtain ⟨j, s, rfl, hj, h, hB, ok, h0⟩ := hrel
   replace h := Hz.mk h
   replace hB := Hz.mk hB
   by_cases hjl : j < 300
   · have jl : (j : Int) < 300 := by omega
     obtain ⟨t, hst⟩ : ∃ t, stepsM P 1 s = t := ⟨_, rfl⟩
     have hSt := Hz.mk (fun X l' (q : MIn B X a P s l') => step_oc P hP.out s j ok (by omega) t hst B X a l' q)
     have hTn : s.tou.length ≤ 1000000 := by have := ok.tou; omega
     have hTt : Hz (t.tou = s.tou ∨ ∃ x, t.tou = s.tou ++ [x] ∧ Cov s.at_.regs x) := Hz.mk (by
       cases hq : stepM P s with
       | error e => left; rw [← hst, stepsM_err h0 hq]; rfl
       | ok t' =>
         have e1 : stepsM P 1 s = t' := stepsM_ok h0 hq
         rw [hst] at e1
         subst e1
         obtain ⟨i, hi⟩ : ∃ i, (codeOf P (kOf P s.at_.gate))[s.at_.pc]? = some i := by
           have hq2 := hq
           unfold stepM at hq2
           split at hq2
           · cases hq2
           · rename_i i hi; exact ⟨i, hi⟩
         exact step_cov hP.out ok hi hq)
     have hTn2 : t.tou.length ≤ 1000000 := by
       have := ok.tou
       rcases hTt.out with e | ⟨x, e, -⟩
       · rw [e]; omega
       · rw [e, List.length_append]
         show s.tou.length + 1 ≤ 1000000
         omega
     have hgs := ok.f.g
     replace ok := Hz.mk ok
     replace h0 := Hz.mk h0
     replace hst := Hz.mk hst
     replace hTn2 := Hz.mk hTn2
     go_upto_region 8 with fail
     refine wp_region_lit ?_
     refine wpList_plain rfl (fun K hK => ?_)
     go_simp
     with_reducible refine hK _ _ ?_
     clear hK K
     try simp only [xap]
     refine wpList_plain rfl (fun K hK => ?_)
     go_simp
     (refine (snap_any B a P s [] _ h.out).mono ?_; rintro r Y1 ⟨rfl, e1⟩; replace hB := Hz.mk (hB.out.trans (h.out.bl e1).2); replace h := Hz.mk (h.out.bl e1).1; clear e1; have hA7 : At (Y1.alloc (.cells (snR zS).toArray 40)) Y1.heap.size (snR zS).toArray := At.new Y1 _ _; have hth := Hz.mk (At.there hA7 0 115 (by rw [snR_len]; decide)); have hA8 := Hz.mk (At.setAll hA7 (snR s) (by rw [snR_len, snR_len])); have g9 := Hz.mk (((Bl.refl Y1).alloc (.cells (snR zS).toArray 40)).sets Y1.heap.size (Nat.le_refl _) (snR s) 0); replace hA7 := Hz.mk hA7)
     with_reducible refine hK _ _ ?_
     clear hK K
     try simp only [xap]
     refine wpList_plain rfl (fun K hK => ?_)
     refine wp_alloc_sn rfl (hK _ _ ?_)
     clear hK K
     try simp only [xap]
     refine wpList_store_mid rfl _ _ _ rfl _ _ (List.toArray (snR s)) rfl rfl (show World.there _ _ _ _ by rw [show (snR s).toArray.size = 115 from snR_len s]; exact hth.out) (by rw [List.size_toArray, snR_len]; kernel_rfl) (snR_one s) ?_
     try simp only [Act.put]
     clear hth hA7
     have h9 := Hz.mk (h.out.add (boxOb Y1.heap.size (snR s).toArray) hA8.out (fun k q => by have : k = Y1.heap.size := q; omega) g9.out)
     replace hB := Hz.mk (hB.out.trans (Below.mono g9.out h.out.le))
     replace h := h9
     clear h9 g9 hA8
     generalize World.setCells _ _ _ _ = X1 at *
     generalize Y1.heap.size = ks at *
     have hTs := Hz.mk (tcs_any B X1 a P s _ h.out hTn)
     go_wp2_with fail
     refine hTs.out.mono ?_
     rintro r Y2 ⟨va0, vc0, rfl, -, e1⟩
     replace hB := Hz.mk (hB.out.trans (h.out.bl e1).2)
     replace h := Hz.mk (h.out.bl e1).1
     clear e1 hTs
     go_wp2_with fail
     refine (hSt.out _ _ h.out).mono ?_
     rintro r Y3 ⟨rfl, h6, hB6⟩
     replace hB := Hz.mk (hB.out.trans hB6)
     replace h := Hz.mk h6
     clear h6 hB6 hSt
     have h9 := Hz.mk (h.out.new #[.int .i64 t.over.e, .int .u64 t.over.v, .int .i64 t.over.f, .int .i64 t.at_.gate, .int .i64 t.at_.pc] 47)
     go_upto_region 11 with fail
     refine wp_world (fun X => MIn B X a P t (boxOb Y3.heap.size #[.int .i64 t.over.e, .int .u64 t.over.v, .int .i64 t.over.f, .int .i64 t.at_.gate, .int .i64 t.at_.pc] :: [boxOb ks (snR s).toArray]) ∧ Below B W3 X) ⟨h9.out.1, hB.out.trans h9.out.2⟩ ?_
     clear h9 h hB
     rintro X2 ⟨h, hB⟩
     replace h := Hz.mk h
     replace hB := Hz.mk hB
     generalize Y3.heap.size = ko at *
     refine wp_region_lit ?_
     refine wpList_plain rfl (fun K hK => ?_)
     go_simp
     with_reducible refine hK _ _ ?_
     clear hK K
     try simp only [xap]
     refine wpList_plain rfl (fun K hK => ?_)
     go_simp
     (refine (snap_any B a P t _ _ h.out).mono ?_; rintro r Y4 ⟨rfl, e1⟩; replace hB := Hz.mk (hB.out.trans (h.out.bl e1).2); replace h := Hz.mk (h.out.bl e1).1; clear e1; have hA7 : At (Y4.alloc (.cells (snR zS).toArray 40)) Y4.heap.size (snR zS).toArray := At.new Y4 _ _; have hth := Hz.mk (At.there hA7 0 115 (by rw [snR_len]; decide)); have hA8 := Hz.mk (At.setAll hA7 (snR t) (by rw [snR_len, snR_len])); have g9 := Hz.mk (((Bl.refl Y4).alloc (.cells (snR zS).toArray 40)).sets Y4.heap.size (Nat.le_refl _) (snR t) 0); replace hA7 := Hz.mk hA7)
     with_reducible refine hK _ _ ?_
     clear hK K
     try simp only [xap]
     refine wpList_plain rfl (fun K hK => ?_)
     refine wp_alloc_sn rfl (hK _ _ ?_)
     clear hK K
     try simp only [xap]
     refine wpList_store_mid rfl _ _ _ rfl _ _ (List.toArray (snR t)) rfl rfl (show World.there _ _ _ _ by rw [show (snR t).toArray.size = 115 from snR_len t]; exact hth.out) (by rw [List.size_toArray, snR_len]; kernel_rfl) (snR_one t) ?_
     try simp only [Act.put]
     clear hth hA7
     have h9 := Hz.mk (h.out.add (boxOb Y4.heap.size (snR t).toArray) hA8.out (fun k q => by have : k = Y4.heap.size := q; omega) g9.out)
     replace hB := Hz.mk (hB.out.trans (Below.mono g9.out h.out.le))
     replace h := h9
     clear h9 g9 hA8
     generalize World.setCells _ _ _ _ = X3 at *
     generalize Y4.heap.size = kt at *
     have hTs := Hz.mk (tcs_any B X3 a P t _ h.out hTn2.out)
     go_wp2_with fail
     refine hTs.out.mono ?_
     rintro r Y5 ⟨va, vc, rfl, hE, e1⟩
     replace hE := Hz.mk hE
     replace hB := Hz.mk (hB.out.trans (h.out.bl e1).2)
     replace h := Hz.mk (h.out.bl e1).1
     clear e1 hTs
     have hgm : s.at_.gate < m.gates.length := by rw [hPm.out] at hgs; exact hgs
     obtain ⟨hkl, hkc, -, hel⟩ := hP.out.kl _ hgs
     have hkm : kOf P s.at_.gate < m.comps.length := by rw [hPm.out] at hkl ⊢; exact hkl
     have hgc : m.gates[s.at_.gate].c = ((kOf P s.at_.gate : Nat) : Int) := by have := hPm.out; subst this; exact hkc
     have hcoe : codeOf P (kOf P s.at_.gate) = m.comps[kOf P s.at_.gate].code := by have := hPm.out; subst this; exact codeOf_at (bare m) _ hkl
     have hn0 : 0 < m.comps[kOf P s.at_.gate].code.length := by rw [hcoe] at hel; omega
     have hn4 : m.comps[kOf P s.at_.gate].code.length ≤ 400 := by have := (hP.out.code (kOf P s.at_.gate)).1; rwa [hcoe] at this
     have hcc : Hz (ccap P (kOf P s.at_.gate) 0 = ⟨codeBase (kOf P s.at_.gate), codeBase (kOf P s.at_.gate) + (m.comps[kOf P s.at_.gate].code.length : Nat) * 8, codeBase (kOf P s.at_.gate), 16, 0⟩) := Hz.mk (by unfold ccap; rw [hcoe]; simp)
     clear hkl hkc hel
     obtain ⟨gb, goff, xa, xc, ya, yc, ega, hgb, -, cg0, -, -, -, -, -⟩ := hI1.out.gates s.at_.gate hgm
     obtain ⟨cb, coff, sa, sc, ka, kc, eca, hcb, -, -, cc1, -, hlin⟩ := hI1.out.comps (kOf P s.at_.gate) hkm
     rw [hgc] at cg0
     have hLn : Hz (∀ X, Below B W3 X → LIn X.heap.size X ka m.comps[kOf P s.at_.gate].code) := Hz.mk (fun X q => (hlin.below (Below.mono q hwB)).mono (Nat.le_trans g0.out.size q.size))
     subst eca ega
     have cgX : Hz (∀ X, Below B W3 X → X.cell? ⟨gb, goff + s.at_.gate * 4, none⟩ = some (.int .i64 ((kOf P s.at_.gate : Nat) : Int)) ∧ X.cell? ⟨cb, coff + kOf P s.at_.gate * 2 + 1, none⟩ = some (.slice ka m.comps[kOf P s.at_.gate].code.length kc)) := Hz.mk (fun X q => ⟨(q.cell (p := ⟨gb, _, none⟩) (Nat.lt_of_lt_of_le hgb hwB)).trans cg0, (q.cell (p := ⟨cb, _, none⟩) (Nat.lt_of_lt_of_le hcb hwB)).trans cc1⟩)
     have hCap := Hz.mk (fun X (q : Below B W3 X) => cap_yes m (kOf P s.at_.gate) _ ra (some ⟨cb, coff, none⟩) (some ⟨gb, goff, none⟩) m.regs.length rc cc m.gates.length gc X ((hcx.out X q).comps) hkm hrc.out rfl hn0 hn4)
     have gi1 : (s.at_.gate : Int) < m.gates.length := by omega
     have gi4 : (kOf P s.at_.gate : Int) < m.comps.length := by omega
     have hTh := Hz.mk (there_top ra (some ⟨cb, coff, none⟩) (some ⟨gb, goff, none⟩) m.regs.length rc m.comps.length cc m.gates.length gc m.depth s.at_.gate s.at_.pc hgm)
     clear cg0 cc1 hlin hgc hn0 hn4
     replace hcoe := Hz.mk hcoe
     obtain ⟨nc, hnc⟩ : ∃ nc, m.comps[kOf P s.at_.gate].code.length = nc := ⟨_, rfl⟩
     rw [hnc] at cgX hCap hcc
     have hcl_ := Hz.mk hnc
     clear hnc
     have hA3 := hA0.out Y5 hB.out
     have b0 : Y5.cell? ⟨k0, 0, none⟩ = some (.slice ra m.regs.length rc) := hA3.2.1 0
     have b1 : Y5.cell? ⟨k0, 1, none⟩ = some (.slice (some ⟨cb, coff, none⟩) m.comps.length cc) := hA3.2.1 1
     have b2 : Y5.cell? ⟨k0, 2, none⟩ = some (.slice (some ⟨gb, goff, none⟩) m.gates.length gc) := hA3.2.1 2
     have b3 : Y5.cell? ⟨k0, 3, none⟩ = some (.int .i64 m.depth) := hA3.2.1 3
     have l0 := hA3.1
     have s0_ : Y5.cell? ⟨ks, 0, none⟩ = some (.int .i64 s.at_.gate) := (h.out.there (boxOb ks (snR s).toArray) (by simp)).2.1 0
     have s1_ : Y5.cell? ⟨ks, 1, none⟩ = some (.int .i64 s.at_.pc) := (h.out.there (boxOb ks (snR s).toArray) (by simp)).2.1 1
     have lks := (h.out.there (boxOb ks (snR s).toArray) (by simp)).1
     clear hA3
     go_wp2_with fail
     refine (hTh.out _).mono ?_
     rintro r X3 ⟨rfl, e1⟩
     replace hE := Hz.mk (hE.out.below e1)
     replace hB := Hz.mk (hB.out.trans (h.out.bl e1).2)
     replace h := Hz.mk (h.out.bl e1).1
     clear e1 b0 b1 b2 b3 l0 s0_ s1_ lks hTh
     generalize hkg : kOf P s.at_.gate = kc_ at cgX hCap hcc gi4
     replace hkg := Hz.mk hkg
     go_upto_region 16 with fail
     replace hE := Hz.mk (hE.out.below (Bl.refl X3).drew)
     replace hB := Hz.mk (hB.out.trans (h.out.bl (Bl.refl X3).drew).2)
     replace h := Hz.mk (h.out.bl (Bl.refl X3).drew).1
     obtain ⟨cg0, cc1⟩ := cgX.out X3.drew hB.out
     have hA4 := hA0.out X3.drew hB.out
     have d1_ : X3.drew.cell? ⟨k0, 1, none⟩ = some (.slice (some ⟨cb, coff, none⟩) m.comps.length cc) := hA4.2.1 1
     have d2_ : X3.drew.cell? ⟨k0, 2, none⟩ = some (.slice (some ⟨gb, goff, none⟩) m.gates.length gc) := hA4.2.1 2
     have e0_ : X3.drew.cell? ⟨ks, 0, none⟩ = some (.int .i64 s.at_.gate) := (h.out.there (boxOb ks (snR s).toArray) (by simp)).2.1 0
     have hS16 := And.intro d1_ (And.intro d2_ (And.intro e0_ (And.intro cg0 cc1)))
     clear d1_ d2_ e0_ cg0 cc1 hA4
     refine wp_region_held_drew (S := (fun X => X.cell? ⟨k0, 1, none⟩ = some (.slice (some ⟨cb, coff, none⟩) m.comps.length cc) ∧ X.cell? ⟨k0, 2, none⟩ = some (.slice (some ⟨gb, goff, none⟩) m.gates.length gc) ∧ X.cell? ⟨ks, 0, none⟩ = some (.int .i64 s.at_.gate) ∧ X.cell? ⟨gb, goff + s.at_.gate * 4, none⟩ = some (.int .i64 (kc_ : Nat)) ∧ X.cell? ⟨cb, coff + kc_ * 2 + 1, none⟩ = some (.slice ka nc kc))) (by kernel_rfl) (hS16) (fun hHeld => ?_)
     refine xso 0 ?_ rfl ?_ (xso 1 ?_ rfl ?_ (xso 2 ?_ rfl ?_ (xso 3 ?_ rfl ?_ (xso 4 ?_ rfl ?_ (xso 5 ?_ rfl ?_ (xso 6 ?_ rfl ?_ (xso 7 ?_ rfl ?_ (xso 8 ?_ rfl ?_ (xso 9 ?_ rfl ?_ (xso 10 ?_ rfl ?_ (xso 11 ?_ rfl ?_ (xso 12 ?_ rfl ?_ ?_))))))))))))
     iterate 13 (rotate_left; focus ((try simp only [xap]); intro w hSw; (try dsimp only at hSw); go_simp; first | done | with_reducible rfl))
     try simp only [xap]
     refine xdn ?_ _
     clear hHeld
     generalize X3.drew = X4 at *
     clear hS16
     have KS : Hz (∀ X, Bl X4 X → X.cell? ⟨k0, 0, none⟩ = some (.slice ra m.regs.length rc) ∧ X.cell? ⟨k0, 1, none⟩ = some (.slice (some ⟨cb, coff, none⟩) m.comps.length cc) ∧ X.cell? ⟨k0, 2, none⟩ = some (.slice (some ⟨gb, goff, none⟩) m.gates.length gc) ∧ X.cell? ⟨k0, 3, none⟩ = some (.int .i64 m.depth) ∧ X.cell? ⟨ks, 0, none⟩ = some (.int .i64 s.at_.gate) ∧ X.cell? ⟨gb, goff + s.at_.gate * 4, none⟩ = some (.int .i64 (kc_ : Nat))) := Hz.mk (fun X q => by
       have h1 := hA0.out X (hB.out.trans (h.out.bl q).2)
       exact ⟨h1.2.1 0, h1.2.1 1, h1.2.1 2, h1.2.1 3, ((h.out.bl q).1.there (boxOb ks (snR s).toArray) (by simp)).2.1 0, (cgX.out X (hB.out.trans (h.out.bl q).2)).1⟩)
     have hCC := Hz.mk (fun X (q : Bl X4 X) => hCap.out X (hB.out.trans (h.out.bl q).2))
     have g0_ := Hz.mk ((Bl.refl X4).drew)
     clear hCap cgX
     go_upto_region 17 with fail
     go_cut [21, 22] (fun c b wx => ∃ kz, c = .pointer (some ⟨kz, 0, none⟩) ∧ Hz (MIn B wx a P t [boxOb kz #[.int .u64 (codeBase kc_), .int .u64 (codeBase kc_ + (nc : Nat) * 8), .int .u64 (codeBase kc_), .int .u8 16, .int .i64 0], boxOb kt (snR t).toArray, boxOb ko #[.int .i64 t.over.e, .int .u64 t.over.v, .int .i64 t.over.f, .int .i64 t.at_.gate, .int .i64 t.at_.pc], boxOb ks (snR s).toArray]) ∧ Hz (Below B W3 wx) ∧ Hz (T.EIn 3 Tc.row wx va t.tou))
     case first =>
       refine wp_region_held_drew (S := (fun X => X.cell? ⟨k0, 0, none⟩ = some (.slice ra m.regs.length rc) ∧ X.cell? ⟨k0, 1, none⟩ = some (.slice (some ⟨cb, coff, none⟩) m.comps.length cc) ∧ X.cell? ⟨k0, 2, none⟩ = some (.slice (some ⟨gb, goff, none⟩) m.gates.length gc) ∧ X.cell? ⟨k0, 3, none⟩ = some (.int .i64 m.depth) ∧ X.cell? ⟨ks, 0, none⟩ = some (.int .i64 s.at_.gate) ∧ X.cell? ⟨gb, goff + s.at_.gate * 4, none⟩ = some (.int .i64 (kc_ : Nat)))) (by kernel_rfl) (KS.out _ g0_.out) (fun hHeld => ?_)
       generalize X4.drew = Xd at *
       refine xso 0 ?_ rfl ?_ (xso 1 ?_ rfl ?_ (xso 2 ?_ rfl ?_ (xso 3 ?_ rfl ?_ (xso 4 ?_ rfl ?_ (xso 5 ?_ rfl ?_ (xso 6 ?_ rfl ?_ (xso 7 ?_ rfl ?_ ?_)))))))
       iterate 8 (rotate_left; focus ((try simp only [xap]); intro w hSw; (try dsimp only at hSw); go_simp; first | done | with_reducible rfl))
       try simp only [xap]
       refine wpAnyH_ready (rs := [8, 12]) (by kernel_rfl) (by simp) ?_
       refine (xcn rfl (fun K hK => ?_) (xcn rfl (fun K hK => ?_) AllReadyH.nil))
       · skip
         go_simp
         clear hHeld
         refine (hCC.out _ g0_.out).mono ?_
         rintro r Z1 ⟨rfl, e1⟩
         have g1_ := Hz.mk (g0_.out.trans e1)
         refine hK.out _ _ (KS.out _ g1_.out) (fun hHeld => ?_)
         clear hK K e1
         try simp only [xap]
         refine xso 9 ?_ rfl ?_ (xso 10 ?_ rfl ?_ (xso 11 ?_ rfl ?_ ?_))
         iterate 3 (rotate_left; focus ((try simp only [xap]); intro w hSw; (try dsimp only at hSw); go_simp; first | done | with_reducible rfl))
         try simp only [xap]
         refine xrd 12 rfl (fun K hK => ?_)
         go_simp
         clear hHeld
         have aC2 := Hz.mk (At.new Z1 #[.int .u64 0, .int .u64 0, .int .u64 0, .int .u8 0, .int .i64 0] 35)
         have g2_ := Hz.mk (g1_.out.alloc (.cells #[.int .u64 0, .int .u64 0, .int .u64 0, .int .u8 0, .int .i64 0] 35))
         have kz2_ := Hz.mk (show X4.heap.size ≤ Z1.heap.size from g1_.out.size)
         refine hK.out _ _ (KS.out _ g2_.out) (fun hHeld => ?_)
         clear hK K
         generalize Z1.heap.size = kz at *
         generalize Z1.alloc _ = Z2 at *
         try simp only [xap]
         refine xrd 13 rfl (fun K hK => ?_)
         clear hHeld
         try rw [if_pos (by rfl)]
         refine wp_store_mid _ _ _ rfl _ _ #[.int .u64 (codeBase kc_), .int .u64 (codeBase kc_ + (nc : Nat) * 8), .int .u64 (codeBase kc_), .int .u8 16, .int .i64 0] rfl rfl (At.there aC2.out 0 5 (by decide)) (by kernel_rfl) (by kernel_rfl) ?_
         have g3_ := Hz.mk (g2_.out.sets kz kz2_.out #[.int .u64 (codeBase kc_), .int .u64 (codeBase kc_ + (nc : Nat) * 8), .int .u64 (codeBase kc_), .int .u8 16, .int .i64 0].toList 0)
         have aC3 := Hz.mk (At.setAll aC2.out #[.int .u64 (codeBase kc_), .int .u64 (codeBase kc_ + (nc : Nat) * 8), .int .u64 (codeBase kc_), .int .u8 16, .int .i64 0].toList rfl)
         refine hK.out _ _ (KS.out _ g3_.out) (fun hHeld => ?_)
         clear hK K
         try simp only [Act.put]
         refine xso 14 ?_ rfl ?_ ?_
         rotate_left
         · intro w hSw; (try dsimp only at hSw); go_simp; first | done | with_reducible rfl
         try simp only [xap]
         refine xdn ?_ _
         clear hHeld KS hCC
         have h9 := Hz.mk (h.out.add (boxOb kz #[.int .u64 (codeBase kc_), .int .u64 (codeBase kc_ + (nc : Nat) * 8), .int .u64 (codeBase kc_), .int .u8 16, .int .i64 0]) aC3.out (fun k q => by have : k = kz := q; have := kz2_.out; omega) g3_.out)
         have hB9 := Hz.mk (hB.out.trans (Below.mono g3_.out h.out.le))
         have hE9 := Hz.mk (hE.out.below g3_.out)
         generalize World.setCells _ _ _ _ = Z9 at *
         go_wp2_with fail
         go_meet
         exact ⟨kz, rfl, h9, hB9, hE9⟩
       · skip
         go_simp
         clear hHeld
         have aC1 := Hz.mk (At.new Xd #[.int .u64 0, .int .u64 0, .int .u64 0, .int .u8 0, .int .i64 0] 35)
         have g1_ := Hz.mk (g0_.out.alloc (.cells #[.int .u64 0, .int .u64 0, .int .u64 0, .int .u8 0, .int .i64 0] 35))
         have kz1_ := Hz.mk (show X4.heap.size ≤ Xd.heap.size from g0_.out.size)
         refine hK.out _ _ (KS.out _ g1_.out) (fun hHeld => ?_)
         clear hK K
         generalize Xd.heap.size = kz at *
         generalize Xd.alloc _ = Z1 at *
         try simp only [xap]
         refine xrd 8 rfl (fun K hK => ?_)
         go_simp
         clear hHeld
         refine (hCC.out _ g1_.out).mono ?_
         rintro r Z2 ⟨rfl, e1⟩
         have g2_ := Hz.mk (g1_.out.trans e1)
         have aC2 := Hz.mk (Bl.at_ e1 aC1.out)
         refine hK.out _ _ (KS.out _ g2_.out) (fun hHeld => ?_)
         clear hK K e1
         try simp only [xap]
         refine xso 9 ?_ rfl ?_ (xso 10 ?_ rfl ?_ (xso 11 ?_ rfl ?_ ?_))
         iterate 3 (rotate_left; focus ((try simp only [xap]); intro w hSw; (try dsimp only at hSw); go_simp; first | done | with_reducible rfl))
         try simp only [xap]
         refine xrd 13 rfl (fun K hK => ?_)
         clear hHeld
         try rw [if_pos (by rfl)]
         refine wp_store_mid _ _ _ rfl _ _ #[.int .u64 (codeBase kc_), .int .u64 (codeBase kc_ + (nc : Nat) * 8), .int .u64 (codeBase kc_), .int .u8 16, .int .i64 0] rfl rfl (At.there aC2.out 0 5 (by decide)) (by kernel_rfl) (by kernel_rfl) ?_
         have g3_ := Hz.mk (g2_.out.sets kz kz1_.out #[.int .u64 (codeBase kc_), .int .u64 (codeBase kc_ + (nc : Nat) * 8), .int .u64 (codeBase kc_), .int .u8 16, .int .i64 0].toList 0)
         have aC3 := Hz.mk (At.setAll aC2.out #[.int .u64 (codeBase kc_), .int .u64 (codeBase kc_ + (nc : Nat) * 8), .int .u64 (codeBase kc_), .int .u8 16, .int .i64 0].toList rfl)
         refine hK.out _ _ (KS.out _ g3_.out) (fun hHeld => ?_)
         clear hK K
         try simp only [Act.put]
         refine xso 14 ?_ rfl ?_ ?_
         rotate_left
         · intro w hSw; (try dsimp only at hSw); go_simp; first | done | with_reducible rfl
         try simp only [xap]
         refine xdn ?_ _
         clear hHeld KS hCC
         have h9 := Hz.mk (h.out.add (boxOb kz #[.int .u64 (codeBase kc_), .int .u64 (codeBase kc_ + (nc : Nat) * 8), .int .u64 (codeBase kc_), .int .u8 16, .int .i64 0]) aC3.out (fun k q => by have : k = kz := q; have := kz1_.out; omega) g3_.out)
         have hB9 := Hz.mk (hB.out.trans (Below.mono g3_.out h.out.le))
         have hE9 := Hz.mk (hE.out.below g3_.out)
         generalize World.setCells _ _ _ _ = Z9 at *
         go_wp2_with fail
         go_meet
         exact ⟨kz, rfl, h9, hB9, hE9⟩
     case rest =>
       clear h hB hE KS hCC g0_ gi1 gi4
       obtain ⟨kz, hkz, h, hB, hE⟩ := hcut
       subst hkz
       rcases hTt.out with hTe | ⟨t9, hTe, hCov⟩
       · have z1 : t.tou.length = s.tou.length := by rw [hTe]
         rw [z1]
         have z2 : ¬ (s.tou.length : Int) < (s.tou.length : Int) := Int.lt_irrefl _
         have z3 : ¬ ((s.tou.length : Int) + 1 < (s.tou.length : Int)) := by omega
         have z4 := top_w8 hTn
         have z5 := top_w9 hTn
         replace z1 := Hz.mk z1
         replace hTe := Hz.mk hTe
         go_upto_if 101 with fail
         clear z3 z4 z5
         go_cut [23] (fun _ wx => Hz (MIn B wx a P t [boxOb kz #[.int .u64 (codeBase kc_), .int .u64 (codeBase kc_ + (nc : Nat) * 8), .int .u64 (codeBase kc_), .int .u8 16, .int .i64 0], boxOb kt (snR t).toArray, boxOb ko #[.int .i64 t.over.e, .int .u64 t.over.v, .int .i64 t.over.f, .int .i64 t.at_.gate, .int .i64 t.at_.pc], boxOb ks (snR s).toArray]) ∧ Hz (Below B W3 wx))
         case first =>
           go_wp2_with fail
           go_meet
           exact ⟨h, hB⟩
         case rest =>
           clear h hB z2
           obtain ⟨h, hB⟩ := hcut
           have y0 : wc.cell? ⟨ko, 0, none⟩ = some (.int .i64 t.over.e) := (h.out.there (boxOb ko #[.int .i64 t.over.e, .int .u64 t.over.v, .int .i64 t.over.f, .int .i64 t.at_.gate, .int .i64 t.at_.pc]) (by simp)).2.1 0
           have lko := (h.out.there (boxOb ko #[.int .i64 t.over.e, .int .u64 t.over.v, .int .i64 t.over.f, .int .i64 t.at_.gate, .int .i64 t.at_.pc]) (by simp)).1
           cases hq : stepM P s with
           | error e =>
             have hte : t = s.ended e := by rw [← hst.out]; exact stepsM_err h0.out hq
             have he1 : (t.over.e != 0) = true := by rw [hte]; exact bne_iff_ne.2 (step_err hq)
             have hsn : snR t = snR s := by rw [hte]; rfl
             have A1 := h.out.there (boxOb kt (snR t).toArray) (by simp)
             rw [hsn] at A1
             have A2 := h.out.there (boxOb ks (snR s).toArray) (by simp)
             have hr1 := Hz.mk (At.range A2)
             have hr2 := Hz.mk (At.range A1)
             have l1 := A1.1
             have l2 := A2.1
             have heq := sn_eql s
             clear hte hsn A1 A2 hq
             go_upto_region 25 with fail
             refine wp_region_lit ?_
             iterate 2 (refine wpList_plain rfl (fun K hK => ?_); go_simp; with_reducible refine hK _ _ ?_; clear hK K; (try simp only [xap]))
             refine BigFrame.wpList_want (by rfl) (fun K hK => ?_)
             refine wp_load_mid _ _ rfl _ 0 rfl (snR s) _ hr1.out Tryz.underlying40 rfl (by rw [snR_len]; kernel_rfl) (hK _ _ ?_)
             clear hK K
             try simp only [xap]
             refine BigFrame.wpList_want (by rfl) (fun K hK => ?_)
             refine wp_load_mid _ _ rfl _ 0 rfl (snR s) _ hr2.out Tryz.underlying40 rfl (by rw [snR_len]; kernel_rfl) (hK _ _ ?_)
             clear hK K
             try simp only [xap]
             refine BigFrame.wpList_want (by rfl) (fun K hK => ?_)
             go_simp
             with_reducible refine hK _ _ ?_
             clear hK K
             try simp only [xap]
             iterate 2 (refine wpList_plain rfl (fun K hK => ?_); go_simp; with_reducible refine hK _ _ ?_; clear hK K; (try simp only [xap]))
             clear hr1 hr2 heq l1 l2 y0 lko
             go_wp2_with fail
             go_ret
             exact ⟨rfl, hfin.out _ hB.out⟩
           | ok t' =>
             rw [show t' = t by rw [← hst.out]; exact (show stepsM P 1 s = t' from stepsM_ok h0.out hq).symm] at hq
             clear t'
             obtain ⟨i, hi⟩ : ∃ i, (codeOf P (kOf P s.at_.gate))[s.at_.pc]? = some i := by
               have hq2 := hq
               unfold stepM at hq2
               split at hq2
               · cases hq2
               · rename_i i hi; exact ⟨i, hi⟩
             have h01 : Hz (t.over.e = 0) := Hz.mk (by rw [step_over hq]; exact h0.out)
             have ok1 := Hz.mk (okm_step hP.out ok.out hq)
             have hHad0 : Hz (i.op ≠ 31 → i.op ≠ 32 → i.op ≠ 64 → ∀ k, k < 16 → (t.at_.regs k).g = true → Had s.at_.regs ⟨codeBase kc_, codeBase kc_ + (nc : Nat) * 8, codeBase kc_, 16, 0⟩ (t.at_.regs k).c) := Hz.mk (fun h1 h2 h3 k hk hg => by
               have := step_had hP.out ok.out hi h1 h2 h3 hq k hk hg
               rwa [hkg.out, hcc.out] at this)
             have hpl := (List.getElem?_eq_some_iff.1 hi).1
             obtain ⟨op_, hop⟩ : ∃ op_, i.op = op_ := ⟨_, rfl⟩
             rw [hop] at hHad0
             have o0_ : ∃ ib ioff, ka = some ⟨ib, ioff, none⟩ ∧ wc.cell? ⟨ib, ioff + s.at_.pc * 5, none⟩ = some (.int .u8 op_) ∧ ib < wc.heap.size := by
               rw [hcoe.out] at hi hpl
               obtain ⟨ib, ioff, e, hib, -, f0, -⟩ := (hLn.out wc hB.out) s.at_.pc hpl
               rw [List.getElem?_eq_getElem hpl] at hi
               injection hi with hi
               rw [hi, hop] at f0
               exact ⟨ib, ioff, e, f0, hib⟩
             obtain ⟨ib, ioff, rfl, o0_, lib⟩ := o0_
             have gi5 : (s.at_.pc : Int) < nc := by rw [← hcl_.out]; exact Int.ofNat_lt.2 (by rw [hcoe.out] at hpl; exact hpl)
             have gi6 : ¬ (nc : Int) ≤ (s.at_.pc : Int) := by omega
             have s1_ : wc.cell? ⟨ks, 1, none⟩ = some (.int .i64 s.at_.pc) := (h.out.there (boxOb ks (snR s).toArray) (by simp)).2.1 1
             have lks := (h.out.there (boxOb ks (snR s).toArray) (by simp)).1
             rw [h01.out] at y0
             replace hi := Hz.mk hi
             replace hq := Hz.mk hq
             replace hop := Hz.mk hop
             clear hpl hTt
             go_upto_region 29 with fail
             clear y0 lko o0_ lib gi5 gi6 s1_ lks
             by_cases h31 : op_ = 31
             · subst h31
               go_wp2_with fail
               exact ⟨⟨j + 1, t, by go_num, by omega, h.out.drop.drop.drop.drop, hB.out, ok1.out, h01.out⟩, by simp [intOf]; omega⟩
             by_cases h32 : op_ = 32
             · subst h32
               go_wp2_with fail
               exact ⟨⟨j + 1, t, by go_num, by omega, h.out.drop.drop.drop.drop, hB.out, ok1.out, h01.out⟩, by simp [intOf]; omega⟩
             by_cases h64 : op_ = 64
             · subst h64
               go_wp2_with fail
               exact ⟨⟨j + 1, t, by go_num, by omega, h.out.drop.drop.drop.drop, hB.out, ok1.out, h01.out⟩, by simp [intOf]; omega⟩
             have o1 : (op_ == 31) = false := by simpa using h31
             have o2 : (op_ == 32) = false := by simpa using h32
             have o3 : (op_ == 64) = false := by simpa using h64
             have hHad : Hz (∀ k, k < 16 → (t.at_.regs k).g = true → Had s.at_.regs ⟨codeBase kc_, codeBase kc_ + (nc : Nat) * 8, codeBase kc_, 16, 0⟩ (t.at_.regs k).c) := Hz.mk (hHad0.out h31 h32 h64)
             replace h31 := Hz.mk h31
             replace h32 := Hz.mk h32
             replace h64 := Hz.mk h64
             clear hHad0
             go_wp2_with fail
             go_loopw [25] (fun i wr => ∃ k : Nat, i = .int .i64 k ∧ k ≤ 16 ∧ MIn B wr a P t [boxOb kz #[.int .u64 (codeBase kc_), .int .u64 (codeBase kc_ + (nc : Nat) * 8), .int .u64 (codeBase kc_), .int .u8 16, .int .i64 0], boxOb kt (snR t).toArray, boxOb ko #[.int .i64 t.over.e, .int .u64 t.over.v, .int .i64 t.over.f, .int .i64 t.at_.gate, .int .i64 t.at_.pc], boxOb ks (snR s).toArray] ∧ Below B W3 wr) (fun i _ => 16 - (intOf i).toNat)
             case atStart => exact ⟨0, rfl, Nat.zero_le _, h.out, hB.out⟩
             case round =>
               clear h hB
               obtain ⟨k, rfl, hk, h, hB⟩ := hrel
               by_cases hkl : k < 16
               · have kl : (k : Int) < 16 := by omega
                 have at_ := h.there (boxOb kt (snR t).toArray) (by simp)
                 have hrg := sn_reg at_ k hkl
                 have lt_ := at_.1
                 obtain ⟨v, hv⟩ : ∃ v, t.at_.regs k = v := ⟨_, rfl⟩
                 rw [hv] at hrg
                 have c0 : wr.cell? ⟨kt, 3 + k * 7, none⟩ = some (.bool v.g) := hrg 0 _ rfl
                 have hH := Hz.mk (hHad.out k hkl)
                 rw [hv] at hH
                 replace h := Hz.mk h
                 replace hB := Hz.mk hB
                 clear at_
                 cases hg : v.g with
                 | false =>
                   rw [hg] at c0
                   clear hrg
                   go_wp2_with fail
                   exact ⟨⟨k + 1, by go_num, by omega, h.out, hB.out⟩, by simp [intOf]; omega⟩
                 | true =>
                   rw [hg] at c0
                   have hHd := Hz.mk (fun X => had_any v.c ⟨codeBase kc_, codeBase kc_ + (nc : Nat) * 8, codeBase kc_, 16, 0⟩ s.at_.regs X (hH.out hg))
                   have KS : Hz (∀ X, Bl wr X → X.rangeAt kt (3 + k * 7 + 2) [.int .u64 v.c.b, .int .u64 v.c.e, .int .u64 v.c.c, .int .u8 v.c.p, .int .i64 v.c.s] ∧ X.rangeAt ks 3 (rgR s.at_.regs) ∧ X.rangeAt kz 0 #[.int .u64 (codeBase kc_), .int .u64 (codeBase kc_ + (nc : Nat) * 8), .int .u64 (codeBase kc_), .int .u8 16, .int .i64 0].toList) := Hz.mk (fun X q => by
                     have h3 := (h.out.bl q).1
                     have a1 := sn_reg (h3.there (boxOb kt (snR t).toArray) (by simp)) k hkl
                     rw [hv] at a1
                     refine ⟨fun j u z => ?_, sn_regs (h3.there (boxOb ks (snR s).toArray) (by simp)), fun j u z => ?_⟩
                     · have hj : j < 5 := (List.getElem?_eq_some_iff.1 z).1
                       rw [show 3 + k * 7 + 2 + j = 3 + k * 7 + (2 + j) by omega]
                       refine a1 (2 + j) u ?_
                       rw [← z]
                       match j, hj with
                       | 0, _ => rfl
                       | 1, _ => rfl
                       | 2, _ => rfl
                       | 3, _ => rfl
                       | 4, _ => rfl
                     · rw [Nat.zero_add, (h3.there (boxOb kz #[.int .u64 (codeBase kc_), .int .u64 (codeBase kc_ + (nc : Nat) * 8), .int .u64 (codeBase kc_), .int .u8 16, .int .i64 0]) (by simp)).2.1 j]
                       simpa using z)
                   have gD := Hz.mk ((Bl.refl wr).drew)
                   replace hv := Hz.mk hv
                   replace hg := Hz.mk hg
                   clear hrg hH
                   go_upto_region 34 with fail
                   clear c0 lt_
                   refine wp_region_held_drew (S := (fun X => X.rangeAt kt (3 + k * 7 + 2) [.int .u64 v.c.b, .int .u64 v.c.e, .int .u64 v.c.c, .int .u8 v.c.p, .int .i64 v.c.s] ∧ X.rangeAt ks 3 (rgR s.at_.regs) ∧ X.rangeAt kz 0 #[.int .u64 (codeBase kc_), .int .u64 (codeBase kc_ + (nc : Nat) * 8), .int .u64 (codeBase kc_), .int .u8 16, .int .i64 0].toList)) (by kernel_rfl) (KS.out _ gD.out) (fun hHeld => ?_)
                   refine xso 0 ?_ rfl ?_ (xso 1 ?_ rfl ?_ (xso 2 ?_ rfl ?_ (xso 3 ?_ rfl ?_ ?_)))
                   iterate 4 (rotate_left; focus ((try simp only [xap]); intro w hSw; (try dsimp only at hSw); go_simp; first | done | with_reducible rfl))
                   try simp only [xap]
                   refine xtk 4 rfl (yieldsIf_load_mid (by rfl) _ _ rfl _ _ rfl _ _ (fun _ h => h.1) Tryz.underlying35 rfl (by kernel_rfl)) ?_
                   try simp only [xap]
                   refine xso 5 ?_ rfl ?_ ?_
                   rotate_left
                   · intro w hSw; (try dsimp only at hSw); go_simp; first | done | with_reducible rfl
                   try simp only [xap]
                   refine xtk 6 rfl (yieldsIf_load_mid (by rfl) _ _ rfl _ _ rfl _ _ (fun _ h => h.2.1) Tryz.underlying38 rfl (by rw [rgR_len]; kernel_rfl)) ?_
                   try simp only [xap]
                   refine xtk 7 rfl (yieldsIf_load_mid (by rfl) _ _ rfl _ _ rfl _ _ (fun _ h => h.2.2) Tryz.underlying35 rfl (by kernel_rfl)) ?_
                   try simp only [xap]
                   refine xrd 8 rfl (fun K hK => ?_)
                   go_simp
                   clear hHeld
                   refine (hHd.out _).mono ?_
                   rintro r X9 ⟨rfl, e1⟩
                   refine hK.out _ _ (KS.out _ (gD.out.trans e1)) (fun hHeld => ?_)
                   clear hK K
                   try simp only [xap]
                   refine xso 9 ?_ rfl ?_ ?_
                   rotate_left
                   · intro w hSw; (try dsimp only at hSw); go_simp; first | done | with_reducible rfl
                   try simp only [xap]
                   refine xdn ?_ _
                   clear hHeld KS
                   have gE := Hz.mk (gD.out.trans e1)
                   clear e1 gD
                   replace hB := Hz.mk (hB.out.trans (h.out.bl gE.out).2)
                   replace h := Hz.mk (h.out.bl gE.out).1
                   clear gE
                   go_wp2_with fail
                   exact ⟨⟨k + 1, by go_num, by omega, h.out, hB.out⟩, by simp [intOf]; omega⟩
               · have kl : ¬ (k : Int) < 16 := by omega
                 replace h := Hz.mk h
                 replace hB := Hz.mk hB
                 go_wp2_with fail
                 exact ⟨⟨j + 1, t, by go_num, by omega, h.out.drop.drop.drop.drop, hB.out, ok1.out, h01.out⟩, by simp [intOf]; omega⟩
       · have z1 : t.tou.length = s.tou.length + 1 := by rw [hTe, List.length_append]; rfl
         have hT9 : ∃ vb voff, va = some ⟨vb, voff, none⟩ ∧ vb < wc.heap.size ∧ Hz (∀ X, Bl wc X → X.rangeAt vb (voff + s.tou.length * 3) t9.row) := by
           have hl : s.tou.length < t.tou.length := by omega
           obtain ⟨b, off, e, hb, hr⟩ := hE.out s.tou.length hl
           have h9 : t.tou[s.tou.length]'hl = t9 := by simp [hTe]
           rw [h9] at hr
           exact ⟨b, off, e, hb, Hz.mk (fun X q j u z => (q.cell (p := ⟨b, _, none⟩) hb).trans (hr j u z))⟩
         obtain ⟨vb, voff, rfl, hvb, h9r⟩ := hT9
         rw [z1]
         have z0 : (((s.tou.length + 1 : Nat)) : Int) = (s.tou.length : Int) + 1 := rfl
         try rw [z0]
         have z2 : (s.tou.length : Int) < (s.tou.length : Int) + 1 := Int.lt_succ _
         have z3 : ¬ ((s.tou.length : Int) + 1 < (s.tou.length : Int)) := by omega
         have z6 : ¬ ((s.tou.length : Int) + 1 < (s.tou.length : Int) + 1) := Int.lt_irrefl _
         have z4 := top_w8 hTn
         have z5 := top_w9 hTn
         replace z1 := Hz.mk z1
         replace hTe := Hz.mk hTe
         replace z0 := Hz.mk z0
         go_upto_if 101 with fail
         clear z3 z4 z5 z6
         go_cut [23] (fun _ wx => Hz (MIn B wx a P t [boxOb kz #[.int .u64 (codeBase kc_), .int .u64 (codeBase kc_ + (nc : Nat) * 8), .int .u64 (codeBase kc_), .int .u8 16, .int .i64 0], boxOb kt (snR t).toArray, boxOb ko #[.int .i64 t.over.e, .int .u64 t.over.v, .int .i64 t.over.f, .int .i64 t.at_.gate, .int .i64 t.at_.pc], boxOb ks (snR s).toArray]) ∧ Hz (Below B W3 wx))
         case first =>
           have hCv := Hz.mk (fun X => covered_any s.at_.regs t9 X hCov (fun j => ok.out.f.r j))
           have KS : Hz (∀ X, Bl wc X → X.rangeAt ks 3 (rgR s.at_.regs) ∧ X.rangeAt vb (voff + s.tou.length * 3) t9.row) := Hz.mk (fun X q => ⟨sn_regs ((h.out.bl q).1.there (boxOb ks (snR s).toArray) (by simp)), h9r.out X q⟩)
           have gD := Hz.mk ((Bl.refl wc).drew)
           go_upto_region 21 with fail
           clear hvb h9r
           refine wp_region_held_drew (S := (fun X => X.rangeAt ks 3 (rgR s.at_.regs) ∧ X.rangeAt vb (voff + s.tou.length * 3) t9.row)) (by kernel_rfl) (KS.out _ gD.out) (fun hHeld => ?_)
           refine xso 0 ?_ rfl ?_ ?_
           rotate_left
           · intro w hSw; (try dsimp only at hSw); go_simp; first | done | with_reducible rfl
           try simp only [xap]
           refine xtk 1 rfl (yieldsIf_load_mid (by rfl) _ _ rfl _ _ rfl _ _ (fun _ h => h.1) Tryz.underlying38 rfl (by rw [rgR_len]; kernel_rfl)) ?_
           try simp only [xap]
           refine xso 2 ?_ rfl ?_ (xso 3 ?_ rfl ?_ (xso 4 ?_ rfl ?_ ?_))
           iterate 3 (rotate_left; focus ((try simp only [xap]); intro w hSw; (try dsimp only at hSw); go_simp; first | done | with_reducible rfl))
           try simp only [xap]
           refine xtk 5 rfl (yieldsIf_load_mid (by rfl) _ _ rfl _ _ rfl _ _ (fun _ h => h.2) Tryz.underlying61 rfl (by kernel_rfl)) ?_
           try simp only [xap]
           refine xrd 6 rfl (fun K hK => ?_)
           go_simp
           clear hHeld
           refine (hCv.out _).mono ?_
           rintro r X8 ⟨rfl, e1⟩
           refine hK.out _ _ (KS.out _ (gD.out.trans e1)) (fun hHeld => ?_)
           clear hK K
           try simp only [xap]
           refine xso 7 ?_ rfl ?_ ?_
           rotate_left
           · intro w hSw; (try dsimp only at hSw); go_simp; first | done | with_reducible rfl
           try simp only [xap]
           refine xdn ?_ _
           clear hHeld KS
           have gE := Hz.mk (gD.out.trans e1)
           clear e1 gD
           have hF := Hz.mk (h.out.bl gE.out)
           clear h gE hCv
           go_wp2_with fail
           go_meet
           exact ⟨Hz.mk hF.out.1, Hz.mk (hB.out.trans hF.out.2)⟩
         case rest =>
           clear h hB z2 hvb h9r hCov
           obtain ⟨h, hB⟩ := hcut
           have y0 : wc.cell? ⟨ko, 0, none⟩ = some (.int .i64 t.over.e) := (h.out.there (boxOb ko #[.int .i64 t.over.e, .int .u64 t.over.v, .int .i64 t.over.f, .int .i64 t.at_.gate, .int .i64 t.at_.pc]) (by simp)).2.1 0
           have lko := (h.out.there (boxOb ko #[.int .i64 t.over.e, .int .u64 t.over.v, .int .i64 t.over.f, .int .i64 t.at_.gate, .int .i64 t.at_.pc]) (by simp)).1
           cases hq : stepM P s with
           | error e =>
             have hte : t = s.ended e := by rw [← hst.out]; exact stepsM_err h0.out hq
             have he1 : (t.over.e != 0) = true := by rw [hte]; exact bne_iff_ne.2 (step_err hq)
             have hsn : snR t = snR s := by rw [hte]; rfl
             have A1 := h.out.there (boxOb kt (snR t).toArray) (by simp)
             rw [hsn] at A1
             have A2 := h.out.there (boxOb ks (snR s).toArray) (by simp)
             have hr1 := Hz.mk (At.range A2)
             have hr2 := Hz.mk (At.range A1)
             have l1 := A1.1
             have l2 := A2.1
             have heq := sn_eql s
             clear hte hsn A1 A2 hq
             go_upto_region 25 with fail
             refine wp_region_lit ?_
             iterate 2 (refine wpList_plain rfl (fun K hK => ?_); go_simp; with_reducible refine hK _ _ ?_; clear hK K; (try simp only [xap]))
             refine BigFrame.wpList_want (by rfl) (fun K hK => ?_)
             refine wp_load_mid _ _ rfl _ 0 rfl (snR s) _ hr1.out Tryz.underlying40 rfl (by rw [snR_len]; kernel_rfl) (hK _ _ ?_)
             clear hK K
             try simp only [xap]
             refine BigFrame.wpList_want (by rfl) (fun K hK => ?_)
             refine wp_load_mid _ _ rfl _ 0 rfl (snR s) _ hr2.out Tryz.underlying40 rfl (by rw [snR_len]; kernel_rfl) (hK _ _ ?_)
             clear hK K
             try simp only [xap]
             refine BigFrame.wpList_want (by rfl) (fun K hK => ?_)
             go_simp
             with_reducible refine hK _ _ ?_
             clear hK K
             try simp only [xap]
             iterate 2 (refine wpList_plain rfl (fun K hK => ?_); go_simp; with_reducible refine hK _ _ ?_; clear hK K; (try simp only [xap]))
             clear hr1 hr2 heq l1 l2 y0 lko
             go_wp2_with fail
             go_ret
             exact ⟨rfl, hfin.out _ hB.out⟩
           | ok t' =>
             rw [show t' = t by rw [← hst.out]; exact (show stepsM P 1 s = t' from stepsM_ok h0.out hq).symm] at hq
             clear t'
             obtain ⟨i, hi⟩ : ∃ i, (codeOf P (kOf P s.at_.gate))[s.at_.pc]? = some i := by
               have hq2 := hq
               unfold stepM at hq2
               split at hq2
               · cases hq2
               · rename_i i hi; exact ⟨i, hi⟩
             have h01 : Hz (t.over.e = 0) := Hz.mk (by rw [step_over hq]; exact h0.out)
             have ok1 := Hz.mk (okm_step hP.out ok.out hq)
             have hHad0 : Hz (i.op ≠ 31 → i.op ≠ 32 → i.op ≠ 64 → ∀ k, k < 16 → (t.at_.regs k).g = true → Had s.at_.regs ⟨codeBase kc_, codeBase kc_ + (nc : Nat) * 8, codeBase kc_, 16, 0⟩ (t.at_.regs k).c) := Hz.mk (fun h1 h2 h3 k hk hg => by
               have := step_had hP.out ok.out hi h1 h2 h3 hq k hk hg
               rwa [hkg.out, hcc.out] at this)
             have hpl := (List.getElem?_eq_some_iff.1 hi).1
             obtain ⟨op_, hop⟩ : ∃ op_, i.op = op_ := ⟨_, rfl⟩
             rw [hop] at hHad0
             have o0_ : ∃ ib ioff, ka = some ⟨ib, ioff, none⟩ ∧ wc.cell? ⟨ib, ioff + s.at_.pc * 5, none⟩ = some (.int .u8 op_) ∧ ib < wc.heap.size := by
               rw [hcoe.out] at hi hpl
               obtain ⟨ib, ioff, e, hib, -, f0, -⟩ := (hLn.out wc hB.out) s.at_.pc hpl
               rw [List.getElem?_eq_getElem hpl] at hi
               injection hi with hi
               rw [hi, hop] at f0
               exact ⟨ib, ioff, e, f0, hib⟩
             obtain ⟨ib, ioff, rfl, o0_, lib⟩ := o0_
             have gi5 : (s.at_.pc : Int) < nc := by rw [← hcl_.out]; exact Int.ofNat_lt.2 (by rw [hcoe.out] at hpl; exact hpl)
             have gi6 : ¬ (nc : Int) ≤ (s.at_.pc : Int) := by omega
             have s1_ : wc.cell? ⟨ks, 1, none⟩ = some (.int .i64 s.at_.pc) := (h.out.there (boxOb ks (snR s).toArray) (by simp)).2.1 1
             have lks := (h.out.there (boxOb ks (snR s).toArray) (by simp)).1
             rw [h01.out] at y0
             replace hi := Hz.mk hi
             replace hq := Hz.mk hq
             replace hop := Hz.mk hop
             clear hpl hTt
             go_upto_region 29 with fail
             clear y0 lko o0_ lib gi5 gi6 s1_ lks
             by_cases h31 : op_ = 31
             · subst h31
               go_wp2_with fail
               exact ⟨⟨j + 1, t, by go_num, by omega, h.out.drop.drop.drop.drop, hB.out, ok1.out, h01.out⟩, by simp [intOf]; omega⟩
             by_cases h32 : op_ = 32
             · subst h32
               go_wp2_with fail
               exact ⟨⟨j + 1, t, by go_num, by omega, h.out.drop.drop.drop.drop, hB.out, ok1.out, h01.out⟩, by simp [intOf]; omega⟩
             by_cases h64 : op_ = 64
             · subst h64
               go_wp2_with fail
               exact ⟨⟨j + 1, t, by go_num, by omega, h.out.drop.drop.drop.drop, hB.out, ok1.out, h01.out⟩, by simp [intOf]; omega⟩
             have o1 : (op_ == 31) = false := by simpa using h31
             have o2 : (op_ == 32) = false := by simpa using h32
             have o3 : (op_ == 64) = false := by simpa using h64
             have hHad : Hz (∀ k, k < 16 → (t.at_.regs k).g = true → Had s.at_.regs ⟨codeBase kc_, codeBase kc_ + (nc : Nat) * 8, codeBase kc_, 16, 0⟩ (t.at_.regs k).c) := Hz.mk (hHad0.out h31 h32 h64)
             replace h31 := Hz.mk h31
             replace h32 := Hz.mk h32
             replace h64 := Hz.mk h64
             clear hHad0
             go_wp2_with fail
             go_loopw [25] (fun i wr => ∃ k : Nat, i = .int .i64 k ∧ k ≤ 16 ∧ MIn B wr a P t [boxOb kz #[.int .u64 (codeBase kc_), .int .u64 (codeBase kc_ + (nc : Nat) * 8), .int .u64 (codeBase kc_), .int .u8 16, .int .i64 0], boxOb kt (snR t).toArray, boxOb ko #[.int .i64 t.over.e, .int .u64 t.over.v, .int .i64 t.over.f, .int .i64 t.at_.gate, .int .i64 t.at_.pc], boxOb ks (snR s).toArray] ∧ Below B W3 wr) (fun i _ => 16 - (intOf i).toNat)
             case atStart => exact ⟨0, rfl, Nat.zero_le _, h.out, hB.out⟩
             case round =>
               clear h hB
               obtain ⟨k, rfl, hk, h, hB⟩ := hrel
               by_cases hkl : k < 16
               · have kl : (k : Int) < 16 := by omega
                 have at_ := h.there (boxOb kt (snR t).toArray) (by simp)
                 have hrg := sn_reg at_ k hkl
                 have lt_ := at_.1
                 obtain ⟨v, hv⟩ : ∃ v, t.at_.regs k = v := ⟨_, rfl⟩
                 rw [hv] at hrg
                 have c0 : wr.cell? ⟨kt, 3 + k * 7, none⟩ = some (.bool v.g) := hrg 0 _ rfl
                 have hH := Hz.mk (hHad.out k hkl)
                 rw [hv] at hH
                 replace h := Hz.mk h
                 replace hB := Hz.mk hB
                 clear at_
                 cases hg : v.g with
                 | false =>
                   rw [hg] at c0
                   clear hrg
                   go_wp2_with fail
                   exact ⟨⟨k + 1, by go_num, by omega, h.out, hB.out⟩, by simp [intOf]; omega⟩
                 | true =>
                   rw [hg] at c0
                   have hHd := Hz.mk (fun X => had_any v.c ⟨codeBase kc_, codeBase kc_ + (nc : Nat) * 8, codeBase kc_, 16, 0⟩ s.at_.regs X (hH.out hg))
                   have KS : Hz (∀ X, Bl wr X → X.rangeAt kt (3 + k * 7 + 2) [.int .u64 v.c.b, .int .u64 v.c.e, .int .u64 v.c.c, .int .u8 v.c.p, .int .i64 v.c.s] ∧ X.rangeAt ks 3 (rgR s.at_.regs) ∧ X.rangeAt kz 0 #[.int .u64 (codeBase kc_), .int .u64 (codeBase kc_ + (nc : Nat) * 8), .int .u64 (codeBase kc_), .int .u8 16, .int .i64 0].toList) := Hz.mk (fun X q => by
                     have h3 := (h.out.bl q).1
                     have a1 := sn_reg (h3.there (boxOb kt (snR t).toArray) (by simp)) k hkl
                     rw [hv] at a1
                     refine ⟨fun j u z => ?_, sn_regs (h3.there (boxOb ks (snR s).toArray) (by simp)), fun j u z => ?_⟩
                     · have hj : j < 5 := (List.getElem?_eq_some_iff.1 z).1
                       rw [show 3 + k * 7 + 2 + j = 3 + k * 7 + (2 + j) by omega]
                       refine a1 (2 + j) u ?_
                       rw [← z]
                       match j, hj with
                       | 0, _ => rfl
                       | 1, _ => rfl
                       | 2, _ => rfl
                       | 3, _ => rfl
                       | 4, _ => rfl
                     · rw [Nat.zero_add, (h3.there (boxOb kz #[.int .u64 (codeBase kc_), .int .u64 (codeBase kc_ + (nc : Nat) * 8), .int .u64 (codeBase kc_), .int .u8 16, .int .i64 0]) (by simp)).2.1 j]
                       simpa using z)
                   have gD := Hz.mk ((Bl.refl wr).drew)
                   replace hv := Hz.mk hv
                   replace hg := Hz.mk hg
                   clear hrg hH
                   go_upto_region 34 with fail
                   clear c0 lt_
                   refine wp_region_held_drew (S := (fun X => X.rangeAt kt (3 + k * 7 + 2) [.int .u64 v.c.b, .int .u64 v.c.e, .int .u64 v.c.c, .int .u8 v.c.p, .int .i64 v.c.s] ∧ X.rangeAt ks 3 (rgR s.at_.regs) ∧ X.rangeAt kz 0 #[.int .u64 (codeBase kc_), .int .u64 (codeBase kc_ + (nc : Nat) * 8), .int .u64 (codeBase kc_), .int .u8 16, .int .i64 0].toList)) (by kernel_rfl) (KS.out _ gD.out) (fun hHeld => ?_)
                   refine xso 0 ?_ rfl ?_ (xso 1 ?_ rfl ?_ (xso 2 ?_ rfl ?_ (xso 3 ?_ rfl ?_ ?_)))
                   iterate 4 (rotate_left; focus ((try simp only [xap]); intro w hSw; (try dsimp only at hSw); go_simp; first | done | with_reducible rfl))
                   try simp only [xap]
                   refine xtk 4 rfl (yieldsIf_load_mid (by rfl) _ _ rfl _ _ rfl _ _ (fun _ h => h.1) Tryz.underlying35 rfl (by kernel_rfl)) ?_
                   try simp only [xap]
                   refine xso 5 ?_ rfl ?_ ?_
                   rotate_left
                   · intro w hSw; (try dsimp only at hSw); go_simp; first | done | with_reducible rfl
                   try simp only [xap]
                   refine xtk 6 rfl (yieldsIf_load_mid (by rfl) _ _ rfl _ _ rfl _ _ (fun _ h => h.2.1) Tryz.underlying38 rfl (by rw [rgR_len]; kernel_rfl)) ?_
                   try simp only [xap]
                   refine xtk 7 rfl (yieldsIf_load_mid (by rfl) _ _ rfl _ _ rfl _ _ (fun _ h => h.2.2) Tryz.underlying35 rfl (by kernel_rfl)) ?_
                   try simp only [xap]
                   refine xrd 8 rfl (fun K hK => ?_)
                   go_simp
                   clear hHeld
                   refine (hHd.out _).mono ?_
                   rintro r X9 ⟨rfl, e1⟩
                   refine hK.out _ _ (KS.out _ (gD.out.trans e1)) (fun hHeld => ?_)
                   clear hK K
                   try simp only [xap]
                   refine xso 9 ?_ rfl ?_ ?_
                   rotate_left
                   · intro w hSw; (try dsimp only at hSw); go_simp; first | done | with_reducible rfl
                   try simp only [xap]
                   refine xdn ?_ _
                   clear hHeld KS
                   have gE := Hz.mk (gD.out.trans e1)
                   clear e1 gD
                   replace hB := Hz.mk (hB.out.trans (h.out.bl gE.out).2)
                   replace h := Hz.mk (h.out.bl gE.out).1
                   clear gE
                   go_wp2_with fail
                   exact ⟨⟨k + 1, by go_num, by omega, h.out, hB.out⟩, by simp [intOf]; omega⟩
               · have kl : ¬ (k : Int) < 16 := by omega
                 replace h := Hz.mk h
                 replace hB := Hz.mk hB
                 go_wp2_with fail
                 exact ⟨⟨j + 1, t, by go_num, by omega, h.out.drop.drop.drop.drop, hB.out, ok1.out, h01.out⟩, by simp [intOf]; omega⟩
   · have jl : ¬ (j : Int) < 300 := by omega
     replace ok := Hz.mk ok
     replace h0 := Hz.mk h0
     go_wp2_with fail
     go_ret
     exact ⟨rfl, hfin.out _ hB.out⟩
theorem walk_TopStep (m : PImg) (gate : Int) (A I : List Nat) (ra ca ga aa ia : Option Addr) (rc cc gc ac ic : Nat) (w : World) (ht : TabIn w) (hm : ImgIn w.heap.size w ra ca ga m) (hr : m.Rng) (hg : -9223372036854775808 ≤ gate ∧ gate < 9223372036854775808) (hA : NumIn w aa A) (hI : InS w ia I ic) (hAb : ∀ x ∈ A, x < 18446744073709551616) (hIb : ∀ x ∈ I, x < 18446744073709551616) (hil : I.length ≤ 2000000) : Calls Tryz.prog 3 #[.agg #[.slice ra m.regs.length rc, .slice ca m.comps.length cc, .slice ga m.gates.length gc, .int .i64 m.depth], .int .i64 gate, .slice aa A.length ac, .slice ia I.length ic] w fun x w' => x = .returned (.bool true) ∧ Below w.heap.size w w' := by
 by_cases hrt : m.right = 0
 · have hth := th_of m hrt hr
   have hP : POk (bare m) := pok_of m hrt hr
   obtain ⟨g, hgl, hPk⟩ := pick_any gate m.gates.length hth.ne hg
   cases hent : isEnt m g
   · exact top_nil m gate A I ra ca ga aa ia rc cc gc ac ic w ht (fun X q => tbeg_shut m gate g A I ra ca ga aa ia rc cc gc ac ic X (TabIn.bl ht q) ((hm.below q).mono q.size) hr (hA.bl q) hrt hgl hPk hent)
   · have hal : m.gates[g].args.length ≤ 7 := (hP.gates _ hgl).2.2.2.2.1
     exact top_some m gate g A I ra ca ga aa ia rc cc gc ac ic w ht hm hr.comps.1 (bare m) rfl _ hP (start_ok hrt hr hgl (ents_lt A _ hAb (by omega)) hIb hil) rfl (fun X q => tbeg_ok m gate g A I ra ca ga aa ia rc cc gc ac ic X (TabIn.bl ht q) ((hm.below q).mono q.size) hr (hA.bl q) (hI.bl q) hil hrt hgl hPk hent)
 · exact top_nil m gate A I ra ca ga aa ia rc cc gc ac ic w ht (fun X q => tbeg_wrong m gate A I ra ca ga aa ia rc cc gc ac ic X (TabIn.bl ht q) ((hm.below q).mono q.size) hr hrt)
end C
end Go.Proofs.YtiigpncfmakgjaaGreatDoor
