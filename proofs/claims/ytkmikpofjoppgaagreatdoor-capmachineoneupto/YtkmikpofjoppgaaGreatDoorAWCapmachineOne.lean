import Derived.Test.YtkmikpofjoppgaaGreatDoorP44
namespace Go.Proofs.YtkmikpofjoppgaaGreatDoor
set_option maxRecDepth 100000
set_option maxHeartbeats 40000000
namespace C
open Go.RowKit
open T (Sep Ob Kp Mf TgIn boxOb Fm Tc Ed Vl Cp Bx tgOb mRow updV flt regRow regRow_at regRow_len Vl.row_len)

theorem one_nil (m : PImg) (gate : Int) (A I : List Nat) (ra ca ga aa ia : Option Addr) (rc cc gc ac ic : Nat) (w : World) (ht : TabIn w) (hBg : ∀ X, Bl w X → Calls Tryz.prog 13 #[.agg #[.slice ra m.regs.length rc, .slice ca m.comps.length cc, .slice ga m.gates.length gc, .int .i64 m.depth], .int .i64 gate, .slice aa A.length ac, .slice ia I.length ic] X fun x w' => x = .returned (.pointer none) ∧ Bl X w') : Calls Tryz.prog 4 #[.agg #[.slice ra m.regs.length rc, .slice ca m.comps.length cc, .slice ga m.gates.length gc, .int .i64 m.depth], .int .i64 gate, .slice aa A.length ac, .slice ia I.length ic] w fun x w' => x = .returned (.bool true) ∧ Below w.heap.size w w' := by
 go_enter Tryz.func4, Tryz.ntmps4
 go_upto_region 1 with fail
 refine wp_world (fun W => At W w.heap.size #[.slice ra m.regs.length rc, .slice ca m.comps.length cc, .slice ga m.gates.length gc, .int .i64 m.depth] ∧ Bl w W) ⟨At.new w _ _, (Bl.refl _).alloc _⟩ ?_
 rintro W ⟨A0, g0⟩
 have hEx := Hz.mk (examples_any W (TabIn.bl ht g0))
 replace A0 := Hz.mk A0
 replace g0 := Hz.mk g0
 obtain ⟨k0, hk0⟩ : ∃ k0, w.heap.size = k0 := ⟨_, rfl⟩
 rw [hk0] at A0 ⊢
 replace hk0 := Hz.mk hk0
 go_wp2_with fail
 refine hEx.out.mono ?_
 rintro r W2 ⟨rfl, e1⟩
 replace g0 := Hz.mk (Bl.trans g0.out e1)
 replace A0 := Hz.mk (Bl.at_ e1 A0.out)
 clear e1 hEx
 have ⟨l0, p0, _⟩ := A0.out
 go_wp2_with fail
 refine (hBg _ g0.out).mono ?_
 rintro r W3 ⟨rfl, e1⟩
 replace g0 := Hz.mk (Bl.trans g0.out e1)
 clear p0 l0 A0 e1
 go_wp2_with fail
 go_ret
 exact ⟨rfl, g0.out⟩
theorem snR_reg (s : Ms) (k j : Nat) (hk : k < 16) (hj : j < 7) : (snR s)[3 + k * 7 + j]? = (s.at_.regs k).row[j]? := by
 unfold snR
 rw [show 3 + k * 7 + j = (k * 7 + j) + 1 + 1 + 1 by omega, List.getElem?_cons_succ, List.getElem?_cons_succ, List.getElem?_cons_succ, regRow_at _ 16 _ (by omega), show (k * 7 + j) / 7 = k by omega, show (k * 7 + j) % 7 = j by omega]
theorem sn_at {W : World} {k : Nat} {s : Ms} (h : At W k (snR s).toArray) : W.cell? ⟨k, 0, none⟩ = some (.int .i64 s.at_.gate) ∧ W.cell? ⟨k, 1, none⟩ = some (.int .i64 s.at_.pc) ∧ ∀ r, r < 16 → ∀ j, j < 7 → W.cell? ⟨k, 3 + r * 7 + j, none⟩ = (s.at_.regs r).row[j]? := by
 refine ⟨h.2.1 0, h.2.1 1, fun r hr j hj => ?_⟩
 rw [h.2.1, List.getElem?_toArray, snR_reg s r j hr hj]
theorem one_some (m : PImg) (gate : Int) (A I : List Nat) (ra ca ga aa ia : Option Addr) (rc cc gc ac ic : Nat) (w : World) (ht : TabIn w) (hm : ImgIn w.heap.size w ra ca ga m) (P : PImg) (hPm : P = bare m) (s0 : Ms) (hP : POk P) (ok0 : Okm P 0 s0) (h00 : s0.over.e = 0) (hBg : ∀ X, Bl w X → Calls Tryz.prog 13 #[.agg #[.slice ra m.regs.length rc, .slice ca m.comps.length cc, .slice ga m.gates.length gc, .int .i64 m.depth], .int .i64 gate, .slice aa A.length ac, .slice ia I.length ic] X fun x w' => ∃ a B, x = .returned (.pointer (some ⟨a, 0, none⟩)) ∧ MIn B w' a P s0 [] ∧ X.heap.size ≤ B ∧ Bl X w') : Calls Tryz.prog 4 #[.agg #[.slice ra m.regs.length rc, .slice ca m.comps.length cc, .slice ga m.gates.length gc, .int .i64 m.depth], .int .i64 gate, .slice aa A.length ac, .slice ia I.length ic] w fun x w' => x = .returned (.bool true) ∧ Below w.heap.size w w' := by
 go_enter Tryz.func4, Tryz.ntmps4
 go_upto_region 1 with fail
 refine wp_world (fun W => At W w.heap.size #[.slice ra m.regs.length rc, .slice ca m.comps.length cc, .slice ga m.gates.length gc, .int .i64 m.depth] ∧ Bl w W) ⟨At.new w _ _, (Bl.refl _).alloc _⟩ ?_
 rintro W ⟨A0, g0⟩
 have hEx := Hz.mk (examples_any W (TabIn.bl ht g0))
 replace A0 := Hz.mk A0
 replace g0 := Hz.mk g0
 obtain ⟨k0, hk0⟩ : ∃ k0, w.heap.size = k0 := ⟨_, rfl⟩
 rw [hk0] at A0 ⊢
 replace hk0 := Hz.mk hk0
 go_wp2_with fail
 refine hEx.out.mono ?_
 rintro r W2 ⟨rfl, e1⟩
 replace g0 := Hz.mk (Bl.trans g0.out e1)
 replace A0 := Hz.mk (Bl.at_ e1 A0.out)
 clear e1 hEx
 have ⟨l0, p0, _⟩ := A0.out
 go_wp2_with fail
 refine (hBg _ g0.out).mono ?_
 rintro r W3 ⟨a, B, rfl, hM, hBk, e1⟩
 replace g0 := Hz.mk (Bl.trans g0.out e1)
 have hkB : k0 < B := Nat.lt_of_lt_of_le l0 hBk
 have hwB : w.heap.size ≤ B := by rw [hk0.out]; omega
 replace A0 := Hz.mk (Bl.at_ e1 A0.out)
 have hA0 : Hz (∀ X, Below B W3 X → At X k0 #[.slice ra m.regs.length rc, .slice ca m.comps.length cc, .slice ga m.gates.length gc, .int .i64 m.depth]) := Hz.mk (fun X q => T.at_below A0.out q hkB)
 have hI0 : Hz (∀ X, Below B W3 X → ImgIn X.heap.size X ra ca ga m) := Hz.mk (fun X q => (hm.below (Below.trans g0.out (Below.mono q hwB))).mono (Below.trans g0.out (Below.mono q hwB)).size)
 have hI1 : Hz (ImgIn w.heap.size W3 ra ca ga m) := Hz.mk (hm.below g0.out)
 have hfin : Hz (∀ X, Below B W3 X → Below w.heap.size w X) := Hz.mk (fun X q => Below.trans g0.out (Below.mono q hwB))
 clear p0 l0 e1 hBk hm
 have hs0 : Hz (Okm P 0 s0 ∧ s0.over.e = 0) := Hz.mk ⟨ok0, h00⟩
 have hMs := Hz.mk hM
 have hlt := hM.alt
 clear ok0 h00 hM
 replace hP := Hz.mk hP
 go_wp2_with fail
 go_loopw [11] (fun i wr => ∃ (j : Nat) (s : Ms), i = .int .i64 j ∧ j ≤ 300 ∧ MIn B wr a P s [] ∧ Below B W3 wr ∧ Okm P j s ∧ s.over.e = 0) (fun i _ => 300 - (intOf i).toNat)
 case atStart => exact ⟨0, s0, rfl, by omega, hMs.out, Below.refl _ _, hs0.out⟩
 case round =>
   clear hMs hs0
   obtain ⟨j, s, rfl, hj, h, hB, ok, h0⟩ := hrel
   replace h := Hz.mk h
   replace hB := Hz.mk hB
   by_cases hjl : j < 300
   · have jl : (j : Int) < 300 := by omega
     have hSt := Hz.mk (fun X l' (q : MIn B X a P s l') => step_any B X a P s l' j hP.out q ok (by omega))
     go_upto_region 8 with fail
     refine wp_region_lit ?_
     refine wpList_plain rfl (fun K hK => ?_)
     go_simp
     with_reducible refine hK _ _ ?_
     clear hK K
     try simp only [xap]
     refine wpList_plain rfl (fun K hK => ?_)
     go_simp
     (refine (snap_any B a P s [] _ h.out).mono ?_; rintro r Y1 ⟨rfl, e1⟩; replace hB := Hz.mk (hB.out.trans (h.out.bl e1).2); replace h := Hz.mk (h.out.bl e1).1; clear e1; have hA7 : At (Y1.alloc (.cells (snR zS).toArray 38)) Y1.heap.size (snR zS).toArray := At.new Y1 _ _; have hth := Hz.mk (At.there hA7 0 115 (by rw [snR_len]; decide)); have hA8 := Hz.mk (At.setAll hA7 (snR s) (by rw [snR_len, snR_len])); have g9 := Hz.mk (((Bl.refl Y1).alloc (.cells (snR zS).toArray 38)).sets Y1.heap.size (Nat.le_refl _) (snR s) 0); replace hA7 := Hz.mk hA7)
     with_reducible refine hK _ _ ?_
     clear hK K
     try simp only [xap]
     refine wpList_plain rfl (fun K hK => ?_)
     refine wp_alloc_sn rfl (hK _ _ ?_)
     clear hK K
     try simp only [xap]
     refine wpList_store_mid rfl _ _ _ rfl _ _ (List.toArray (snR s)) rfl rfl (show World.there _ _ _ _ by rw [show (snR s).toArray.size = 115 from snR_len s]; exact hth.out) (by rw [List.size_toArray, snR_len]; kernel_rfl) (snR_one s) ?_
     try simp only [Act.put]
     clear hth hA7
     have h9 := Hz.mk (h.out.add (boxOb Y1.heap.size (snR s).toArray) hA8.out (fun k q => by have : k = Y1.heap.size := q; omega) g9.out)
     replace hB := Hz.mk (hB.out.trans (Below.mono g9.out h.out.le))
     replace h := h9
     clear h9 g9 hA8
     generalize World.setCells _ _ _ _ = X1 at *
     generalize Y1.heap.size = ks at *
     cases hq : stepM P s with
     | error e =>
       have hs1 : stepsM P 1 s = s.ended e := stepsM_err h0 hq
       rw [hs1] at hSt
       have he : (e.e != 0) = true := bne_iff_ne.2 (step_err hq)
       have hoe : (s.ended e).over.e = e.e := rfl
       generalize s.ended e = s1 at *
       simp only [tl] at hSt
       rw [hoe] at hSt
       replace ok := Hz.mk ok
       replace h0 := Hz.mk h0
       clear hq hs1 hoe
       go_wp2_with fail
       refine (hSt.out _ _ h.out).mono ?_
       rintro r Y2 ⟨rfl, h6, hB6⟩
       replace hB := Hz.mk (hB.out.trans hB6)
       replace h := Hz.mk h6
       clear h6 hB6 hSt
       go_wp2_with fail
       go_ret
       exact ⟨rfl, hfin.out _ (hB.out.trans (Below.mono ((Below.refl _ _).alloc (Nat.le_refl _) _) h.out.le))⟩
     | ok s1 =>
       have hs1 : stepsM P 1 s = s1 := stepsM_ok h0 hq
       rw [hs1] at hSt
       have h01 : Hz (s1.over.e = 0) := Hz.mk (by rw [step_over hq]; exact h0)
       have ok1 := Hz.mk (okm_step hP.out ok hq)
       simp only [tl] at hSt
       have hSt2 := hSt
       rw [h01.out] at hSt2
       clear hs1 hSt
       have hgs := ok.f.g
       have hg1 := ok1.out.f.g
       obtain ⟨i, hi⟩ : ∃ i, (codeOf P (kOf P s.at_.gate))[s.at_.pc]? = some i := by
         unfold stepM at hq
         split at hq
         · cases hq
         · rename_i i hi; exact ⟨i, hi⟩
       have hgm : s.at_.gate < m.gates.length := by rw [hPm] at hgs; exact hgs
       have hgm1 : s1.at_.gate < m.gates.length := by rw [hPm] at hg1; exact hg1
       obtain ⟨hkl, hkc, -, -⟩ := hP.out.kl _ hgs
       have hkm : kOf P s.at_.gate < m.comps.length := by rw [hPm] at hkl ⊢; exact hkl
       have hgc : m.gates[s.at_.gate].c = ((kOf P s.at_.gate : Nat) : Int) := by subst hPm; exact hkc
       have hcoe : codeOf P (kOf P s.at_.gate) = m.comps[kOf P s.at_.gate].code := by subst hPm; exact codeOf_at (bare m) _ hkl
       obtain ⟨hpl, hie⟩ := List.getElem?_eq_some_iff.1 hi
       have hio := (hP.out.code _).2 i (List.mem_of_getElem? hi)
       have hAl0 := Hz.mk (fun h1 h2 => step_alone hi h1 h2 hq)
       rw [hcoe] at hpl
       replace hio := Hz.mk hio
       replace hi := Hz.mk hi
       obtain ⟨ia_, hia⟩ : ∃ n : Nat, i.a = n := ⟨i.a.toNat, by have := hio.out.ra; omega⟩
       have hia2 : i.a.toNat = ia_ := by omega
       have hie2 : m.comps[kOf P s.at_.gate].code[s.at_.pc] = i := by
         have := hi.out
         rw [hcoe, List.getElem?_eq_getElem hpl] at this
         injection this
       clear hq hkc hkl hgs hg1 hie
       replace ok := Hz.mk ok
       replace h0 := Hz.mk h0
       go_wp2_with fail
       refine (hSt2.out _ _ h.out).mono ?_
       rintro r Y2 ⟨rfl, h6, hB6⟩
       replace hB := Hz.mk (hB.out.trans hB6)
       replace h := Hz.mk h6
       clear h6 hB6 hSt2
       have h9 := Hz.mk (h.out.new #[.int .i64 0, .int .u64 s1.over.v, .int .i64 s1.over.f, .int .i64 s1.at_.gate, .int .i64 s1.at_.pc] 28)
       go_upto_region 12 with fail
       refine wp_world (fun X => MIn B X a P s1 (boxOb Y2.heap.size #[.int .i64 0, .int .u64 s1.over.v, .int .i64 s1.over.f, .int .i64 s1.at_.gate, .int .i64 s1.at_.pc] :: [boxOb ks (snR s).toArray]) ∧ Below B W3 X) ⟨h9.out.1, hB.out.trans h9.out.2⟩ ?_
       clear h9 h hB
       rintro X2 ⟨h, hB⟩
       replace h := Hz.mk h
       replace hB := Hz.mk hB
       generalize Y2.heap.size = ko at *
       refine wp_region_lit ?_
       refine wpList_plain rfl (fun K hK => ?_)
       go_simp
       with_reducible refine hK _ _ ?_
       clear hK K
       try simp only [xap]
       refine wpList_plain rfl (fun K hK => ?_)
       go_simp
       (refine (snap_any B a P s1 _ _ h.out).mono ?_; rintro r Y3 ⟨rfl, e1⟩; replace hB := Hz.mk (hB.out.trans (h.out.bl e1).2); replace h := Hz.mk (h.out.bl e1).1; clear e1; have hA7 : At (Y3.alloc (.cells (snR zS).toArray 38)) Y3.heap.size (snR zS).toArray := At.new Y3 _ _; have hth := Hz.mk (At.there hA7 0 115 (by rw [snR_len]; decide)); have hA8 := Hz.mk (At.setAll hA7 (snR s1) (by rw [snR_len, snR_len])); have g9 := Hz.mk (((Bl.refl Y3).alloc (.cells (snR zS).toArray 38)).sets Y3.heap.size (Nat.le_refl _) (snR s1) 0); replace hA7 := Hz.mk hA7)
       with_reducible refine hK _ _ ?_
       clear hK K
       try simp only [xap]
       refine wpList_plain rfl (fun K hK => ?_)
       refine wp_alloc_sn rfl (hK _ _ ?_)
       clear hK K
       try simp only [xap]
       refine wpList_store_mid rfl _ _ _ rfl _ _ (List.toArray (snR s1)) rfl rfl (show World.there _ _ _ _ by rw [show (snR s1).toArray.size = 115 from snR_len s1]; exact hth.out) (by rw [List.size_toArray, snR_len]; kernel_rfl) (snR_one s1) ?_
       try simp only [Act.put]
       clear hth hA7
       have h9 := Hz.mk (h.out.add (boxOb Y3.heap.size (snR s1).toArray) hA8.out (fun k q => by have : k = Y3.heap.size := q; omega) g9.out)
       replace hB := Hz.mk (hB.out.trans (Below.mono g9.out h.out.le))
       replace h := h9
       clear h9 g9 hA8
       generalize World.setCells _ _ _ _ = X3 at *
       generalize Y3.heap.size = kt at *
       obtain ⟨gb, goff, xa, xc, ya, yc, ega, hgb, -, cg0, -, -, -, -, -⟩ := hI1.out.gates s.at_.gate hgm
       obtain ⟨cb, coff, sa, sc, ka, kc, eca, hcb, -, -, cc1, -, hlin⟩ := hI1.out.comps (kOf P s.at_.gate) hkm
       obtain ⟨ib, ioff, eka, hib, -, hfive⟩ := hlin s.at_.pc hpl
       rw [hgc] at cg0
       rw [hie2] at hfive
       obtain ⟨f0, f1, -, -, -⟩ := hfive
       have hcode : Hz (∀ X, Below B W3 X → X.cell? ⟨ib, ioff + s.at_.pc * 5 + 1, none⟩ = some (.int .i64 (ia_ : Nat))) := Hz.mk (fun X q => (q.cell (p := ⟨ib, _, none⟩) (Nat.lt_of_lt_of_le hib hwB)).trans (f1.trans (by rw [hia])))
       have hcop : Hz (∀ X, Below B W3 X → X.cell? ⟨ib, ioff + s.at_.pc * 5, none⟩ = some (.int .u8 i.op)) := Hz.mk (fun X q => (q.cell (p := ⟨ib, _, none⟩) (Nat.lt_of_lt_of_le hib hwB)).trans f0)
       have hlib : ∀ X, Below B W3 X → ib < X.heap.size := fun X q => Nat.lt_of_lt_of_le (Nat.lt_of_lt_of_le hib g0.out.size) q.size
       replace hlib := Hz.mk hlib
       rw [eka] at cc1
       subst eca ega
       have cgX : Hz (∀ X, Below B W3 X → X.cell? ⟨gb, goff + s.at_.gate * 4, none⟩ = some (.int .i64 ((kOf P s.at_.gate : Nat) : Int)) ∧ X.cell? ⟨cb, coff + kOf P s.at_.gate * 2 + 1, none⟩ = some (.slice (some ⟨ib, ioff, none⟩) m.comps[kOf P s.at_.gate].code.length kc)) := Hz.mk (fun X q => ⟨(q.cell (p := ⟨gb, _, none⟩) (Nat.lt_of_lt_of_le hgb hwB)).trans cg0, (q.cell (p := ⟨cb, _, none⟩) (Nat.lt_of_lt_of_le hcb hwB)).trans cc1⟩)
       clear cg0 cc1 f0 f1 hlin
       have hA3 := hA0.out X3 hB.out
       have b1 := hA3.2.1 1
       have b2 := hA3.2.1 2
       replace b1 : X3.cell? ⟨k0, 1, none⟩ = some (.slice (some ⟨cb, coff, none⟩) m.comps.length cc) := b1
       replace b2 : X3.cell? ⟨k0, 2, none⟩ = some (.slice (some ⟨gb, goff, none⟩) m.gates.length gc) := b2
       have l0 := hA3.1
       have ats := sn_at (h.out.there (boxOb ks (snR s).toArray) (.tail _ (.tail _ (.head _))))
       have att := sn_at (h.out.there (boxOb kt (snR s1).toArray) (.head _))
       have lks := (h.out.there (boxOb ks (snR s).toArray) (.tail _ (.tail _ (.head _)))).1
       have lkt := (h.out.there (boxOb kt (snR s1).toArray) (.head _)).1
       obtain ⟨s0_, s1_, -⟩ := ats
       obtain ⟨t0_, -, -⟩ := att
       have gi1 : (s.at_.gate : Int) < m.gates.length := by omega
       have gi2 : ¬ (m.gates.length : Int) ≤ (s.at_.gate : Int) := by omega
       have gi3 : ¬ (m.gates.length : Int) ≤ (s1.at_.gate : Int) := by omega
       have gi4 : (kOf P s.at_.gate : Int) < m.comps.length := by omega
       have gi5 : (s.at_.pc : Int) < m.comps[kOf P s.at_.gate].code.length := by omega
       have gi6 : ¬ (m.comps[kOf P s.at_.gate].code.length : Int) ≤ (s.at_.pc : Int) := by omega
       clear hie2 hpl hi hio hcoe hgc eka hPm hgm hgm1
       replace hia := Hz.mk hia
       replace hia2 := Hz.mk hia2
       try clear hpl
       generalize m.comps[kOf P s.at_.gate].code.length = nc at *
       clear hkm
       generalize kOf P s.at_.gate = kc_ at *
       go_upto_region 15 with fail
       replace hB := Hz.mk (hB.out.trans (h.out.bl (Bl.refl X3).drew).2)
       replace h := Hz.mk (h.out.bl (Bl.refl X3).drew).1
       obtain ⟨cg0, cc1⟩ := cgX.out X3.drew hB.out
       have hA4 := hA0.out X3.drew hB.out
       have d1_ : X3.drew.cell? ⟨k0, 1, none⟩ = some (.slice (some ⟨cb, coff, none⟩) m.comps.length cc) := hA4.2.1 1
       have d2_ : X3.drew.cell? ⟨k0, 2, none⟩ = some (.slice (some ⟨gb, goff, none⟩) m.gates.length gc) := hA4.2.1 2
       obtain ⟨s0_, s1_, -⟩ := sn_at (h.out.there (boxOb ks (snR s).toArray) (.tail _ (.tail _ (.head _))))
       have hS15 := And.intro d1_ (And.intro d2_ (And.intro s0_ (And.intro cg0 cc1)))
       clear d1_ d2_ s0_ s1_ cg0 cc1 b1 b2 hA3 hA4
       refine wp_region_held_drew (S := (fun X => X.cell? ⟨k0, 1, none⟩ = some (.slice (some ⟨cb, coff, none⟩) m.comps.length cc) ∧ X.cell? ⟨k0, 2, none⟩ = some (.slice (some ⟨gb, goff, none⟩) m.gates.length gc) ∧ X.cell? ⟨ks, 0, none⟩ = some (.int .i64 s.at_.gate) ∧ X.cell? ⟨gb, goff + s.at_.gate * 4, none⟩ = some (.int .i64 (kc_ : Nat)) ∧ X.cell? ⟨cb, coff + kc_ * 2 + 1, none⟩ = some (.slice (some ⟨ib, ioff, none⟩) nc kc))) (by kernel_rfl) (hS15) (fun hHeld => ?_)
       refine xso 0 ?_ rfl ?_ (xso 1 ?_ rfl ?_ (xso 2 ?_ rfl ?_ (xso 3 ?_ rfl ?_ (xso 4 ?_ rfl ?_ (xso 5 ?_ rfl ?_ (xso 6 ?_ rfl ?_ (xso 7 ?_ rfl ?_ (xso 8 ?_ rfl ?_ (xso 9 ?_ rfl ?_ (xso 10 ?_ rfl ?_ (xso 11 ?_ rfl ?_ (xso 12 ?_ rfl ?_ ?_))))))))))))
       iterate 13 (rotate_left; focus ((try simp only [xap]); intro w hSw; (try dsimp only at hSw); go_simp; first | done | with_reducible rfl))
       try simp only [xap]
       refine xdn ?_ _
       clear hHeld
       generalize X3.drew = X4 at *
       clear hS15 cgX gi1 gi2 gi3 gi4 hib hcb hgb
       have o0_ := hcop.out X4 hB.out
       obtain ⟨s0_, s1_, -⟩ := sn_at (h.out.there (boxOb ks (snR s).toArray) (.tail _ (.tail _ (.head _))))
       have lks := (h.out.there (boxOb ks (snR s).toArray) (.tail _ (.tail _ (.head _)))).1
       have lib := hlib.out X4 hB.out
       generalize hio_ : i.op = op_ at *
       replace hio_ := Hz.mk hio_
       clear s0_ t0_ lkt
       go_upto_region 19 with fail
       have gi7 : s.at_.pc < nc := by omega
       clear o0_ s1_ lks lib l0
       by_cases h31 : op_ = 31
       · subst h31
         go_wp2_with fail
         exact ⟨⟨j + 1, s1, by go_num, by omega, h.out.drop.drop.drop, hB.out, ok1.out, h01.out⟩, by simp [intOf]; omega⟩
       by_cases h32 : op_ = 32
       · subst h32
         go_wp2_with fail
         exact ⟨⟨j + 1, s1, by go_num, by omega, h.out.drop.drop.drop, hB.out, ok1.out, h01.out⟩, by simp [intOf]; omega⟩
       · have hop1 : (op_ == 31) = false := by simpa using h31
         have hop2 : (op_ == 32) = false := by simpa using h32
         have hAl : Hz (Alone s s1 ia_) := Hz.mk (by rw [← hia2.out]; exact hAl0.out h31 (fun _ _ => h32))
         replace h31 := Hz.mk h31
         replace h32 := Hz.mk h32
         go_wp2_with fail
         clear hop1 hop2
         go_loopw [17] (fun i wr => ∃ k : Nat, i = .int .i64 k ∧ k ≤ 16 ∧ MIn B wr a P s1 [boxOb kt (snR s1).toArray, boxOb ko #[.int .i64 0, .int .u64 s1.over.v, .int .i64 s1.over.f, .int .i64 s1.at_.gate, .int .i64 s1.at_.pc], boxOb ks (snR s).toArray] ∧ Below B W3 wr) (fun i _ => 16 - (intOf i).toNat)
         case atStart => exact ⟨0, rfl, Nat.zero_le _, h.out, hB.out⟩
         case round =>
           clear h hB
           obtain ⟨k, rfl, hk, h, hB⟩ := hrel
           by_cases hkl : k < 16
           · have kl : (k : Int) < 16 := by omega
             have at_ := sn_at (h.there (boxOb kt (snR s1).toArray) (.head _))
             have hq := at_.2.2 k hkl
             have lt_ : kt < wr.heap.size := (h.there (boxOb kt (snR s1).toArray) (.head _)).1
             have hvk := ok1.out.f.r k
             have hal := hAl.out.regs k
             clear at_
             replace h := Hz.mk h
             replace hB := Hz.mk hB
             by_cases hka0 : k = ia_
             · have hka : ((k : Int) != (ia_ : Int)) = false := by simp [hka0]
               replace hka0 := Hz.mk hka0
               clear hal
               cases hvg : (s1.at_.regs k).g
               · have hv : s1.at_.regs k = ⟨false, (s1.at_.regs k).n, Cp.zero⟩ := by rw [← hvk.z hvg, ← hvg]
                 generalize (s1.at_.regs k).n = n at hv
                 clear hvk hvg
                 have hrng : Hz (wr.rangeAt kt (3 + k * 7) [.bool false, .int .u64 n, .int .u64 0, .int .u64 0, .int .u64 0, .int .u8 0, .int .i64 0]) := Hz.mk (fun j u z => by
                   have hj7 : j < 7 := (List.getElem?_eq_some_iff.1 z).1
                   rw [hq j hj7, hv]
                   exact z)
                 clear hq
                 go_upto_region 23 with fail
                 refine wp_region_lit ?_
                 iterate 3 (refine wpList_plain rfl (fun K hK => ?_); go_simp; with_reducible refine hK _ _ ?_; clear hK K; (try simp only [xap]))
                 refine wpList_plain rfl (fun K hK => ?_)
                 refine wp_load_mid _ _ rfl _ (3 + k * 7) rfl [.bool false, .int .u64 n, .int .u64 0, .int .u64 0, .int .u64 0, .int .u8 0, .int .i64 0] _ hrng.out Tryz.underlying35 rfl (by kernel_rfl) (hK _ _ ?_)
                 clear hK K
                 try simp only [xap]
                 refine wpList_plain rfl (fun K hK => ?_)
                 go_simp
                 with_reducible refine hK _ _ ?_
                 clear hK K
                 try simp only [xap]
                 refine wpList_plain rfl (fun K hK => ?_)
                 go_simp
                 with_reducible refine hK _ _ ?_
                 clear hK K
                 try simp only [Act.put]
                 clear hrng
                 
                 go_upto_region 24 with fail
                 
                 have h5 := Hz.mk (h.out.new #[.bool false, .int .u64 n, .int .u64 0, .int .u64 0, .int .u64 0, .int .u8 0, .int .i64 0] 35)
                 refine wp_world (fun X => MIn B X a P s1 (boxOb wr.heap.size #[.bool false, .int .u64 n, .int .u64 0, .int .u64 0, .int .u64 0, .int .u8 0, .int .i64 0] :: [boxOb kt (snR s1).toArray, boxOb ko #[.int .i64 0, .int .u64 s1.over.v, .int .i64 s1.over.f, .int .i64 s1.at_.gate, .int .i64 s1.at_.pc], boxOb ks (snR s).toArray]) ∧ Below B W3 X) ⟨h5.out.1, hB.out.trans h5.out.2⟩ ?_
                 clear h5 h hB
                 rintro X5 ⟨h, hB⟩
                 generalize wr.heap.size = kv at *
                 have av := (h.bl (Bl.refl X5).drew).1.there (boxOb kv #[.bool false, .int .u64 n, .int .u64 0, .int .u64 0, .int .u64 0, .int .u8 0, .int .i64 0]) (.head _)
                 have as_ := sn_at ((h.bl (Bl.refl X5).drew).1.there (boxOb ks (snR s).toArray) (.tail _ (.tail _ (.tail _ (.head _)))))
                 have hS24 : X5.drew.cell? ⟨ks, 1, none⟩ = some (.int .i64 s.at_.pc) ∧ X5.drew.cell? ⟨ib, ioff + s.at_.pc * 5 + 1, none⟩ = some (.int .i64 (ia_ : Nat)) ∧ (X5.drew.cell? ⟨kv, 0, none⟩ = some (.bool false) ∧ X5.drew.cell? ⟨kv, 1, none⟩ = some (.int .u64 n) ∧ X5.drew.cell? ⟨kv, 2, none⟩ = some (.int .u64 0) ∧ X5.drew.cell? ⟨kv, 3, none⟩ = some (.int .u64 0) ∧ X5.drew.cell? ⟨kv, 4, none⟩ = some (.int .u64 0) ∧ X5.drew.cell? ⟨kv, 5, none⟩ = some (.int .u8 0) ∧ X5.drew.cell? ⟨kv, 6, none⟩ = some (.int .i64 0)) := ⟨as_.2.1, hcode.out X5.drew (hB.trans (h.bl (Bl.refl X5).drew).2), ⟨av.2.1 0, av.2.1 1, av.2.1 2, av.2.1 3, av.2.1 4, av.2.1 5, av.2.1 6⟩⟩
                 replace h := Hz.mk h
                 have h0 := h
                 replace hB := Hz.mk hB
                 clear av as_
                 refine wp_region_held_drew (S := (fun X => X.cell? ⟨ks, 1, none⟩ = some (.int .i64 s.at_.pc) ∧ X.cell? ⟨ib, ioff + s.at_.pc * 5 + 1, none⟩ = some (.int .i64 (ia_ : Nat)) ∧ (X.cell? ⟨kv, 0, none⟩ = some (.bool false) ∧ X.cell? ⟨kv, 1, none⟩ = some (.int .u64 n) ∧ X.cell? ⟨kv, 2, none⟩ = some (.int .u64 0) ∧ X.cell? ⟨kv, 3, none⟩ = some (.int .u64 0) ∧ X.cell? ⟨kv, 4, none⟩ = some (.int .u64 0) ∧ X.cell? ⟨kv, 5, none⟩ = some (.int .u8 0) ∧ X.cell? ⟨kv, 6, none⟩ = some (.int .i64 0)))) (by kernel_rfl) (hS24) (fun hHeld => ?_)
                 refine xso 0 ?_ rfl ?_ (xso 1 ?_ rfl ?_ (xso 2 ?_ rfl ?_ (xso 3 ?_ rfl ?_ (xso 4 ?_ rfl ?_ (xso 5 ?_ rfl ?_ (xso 6 ?_ rfl ?_ ?_))))))
                 iterate 7 (rotate_left; focus ((try simp only [xap]); intro w hSw; (try dsimp only at hSw); go_simp; first | done | with_reducible rfl))
                 try simp only [xap]
                 refine xtk 7 (v := .bool false) rfl (Or.inl ⟨by rfl, ?_⟩) ?_
                 · intro w hSw; (try dsimp only at hSw); simp [go_sem, hka]
                 try simp only [xap]
                 refine xso 8 ?_ rfl ?_ ?_
                 rotate_left
                 · intro w hSw; (try dsimp only at hSw); go_simp; first | done | with_reducible rfl
                 try simp only [xap]
                 refine xtk 9 (v := undef) rfl (Or.inr ⟨by rfl, rfl⟩) ?_
                 try simp only [xap]
                 refine xtk 10 (v := undef) rfl (Or.inr ⟨by rfl, rfl⟩) ?_
                 try simp only [xap]
                 refine xtk 11 (v := undef) rfl (Or.inr ⟨by rfl, rfl⟩) ?_
                 try simp only [xap]
                 refine xtk 12 (v := undef) rfl (Or.inr ⟨by rfl, rfl⟩) ?_
                 try simp only [xap]
                 refine xtk 13 (v := undef) rfl (Or.inr ⟨by rfl, rfl⟩) ?_
                 try simp only [xap]
                 refine xtk 14 (v := undef) rfl (Or.inr ⟨by rfl, rfl⟩) ?_
                 try simp only [xap]
                 refine xso 15 ?_ rfl ?_ (xso 16 ?_ rfl ?_ ?_)
                 iterate 2 (rotate_left; focus ((try simp only [xap]); intro w hSw; (try dsimp only at hSw); go_simp; first | done | with_reducible rfl))
                 try simp only [xap]
                 refine xso 17 ?_ rfl ?_ ?_
                 rotate_left
                 · intro w hSw; (try dsimp only at hSw); go_simp; first | done | with_reducible rfl
                 try simp only [xap]
                 refine xso 18 ?_ rfl ?_ ?_
                 rotate_left
                 · intro w hSw; (try dsimp only at hSw); go_simp; first | done | with_reducible rfl
                 try simp only [xap]
                 refine xso 19 ?_ rfl ?_ ?_
                 rotate_left
                 · intro w hSw; (try dsimp only at hSw); go_simp; first | done | with_reducible rfl
                 try simp only [xap]
                 refine xtk 20 (v := undef) rfl (Or.inr ⟨by rfl, rfl⟩) ?_
                 try simp only [xap]
                 refine xtk 21 (v := undef) rfl (Or.inr ⟨by rfl, rfl⟩) ?_
                 try simp only [xap]
                 refine xtk 22 (v := undef) rfl (Or.inr ⟨by rfl, rfl⟩) ?_
                 try simp only [xap]
                 refine xso 23 ?_ rfl ?_ (xso 24 ?_ rfl ?_ (xso 25 ?_ rfl ?_ ?_))
                 iterate 3 (rotate_left; focus ((try simp only [xap]); intro w hSw; (try dsimp only at hSw); go_simp; first | done | with_reducible rfl))
                 try simp only [xap]
                 refine xso 26 ?_ rfl ?_ ?_
                 rotate_left
                 · intro w hSw; (try dsimp only at hSw); go_simp; first | done | with_reducible rfl
                 try simp only [xap]
                 refine xso 27 ?_ rfl ?_ ?_
                 rotate_left
                 · intro w hSw; (try dsimp only at hSw); go_simp; first | done | with_reducible rfl
                 try simp only [xap]
                 refine xso 28 ?_ rfl ?_ ?_
                 rotate_left
                 · intro w hSw; (try dsimp only at hSw); go_simp; first | done | with_reducible rfl
                 try simp only [xap]
                 refine xso 29 ?_ rfl ?_ ?_
                 rotate_left
                 · intro w hSw; (try dsimp only at hSw); go_simp; first | done | with_reducible rfl
                 try simp only [xap]
                 refine xso 30 ?_ rfl ?_ ?_
                 rotate_left
                 · intro w hSw; (try dsimp only at hSw); go_simp; first | done | with_reducible rfl
                 try simp only [xap]
                 refine xso 31 ?_ rfl ?_ ?_
                 rotate_left
                 · intro w hSw; (try dsimp only at hSw); go_simp; first | done | with_reducible rfl
                 try simp only [xap]
                 refine xso 32 ?_ rfl ?_ ?_
                 rotate_left
                 · intro w hSw; (try dsimp only at hSw); go_simp; first | done | with_reducible rfl
                 try simp only [xap]
                 refine xso 33 ?_ rfl ?_ ?_
                 rotate_left
                 · intro w hSw; (try dsimp only at hSw); go_simp; first | done | with_reducible rfl
                 try simp only [xap]
                 refine xso 34 ?_ rfl ?_ (xso 35 ?_ rfl ?_ ?_)
                 iterate 2 (rotate_left; focus ((try simp only [xap]); intro w hSw; (try dsimp only at hSw); go_simp; first | done | with_reducible rfl))
                 try simp only [xap]
                 refine xdn ?_ _
                 clear hHeld
                 replace h := Hz.mk (h.out.bl (Bl.refl X5).drew).1
                 replace hB := Hz.mk (hB.out.trans (h0.out.bl (Bl.refl X5).drew).2)
                 go_wp2_with fail
                 exact ⟨⟨k + 1, by go_num, by omega, h.out.drop, hB.out⟩, by simp [intOf]; omega⟩
               · have hv : s1.at_.regs k = ⟨true, 0, (s1.at_.regs k).c⟩ := by rw [← hvk.i hvg, ← hvg]
                 generalize (s1.at_.regs k).c = v at hv
                 clear hvk hvg
                 have hrng : Hz (wr.rangeAt kt (3 + k * 7) [.bool true, .int .u64 0, .int .u64 v.b, .int .u64 v.e, .int .u64 v.c, .int .u8 v.p, .int .i64 v.s]) := Hz.mk (fun j u z => by
                   have hj7 : j < 7 := (List.getElem?_eq_some_iff.1 z).1
                   rw [hq j hj7, hv]
                   exact z)
                 clear hq
                 go_upto_region 23 with fail
                 refine wp_region_lit ?_
                 iterate 3 (refine wpList_plain rfl (fun K hK => ?_); go_simp; with_reducible refine hK _ _ ?_; clear hK K; (try simp only [xap]))
                 refine wpList_plain rfl (fun K hK => ?_)
                 refine wp_load_mid _ _ rfl _ (3 + k * 7) rfl [.bool true, .int .u64 0, .int .u64 v.b, .int .u64 v.e, .int .u64 v.c, .int .u8 v.p, .int .i64 v.s] _ hrng.out Tryz.underlying35 rfl (by kernel_rfl) (hK _ _ ?_)
                 clear hK K
                 try simp only [xap]
                 refine wpList_plain rfl (fun K hK => ?_)
                 go_simp
                 with_reducible refine hK _ _ ?_
                 clear hK K
                 try simp only [xap]
                 refine wpList_plain rfl (fun K hK => ?_)
                 go_simp
                 with_reducible refine hK _ _ ?_
                 clear hK K
                 try simp only [Act.put]
                 clear hrng
                 
                 go_upto_region 24 with fail
                 
                 have h5 := Hz.mk (h.out.new #[.bool true, .int .u64 0, .int .u64 v.b, .int .u64 v.e, .int .u64 v.c, .int .u8 v.p, .int .i64 v.s] 35)
                 refine wp_world (fun X => MIn B X a P s1 (boxOb wr.heap.size #[.bool true, .int .u64 0, .int .u64 v.b, .int .u64 v.e, .int .u64 v.c, .int .u8 v.p, .int .i64 v.s] :: [boxOb kt (snR s1).toArray, boxOb ko #[.int .i64 0, .int .u64 s1.over.v, .int .i64 s1.over.f, .int .i64 s1.at_.gate, .int .i64 s1.at_.pc], boxOb ks (snR s).toArray]) ∧ Below B W3 X) ⟨h5.out.1, hB.out.trans h5.out.2⟩ ?_
                 clear h5 h hB
                 rintro X5 ⟨h, hB⟩
                 generalize wr.heap.size = kv at *
                 have av := (h.bl (Bl.refl X5).drew).1.there (boxOb kv #[.bool true, .int .u64 0, .int .u64 v.b, .int .u64 v.e, .int .u64 v.c, .int .u8 v.p, .int .i64 v.s]) (.head _)
                 have as_ := sn_at ((h.bl (Bl.refl X5).drew).1.there (boxOb ks (snR s).toArray) (.tail _ (.tail _ (.tail _ (.head _)))))
                 have hS24 : X5.drew.cell? ⟨ks, 1, none⟩ = some (.int .i64 s.at_.pc) ∧ X5.drew.cell? ⟨ib, ioff + s.at_.pc * 5 + 1, none⟩ = some (.int .i64 (ia_ : Nat)) ∧ (X5.drew.cell? ⟨kv, 0, none⟩ = some (.bool true) ∧ X5.drew.cell? ⟨kv, 1, none⟩ = some (.int .u64 0) ∧ X5.drew.cell? ⟨kv, 2, none⟩ = some (.int .u64 v.b) ∧ X5.drew.cell? ⟨kv, 3, none⟩ = some (.int .u64 v.e) ∧ X5.drew.cell? ⟨kv, 4, none⟩ = some (.int .u64 v.c) ∧ X5.drew.cell? ⟨kv, 5, none⟩ = some (.int .u8 v.p) ∧ X5.drew.cell? ⟨kv, 6, none⟩ = some (.int .i64 v.s)) := ⟨as_.2.1, hcode.out X5.drew (hB.trans (h.bl (Bl.refl X5).drew).2), ⟨av.2.1 0, av.2.1 1, av.2.1 2, av.2.1 3, av.2.1 4, av.2.1 5, av.2.1 6⟩⟩
                 replace h := Hz.mk h
                 have h0 := h
                 replace hB := Hz.mk hB
                 clear av as_
                 refine wp_region_held_drew (S := (fun X => X.cell? ⟨ks, 1, none⟩ = some (.int .i64 s.at_.pc) ∧ X.cell? ⟨ib, ioff + s.at_.pc * 5 + 1, none⟩ = some (.int .i64 (ia_ : Nat)) ∧ (X.cell? ⟨kv, 0, none⟩ = some (.bool true) ∧ X.cell? ⟨kv, 1, none⟩ = some (.int .u64 0) ∧ X.cell? ⟨kv, 2, none⟩ = some (.int .u64 v.b) ∧ X.cell? ⟨kv, 3, none⟩ = some (.int .u64 v.e) ∧ X.cell? ⟨kv, 4, none⟩ = some (.int .u64 v.c) ∧ X.cell? ⟨kv, 5, none⟩ = some (.int .u8 v.p) ∧ X.cell? ⟨kv, 6, none⟩ = some (.int .i64 v.s)))) (by kernel_rfl) (hS24) (fun hHeld => ?_)
                 refine xso 0 ?_ rfl ?_ (xso 1 ?_ rfl ?_ (xso 2 ?_ rfl ?_ (xso 3 ?_ rfl ?_ (xso 4 ?_ rfl ?_ (xso 5 ?_ rfl ?_ (xso 6 ?_ rfl ?_ ?_))))))
                 iterate 7 (rotate_left; focus ((try simp only [xap]); intro w hSw; (try dsimp only at hSw); go_simp; first | done | with_reducible rfl))
                 try simp only [xap]
                 refine xtk 7 (v := .bool false) rfl (Or.inl ⟨by rfl, ?_⟩) ?_
                 · intro w hSw; (try dsimp only at hSw); simp [go_sem, hka]
                 try simp only [xap]
                 refine xso 8 ?_ rfl ?_ ?_
                 rotate_left
                 · intro w hSw; (try dsimp only at hSw); go_simp; first | done | with_reducible rfl
                 try simp only [xap]
                 refine xtk 9 (v := undef) rfl (Or.inr ⟨by rfl, rfl⟩) ?_
                 try simp only [xap]
                 refine xtk 10 (v := undef) rfl (Or.inr ⟨by rfl, rfl⟩) ?_
                 try simp only [xap]
                 refine xtk 11 (v := undef) rfl (Or.inr ⟨by rfl, rfl⟩) ?_
                 try simp only [xap]
                 refine xtk 12 (v := undef) rfl (Or.inr ⟨by rfl, rfl⟩) ?_
                 try simp only [xap]
                 refine xtk 13 (v := undef) rfl (Or.inr ⟨by rfl, rfl⟩) ?_
                 try simp only [xap]
                 refine xtk 14 (v := undef) rfl (Or.inr ⟨by rfl, rfl⟩) ?_
                 try simp only [xap]
                 refine xso 15 ?_ rfl ?_ (xso 16 ?_ rfl ?_ ?_)
                 iterate 2 (rotate_left; focus ((try simp only [xap]); intro w hSw; (try dsimp only at hSw); go_simp; first | done | with_reducible rfl))
                 try simp only [xap]
                 refine xso 17 ?_ rfl ?_ ?_
                 rotate_left
                 · intro w hSw; (try dsimp only at hSw); go_simp; first | done | with_reducible rfl
                 try simp only [xap]
                 refine xso 18 ?_ rfl ?_ ?_
                 rotate_left
                 · intro w hSw; (try dsimp only at hSw); go_simp; first | done | with_reducible rfl
                 try simp only [xap]
                 refine xso 19 ?_ rfl ?_ ?_
                 rotate_left
                 · intro w hSw; (try dsimp only at hSw); go_simp; first | done | with_reducible rfl
                 try simp only [xap]
                 refine xso 20 ?_ rfl ?_ ?_
                 rotate_left
                 · intro w hSw; (try dsimp only at hSw); go_simp; first | done | with_reducible rfl
                 try simp only [xap]
                 refine xso 21 ?_ rfl ?_ ?_
                 rotate_left
                 · intro w hSw; (try dsimp only at hSw); go_simp; first | done | with_reducible rfl
                 try simp only [xap]
                 refine xso 22 ?_ rfl ?_ ?_
                 rotate_left
                 · intro w hSw; (try dsimp only at hSw); go_simp; first | done | with_reducible rfl
                 try simp only [xap]
                 refine xso 23 ?_ rfl ?_ (xso 24 ?_ rfl ?_ (xso 25 ?_ rfl ?_ ?_))
                 iterate 3 (rotate_left; focus ((try simp only [xap]); intro w hSw; (try dsimp only at hSw); go_simp; first | done | with_reducible rfl))
                 try simp only [xap]
                 refine xso 26 ?_ rfl ?_ ?_
                 rotate_left
                 · intro w hSw; (try dsimp only at hSw); go_simp; first | done | with_reducible rfl
                 try simp only [xap]
                 refine xso 27 ?_ rfl ?_ ?_
                 rotate_left
                 · intro w hSw; (try dsimp only at hSw); go_simp; first | done | with_reducible rfl
                 try simp only [xap]
                 refine xso 28 ?_ rfl ?_ ?_
                 rotate_left
                 · intro w hSw; (try dsimp only at hSw); go_simp; first | done | with_reducible rfl
                 try simp only [xap]
                 refine xso 29 ?_ rfl ?_ ?_
                 rotate_left
                 · intro w hSw; (try dsimp only at hSw); go_simp; first | done | with_reducible rfl
                 try simp only [xap]
                 refine xtk 30 (v := undef) rfl (Or.inr ⟨by rfl, rfl⟩) ?_
                 try simp only [xap]
                 refine xtk 31 (v := undef) rfl (Or.inr ⟨by rfl, rfl⟩) ?_
                 try simp only [xap]
                 refine xtk 32 (v := undef) rfl (Or.inr ⟨by rfl, rfl⟩) ?_
                 try simp only [xap]
                 refine xtk 33 (v := undef) rfl (Or.inr ⟨by rfl, rfl⟩) ?_
                 try simp only [xap]
                 refine xso 34 ?_ rfl ?_ (xso 35 ?_ rfl ?_ ?_)
                 iterate 2 (rotate_left; focus ((try simp only [xap]); intro w hSw; (try dsimp only at hSw); go_simp; first | done | with_reducible rfl))
                 try simp only [xap]
                 refine xdn ?_ _
                 clear hHeld
                 replace h := Hz.mk (h.out.bl (Bl.refl X5).drew).1
                 replace hB := Hz.mk (hB.out.trans (h0.out.bl (Bl.refl X5).drew).2)
                 go_wp2_with fail
                 exact ⟨⟨k + 1, by go_num, by omega, h.out.drop, hB.out⟩, by simp [intOf]; omega⟩
             · have hka : ((k : Int) != (ia_ : Int)) = true := by simp; omega
               have hvs0 := (hal hka0).symm
               replace hka0 := Hz.mk hka0
               clear hal
               cases hvg : (s1.at_.regs k).g
               · have hv : s1.at_.regs k = ⟨false, (s1.at_.regs k).n, Cp.zero⟩ := by rw [← hvk.z hvg, ← hvg]
                 generalize (s1.at_.regs k).n = n at hv
                 have hvs := Hz.mk (hvs0.trans hv)
                 clear hvk hvg hvs0
                 have hrng : Hz (wr.rangeAt kt (3 + k * 7) [.bool false, .int .u64 n, .int .u64 0, .int .u64 0, .int .u64 0, .int .u8 0, .int .i64 0]) := Hz.mk (fun j u z => by
                   have hj7 : j < 7 := (List.getElem?_eq_some_iff.1 z).1
                   rw [hq j hj7, hv]
                   exact z)
                 clear hq
                 go_upto_region 23 with fail
                 refine wp_region_lit ?_
                 iterate 3 (refine wpList_plain rfl (fun K hK => ?_); go_simp; with_reducible refine hK _ _ ?_; clear hK K; (try simp only [xap]))
                 refine wpList_plain rfl (fun K hK => ?_)
                 refine wp_load_mid _ _ rfl _ (3 + k * 7) rfl [.bool false, .int .u64 n, .int .u64 0, .int .u64 0, .int .u64 0, .int .u8 0, .int .i64 0] _ hrng.out Tryz.underlying35 rfl (by kernel_rfl) (hK _ _ ?_)
                 clear hK K
                 try simp only [xap]
                 refine wpList_plain rfl (fun K hK => ?_)
                 go_simp
                 with_reducible refine hK _ _ ?_
                 clear hK K
                 try simp only [xap]
                 refine wpList_plain rfl (fun K hK => ?_)
                 go_simp
                 with_reducible refine hK _ _ ?_
                 clear hK K
                 try simp only [Act.put]
                 clear hrng
                 
                 go_upto_region 24 with fail
                 
                 have h5 := Hz.mk (h.out.new #[.bool false, .int .u64 n, .int .u64 0, .int .u64 0, .int .u64 0, .int .u8 0, .int .i64 0] 35)
                 refine wp_world (fun X => MIn B X a P s1 (boxOb wr.heap.size #[.bool false, .int .u64 n, .int .u64 0, .int .u64 0, .int .u64 0, .int .u8 0, .int .i64 0] :: [boxOb kt (snR s1).toArray, boxOb ko #[.int .i64 0, .int .u64 s1.over.v, .int .i64 s1.over.f, .int .i64 s1.at_.gate, .int .i64 s1.at_.pc], boxOb ks (snR s).toArray]) ∧ Below B W3 X) ⟨h5.out.1, hB.out.trans h5.out.2⟩ ?_
                 clear h5 h hB
                 rintro X5 ⟨h, hB⟩
                 generalize wr.heap.size = kv at *
                 have av := (h.bl (Bl.refl X5).drew).1.there (boxOb kv #[.bool false, .int .u64 n, .int .u64 0, .int .u64 0, .int .u64 0, .int .u8 0, .int .i64 0]) (.head _)
                 have as_ := sn_at ((h.bl (Bl.refl X5).drew).1.there (boxOb ks (snR s).toArray) (.tail _ (.tail _ (.tail _ (.head _)))))
                 have hS24 : X5.drew.cell? ⟨ks, 1, none⟩ = some (.int .i64 s.at_.pc) ∧ X5.drew.cell? ⟨ib, ioff + s.at_.pc * 5 + 1, none⟩ = some (.int .i64 (ia_ : Nat)) ∧ (X5.drew.cell? ⟨kv, 0, none⟩ = some (.bool false) ∧ X5.drew.cell? ⟨kv, 1, none⟩ = some (.int .u64 n) ∧ X5.drew.cell? ⟨kv, 2, none⟩ = some (.int .u64 0) ∧ X5.drew.cell? ⟨kv, 3, none⟩ = some (.int .u64 0) ∧ X5.drew.cell? ⟨kv, 4, none⟩ = some (.int .u64 0) ∧ X5.drew.cell? ⟨kv, 5, none⟩ = some (.int .u8 0) ∧ X5.drew.cell? ⟨kv, 6, none⟩ = some (.int .i64 0)) ∧ (X5.drew.cell? ⟨ks, 3 + k * 7, none⟩ = some (.bool false) ∧ X5.drew.cell? ⟨ks, 3 + k * 7 + 1, none⟩ = some (.int .u64 n) ∧ X5.drew.cell? ⟨ks, 3 + k * 7 + 2, none⟩ = some (.int .u64 0) ∧ X5.drew.cell? ⟨ks, 3 + k * 7 + 3, none⟩ = some (.int .u64 0) ∧ X5.drew.cell? ⟨ks, 3 + k * 7 + 4, none⟩ = some (.int .u64 0) ∧ X5.drew.cell? ⟨ks, 3 + k * 7 + 5, none⟩ = some (.int .u8 0) ∧ X5.drew.cell? ⟨ks, 3 + k * 7 + 6, none⟩ = some (.int .i64 0)) := ⟨as_.2.1, hcode.out X5.drew (hB.trans (h.bl (Bl.refl X5).drew).2), ⟨av.2.1 0, av.2.1 1, av.2.1 2, av.2.1 3, av.2.1 4, av.2.1 5, av.2.1 6⟩, by have z := as_.2.2 k (by omega); rw [hvs.out] at z; exact ⟨z 0 (by omega), z 1 (by omega), z 2 (by omega), z 3 (by omega), z 4 (by omega), z 5 (by omega), z 6 (by omega)⟩⟩
                 replace h := Hz.mk h
                 have h0 := h
                 replace hB := Hz.mk hB
                 clear av as_
                 refine wp_region_held_drew (S := (fun X => X.cell? ⟨ks, 1, none⟩ = some (.int .i64 s.at_.pc) ∧ X.cell? ⟨ib, ioff + s.at_.pc * 5 + 1, none⟩ = some (.int .i64 (ia_ : Nat)) ∧ (X.cell? ⟨kv, 0, none⟩ = some (.bool false) ∧ X.cell? ⟨kv, 1, none⟩ = some (.int .u64 n) ∧ X.cell? ⟨kv, 2, none⟩ = some (.int .u64 0) ∧ X.cell? ⟨kv, 3, none⟩ = some (.int .u64 0) ∧ X.cell? ⟨kv, 4, none⟩ = some (.int .u64 0) ∧ X.cell? ⟨kv, 5, none⟩ = some (.int .u8 0) ∧ X.cell? ⟨kv, 6, none⟩ = some (.int .i64 0)) ∧ (X.cell? ⟨ks, 3 + k * 7, none⟩ = some (.bool false) ∧ X.cell? ⟨ks, 3 + k * 7 + 1, none⟩ = some (.int .u64 n) ∧ X.cell? ⟨ks, 3 + k * 7 + 2, none⟩ = some (.int .u64 0) ∧ X.cell? ⟨ks, 3 + k * 7 + 3, none⟩ = some (.int .u64 0) ∧ X.cell? ⟨ks, 3 + k * 7 + 4, none⟩ = some (.int .u64 0) ∧ X.cell? ⟨ks, 3 + k * 7 + 5, none⟩ = some (.int .u8 0) ∧ X.cell? ⟨ks, 3 + k * 7 + 6, none⟩ = some (.int .i64 0)))) (by kernel_rfl) (hS24) (fun hHeld => ?_)
                 refine xso 0 ?_ rfl ?_ (xso 1 ?_ rfl ?_ (xso 2 ?_ rfl ?_ (xso 3 ?_ rfl ?_ (xso 4 ?_ rfl ?_ (xso 5 ?_ rfl ?_ (xso 6 ?_ rfl ?_ ?_))))))
                 iterate 7 (rotate_left; focus ((try simp only [xap]); intro w hSw; (try dsimp only at hSw); go_simp; first | done | with_reducible rfl))
                 try simp only [xap]
                 refine xtk 7 (v := .bool true) rfl (Or.inl ⟨by rfl, ?_⟩) ?_
                 · intro w hSw; (try dsimp only at hSw); simp [go_sem, hka]
                 try simp only [xap]
                 refine xso 8 ?_ rfl ?_ ?_
                 rotate_left
                 · intro w hSw; (try dsimp only at hSw); go_simp; first | done | with_reducible rfl
                 try simp only [xap]
                 refine xso 9 ?_ rfl ?_ ?_
                 rotate_left
                 · intro w hSw; (try dsimp only at hSw); go_simp; first | done | with_reducible rfl
                 try simp only [xap]
                 refine xso 10 ?_ rfl ?_ ?_
                 rotate_left
                 · intro w hSw; (try dsimp only at hSw); go_simp; first | done | with_reducible rfl
                 try simp only [xap]
                 refine xso 11 ?_ rfl ?_ ?_
                 rotate_left
                 · intro w hSw; (try dsimp only at hSw); go_simp; first | done | with_reducible rfl
                 try simp only [xap]
                 refine xso 12 ?_ rfl ?_ ?_
                 rotate_left
                 · intro w hSw; (try dsimp only at hSw); go_simp; first | done | with_reducible rfl
                 try simp only [xap]
                 refine xso 13 ?_ rfl ?_ ?_
                 rotate_left
                 · intro w hSw; (try dsimp only at hSw); go_simp; first | done | with_reducible rfl
                 try simp only [xap]
                 refine xso 14 ?_ rfl ?_ (xso 15 ?_ rfl ?_ (xso 16 ?_ rfl ?_ ?_))
                 iterate 3 (rotate_left; focus ((try simp only [xap]); intro w hSw; (try dsimp only at hSw); go_simp; first | done | with_reducible rfl))
                 try simp only [xap]
                 refine xso 17 ?_ rfl ?_ ?_
                 rotate_left
                 · intro w hSw; (try dsimp only at hSw); go_simp; first | done | with_reducible rfl
                 try simp only [xap]
                 refine xso 18 ?_ rfl ?_ ?_
                 rotate_left
                 · intro w hSw; (try dsimp only at hSw); go_simp; first | done | with_reducible rfl
                 try simp only [xap]
                 refine xso 19 ?_ rfl ?_ ?_
                 rotate_left
                 · intro w hSw; (try dsimp only at hSw); go_simp; first | done | with_reducible rfl
                 try simp only [xap]
                 refine xtk 20 (v := undef) rfl (Or.inr ⟨by rfl, rfl⟩) ?_
                 try simp only [xap]
                 refine xtk 21 (v := undef) rfl (Or.inr ⟨by rfl, rfl⟩) ?_
                 try simp only [xap]
                 refine xtk 22 (v := undef) rfl (Or.inr ⟨by rfl, rfl⟩) ?_
                 try simp only [xap]
                 refine xso 23 ?_ rfl ?_ (xso 24 ?_ rfl ?_ (xso 25 ?_ rfl ?_ ?_))
                 iterate 3 (rotate_left; focus ((try simp only [xap]); intro w hSw; (try dsimp only at hSw); go_simp; first | done | with_reducible rfl))
                 try simp only [xap]
                 refine xso 26 ?_ rfl ?_ ?_
                 rotate_left
                 · intro w hSw; (try dsimp only at hSw); go_simp; first | done | with_reducible rfl
                 try simp only [xap]
                 refine xso 27 ?_ rfl ?_ ?_
                 rotate_left
                 · intro w hSw; (try dsimp only at hSw); go_simp; first | done | with_reducible rfl
                 try simp only [xap]
                 refine xso 28 ?_ rfl ?_ ?_
                 rotate_left
                 · intro w hSw; (try dsimp only at hSw); go_simp; first | done | with_reducible rfl
                 try simp only [xap]
                 refine xso 29 ?_ rfl ?_ ?_
                 rotate_left
                 · intro w hSw; (try dsimp only at hSw); go_simp; first | done | with_reducible rfl
                 try simp only [xap]
                 refine xso 30 ?_ rfl ?_ ?_
                 rotate_left
                 · intro w hSw; (try dsimp only at hSw); go_simp; first | done | with_reducible rfl
                 try simp only [xap]
                 refine xso 31 ?_ rfl ?_ ?_
                 rotate_left
                 · intro w hSw; (try dsimp only at hSw); go_simp; first | done | with_reducible rfl
                 try simp only [xap]
                 refine xso 32 ?_ rfl ?_ ?_
                 rotate_left
                 · intro w hSw; (try dsimp only at hSw); go_simp; first | done | with_reducible rfl
                 try simp only [xap]
                 refine xso 33 ?_ rfl ?_ ?_
                 rotate_left
                 · intro w hSw; (try dsimp only at hSw); go_simp; first | done | with_reducible rfl
                 try simp only [xap]
                 refine xso 34 ?_ rfl ?_ (xso 35 ?_ rfl ?_ ?_)
                 iterate 2 (rotate_left; focus ((try simp only [xap]); intro w hSw; (try dsimp only at hSw); go_simp; first | done | with_reducible rfl))
                 try simp only [xap]
                 refine xdn ?_ _
                 clear hHeld
                 replace h := Hz.mk (h.out.bl (Bl.refl X5).drew).1
                 replace hB := Hz.mk (hB.out.trans (h0.out.bl (Bl.refl X5).drew).2)
                 go_wp2_with fail
                 exact ⟨⟨k + 1, by go_num, by omega, h.out.drop, hB.out⟩, by simp [intOf]; omega⟩
               · have hv : s1.at_.regs k = ⟨true, 0, (s1.at_.regs k).c⟩ := by rw [← hvk.i hvg, ← hvg]
                 generalize (s1.at_.regs k).c = v at hv
                 have hvs := Hz.mk (hvs0.trans hv)
                 clear hvk hvg hvs0
                 have hrng : Hz (wr.rangeAt kt (3 + k * 7) [.bool true, .int .u64 0, .int .u64 v.b, .int .u64 v.e, .int .u64 v.c, .int .u8 v.p, .int .i64 v.s]) := Hz.mk (fun j u z => by
                   have hj7 : j < 7 := (List.getElem?_eq_some_iff.1 z).1
                   rw [hq j hj7, hv]
                   exact z)
                 clear hq
                 go_upto_region 23 with fail
                 refine wp_region_lit ?_
                 iterate 3 (refine wpList_plain rfl (fun K hK => ?_); go_simp; with_reducible refine hK _ _ ?_; clear hK K; (try simp only [xap]))
                 refine wpList_plain rfl (fun K hK => ?_)
                 refine wp_load_mid _ _ rfl _ (3 + k * 7) rfl [.bool true, .int .u64 0, .int .u64 v.b, .int .u64 v.e, .int .u64 v.c, .int .u8 v.p, .int .i64 v.s] _ hrng.out Tryz.underlying35 rfl (by kernel_rfl) (hK _ _ ?_)
                 clear hK K
                 try simp only [xap]
                 refine wpList_plain rfl (fun K hK => ?_)
                 go_simp
                 with_reducible refine hK _ _ ?_
                 clear hK K
                 try simp only [xap]
                 refine wpList_plain rfl (fun K hK => ?_)
                 go_simp
                 with_reducible refine hK _ _ ?_
                 clear hK K
                 try simp only [Act.put]
                 clear hrng
                 
                 go_upto_region 24 with fail
                 
                 have h5 := Hz.mk (h.out.new #[.bool true, .int .u64 0, .int .u64 v.b, .int .u64 v.e, .int .u64 v.c, .int .u8 v.p, .int .i64 v.s] 35)
                 refine wp_world (fun X => MIn B X a P s1 (boxOb wr.heap.size #[.bool true, .int .u64 0, .int .u64 v.b, .int .u64 v.e, .int .u64 v.c, .int .u8 v.p, .int .i64 v.s] :: [boxOb kt (snR s1).toArray, boxOb ko #[.int .i64 0, .int .u64 s1.over.v, .int .i64 s1.over.f, .int .i64 s1.at_.gate, .int .i64 s1.at_.pc], boxOb ks (snR s).toArray]) ∧ Below B W3 X) ⟨h5.out.1, hB.out.trans h5.out.2⟩ ?_
                 clear h5 h hB
                 rintro X5 ⟨h, hB⟩
                 generalize wr.heap.size = kv at *
                 have av := (h.bl (Bl.refl X5).drew).1.there (boxOb kv #[.bool true, .int .u64 0, .int .u64 v.b, .int .u64 v.e, .int .u64 v.c, .int .u8 v.p, .int .i64 v.s]) (.head _)
                 have as_ := sn_at ((h.bl (Bl.refl X5).drew).1.there (boxOb ks (snR s).toArray) (.tail _ (.tail _ (.tail _ (.head _)))))
                 have hS24 : X5.drew.cell? ⟨ks, 1, none⟩ = some (.int .i64 s.at_.pc) ∧ X5.drew.cell? ⟨ib, ioff + s.at_.pc * 5 + 1, none⟩ = some (.int .i64 (ia_ : Nat)) ∧ (X5.drew.cell? ⟨kv, 0, none⟩ = some (.bool true) ∧ X5.drew.cell? ⟨kv, 1, none⟩ = some (.int .u64 0) ∧ X5.drew.cell? ⟨kv, 2, none⟩ = some (.int .u64 v.b) ∧ X5.drew.cell? ⟨kv, 3, none⟩ = some (.int .u64 v.e) ∧ X5.drew.cell? ⟨kv, 4, none⟩ = some (.int .u64 v.c) ∧ X5.drew.cell? ⟨kv, 5, none⟩ = some (.int .u8 v.p) ∧ X5.drew.cell? ⟨kv, 6, none⟩ = some (.int .i64 v.s)) ∧ (X5.drew.cell? ⟨ks, 3 + k * 7, none⟩ = some (.bool true) ∧ X5.drew.cell? ⟨ks, 3 + k * 7 + 1, none⟩ = some (.int .u64 0) ∧ X5.drew.cell? ⟨ks, 3 + k * 7 + 2, none⟩ = some (.int .u64 v.b) ∧ X5.drew.cell? ⟨ks, 3 + k * 7 + 3, none⟩ = some (.int .u64 v.e) ∧ X5.drew.cell? ⟨ks, 3 + k * 7 + 4, none⟩ = some (.int .u64 v.c) ∧ X5.drew.cell? ⟨ks, 3 + k * 7 + 5, none⟩ = some (.int .u8 v.p) ∧ X5.drew.cell? ⟨ks, 3 + k * 7 + 6, none⟩ = some (.int .i64 v.s)) := ⟨as_.2.1, hcode.out X5.drew (hB.trans (h.bl (Bl.refl X5).drew).2), ⟨av.2.1 0, av.2.1 1, av.2.1 2, av.2.1 3, av.2.1 4, av.2.1 5, av.2.1 6⟩, by have z := as_.2.2 k (by omega); rw [hvs.out] at z; exact ⟨z 0 (by omega), z 1 (by omega), z 2 (by omega), z 3 (by omega), z 4 (by omega), z 5 (by omega), z 6 (by omega)⟩⟩
                 replace h := Hz.mk h
                 have h0 := h
                 replace hB := Hz.mk hB
                 clear av as_
                 refine wp_region_held_drew (S := (fun X => X.cell? ⟨ks, 1, none⟩ = some (.int .i64 s.at_.pc) ∧ X.cell? ⟨ib, ioff + s.at_.pc * 5 + 1, none⟩ = some (.int .i64 (ia_ : Nat)) ∧ (X.cell? ⟨kv, 0, none⟩ = some (.bool true) ∧ X.cell? ⟨kv, 1, none⟩ = some (.int .u64 0) ∧ X.cell? ⟨kv, 2, none⟩ = some (.int .u64 v.b) ∧ X.cell? ⟨kv, 3, none⟩ = some (.int .u64 v.e) ∧ X.cell? ⟨kv, 4, none⟩ = some (.int .u64 v.c) ∧ X.cell? ⟨kv, 5, none⟩ = some (.int .u8 v.p) ∧ X.cell? ⟨kv, 6, none⟩ = some (.int .i64 v.s)) ∧ (X.cell? ⟨ks, 3 + k * 7, none⟩ = some (.bool true) ∧ X.cell? ⟨ks, 3 + k * 7 + 1, none⟩ = some (.int .u64 0) ∧ X.cell? ⟨ks, 3 + k * 7 + 2, none⟩ = some (.int .u64 v.b) ∧ X.cell? ⟨ks, 3 + k * 7 + 3, none⟩ = some (.int .u64 v.e) ∧ X.cell? ⟨ks, 3 + k * 7 + 4, none⟩ = some (.int .u64 v.c) ∧ X.cell? ⟨ks, 3 + k * 7 + 5, none⟩ = some (.int .u8 v.p) ∧ X.cell? ⟨ks, 3 + k * 7 + 6, none⟩ = some (.int .i64 v.s)))) (by kernel_rfl) (hS24) (fun hHeld => ?_)
                 refine xso 0 ?_ rfl ?_ (xso 1 ?_ rfl ?_ (xso 2 ?_ rfl ?_ (xso 3 ?_ rfl ?_ (xso 4 ?_ rfl ?_ (xso 5 ?_ rfl ?_ (xso 6 ?_ rfl ?_ ?_))))))
                 iterate 7 (rotate_left; focus ((try simp only [xap]); intro w hSw; (try dsimp only at hSw); go_simp; first | done | with_reducible rfl))
                 try simp only [xap]
                 refine xtk 7 (v := .bool true) rfl (Or.inl ⟨by rfl, ?_⟩) ?_
                 · intro w hSw; (try dsimp only at hSw); simp [go_sem, hka]
                 try simp only [xap]
                 refine xso 8 ?_ rfl ?_ ?_
                 rotate_left
                 · intro w hSw; (try dsimp only at hSw); go_simp; first | done | with_reducible rfl
                 try simp only [xap]
                 refine xso 9 ?_ rfl ?_ ?_
                 rotate_left
                 · intro w hSw; (try dsimp only at hSw); go_simp; first | done | with_reducible rfl
                 try simp only [xap]
                 refine xso 10 ?_ rfl ?_ ?_
                 rotate_left
                 · intro w hSw; (try dsimp only at hSw); go_simp; first | done | with_reducible rfl
                 try simp only [xap]
                 refine xso 11 ?_ rfl ?_ ?_
                 rotate_left
                 · intro w hSw; (try dsimp only at hSw); go_simp; first | done | with_reducible rfl
                 try simp only [xap]
                 refine xso 12 ?_ rfl ?_ ?_
                 rotate_left
                 · intro w hSw; (try dsimp only at hSw); go_simp; first | done | with_reducible rfl
                 try simp only [xap]
                 refine xso 13 ?_ rfl ?_ ?_
                 rotate_left
                 · intro w hSw; (try dsimp only at hSw); go_simp; first | done | with_reducible rfl
                 try simp only [xap]
                 refine xso 14 ?_ rfl ?_ (xso 15 ?_ rfl ?_ (xso 16 ?_ rfl ?_ ?_))
                 iterate 3 (rotate_left; focus ((try simp only [xap]); intro w hSw; (try dsimp only at hSw); go_simp; first | done | with_reducible rfl))
                 try simp only [xap]
                 refine xso 17 ?_ rfl ?_ ?_
                 rotate_left
                 · intro w hSw; (try dsimp only at hSw); go_simp; first | done | with_reducible rfl
                 try simp only [xap]
                 refine xso 18 ?_ rfl ?_ ?_
                 rotate_left
                 · intro w hSw; (try dsimp only at hSw); go_simp; first | done | with_reducible rfl
                 try simp only [xap]
                 refine xso 19 ?_ rfl ?_ ?_
                 rotate_left
                 · intro w hSw; (try dsimp only at hSw); go_simp; first | done | with_reducible rfl
                 try simp only [xap]
                 refine xso 20 ?_ rfl ?_ ?_
                 rotate_left
                 · intro w hSw; (try dsimp only at hSw); go_simp; first | done | with_reducible rfl
                 try simp only [xap]
                 refine xso 21 ?_ rfl ?_ ?_
                 rotate_left
                 · intro w hSw; (try dsimp only at hSw); go_simp; first | done | with_reducible rfl
                 try simp only [xap]
                 refine xso 22 ?_ rfl ?_ ?_
                 rotate_left
                 · intro w hSw; (try dsimp only at hSw); go_simp; first | done | with_reducible rfl
                 try simp only [xap]
                 refine xso 23 ?_ rfl ?_ (xso 24 ?_ rfl ?_ (xso 25 ?_ rfl ?_ ?_))
                 iterate 3 (rotate_left; focus ((try simp only [xap]); intro w hSw; (try dsimp only at hSw); go_simp; first | done | with_reducible rfl))
                 try simp only [xap]
                 refine xso 26 ?_ rfl ?_ ?_
                 rotate_left
                 · intro w hSw; (try dsimp only at hSw); go_simp; first | done | with_reducible rfl
                 try simp only [xap]
                 refine xso 27 ?_ rfl ?_ ?_
                 rotate_left
                 · intro w hSw; (try dsimp only at hSw); go_simp; first | done | with_reducible rfl
                 try simp only [xap]
                 refine xso 28 ?_ rfl ?_ ?_
                 rotate_left
                 · intro w hSw; (try dsimp only at hSw); go_simp; first | done | with_reducible rfl
                 try simp only [xap]
                 refine xso 29 ?_ rfl ?_ ?_
                 rotate_left
                 · intro w hSw; (try dsimp only at hSw); go_simp; first | done | with_reducible rfl
                 try simp only [xap]
                 refine xtk 30 (v := undef) rfl (Or.inr ⟨by rfl, rfl⟩) ?_
                 try simp only [xap]
                 refine xtk 31 (v := undef) rfl (Or.inr ⟨by rfl, rfl⟩) ?_
                 try simp only [xap]
                 refine xtk 32 (v := undef) rfl (Or.inr ⟨by rfl, rfl⟩) ?_
                 try simp only [xap]
                 refine xtk 33 (v := undef) rfl (Or.inr ⟨by rfl, rfl⟩) ?_
                 try simp only [xap]
                 refine xso 34 ?_ rfl ?_ (xso 35 ?_ rfl ?_ ?_)
                 iterate 2 (rotate_left; focus ((try simp only [xap]); intro w hSw; (try dsimp only at hSw); go_simp; first | done | with_reducible rfl))
                 try simp only [xap]
                 refine xdn ?_ _
                 clear hHeld
                 replace h := Hz.mk (h.out.bl (Bl.refl X5).drew).1
                 replace hB := Hz.mk (hB.out.trans (h0.out.bl (Bl.refl X5).drew).2)
                 go_wp2_with fail
                 exact ⟨⟨k + 1, by go_num, by omega, h.out.drop, hB.out⟩, by simp [intOf]; omega⟩
           · have kl : ¬ (k : Int) < 16 := by omega
             replace h := Hz.mk h
             replace hB := Hz.mk hB
             go_wp2_with fail
             exact ⟨⟨j + 1, s1, by go_num, by omega, h.out.drop.drop.drop, hB.out, ok1.out, h01.out⟩, by simp [intOf]; omega⟩
   · have jl : ¬ (j : Int) < 300 := by omega
     replace ok := Hz.mk ok
     replace h0 := Hz.mk h0
     go_wp2_with fail
     go_ret
     exact ⟨rfl, hfin.out _ hB.out⟩
theorem walk_CapmachineOne (m : PImg) (gate : Int) (A I : List Nat) (ra ca ga aa ia : Option Addr) (rc cc gc ac ic : Nat) (w : World) (ht : TabIn w) (hm : ImgIn w.heap.size w ra ca ga m) (hr : m.Rng) (hf : Q.TwFit m) (hA : NumIn w aa A) (hI : InS w ia I ic) (hAb : ∀ x ∈ A, x < 18446744073709551616) (hIb : ∀ x ∈ I, x < 18446744073709551616) (hil : I.length ≤ 2000000) : Calls Tryz.prog 4 #[.agg #[.slice ra m.regs.length rc, .slice ca m.comps.length cc, .slice ga m.gates.length gc, .int .i64 m.depth], .int .i64 gate, .slice aa A.length ac, .slice ia I.length ic] w fun x w' => x = .returned (.bool true) ∧ Below w.heap.size w w' := by
 by_cases hrt : m.right = 0
 · have hth := th_of m hrt hr
   have hP : POk (bare m) := pok_of m hrt hr
   by_cases hg : gate < 0
   · exact one_nil m gate A I ra ca ga aa ia rc cc gc ac ic w ht (fun X q => begun_neg m gate A I ra ca ga aa ia rc cc gc ac ic X (TabIn.bl ht q) ((hm.below q).mono q.size) hr hf hrt hg)
   · obtain ⟨n, rfl⟩ : ∃ n : Nat, gate = n := ⟨gate.toNat, by omega⟩
     have hgl : n % m.gates.length < m.gates.length := Nat.mod_lt _ hth.ne
     cases hent : isEnt m (n % m.gates.length)
     · exact one_nil m n A I ra ca ga aa ia rc cc gc ac ic w ht (fun X q => begun_shut m n _ A I ra ca ga aa ia rc cc gc ac ic X (TabIn.bl ht q) ((hm.below q).mono q.size) hr hf (hA.bl q) hrt rfl hgl hent)
     · have hal : m.gates[n % m.gates.length].args.length ≤ 7 := (hP.gates _ hgl).2.2.2.2.1
       exact one_some m n A I ra ca ga aa ia rc cc gc ac ic w ht hm (bare m) rfl _ hP (start_ok hrt hr hgl (ents_lt A _ hAb (by omega)) hIb hil) rfl (fun X q => begun_ok m n _ A I ra ca ga aa ia rc cc gc ac ic X (TabIn.bl ht q) ((hm.below q).mono q.size) hr hf (hA.bl q) (hI.bl q) hil hrt rfl hgl hent)
 · exact one_nil m gate A I ra ca ga aa ia rc cc gc ac ic w ht (fun X q => begun_wrong m gate A I ra ca ga aa ia rc cc gc ac ic X (TabIn.bl ht q) ((hm.below q).mono q.size) hr hrt)
end C
end Go.Proofs.YtkmikpofjoppgaaGreatDoor
