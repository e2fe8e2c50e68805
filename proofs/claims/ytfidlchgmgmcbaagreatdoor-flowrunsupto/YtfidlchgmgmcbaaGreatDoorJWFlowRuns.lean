import Derived.Test.YtfidlchgmgmcbaaGreatDoorJ45
import Derived.Test.YtfidlchgmgmcbaaGreatDoorJ42
import Derived.Test.YtfidlchgmgmcbaaGreatDoorJ49
import Derived.Test.YtfidlchgmgmcbaaGreatDoorJ47
namespace Go.Proofs.YtfidlchgmgmcbaaGreatDoor
set_option maxRecDepth 100000
set_option maxHeartbeats 40000000
namespace C
open Go.RowKit
open T (Sep Ob Kp Mf TgIn boxOb Fm Tc Ed Vl Cp Bx tgOb mRow updV flt regRow regRow_at regRow_len Vl.row_len)

theorem fl_len (L : List Ins) (p : Int) : (F.nxtI L p).length ≤ L.length := by
 unfold F.nxtI
 split
 · rw [List.length_map]
   exact Nat.le_trans (List.length_filter_le _ _) (by simp)
 · simp
theorem fl_w8 {p n : Nat} (h : p < n) (h2 : n ≤ 400) : wrap64 ((p : Int) + 1) = (p : Int) + 1 := by unfold wrap64; omega
theorem fl_w9 {p n : Nat} (h : p < n) (h2 : n ≤ 400) : IntKind.i64.wrap ((p : Int) + 1) = (p : Int) + 1 := by rw [IntKind.wrap_i64]; omega
def SnB (c : Prop) (N : List Int) (x : Int) (q : Nat) (b : Bool) : Prop := b = true ↔ (c ∨ ∃ r, r < q ∧ N[r]? = some x)
theorem snb_next {c : Prop} {N : List Int} {x : Int} {q : Nat} {b b' : Bool} (h : SnB c N x q b) (hb : b' = true ↔ (b = true ∨ N[q]? = some x)) : SnB c N x (q + 1) b' := by
 unfold SnB at *
 rw [hb, h]
 constructor
 · rintro ((h | ⟨r, h1, h2⟩) | h)
   · exact .inl h
   · exact .inr ⟨r, by omega, h2⟩
   · exact .inr ⟨q, by omega, h⟩
 · rintro (h | ⟨r, h1, h2⟩)
   · exact .inl (.inl h)
   · by_cases e : r = q
     · subst e; exact .inr h2
     · exact .inl (.inr ⟨r, by omega, h2⟩)
theorem runs_nil (m : PImg) (gate fuel : Int) (A I : List Nat) (ra ca ga aa ia : Option Addr) (rc cc gc ac ic : Nat) (w : World) (e : Int) (hen : (e != 0) = true) (hBg : ∀ X, Bl w X → Calls Tryz.prog 5 #[.agg #[.slice ra m.regs.length rc, .slice ca m.comps.length cc, .slice ga m.gates.length gc, .int .i64 m.depth], .int .i64 gate, .slice aa A.length ac, .slice ia I.length ic] X fun x w' => x = .returned (.tuple #[.pointer none, .int .i64 e]) ∧ Bl X w') : Calls Tryz.prog 3 #[.agg #[.slice ra m.regs.length rc, .slice ca m.comps.length cc, .slice ga m.gates.length gc, .int .i64 m.depth], .int .i64 gate, .slice aa A.length ac, .slice ia I.length ic, .int .i64 fuel] w fun x w' => x = .returned (.bool true) ∧ Below w.heap.size w w' := by
 go_enter Tryz.func3, Tryz.ntmps3
 go_upto_region 1 with fail
 refine wp_world (fun W => At W w.heap.size #[.slice ra m.regs.length rc, .slice ca m.comps.length cc, .slice ga m.gates.length gc, .int .i64 m.depth] ∧ Bl w W) ⟨At.new w _ _, (Bl.refl _).alloc _⟩ ?_
 rintro W ⟨A0, g0⟩
 have hEx := Hz.mk (F.head_any W)
 replace A0 := Hz.mk A0
 replace g0 := Hz.mk g0
 obtain ⟨k0, hk0⟩ : ∃ k0, w.heap.size = k0 := ⟨_, rfl⟩
 rw [hk0] at A0 ⊢
 replace hk0 := Hz.mk hk0
 go_wp2_with fail
 refine hEx.out.mono ?_
 rintro r W2 ⟨rfl, e1⟩
 replace g0 := Hz.mk (Bl.trans g0.out e1)
 replace A0 := Hz.mk (Bl.at_ e1 A0.out)
 clear e1 hEx
 have ⟨l0, p0, _⟩ := A0.out
 go_wp2_with fail
 refine (hBg _ g0.out).mono ?_
 rintro r W3 ⟨rfl, e1⟩
 replace g0 := Hz.mk (Bl.trans g0.out e1)
 clear p0 l0 A0 e1
 go_wp2_with fail
 go_ret
 exact ⟨rfl, g0.out⟩
theorem runs_some (m : PImg) (gate fuel : Int) (A I : List Nat) (ra ca ga aa ia : Option Addr) (rc cc gc ac ic : Nat) (w : World) (hm : ImgIn w.heap.size w ra ca ga m) (P : PImg) (hPm : P = bare m) (s0 : Ms) (hP : POk P) (ok0 : Okm P 0 s0) (h00 : s0.over.e = 0) (hBg : ∀ X, Bl w X → Calls Tryz.prog 5 #[.agg #[.slice ra m.regs.length rc, .slice ca m.comps.length cc, .slice ga m.gates.length gc, .int .i64 m.depth], .int .i64 gate, .slice aa A.length ac, .slice ia I.length ic] X fun x w' => ∃ a, x = .returned (.tuple #[.pointer (some ⟨a, 0, none⟩), .int .i64 0]) ∧ MIn X.heap.size w' a P s0 [] ∧ Below X.heap.size X w') : Calls Tryz.prog 3 #[.agg #[.slice ra m.regs.length rc, .slice ca m.comps.length cc, .slice ga m.gates.length gc, .int .i64 m.depth], .int .i64 gate, .slice aa A.length ac, .slice ia I.length ic, .int .i64 fuel] w fun x w' => x = .returned (.bool true) ∧ Below w.heap.size w w' := by
 go_enter Tryz.func3, Tryz.ntmps3
 go_upto_region 1 with fail
 refine wp_world (fun W => At W w.heap.size #[.slice ra m.regs.length rc, .slice ca m.comps.length cc, .slice ga m.gates.length gc, .int .i64 m.depth] ∧ Bl w W) ⟨At.new w _ _, (Bl.refl _).alloc _⟩ ?_
 rintro W ⟨A0, g0⟩
 have hEx := Hz.mk (F.head_any W)
 replace A0 := Hz.mk A0
 replace g0 := Hz.mk g0
 obtain ⟨k0, hk0⟩ : ∃ k0, w.heap.size = k0 := ⟨_, rfl⟩
 rw [hk0] at A0 ⊢
 replace hk0 := Hz.mk hk0
 go_wp2_with fail
 refine hEx.out.mono ?_
 rintro r W2 ⟨rfl, e1⟩
 replace g0 := Hz.mk (Bl.trans g0.out e1)
 replace A0 := Hz.mk (Bl.at_ e1 A0.out)
 clear e1 hEx
 have ⟨l0, p0, _⟩ := A0.out
 go_wp2_with fail
 refine (hBg _ g0.out).mono ?_
 rintro r W3 ⟨a, rfl, hM, e1⟩
 have hkB : k0 < W2.heap.size := l0
 have hwB : w.heap.size ≤ W2.heap.size := by rw [hk0.out]; omega
 replace g0 := Hz.mk (Bl.trans g0.out e1)
 replace A0 := Hz.mk (Bl.at_ e1 A0.out)
 clear p0 l0 e1
 generalize W2.heap.size = B at *
 have hA0 : Hz (∀ X, Below B W3 X → At X k0 #[.slice ra m.regs.length rc, .slice ca m.comps.length cc, .slice ga m.gates.length gc, .int .i64 m.depth]) := Hz.mk (fun X q => T.at_below A0.out q hkB)
 have hI1 : Hz (ImgIn w.heap.size W3 ra ca ga m) := Hz.mk (hm.below g0.out)
 have hfin : Hz (∀ X, Below B W3 X → Below w.heap.size w X) := Hz.mk (fun X q => Below.trans g0.out (Below.mono q hwB))
 clear hm
 have hs0 : Hz (Okm P 0 s0 ∧ s0.over.e = 0) := Hz.mk ⟨ok0, h00⟩
 have hMs := Hz.mk hM
 clear ok0 h00 hM hBg
 replace hP := Hz.mk hP
 go_wp2_with fail
 go_loopw [14] (fun i wr => ∃ (j : Nat) (s : Ms), i = .int .i64 j ∧ j ≤ 400 ∧ MIn B wr a P s [] ∧ Below B W3 wr ∧ Okm P j s ∧ s.over.e = 0) (fun i _ => 400 - (intOf i).toNat)
 case atStart => exact ⟨0, s0, rfl, by omega, hMs.out, Below.refl _ _, hs0.out⟩
 case round =>
   clear hMs hs0
   obtain ⟨j, s, rfl, hj, h, hB, ok, h0⟩ := hrel
   replace h := Hz.mk h
   replace hB := Hz.mk hB
   by_cases hjf : (j : Int) < fuel
   rotate_left
   · replace ok := Hz.mk ok
     replace h0 := Hz.mk h0
     go_wp2_with fail
     go_ret
     exact ⟨rfl, hfin.out _ hB.out⟩
   by_cases hjl : j < 400
   · have jl : (j : Int) < 400 := by omega
     obtain ⟨t, hst⟩ : ∃ t, stepsM P 1 s = t := ⟨_, rfl⟩
     have hSt := Hz.mk (fun X l' (q : MIn B X a P s l') => step_oc P hP.out s j ok (by omega) t hst B X a l' q)
     replace ok := Hz.mk ok
     replace h0 := Hz.mk h0
     replace hst := Hz.mk hst
     go_upto_region 8 with fail
     refine wp_region_lit ?_
     refine wpList_plain rfl (fun K hK => ?_)
     go_simp
     with_reducible refine hK _ _ ?_
     clear hK K
     try simp only [xap]
     refine wpList_plain rfl (fun K hK => ?_)
     go_simp
     (refine (snap_any B a P s [] _ h.out).mono ?_; rintro r Y1 ⟨rfl, e1⟩; replace hB := Hz.mk (hB.out.trans (h.out.bl e1).2); replace h := Hz.mk (h.out.bl e1).1; clear e1; have hA7 : At (Y1.alloc (.cells (snR zS).toArray 41)) Y1.heap.size (snR zS).toArray := At.new Y1 _ _; have hth := Hz.mk (At.there hA7 0 115 (by rw [snR_len]; decide)); have hA8 := Hz.mk (At.setAll hA7 (snR s) (by rw [snR_len, snR_len])); have g9 := Hz.mk (((Bl.refl Y1).alloc (.cells (snR zS).toArray 41)).sets Y1.heap.size (Nat.le_refl _) (snR s) 0); replace hA7 := Hz.mk hA7)
     with_reducible refine hK _ _ ?_
     clear hK K
     try simp only [xap]
     refine wpList_plain rfl (fun K hK => ?_)
     refine wp_alloc_sn rfl (hK _ _ ?_)
     clear hK K
     try simp only [xap]
     refine wpList_store_mid rfl _ _ _ rfl _ _ (List.toArray (snR s)) rfl rfl (show World.there _ _ _ _ by rw [show (snR s).toArray.size = 115 from snR_len s]; exact hth.out) (by rw [List.size_toArray, snR_len]; kernel_rfl) (snR_one s) ?_
     try simp only [Act.put]
     clear hth hA7
     have h9 := Hz.mk (h.out.add (boxOb Y1.heap.size (snR s).toArray) hA8.out (fun k q => by have : k = Y1.heap.size := q; omega) g9.out)
     replace hB := Hz.mk (hB.out.trans (Below.mono g9.out h.out.le))
     replace h := h9
     clear h9 g9 hA8
     generalize World.setCells _ _ _ _ = X1 at *
     generalize Y1.heap.size = ks at *
     go_wp2_with fail
     refine (hSt.out _ _ h.out).mono ?_
     rintro r Y2 ⟨rfl, h6, hB6⟩
     replace hB := Hz.mk (hB.out.trans hB6)
     replace h := Hz.mk h6
     clear h6 hB6 hSt
     have h9 := Hz.mk (h.out.new #[.int .i64 t.over.e, .int .u64 t.over.v, .int .i64 t.over.f, .int .i64 t.at_.gate, .int .i64 t.at_.pc] 46)
     go_upto_region 10 with fail
     refine wp_world (fun X => MIn B X a P t (boxOb Y2.heap.size #[.int .i64 t.over.e, .int .u64 t.over.v, .int .i64 t.over.f, .int .i64 t.at_.gate, .int .i64 t.at_.pc] :: [boxOb ks (snR s).toArray]) ∧ Below B W3 X) ⟨h9.out.1, hB.out.trans h9.out.2⟩ ?_
     clear h9 h hB
     rintro X2 ⟨h, hB⟩
     replace h := Hz.mk h
     replace hB := Hz.mk hB
     generalize Y2.heap.size = ko at *
     refine wp_region_lit ?_
     refine wpList_plain rfl (fun K hK => ?_)
     go_simp
     with_reducible refine hK _ _ ?_
     clear hK K
     try simp only [xap]
     refine wpList_plain rfl (fun K hK => ?_)
     go_simp
     (refine (snap_any B a P t _ _ h.out).mono ?_; rintro r Y3 ⟨rfl, e1⟩; replace hB := Hz.mk (hB.out.trans (h.out.bl e1).2); replace h := Hz.mk (h.out.bl e1).1; clear e1; have hA7 : At (Y3.alloc (.cells (snR zS).toArray 41)) Y3.heap.size (snR zS).toArray := At.new Y3 _ _; have hth := Hz.mk (At.there hA7 0 115 (by rw [snR_len]; decide)); have hA8 := Hz.mk (At.setAll hA7 (snR t) (by rw [snR_len, snR_len])); have g9 := Hz.mk (((Bl.refl Y3).alloc (.cells (snR zS).toArray 41)).sets Y3.heap.size (Nat.le_refl _) (snR t) 0); replace hA7 := Hz.mk hA7)
     with_reducible refine hK _ _ ?_
     clear hK K
     try simp only [xap]
     refine wpList_plain rfl (fun K hK => ?_)
     refine wp_alloc_sn rfl (hK _ _ ?_)
     clear hK K
     try simp only [xap]
     refine wpList_store_mid rfl _ _ _ rfl _ _ (List.toArray (snR t)) rfl rfl (show World.there _ _ _ _ by rw [show (snR t).toArray.size = 115 from snR_len t]; exact hth.out) (by rw [List.size_toArray, snR_len]; kernel_rfl) (snR_one t) ?_
     try simp only [Act.put]
     clear hth hA7
     have h9 := Hz.mk (h.out.add (boxOb Y3.heap.size (snR t).toArray) hA8.out (fun k q => by have : k = Y3.heap.size := q; omega) g9.out)
     replace hB := Hz.mk (hB.out.trans (Below.mono g9.out h.out.le))
     replace h := h9
     clear h9 g9 hA8
     generalize World.setCells _ _ _ _ = X3 at *
     generalize Y3.heap.size = kt at *
     have y0 : X3.cell? ⟨ko, 0, none⟩ = some (.int .i64 t.over.e) := (h.out.there (boxOb ko #[.int .i64 t.over.e, .int .u64 t.over.v, .int .i64 t.over.f, .int .i64 t.at_.gate, .int .i64 t.at_.pc]) (.tail _ (.head _))).2.1 0
     cases hq : stepM P s with
     | error e =>
       have he1 : (t.over.e != 0) = true := by rw [← hst.out, stepsM_err h0.out hq]; exact bne_iff_ne.2 (step_err hq)
       clear hq
       go_wp2_with fail
       go_ret
       exact ⟨rfl, hfin.out _ hB.out⟩
     | ok t' =>
       rw [show t' = t by rw [← hst.out]; exact (show stepsM P 1 s = t' from stepsM_ok h0.out hq).symm] at hq
       clear t'
       have h01 : Hz (t.over.e = 0) := Hz.mk (by rw [step_over hq]; exact h0.out)
       rw [h01.out] at y0
       have ok1 := Hz.mk (okm_step hP.out ok.out hq)
       replace ok := ok.out
       replace h0 := h0.out
       have hgs := ok.f.g
       obtain ⟨i, hi⟩ : ∃ i, (codeOf P (kOf P s.at_.gate))[s.at_.pc]? = some i := by
         unfold stepM at hq
         split at hq
         · cases hq
         · rename_i i hi; exact ⟨i, hi⟩
       have hgm : s.at_.gate < m.gates.length := by rw [hPm] at hgs; exact hgs
       obtain ⟨hkl, hkc, -, -⟩ := hP.out.kl _ hgs
       have hkm : kOf P s.at_.gate < m.comps.length := by rw [hPm] at hkl ⊢; exact hkl
       have hgc : m.gates[s.at_.gate].c = ((kOf P s.at_.gate : Nat) : Int) := by subst hPm; exact hkc
       have hcoe : codeOf P (kOf P s.at_.gate) = m.comps[kOf P s.at_.gate].code := by subst hPm; exact codeOf_at (bare m) _ hkl
       have hcl : m.comps[kOf P s.at_.gate].code.length ≤ 400 := by rw [← hcoe]; exact (hP.out.code _).1
       obtain ⟨hpl, hie⟩ := List.getElem?_eq_some_iff.1 hi
       have hAl0 := Hz.mk (fun h1 h2 => step_alone hi h1 h2 hq)
       have hFl0 := Hz.mk (fun h1 h2 => step_flow hP.out hi h1 h2 hq)
       rw [hcoe] at hpl hFl0
       replace hi := Hz.mk hi
       have hie2 : m.comps[kOf P s.at_.gate].code[s.at_.pc] = i := by
         have := hi.out
         rw [hcoe, List.getElem?_eq_getElem hpl] at this
         injection this
       clear hq hkc hkl hgs hie
       replace ok := Hz.mk ok
       replace h0 := Hz.mk h0
       obtain ⟨gb, goff, xa, xc, ya, yc, ega, hgb, -, cg0, -, -, -, -, -⟩ := hI1.out.gates s.at_.gate hgm
       obtain ⟨cb, coff, sa, sc, ka, kc, eca, hcb, -, -, cc1, -, hlin⟩ := hI1.out.comps (kOf P s.at_.gate) hkm
       obtain ⟨ib, ioff, eka, hib, -, hfive⟩ := hlin s.at_.pc hpl
       rw [hgc] at cg0
       rw [hie2] at hfive
       obtain ⟨f0, -, -, -, -⟩ := hfive
       have hcop : Hz (∀ X, Below B W3 X → X.cell? ⟨ib, ioff + s.at_.pc * 5, none⟩ = some (.int .u8 i.op)) := Hz.mk (fun X q => (q.cell (p := ⟨ib, _, none⟩) (Nat.lt_of_lt_of_le hib hwB)).trans f0)
       have hlib : ∀ X, Below B W3 X → ib < X.heap.size := fun X q => Nat.lt_of_lt_of_le (Nat.lt_of_lt_of_le hib g0.out.size) q.size
       replace hlib := Hz.mk hlib
       have hLn : Hz (∀ X, Below B W3 X → LIn X.heap.size X ka m.comps[kOf P s.at_.gate].code) := Hz.mk (fun X q => (hlin.below (Below.mono q hwB)).mono (Nat.le_trans g0.out.size q.size))
       rw [eka] at cc1 hLn
       subst eca ega
       have cgX : Hz (∀ X, Below B W3 X → X.cell? ⟨gb, goff + s.at_.gate * 4, none⟩ = some (.int .i64 ((kOf P s.at_.gate : Nat) : Int)) ∧ X.cell? ⟨cb, coff + kOf P s.at_.gate * 2 + 1, none⟩ = some (.slice (some ⟨ib, ioff, none⟩) m.comps[kOf P s.at_.gate].code.length kc)) := Hz.mk (fun X q => ⟨(q.cell (p := ⟨gb, _, none⟩) (Nat.lt_of_lt_of_le hgb hwB)).trans cg0, (q.cell (p := ⟨cb, _, none⟩) (Nat.lt_of_lt_of_le hcb hwB)).trans cc1⟩)
       clear cg0 cc1 f0 hlin
       have hA3 := hA0.out X3 hB.out
       have b1 := hA3.2.1 1
       have b2 := hA3.2.1 2
       replace b1 : X3.cell? ⟨k0, 1, none⟩ = some (.slice (some ⟨cb, coff, none⟩) m.comps.length cc) := b1
       replace b2 : X3.cell? ⟨k0, 2, none⟩ = some (.slice (some ⟨gb, goff, none⟩) m.gates.length gc) := b2
       have l0 := hA3.1
       have s0_ : X3.cell? ⟨ks, 0, none⟩ = some (.int .i64 s.at_.gate) := (h.out.there (boxOb ks (snR s).toArray) (.tail _ (.tail _ (.head _)))).2.1 0
       have lks := (h.out.there (boxOb ks (snR s).toArray) (.tail _ (.tail _ (.head _)))).1
       have gi1 : (s.at_.gate : Int) < m.gates.length := by omega
       have gi2 : ¬ (m.gates.length : Int) ≤ (s.at_.gate : Int) := by omega
       have gi4 : (kOf P s.at_.gate : Int) < m.comps.length := by omega
       have gi5 : (s.at_.pc : Int) < m.comps[kOf P s.at_.gate].code.length := by omega
       have gi6 : ¬ (m.comps[kOf P s.at_.gate].code.length : Int) ≤ (s.at_.pc : Int) := by omega
       clear hie2 hi hcoe hgc eka hPm hgm
       generalize m.comps[kOf P s.at_.gate].code = Lc at *
       obtain ⟨nc, hnc_⟩ : ∃ nc, Lc.length = nc := ⟨_, rfl⟩
       rw [hnc_] at cgX gi5 gi6 hcl hpl
       have hplN := Hz.mk hpl
       clear hpl
       clear hkm
       generalize kOf P s.at_.gate = kc_ at *
       replace hnc_ := Hz.mk hnc_
       go_upto_region 15 with fail
       replace hB := Hz.mk (hB.out.trans (h.out.bl (Bl.refl X3).drew).2)
       replace h := Hz.mk (h.out.bl (Bl.refl X3).drew).1
       obtain ⟨cg0, cc1⟩ := cgX.out X3.drew hB.out
       have hA4 := hA0.out X3.drew hB.out
       have d1_ : X3.drew.cell? ⟨k0, 1, none⟩ = some (.slice (some ⟨cb, coff, none⟩) m.comps.length cc) := hA4.2.1 1
       have d2_ : X3.drew.cell? ⟨k0, 2, none⟩ = some (.slice (some ⟨gb, goff, none⟩) m.gates.length gc) := hA4.2.1 2
       have e0_ : X3.drew.cell? ⟨ks, 0, none⟩ = some (.int .i64 s.at_.gate) := (h.out.there (boxOb ks (snR s).toArray) (.tail _ (.tail _ (.head _)))).2.1 0
       have hS15 := And.intro d1_ (And.intro d2_ (And.intro e0_ (And.intro cg0 cc1)))
       clear d1_ d2_ s0_ e0_ cg0 cc1 b1 b2 hA3 hA4 lks
       refine wp_region_held_drew (S := (fun X => X.cell? ⟨k0, 1, none⟩ = some (.slice (some ⟨cb, coff, none⟩) m.comps.length cc) ∧ X.cell? ⟨k0, 2, none⟩ = some (.slice (some ⟨gb, goff, none⟩) m.gates.length gc) ∧ X.cell? ⟨ks, 0, none⟩ = some (.int .i64 s.at_.gate) ∧ X.cell? ⟨gb, goff + s.at_.gate * 4, none⟩ = some (.int .i64 (kc_ : Nat)) ∧ X.cell? ⟨cb, coff + kc_ * 2 + 1, none⟩ = some (.slice (some ⟨ib, ioff, none⟩) nc kc))) (by kernel_rfl) (hS15) (fun hHeld => ?_)
       refine xso 0 ?_ rfl ?_ (xso 1 ?_ rfl ?_ (xso 2 ?_ rfl ?_ (xso 3 ?_ rfl ?_ (xso 4 ?_ rfl ?_ (xso 5 ?_ rfl ?_ (xso 6 ?_ rfl ?_ (xso 7 ?_ rfl ?_ (xso 8 ?_ rfl ?_ (xso 9 ?_ rfl ?_ (xso 10 ?_ rfl ?_ (xso 11 ?_ rfl ?_ (xso 12 ?_ rfl ?_ ?_))))))))))))
       iterate 13 (rotate_left; focus ((try simp only [xap]); intro w hSw; (try dsimp only at hSw); go_simp; first | done | with_reducible rfl))
       try simp only [xap]
       refine xdn ?_ _
       clear hHeld
       generalize X3.drew = X4 at *
       clear hS15 cgX gi1 gi2 gi4 hib hcb hgb
       have o0_ := hcop.out X4 hB.out
       have s1_ : X4.cell? ⟨ks, 1, none⟩ = some (.int .i64 s.at_.pc) := (h.out.there (boxOb ks (snR s).toArray) (.tail _ (.tail _ (.head _)))).2.1 1
       have lks := (h.out.there (boxOb ks (snR s).toArray) (.tail _ (.tail _ (.head _)))).1
       have lib := hlib.out X4 hB.out
       generalize hio_ : i.op = op_ at *
       replace hio_ := Hz.mk hio_
       by_cases h31 : op_ = 31
       · subst h31
         go_wp2_with fail
         exact ⟨⟨j + 1, t, by go_num, by omega, h.out.drop.drop.drop, hB.out, ok1.out, h01.out⟩, by simp [intOf]; omega⟩
       by_cases h32 : op_ = 32
       · subst h32
         go_wp2_with fail
         exact ⟨⟨j + 1, t, by go_num, by omega, h.out.drop.drop.drop, hB.out, ok1.out, h01.out⟩, by simp [intOf]; omega⟩
       have hop1 : (op_ == 31) = false := by simpa using h31
       have hop2 : (op_ == 32) = false := by simpa using h32
       have hAl : Hz (Alone s t i.a.toNat) := Hz.mk (hAl0.out h31 (fun _ _ => h32))
       have hFl : Hz (OnAt Lc op_ s.at_.pc t.at_.pc) := Hz.mk (hFl0.out h31 h32)
       clear hAl0 hFl0
       replace h31 := Hz.mk h31
       replace h32 := Hz.mk h32
       have hNx := Hz.mk (F.Next_any Lc (some ⟨ib, ioff, none⟩) kc s.at_.pc X4 (hLn.out X4 hB.out) (by rw [hnc_.out]; omega))
       rw [hnc_.out] at hNx
       go_wp2_with fail
       refine hNx.out.mono ?_
       rintro r X5 ⟨v, rfl, hO, e1⟩
       obtain ⟨na, ncap, rfl⟩ := F.own_slice hO
       have hN := Hz.mk (F.own_nin hO)
       replace hB := Hz.mk (hB.out.trans (Below.mono e1 h.out.le))
       replace h := Hz.mk (h.out.gr e1)
       clear e1 hO hNx o0_ s1_ lks lib hop1 hop2
       obtain ⟨N, hNe⟩ : ∃ N, F.nxtI Lc s.at_.pc = N := ⟨_, rfl⟩
       rw [hNe] at hN ⊢
       have hNl : N.length ≤ 400 := by rw [← hNe]; exact Nat.le_trans (fl_len _ _) (by rw [hnc_.out]; exact hcl)
       have hmem : Hz (t.at_.pc = nc ∨ (t.at_.pc : Int) ∈ N) := Hz.mk (by
         rcases hFl.out with ⟨z, -, -⟩ | z
         · exact .inl (by rw [z, hnc_.out])
         · right
           rw [← hNe]
           exact (F.mem_nxt (by rw [hnc_.out]; exact hplN.out) _).2 ⟨_, rfl, z⟩)
       replace hNe := Hz.mk hNe
       have o0_ := hcop.out X5 hB.out
       have lib := hlib.out X5 hB.out
       have t1_ : X5.cell? ⟨kt, 1, none⟩ = some (.int .i64 t.at_.pc) := (h.out.there (boxOb kt (snR t).toArray) (.head _)).2.1 1
       have s1_ : X5.cell? ⟨ks, 1, none⟩ = some (.int .i64 s.at_.pc) := (h.out.there (boxOb ks (snR s).toArray) (.tail _ (.tail _ (.head _)))).2.1 1
       have lks := (h.out.there (boxOb ks (snR s).toArray) (.tail _ (.tail _ (.head _)))).1
       have lkt := (h.out.there (boxOb kt (snR t).toArray) (.head _)).1
       have w1 : wrap64 ((s.at_.pc : Int) + 1) = (s.at_.pc : Int) + 1 := fl_w8 hplN.out hcl
       have w1b : IntKind.i64.wrap ((s.at_.pc : Int) + 1) = (s.at_.pc : Int) + 1 := fl_w9 hplN.out hcl
       by_cases hA_ : t.at_.pc = nc
       · have hf : s.at_.pc + 1 = nc ∧ op_ ≠ 20 := by
           rcases hFl.out with ⟨_, z1, z2⟩ | z
           · exact ⟨by rw [z1, hnc_.out], z2⟩
           · have := F.folB_lt z
             rw [hnc_.out] at this
             omega
         have g1 : ((t.at_.pc : Int) == (nc : Int)) = true := by rw [hA_]; exact beq_self_eq_true _
         have g2 : ((s.at_.pc : Int) + 1 == (nc : Int)) = true := by rw [← hf.1, Int.natCast_add]; exact beq_self_eq_true _
         have g3 : (op_ != 20) = true := by simpa using hf.2
         have w2 : wrap64 (nc : Int) = (nc : Int) := by rw [← hf.1, Int.natCast_add]; exact w1
         have hb0 : Hz (SnB (t.at_.pc = nc) N t.at_.pc 0 true) := Hz.mk ⟨fun _ => .inl hA_, fun _ => rfl⟩
         replace hA_ := Hz.mk hA_
         replace hf := Hz.mk hf
         go_upto_region 20 with fail
         refine wp_region_lit ?_
         iterate 6 (refine wpList_plain rfl (fun K hK => ?_); go_simp; with_reducible refine hK _ _ ?_; clear hK K; (try simp only [xap]))
         refine BigFrame.wpList_want (by rfl) (fun K hK => ?_)
         go_simp
         with_reducible refine hK _ _ ?_
         clear hK K
         try simp only [xap]
         refine BigFrame.wpList_want (by rfl) (fun K hK => ?_)
         go_simp
         with_reducible refine hK _ _ ?_
         clear hK K
         try simp only [xap]
         refine BigFrame.wpList_want (by rfl) (fun K hK => ?_)
         go_simp
         with_reducible refine hK _ _ ?_
         clear hK K
         try simp only [xap]
         refine BigFrame.wpList_want (by rfl) (fun K hK => ?_)
         go_simp
         with_reducible refine hK _ _ ?_
         clear hK K
         try simp only [xap]
         refine BigFrame.wpList_want (by rfl) (fun K hK => ?_)
         go_simp
         with_reducible refine hK _ _ ?_
         clear hK K
         try simp only [xap]
         refine BigFrame.wpList_want (by rfl) (fun K hK => ?_)
         go_simp
         with_reducible refine hK _ _ ?_
         clear hK K
         try simp only [xap]
         iterate 2 (refine wpList_plain rfl (fun K hK => ?_); go_simp; with_reducible refine hK _ _ ?_; clear hK K; (try simp only [xap]))
         refine BigFrame.wpList_want (by rfl) (fun K hK => ?_)
         go_simp
         with_reducible refine hK _ _ ?_
         clear hK K
         try simp only [xap]
         refine BigFrame.wpList_want (by rfl) (fun K hK => ?_)
         go_simp
         with_reducible refine hK _ _ ?_
         clear hK K
         try simp only [xap]
         refine BigFrame.wpList_want (by rfl) (fun K hK => ?_)
         go_simp
         with_reducible refine hK _ _ ?_
         clear hK K
         try simp only [xap]
         refine BigFrame.wpList_want (by rfl) (fun K hK => ?_)
         go_simp
         with_reducible refine hK _ _ ?_
         clear hK K
         try simp only [xap]
         refine BigFrame.wpList_want (by rfl) (fun K hK => ?_)
         go_simp
         with_reducible refine hK _ _ ?_
         clear hK K
         try simp only [xap]
         refine BigFrame.wpList_want (by rfl) (fun K hK => ?_)
         go_simp
         with_reducible refine hK _ _ ?_
         clear hK K
         try simp only [xap]
         refine BigFrame.wpList_want (by rfl) (fun K hK => ?_)
         go_simp
         with_reducible refine hK _ _ ?_
         clear hK K
         try simp only [xap]
         iterate 2 (refine wpList_plain rfl (fun K hK => ?_); go_simp; with_reducible refine hK _ _ ?_; clear hK K; (try simp only [xap]))
         clear g1 g2 g3 w1 w1b w2 t1_ s1_ o0_ lks lkt lib
         go_wp2_with fail
         go_loopw [20, 21] (fun on x wr => ∃ (q : Nat) (b : Bool), x = .int .i64 q ∧ on = .bool b ∧ q ≤ N.length ∧ MIn B wr a P t [boxOb kt (snR t).toArray, boxOb ko #[.int .i64 t.over.e, .int .u64 t.over.v, .int .i64 t.over.f, .int .i64 t.at_.gate, .int .i64 t.at_.pc], boxOb ks (snR s).toArray] ∧ Below B W3 wr ∧ F.NIn wr.heap.size wr na N ∧ SnB (t.at_.pc = nc) N t.at_.pc q b) (fun _ x _ => N.length - (intOf x).toNat)
         case atStart => exact ⟨0, _, rfl, rfl, Nat.zero_le _, h.out, hB.out, hN.out, hb0.out⟩
         case round =>
           clear h hB hN hb0
           obtain ⟨q, b, rfl, rfl, hq, h, hB, hN, hsn⟩ := hrel
           replace h := Hz.mk h
           have h0 := h
           replace hB := Hz.mk hB
           replace hN := Hz.mk hN
           replace hsn := Hz.mk hsn
           by_cases hql : q < N.length
           · have ql : (q : Int) < N.length := by omega
             obtain ⟨nb, noff, rfl, -, hnl, hnc⟩ := hN.out q hql
             cases b
             · have hS24 : wr.drew.cell? ⟨nb, noff + q, none⟩ = some (.int .i64 (N[q]'hql)) ∧ wr.drew.cell? ⟨kt, 1, none⟩ = some (.int .i64 t.at_.pc) := ⟨((Bl.refl wr).drew.cell (p := ⟨nb, _, none⟩) hnl).trans hnc, ((h.out.bl (Bl.refl wr).drew).1.there (boxOb kt (snR t).toArray) (.head _)).2.1 1⟩
               clear hnc
               by_cases hx : N[q]'hql = (t.at_.pc : Int)
               · have hx1 : (N[q]'hql == (t.at_.pc : Int)) = true := by simp [hx]
                 replace hx := Hz.mk hx
                 go_upto_region 24 with fail
                 refine wp_region_held_drew (S := (fun X => X.cell? ⟨nb, noff + q, none⟩ = some (.int .i64 (N[q]'hql)) ∧ X.cell? ⟨kt, 1, none⟩ = some (.int .i64 t.at_.pc))) (by kernel_rfl) (hS24) (fun hHeld => ?_)
                 refine xso 0 ?_ rfl ?_ (xso 1 ?_ rfl ?_ ?_)
                 iterate 2 (rotate_left; focus ((try simp only [xap]); intro w hSw; (try dsimp only at hSw); go_simp; first | done | with_reducible rfl))
                 try simp only [xap]
                 refine xso 2 ?_ rfl ?_ ?_
                 rotate_left
                 · intro w hSw; (try dsimp only at hSw); go_simp; first | done | with_reducible rfl
                 try simp only [xap]
                 refine xso 3 ?_ rfl ?_ ?_
                 rotate_left
                 · intro w hSw; (try dsimp only at hSw); go_simp; first | done | with_reducible rfl
                 try simp only [xap]
                 refine xso 4 ?_ rfl ?_ ?_
                 rotate_left
                 · intro w hSw; (try dsimp only at hSw); go_simp; first | done | with_reducible rfl
                 try simp only [xap]
                 refine xso 5 ?_ rfl ?_ ?_
                 rotate_left
                 · intro w hSw; (try dsimp only at hSw); go_simp; first | done | with_reducible rfl
                 try simp only [xap]
                 refine xso 6 ?_ rfl ?_ ?_
                 rotate_left
                 · intro w hSw; (try dsimp only at hSw); go_simp; first | done | with_reducible rfl
                 try simp only [xap]
                 refine xso 7 ?_ rfl ?_ ?_
                 rotate_left
                 · intro w hSw; (try dsimp only at hSw); go_simp; first | done | with_reducible rfl
                 try simp only [xap]
                 refine xso 8 ?_ rfl ?_ (xso 9 ?_ rfl ?_ (xso 10 ?_ rfl ?_ ?_))
                 iterate 3 (rotate_left; focus ((try simp only [xap]); intro w hSw; (try dsimp only at hSw); go_simp; first | done | with_reducible rfl))
                 try simp only [xap]
                 refine xdn ?_ _
                 clear hHeld
                 replace h := Hz.mk (h.out.bl (Bl.refl wr).drew).1
                 replace hB := Hz.mk (hB.out.trans (h0.out.bl (Bl.refl wr).drew).2)
                 have hNd := Hz.mk (hN.out.below (Bl.refl wr).drew)
                 go_wp2_with fail
                 exact ⟨⟨q + 1, true, by first | rfl | go_num, rfl, by omega, h.out, hB.out, hNd.out, snb_next hsn.out (by simp [List.getElem?_eq_getElem hql, hx.out])⟩, by simp [intOf]; omega⟩
               · have hx1 : (N[q]'hql == (t.at_.pc : Int)) = false := by simpa using hx
                 replace hx := Hz.mk hx
                 go_upto_region 24 with fail
                 refine wp_region_held_drew (S := (fun X => X.cell? ⟨nb, noff + q, none⟩ = some (.int .i64 (N[q]'hql)) ∧ X.cell? ⟨kt, 1, none⟩ = some (.int .i64 t.at_.pc))) (by kernel_rfl) (hS24) (fun hHeld => ?_)
                 refine xso 0 ?_ rfl ?_ (xso 1 ?_ rfl ?_ ?_)
                 iterate 2 (rotate_left; focus ((try simp only [xap]); intro w hSw; (try dsimp only at hSw); go_simp; first | done | with_reducible rfl))
                 try simp only [xap]
                 refine xso 2 ?_ rfl ?_ ?_
                 rotate_left
                 · intro w hSw; (try dsimp only at hSw); go_simp; first | done | with_reducible rfl
                 try simp only [xap]
                 refine xso 3 ?_ rfl ?_ ?_
                 rotate_left
                 · intro w hSw; (try dsimp only at hSw); go_simp; first | done | with_reducible rfl
                 try simp only [xap]
                 refine xso 4 ?_ rfl ?_ ?_
                 rotate_left
                 · intro w hSw; (try dsimp only at hSw); go_simp; first | done | with_reducible rfl
                 try simp only [xap]
                 refine xso 5 ?_ rfl ?_ ?_
                 rotate_left
                 · intro w hSw; (try dsimp only at hSw); go_simp; first | done | with_reducible rfl
                 try simp only [xap]
                 refine xso 6 ?_ rfl ?_ ?_
                 rotate_left
                 · intro w hSw; (try dsimp only at hSw); go_simp; first | done | with_reducible rfl
                 try simp only [xap]
                 refine xso 7 ?_ rfl ?_ ?_
                 rotate_left
                 · intro w hSw; (try dsimp only at hSw); go_simp; first | done | with_reducible rfl
                 try simp only [xap]
                 refine xso 8 ?_ rfl ?_ (xso 9 ?_ rfl ?_ (xso 10 ?_ rfl ?_ ?_))
                 iterate 3 (rotate_left; focus ((try simp only [xap]); intro w hSw; (try dsimp only at hSw); go_simp; first | done | with_reducible rfl))
                 try simp only [xap]
                 refine xdn ?_ _
                 clear hHeld
                 replace h := Hz.mk (h.out.bl (Bl.refl wr).drew).1
                 replace hB := Hz.mk (hB.out.trans (h0.out.bl (Bl.refl wr).drew).2)
                 have hNd := Hz.mk (hN.out.below (Bl.refl wr).drew)
                 go_wp2_with fail
                 exact ⟨⟨q + 1, false, by first | rfl | go_num, rfl, by omega, h.out, hB.out, hNd.out, snb_next hsn.out (by simp [List.getElem?_eq_getElem hql, hx.out])⟩, by simp [intOf]; omega⟩
             · clear hnc
               go_upto_region 24 with fail
               refine wp_region_held_drew (S := (fun _ => True)) (by kernel_rfl) (trivial) (fun hHeld => ?_)
               refine xso 0 ?_ rfl ?_ (xso 1 ?_ rfl ?_ ?_)
               iterate 2 (rotate_left; focus ((try simp only [xap]); intro w hSw; (try dsimp only at hSw); go_simp; first | done | with_reducible rfl))
               try simp only [xap]
               refine xtk 2 (v := undef) rfl (Or.inr ⟨by rfl, rfl⟩) ?_
               try simp only [xap]
               refine xtk 3 (v := undef) rfl (Or.inr ⟨by rfl, rfl⟩) ?_
               try simp only [xap]
               refine xtk 4 (v := undef) rfl (Or.inr ⟨by rfl, rfl⟩) ?_
               try simp only [xap]
               refine xtk 5 (v := undef) rfl (Or.inr ⟨by rfl, rfl⟩) ?_
               try simp only [xap]
               refine xtk 6 (v := undef) rfl (Or.inr ⟨by rfl, rfl⟩) ?_
               try simp only [xap]
               refine xtk 7 (v := undef) rfl (Or.inr ⟨by rfl, rfl⟩) ?_
               try simp only [xap]
               refine xtk 8 (v := undef) rfl (Or.inr ⟨by rfl, rfl⟩) ?_
               try simp only [xap]
               refine xso 9 ?_ rfl ?_ (xso 10 ?_ rfl ?_ ?_)
               iterate 2 (rotate_left; focus ((try simp only [xap]); intro w hSw; (try dsimp only at hSw); go_simp; first | done | with_reducible rfl))
               try simp only [xap]
               refine xdn ?_ _
               clear hHeld
               replace h := Hz.mk (h.out.bl (Bl.refl wr).drew).1
               replace hB := Hz.mk (hB.out.trans (h0.out.bl (Bl.refl wr).drew).2)
               have hNd := Hz.mk (hN.out.below (Bl.refl wr).drew)
               go_wp2_with fail
               exact ⟨⟨q + 1, true, by first | rfl | go_num, rfl, by omega, h.out, hB.out, hNd.out, snb_next hsn.out (by simp)⟩, by simp [intOf]; omega⟩
           · have ql : ¬ (q : Int) < N.length := by omega
             obtain rfl : q = N.length := by omega
             have hbt : b = true := hsn.out.2 (hmem.out.imp id (fun z => by obtain ⟨r, hr, e⟩ := List.getElem_of_mem z; exact ⟨r, hr, by rw [List.getElem?_eq_getElem hr, e]⟩))
             subst hbt
             have t0_ : wr.cell? ⟨kt, 0, none⟩ = some (.int .i64 s.at_.gate) := ((h.out.there (boxOb kt (snR t).toArray) (.head _)).2.1 0).trans (by rw [← hAl.out.gate]; rfl)
             have t2_ : wr.cell? ⟨kt, 2, none⟩ = some (.int .i64 s.st.length) := ((h.out.there (boxOb kt (snR t).toArray) (.head _)).2.1 2).trans (by rw [← hAl.out.st]; rfl)
             have s0_ : wr.cell? ⟨ks, 0, none⟩ = some (.int .i64 s.at_.gate) := (h.out.there (boxOb ks (snR s).toArray) (.tail _ (.tail _ (.head _)))).2.1 0
             have s2_ : wr.cell? ⟨ks, 2, none⟩ = some (.int .i64 s.st.length) := (h.out.there (boxOb ks (snR s).toArray) (.tail _ (.tail _ (.head _)))).2.1 2
             have lkt := (h.out.there (boxOb kt (snR t).toArray) (.head _)).1
             have lks := (h.out.there (boxOb ks (snR s).toArray) (.tail _ (.tail _ (.head _)))).1
             go_wp2_with fail
             exact ⟨⟨j + 1, t, by go_num, by omega, h.out.drop.drop.drop, hB.out, ok1.out, h01.out⟩, by simp [intOf]; omega⟩
       · have g1 : ((t.at_.pc : Int) == (nc : Int)) = false := beq_false_of_ne (fun z => hA_ (Int.ofNat_inj.1 z))
         have hb0 : Hz (SnB (t.at_.pc = nc) N t.at_.pc 0 false) := Hz.mk ⟨fun z => (by cases z), fun z => (by rcases z with z | ⟨r, z, _⟩ <;> first | exact absurd z hA_ | omega)⟩
         replace hA_ := Hz.mk hA_
         go_upto_region 20 with fail
         refine wp_region_lit ?_
         iterate 6 (refine wpList_plain rfl (fun K hK => ?_); go_simp; with_reducible refine hK _ _ ?_; clear hK K; (try simp only [xap]))
         with_reducible refine wpList_skip (by kernel_rfl) ?_
         try simp only [xap]
         with_reducible refine wpList_skip (by kernel_rfl) ?_
         try simp only [xap]
         with_reducible refine wpList_skip (by kernel_rfl) ?_
         try simp only [xap]
         with_reducible refine wpList_skip (by kernel_rfl) ?_
         try simp only [xap]
         with_reducible refine wpList_skip (by kernel_rfl) ?_
         try simp only [xap]
         with_reducible refine wpList_skip (by kernel_rfl) ?_
         try simp only [xap]
         iterate 2 (refine wpList_plain rfl (fun K hK => ?_); go_simp; with_reducible refine hK _ _ ?_; clear hK K; (try simp only [xap]))
         with_reducible refine wpList_skip (by kernel_rfl) ?_
         try simp only [xap]
         with_reducible refine wpList_skip (by kernel_rfl) ?_
         try simp only [xap]
         with_reducible refine wpList_skip (by kernel_rfl) ?_
         try simp only [xap]
         with_reducible refine wpList_skip (by kernel_rfl) ?_
         try simp only [xap]
         with_reducible refine wpList_skip (by kernel_rfl) ?_
         try simp only [xap]
         with_reducible refine wpList_skip (by kernel_rfl) ?_
         try simp only [xap]
         with_reducible refine wpList_skip (by kernel_rfl) ?_
         try simp only [xap]
         iterate 2 (refine wpList_plain rfl (fun K hK => ?_); go_simp; with_reducible refine hK _ _ ?_; clear hK K; (try simp only [xap]))
         clear g1 w1 w1b t1_ s1_ o0_ lks lkt lib
         go_wp2_with fail
         go_loopw [20, 21] (fun on x wr => ∃ (q : Nat) (b : Bool), x = .int .i64 q ∧ on = .bool b ∧ q ≤ N.length ∧ MIn B wr a P t [boxOb kt (snR t).toArray, boxOb ko #[.int .i64 t.over.e, .int .u64 t.over.v, .int .i64 t.over.f, .int .i64 t.at_.gate, .int .i64 t.at_.pc], boxOb ks (snR s).toArray] ∧ Below B W3 wr ∧ F.NIn wr.heap.size wr na N ∧ SnB (t.at_.pc = nc) N t.at_.pc q b) (fun _ x _ => N.length - (intOf x).toNat)
         case atStart => exact ⟨0, _, rfl, rfl, Nat.zero_le _, h.out, hB.out, hN.out, hb0.out⟩
         case round =>
           clear h hB hN hb0
           obtain ⟨q, b, rfl, rfl, hq, h, hB, hN, hsn⟩ := hrel
           replace h := Hz.mk h
           have h0 := h
           replace hB := Hz.mk hB
           replace hN := Hz.mk hN
           replace hsn := Hz.mk hsn
           by_cases hql : q < N.length
           · have ql : (q : Int) < N.length := by omega
             obtain ⟨nb, noff, rfl, -, hnl, hnc⟩ := hN.out q hql
             cases b
             · have hS24 : wr.drew.cell? ⟨nb, noff + q, none⟩ = some (.int .i64 (N[q]'hql)) ∧ wr.drew.cell? ⟨kt, 1, none⟩ = some (.int .i64 t.at_.pc) := ⟨((Bl.refl wr).drew.cell (p := ⟨nb, _, none⟩) hnl).trans hnc, ((h.out.bl (Bl.refl wr).drew).1.there (boxOb kt (snR t).toArray) (.head _)).2.1 1⟩
               clear hnc
               by_cases hx : N[q]'hql = (t.at_.pc : Int)
               · have hx1 : (N[q]'hql == (t.at_.pc : Int)) = true := by simp [hx]
                 replace hx := Hz.mk hx
                 go_upto_region 24 with fail
                 refine wp_region_held_drew (S := (fun X => X.cell? ⟨nb, noff + q, none⟩ = some (.int .i64 (N[q]'hql)) ∧ X.cell? ⟨kt, 1, none⟩ = some (.int .i64 t.at_.pc))) (by kernel_rfl) (hS24) (fun hHeld => ?_)
                 refine xso 0 ?_ rfl ?_ (xso 1 ?_ rfl ?_ ?_)
                 iterate 2 (rotate_left; focus ((try simp only [xap]); intro w hSw; (try dsimp only at hSw); go_simp; first | done | with_reducible rfl))
                 try simp only [xap]
                 refine xso 2 ?_ rfl ?_ ?_
                 rotate_left
                 · intro w hSw; (try dsimp only at hSw); go_simp; first | done | with_reducible rfl
                 try simp only [xap]
                 refine xso 3 ?_ rfl ?_ ?_
                 rotate_left
                 · intro w hSw; (try dsimp only at hSw); go_simp; first | done | with_reducible rfl
                 try simp only [xap]
                 refine xso 4 ?_ rfl ?_ ?_
                 rotate_left
                 · intro w hSw; (try dsimp only at hSw); go_simp; first | done | with_reducible rfl
                 try simp only [xap]
                 refine xso 5 ?_ rfl ?_ ?_
                 rotate_left
                 · intro w hSw; (try dsimp only at hSw); go_simp; first | done | with_reducible rfl
                 try simp only [xap]
                 refine xso 6 ?_ rfl ?_ ?_
                 rotate_left
                 · intro w hSw; (try dsimp only at hSw); go_simp; first | done | with_reducible rfl
                 try simp only [xap]
                 refine xso 7 ?_ rfl ?_ ?_
                 rotate_left
                 · intro w hSw; (try dsimp only at hSw); go_simp; first | done | with_reducible rfl
                 try simp only [xap]
                 refine xso 8 ?_ rfl ?_ (xso 9 ?_ rfl ?_ (xso 10 ?_ rfl ?_ ?_))
                 iterate 3 (rotate_left; focus ((try simp only [xap]); intro w hSw; (try dsimp only at hSw); go_simp; first | done | with_reducible rfl))
                 try simp only [xap]
                 refine xdn ?_ _
                 clear hHeld
                 replace h := Hz.mk (h.out.bl (Bl.refl wr).drew).1
                 replace hB := Hz.mk (hB.out.trans (h0.out.bl (Bl.refl wr).drew).2)
                 have hNd := Hz.mk (hN.out.below (Bl.refl wr).drew)
                 go_wp2_with fail
                 exact ⟨⟨q + 1, true, by first | rfl | go_num, rfl, by omega, h.out, hB.out, hNd.out, snb_next hsn.out (by simp [List.getElem?_eq_getElem hql, hx.out])⟩, by simp [intOf]; omega⟩
               · have hx1 : (N[q]'hql == (t.at_.pc : Int)) = false := by simpa using hx
                 replace hx := Hz.mk hx
                 go_upto_region 24 with fail
                 refine wp_region_held_drew (S := (fun X => X.cell? ⟨nb, noff + q, none⟩ = some (.int .i64 (N[q]'hql)) ∧ X.cell? ⟨kt, 1, none⟩ = some (.int .i64 t.at_.pc))) (by kernel_rfl) (hS24) (fun hHeld => ?_)
                 refine xso 0 ?_ rfl ?_ (xso 1 ?_ rfl ?_ ?_)
                 iterate 2 (rotate_left; focus ((try simp only [xap]); intro w hSw; (try dsimp only at hSw); go_simp; first | done | with_reducible rfl))
                 try simp only [xap]
                 refine xso 2 ?_ rfl ?_ ?_
                 rotate_left
                 · intro w hSw; (try dsimp only at hSw); go_simp; first | done | with_reducible rfl
                 try simp only [xap]
                 refine xso 3 ?_ rfl ?_ ?_
                 rotate_left
                 · intro w hSw; (try dsimp only at hSw); go_simp; first | done | with_reducible rfl
                 try simp only [xap]
                 refine xso 4 ?_ rfl ?_ ?_
                 rotate_left
                 · intro w hSw; (try dsimp only at hSw); go_simp; first | done | with_reducible rfl
                 try simp only [xap]
                 refine xso 5 ?_ rfl ?_ ?_
                 rotate_left
                 · intro w hSw; (try dsimp only at hSw); go_simp; first | done | with_reducible rfl
                 try simp only [xap]
                 refine xso 6 ?_ rfl ?_ ?_
                 rotate_left
                 · intro w hSw; (try dsimp only at hSw); go_simp; first | done | with_reducible rfl
                 try simp only [xap]
                 refine xso 7 ?_ rfl ?_ ?_
                 rotate_left
                 · intro w hSw; (try dsimp only at hSw); go_simp; first | done | with_reducible rfl
                 try simp only [xap]
                 refine xso 8 ?_ rfl ?_ (xso 9 ?_ rfl ?_ (xso 10 ?_ rfl ?_ ?_))
                 iterate 3 (rotate_left; focus ((try simp only [xap]); intro w hSw; (try dsimp only at hSw); go_simp; first | done | with_reducible rfl))
                 try simp only [xap]
                 refine xdn ?_ _
                 clear hHeld
                 replace h := Hz.mk (h.out.bl (Bl.refl wr).drew).1
                 replace hB := Hz.mk (hB.out.trans (h0.out.bl (Bl.refl wr).drew).2)
                 have hNd := Hz.mk (hN.out.below (Bl.refl wr).drew)
                 go_wp2_with fail
                 exact ⟨⟨q + 1, false, by first | rfl | go_num, rfl, by omega, h.out, hB.out, hNd.out, snb_next hsn.out (by simp [List.getElem?_eq_getElem hql, hx.out])⟩, by simp [intOf]; omega⟩
             · clear hnc
               go_upto_region 24 with fail
               refine wp_region_held_drew (S := (fun _ => True)) (by kernel_rfl) (trivial) (fun hHeld => ?_)
               refine xso 0 ?_ rfl ?_ (xso 1 ?_ rfl ?_ ?_)
               iterate 2 (rotate_left; focus ((try simp only [xap]); intro w hSw; (try dsimp only at hSw); go_simp; first | done | with_reducible rfl))
               try simp only [xap]
               refine xtk 2 (v := undef) rfl (Or.inr ⟨by rfl, rfl⟩) ?_
               try simp only [xap]
               refine xtk 3 (v := undef) rfl (Or.inr ⟨by rfl, rfl⟩) ?_
               try simp only [xap]
               refine xtk 4 (v := undef) rfl (Or.inr ⟨by rfl, rfl⟩) ?_
               try simp only [xap]
               refine xtk 5 (v := undef) rfl (Or.inr ⟨by rfl, rfl⟩) ?_
               try simp only [xap]
               refine xtk 6 (v := undef) rfl (Or.inr ⟨by rfl, rfl⟩) ?_
               try simp only [xap]
               refine xtk 7 (v := undef) rfl (Or.inr ⟨by rfl, rfl⟩) ?_
               try simp only [xap]
               refine xtk 8 (v := undef) rfl (Or.inr ⟨by rfl, rfl⟩) ?_
               try simp only [xap]
               refine xso 9 ?_ rfl ?_ (xso 10 ?_ rfl ?_ ?_)
               iterate 2 (rotate_left; focus ((try simp only [xap]); intro w hSw; (try dsimp only at hSw); go_simp; first | done | with_reducible rfl))
               try simp only [xap]
               refine xdn ?_ _
               clear hHeld
               replace h := Hz.mk (h.out.bl (Bl.refl wr).drew).1
               replace hB := Hz.mk (hB.out.trans (h0.out.bl (Bl.refl wr).drew).2)
               have hNd := Hz.mk (hN.out.below (Bl.refl wr).drew)
               go_wp2_with fail
               exact ⟨⟨q + 1, true, by first | rfl | go_num, rfl, by omega, h.out, hB.out, hNd.out, snb_next hsn.out (by simp)⟩, by simp [intOf]; omega⟩
           · have ql : ¬ (q : Int) < N.length := by omega
             obtain rfl : q = N.length := by omega
             have hbt : b = true := hsn.out.2 (hmem.out.imp id (fun z => by obtain ⟨r, hr, e⟩ := List.getElem_of_mem z; exact ⟨r, hr, by rw [List.getElem?_eq_getElem hr, e]⟩))
             subst hbt
             have t0_ : wr.cell? ⟨kt, 0, none⟩ = some (.int .i64 s.at_.gate) := ((h.out.there (boxOb kt (snR t).toArray) (.head _)).2.1 0).trans (by rw [← hAl.out.gate]; rfl)
             have t2_ : wr.cell? ⟨kt, 2, none⟩ = some (.int .i64 s.st.length) := ((h.out.there (boxOb kt (snR t).toArray) (.head _)).2.1 2).trans (by rw [← hAl.out.st]; rfl)
             have s0_ : wr.cell? ⟨ks, 0, none⟩ = some (.int .i64 s.at_.gate) := (h.out.there (boxOb ks (snR s).toArray) (.tail _ (.tail _ (.head _)))).2.1 0
             have s2_ : wr.cell? ⟨ks, 2, none⟩ = some (.int .i64 s.st.length) := (h.out.there (boxOb ks (snR s).toArray) (.tail _ (.tail _ (.head _)))).2.1 2
             have lkt := (h.out.there (boxOb kt (snR t).toArray) (.head _)).1
             have lks := (h.out.there (boxOb ks (snR s).toArray) (.tail _ (.tail _ (.head _)))).1
             go_wp2_with fail
             exact ⟨⟨j + 1, t, by go_num, by omega, h.out.drop.drop.drop, hB.out, ok1.out, h01.out⟩, by simp [intOf]; omega⟩
   · have jl : ¬ (j : Int) < 400 := by omega
     replace ok := Hz.mk ok
     replace h0 := Hz.mk h0
     go_wp2_with fail
     go_ret
     exact ⟨rfl, hfin.out _ hB.out⟩
theorem walk_FlowRuns (m : PImg) (gate fuel : Int) (A I : List Nat) (ra ca ga aa ia : Option Addr) (rc cc gc ac ic : Nat) (w : World) (ht : TabIn w) (hm : ImgIn w.heap.size w ra ca ga m) (hr : m.Rng) (hA : NumIn w aa A) (hI : InS w ia I ic) (hAb : ∀ x ∈ A, x < 18446744073709551616) (hIb : ∀ x ∈ I, x < 18446744073709551616) (hil : I.length ≤ 2000000) : Calls Tryz.prog 3 #[.agg #[.slice ra m.regs.length rc, .slice ca m.comps.length cc, .slice ga m.gates.length gc, .int .i64 m.depth], .int .i64 gate, .slice aa A.length ac, .slice ia I.length ic, .int .i64 fuel] w fun x w' => x = .returned (.bool true) ∧ Below w.heap.size w w' := by
 by_cases hrt : m.right = 0
 · have hP : POk (bare m) := pok_of m hrt hr
   cases hent : isEnt m gate
   · exact runs_nil m gate fuel A I ra ca ga aa ia rc cc gc ac ic w 70 (by decide) (fun X q => new_no70 m gate A I ra ca ga aa ia rc cc gc ac ic X (TabIn.below ht q ht.size) ((hm.below q).mono q.size) hr hrt hent)
   · obtain ⟨hg0, hgl⟩ := ent_lt hent
     obtain ⟨n, rfl⟩ : ∃ n : Nat, gate = n := ⟨gate.toNat, by omega⟩
     replace hgl : n < m.gates.length := by omega
     by_cases hal : A.length = (argsOf m n).length
     · exact runs_some m n fuel A I ra ca ga aa ia rc cc gc ac ic w hm (bare m) rfl _ hP (start_ok hrt hr hgl hAb hIb hil) rfl (fun X q => new_ok m n A I ra ca ga aa ia rc cc gc ac ic X (TabIn.below ht q ht.size) ((hm.below q).mono q.size) hr hrt hent hal (hA.bl q) (hI.bl q) hil)
     · exact runs_nil m n fuel A I ra ca ga aa ia rc cc gc ac ic w 71 (by decide) (fun X q => new_no71 m n A I ra ca ga aa ia rc cc gc ac ic X (TabIn.below ht q ht.size) ((hm.below q).mono q.size) hr hrt hent (by simpa using hal))
 · exact runs_nil m gate fuel A I ra ca ga aa ia rc cc gc ac ic w m.right (by simpa using hrt) (fun X q => new_wrong m gate A I ra ca ga aa ia rc cc gc ac ic X (TabIn.below ht q ht.size) ((hm.below q).mono q.size) hr hrt)
end C
end Go.Proofs.YtfidlchgmgmcbaaGreatDoor
