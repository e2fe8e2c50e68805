import Derived.Test.YthmlkcglglcljaaGreatDoorK45
import Derived.Test.YthmlkcglglcljaaGreatDoorKCFuM
import Derived.Test.YthmlkcglglcljaaGreatDoorK44
namespace Go.Proofs.YthmlkcglglcljaaGreatDoor
set_option maxRecDepth 100000
set_option maxHeartbeats 40000000
namespace C
open Go.RowKit
open T (Sep Ob Kp Mf TgIn boxOb Fm Tc Ed Vl Cp Bx tgOb mRow updV flt regRow regRow_at regRow_len Vl.row_len)

theorem calls_nil (m : PImg) (gate : Int) (A I : List Nat) (ra ca ga aa ia : Option Addr) (rc cc gc ac ic : Nat) (w : World) (ht : TabIn w) (hBg : ∀ X, Bl w X → Calls Tryz.prog 7 #[.agg #[.slice ra m.regs.length rc, .slice ca m.comps.length cc, .slice ga m.gates.length gc, .int .i64 m.depth], .int .i64 gate, .slice aa A.length ac, .slice ia I.length ic] X fun x w' => x = .returned (.pointer none) ∧ Bl X w') : Calls Tryz.prog 3 #[.agg #[.slice ra m.regs.length rc, .slice ca m.comps.length cc, .slice ga m.gates.length gc, .int .i64 m.depth], .int .i64 gate, .slice aa A.length ac, .slice ia I.length ic] w fun x w' => x = .returned (.bool true) ∧ Below w.heap.size w w' := by
 go_enter Tryz.func3, Tryz.ntmps3
 go_upto_region 1 with fail
 refine wp_world (fun W => At W w.heap.size #[.slice ra m.regs.length rc, .slice ca m.comps.length cc, .slice ga m.gates.length gc, .int .i64 m.depth] ∧ Bl w W) ⟨At.new w _ _, (Bl.refl _).alloc _⟩ ?_
 rintro W ⟨A0, g0⟩
 have hEx := Hz.mk (examples_any W (TabIn.bl ht g0))
 replace A0 := Hz.mk A0
 replace g0 := Hz.mk g0
 obtain ⟨k0, hk0⟩ : ∃ k0, w.heap.size = k0 := ⟨_, rfl⟩
 rw [hk0] at A0 ⊢
 replace hk0 := Hz.mk hk0
 go_wp2_with fail
 refine hEx.out.mono ?_
 rintro r W2 ⟨rfl, e1⟩
 replace g0 := Hz.mk (Bl.trans g0.out e1)
 replace A0 := Hz.mk (Bl.at_ e1 A0.out)
 clear e1 hEx
 have ⟨l0, p0, _⟩ := A0.out
 go_wp2_with fail
 refine (hBg _ g0.out).mono ?_
 rintro r W3 ⟨rfl, e1⟩
 replace g0 := Hz.mk (Bl.trans g0.out e1)
 clear p0 l0 A0 e1
 go_wp2_with fail
 go_ret
 exact ⟨rfl, g0.out⟩
theorem clean_of {m P : PImg} (hPm : P = bare m) (hP : POk P) {s t : Ms} {n : Nat} (ok : Okm P n s) {g : Nat} (hg : g < m.gates.length) (hfit : fitN s.at_.regs (argsOf P g) (argsOf P g).length = true) (hta : t.at_ = entF P g s.at_.regs (argsOf P g).length) (hts : t.st = s.st ++ [s.next.at_]) (ra ca ga : Option Addr) (rc cc gc : Nat) (X : World) (hm : ImgIn X.heap.size X ra ca ga m) :
   Calls Tryz.prog 10 #[.agg #[.slice ra m.regs.length rc, .slice ca m.comps.length cc, .slice ga m.gates.length gc, .int .i64 m.depth], .agg (snR s).toArray, .agg (snR t).toArray] X fun x w' => x = .returned (.bool true) ∧ Bl X w' := by
 subst hPm
 obtain ⟨k1, k2, k3, k4⟩ := hP.kl g hg
 have hR := hP.roots (kOf (bare m) g)
 have hG := hP.gates g hg
 have hd := ok.dp
 have hdp := hP.dp
 have e := roots_gate ⟨g, eOf (bare m) g, ovF s.at_.regs (fun _ => zV) (argsOf (bare m) g).length⟩ (rootsOf (bare m) (kOf (bare m) g)) (rootsOf (bare m) (kOf (bare m) g)).length
 have htg : t.at_.gate = g := by rw [hta]; unfold entF; rw [e.1]
 have htp : t.at_.pc = eOf (bare m) g := by rw [hta]; unfold entF; rw [e.2]
 rw [argsOf_at (bare m) g hg] at hfit hta
 unfold entF at hta
 rw [rootsOf_at (bare m) _ k1] at hta hR
 exact clean_any m s t g (eOf (bare m) g) (kOf (bare m) g) ra ca ga rc cc gc X hm hg k3 k2 k1 (fun x hx => ⟨by have := (hR.2 x hx).1; omega, (hR.2 x hx).2.1⟩) (by have := hR.1; show m.comps[kOf (bare m) g].roots.length ≤ 1000000; exact Nat.le_trans this (by decide)) hG.2.2.2.2.1 hfit hta htg htp (by rw [hts]; simp) (by omega)
theorem cl_w8 {n : Nat} (h : n ≤ 1000000) : wrap64 ((n : Int) + 1) = (n : Int) + 1 := by unfold wrap64; omega
theorem pc_mil {n : Nat} (h : n + 1 ≤ 400) : n ≤ 1000000 := by omega
theorem pc_400 {P : PImg} (hP : POk P) {f : Fm} (h : FOk P f) {n : Nat} (e : f.pc = n) : n ≤ 400 := by
 have h1 := h.pc
 have h2 := (hP.code (kOf P f.gate)).1
 omega
theorem calls_some (m : PImg) (gate : Int) (A I : List Nat) (ra ca ga aa ia : Option Addr) (rc cc gc ac ic : Nat) (w : World) (ht : TabIn w) (hm : ImgIn w.heap.size w ra ca ga m) (P : PImg) (hPm : P = bare m) (s0 : Ms) (hP : POk P) (ok0 : Okm P 0 s0) (h00 : s0.over.e = 0) (hst0 : s0.st = []) (hBg : ∀ X, Bl w X → Calls Tryz.prog 7 #[.agg #[.slice ra m.regs.length rc, .slice ca m.comps.length cc, .slice ga m.gates.length gc, .int .i64 m.depth], .int .i64 gate, .slice aa A.length ac, .slice ia I.length ic] X fun x w' => ∃ a B, x = .returned (.pointer (some ⟨a, 0, none⟩)) ∧ MIn B w' a P s0 [] ∧ X.heap.size ≤ B ∧ Bl X w') : Calls Tryz.prog 3 #[.agg #[.slice ra m.regs.length rc, .slice ca m.comps.length cc, .slice ga m.gates.length gc, .int .i64 m.depth], .int .i64 gate, .slice aa A.length ac, .slice ia I.length ic] w fun x w' => x = .returned (.bool true) ∧ Below w.heap.size w w' := by
 go_enter Tryz.func3, Tryz.ntmps3
 go_upto_region 1 with fail
 refine wp_world (fun W => At W w.heap.size #[.slice ra m.regs.length rc, .slice ca m.comps.length cc, .slice ga m.gates.length gc, .int .i64 m.depth] ∧ Bl w W) ⟨At.new w _ _, (Bl.refl _).alloc _⟩ ?_
 rintro W ⟨A0, g0⟩
 have hEx := Hz.mk (examples_any W (TabIn.bl ht g0))
 replace A0 := Hz.mk A0
 replace g0 := Hz.mk g0
 obtain ⟨k0, hk0⟩ : ∃ k0, w.heap.size = k0 := ⟨_, rfl⟩
 rw [hk0] at A0 ⊢
 replace hk0 := Hz.mk hk0
 go_wp2_with fail
 refine hEx.out.mono ?_
 rintro r W2 ⟨rfl, e1⟩
 replace g0 := Hz.mk (Bl.trans g0.out e1)
 replace A0 := Hz.mk (Bl.at_ e1 A0.out)
 clear e1 hEx
 have ⟨l0, p0, _⟩ := A0.out
 go_wp2_with fail
 refine (hBg _ g0.out).mono ?_
 rintro r W3 ⟨a, B, rfl, hM, hBk, e1⟩
 replace g0 := Hz.mk (Bl.trans g0.out e1)
 have hkB : k0 < B := Nat.lt_of_lt_of_le l0 hBk
 have hwB : w.heap.size ≤ B := by rw [hk0.out]; omega
 replace A0 := Hz.mk (Bl.at_ e1 A0.out)
 have hA0 : Hz (∀ X, Below B W3 X → At X k0 #[.slice ra m.regs.length rc, .slice ca m.comps.length cc, .slice ga m.gates.length gc, .int .i64 m.depth]) := Hz.mk (fun X q => T.at_below A0.out q hkB)
 have hI0 : Hz (∀ X, Below B W3 X → ImgIn X.heap.size X ra ca ga m) := Hz.mk (fun X q => (hm.below (Below.trans g0.out (Below.mono q hwB))).mono (Below.trans g0.out (Below.mono q hwB)).size)
 have hI1 : Hz (ImgIn w.heap.size W3 ra ca ga m) := Hz.mk (hm.below g0.out)
 have hfin : Hz (∀ X, Below B W3 X → Below w.heap.size w X) := Hz.mk (fun X q => Below.trans g0.out (Below.mono q hwB))
 clear p0 l0 e1 hBk hm
 have hs0 : Hz (Okm P 0 s0 ∧ s0.over.e = 0 ∧ s0.st = []) := Hz.mk ⟨ok0, h00, hst0⟩
 have hMs := Hz.mk hM
 clear ok0 h00 hM hst0 hBg
 replace hP := Hz.mk hP
 replace hPm := Hz.mk hPm
 go_wp2_with fail
 go_loopw [11, 12] (fun v i wr => ∃ (j : Nat) (s : Ms) (K : List Ms) (va : Option Addr) (vc : Nat), v = .slice va K.length vc ∧ i = .int .i64 j ∧ j ≤ 300 ∧ MIn B wr a P s [skOb B (.slice va K.length vc) K] ∧ Below B W3 wr ∧ Okm P j s ∧ s.over.e = 0 ∧ s.st = K.map snF) (fun _ i _ => 300 - (intOf i).toNat)
 case atStart => exact ⟨0, s0, [], none, 0, rfl, rfl, by omega, hMs.out.voidK, Below.refl _ _, hs0.out.1, hs0.out.2.1, hs0.out.2.2⟩
 case round =>
   clear hMs hs0
   obtain ⟨j, s, K, va, vc, rfl, rfl, hj, h, hB, ok, h0, hK⟩ := hrel
   replace h := Hz.mk h
   replace hB := Hz.mk hB
   have hKn : s.st.length = K.length := by rw [hK, List.length_map]
   have hdp0 : ((K.length : Nat) : Int) ≤ m.depth := by have := ok.dp; rw [hKn] at this; rw [hPm.out] at this; exact this
   have hKl : Hz (K.length ≤ 16) := Hz.mk (by have := hP.out.dp; have e := hPm.out; have d : P.depth = m.depth := by rw [e]; rfl
                                              omega)
   replace hK := Hz.mk hK
   by_cases hjl : j < 300
   · have jl : (j : Int) < 300 := by omega
     obtain ⟨t, hst⟩ : ∃ t, stepsM P 1 s = t := ⟨_, rfl⟩
     have hSt := Hz.mk (fun X l' (q : MIn B X a P s l') => step_oc P hP.out s j ok (by omega) t hst B X a l' q)
     have hgs := ok.f.g
     replace ok := Hz.mk ok
     replace h0 := Hz.mk h0
     replace hst := Hz.mk hst
     go_upto_region 9 with fail
     refine wp_region_lit ?_
     refine wpList_plain rfl (fun K' hK' => ?_)
     go_simp
     with_reducible refine hK' _ _ ?_
     clear hK' K'
     try simp only [xap]
     refine wpList_plain rfl (fun K' hK' => ?_)
     go_simp
     (refine (snap_any B a P s [skOb B (.slice va K.length vc) K] _ h.out).mono ?_; rintro r Y1 ⟨rfl, e1⟩; replace hB := Hz.mk (hB.out.trans (h.out.bl e1).2); replace h := Hz.mk (h.out.bl e1).1; clear e1; have hA7 : At (Y1.alloc (.cells (snR zS).toArray 40)) Y1.heap.size (snR zS).toArray := At.new Y1 _ _; have hth := Hz.mk (At.there hA7 0 115 (by rw [snR_len]; decide)); have hA8 := Hz.mk (At.setAll hA7 (snR s) (by rw [snR_len, snR_len])); have g9 := Hz.mk (((Bl.refl Y1).alloc (.cells (snR zS).toArray 40)).sets Y1.heap.size (Nat.le_refl _) (snR s) 0); replace hA7 := Hz.mk hA7)
     with_reducible refine hK' _ _ ?_
     clear hK' K'
     try simp only [xap]
     refine wpList_plain rfl (fun K' hK' => ?_)
     refine wp_alloc_sn rfl (hK' _ _ ?_)
     clear hK' K'
     try simp only [xap]
     refine wpList_store_mid rfl _ _ _ rfl _ _ (List.toArray (snR s)) rfl rfl (show World.there _ _ _ _ by rw [show (snR s).toArray.size = 115 from snR_len s]; exact hth.out) (by rw [List.size_toArray, snR_len]; kernel_rfl) (snR_one s) ?_
     try simp only [Act.put]
     clear hth hA7
     have h9 := Hz.mk (h.out.add (boxOb Y1.heap.size (snR s).toArray) hA8.out (fun k q => by have : k = Y1.heap.size := q; omega) g9.out)
     replace hB := Hz.mk (hB.out.trans (Below.mono g9.out h.out.le))
     replace h := h9
     clear h9 g9 hA8
     generalize World.setCells _ _ _ _ = X1 at *
     generalize Y1.heap.size = ks at *
     have hgm0 : (s.at_.gate : Int) < m.gates.length := by have := hgs; rw [hPm.out] at this; exact Int.ofNat_lt.2 this
     have n2 : ¬ m.depth < ((K.length : Nat) : Int) := by omega
     have n4 : ¬ (m.gates.length : Int) ≤ (s.at_.gate : Int) := by omega
     have hA1 := hA0.out X1 hB.out
     have b2 : X1.cell? ⟨k0, 2, none⟩ = some (.slice ga m.gates.length gc) := hA1.2.1 2
     have b3 : X1.cell? ⟨k0, 3, none⟩ = some (.int .i64 m.depth) := hA1.2.1 3
     have l0 := hA1.1
     have s0_ : X1.cell? ⟨ks, 0, none⟩ = some (.int .i64 s.at_.gate) := (h.out.there (boxOb ks (snR s).toArray) (.head _)).2.1 0
     have s2_ : X1.cell? ⟨ks, 2, none⟩ = some (.int .i64 ((K.length : Nat) : Int)) := ((h.out.there (boxOb ks (snR s).toArray) (.head _)).2.1 2).trans (by rw [← hKn]; rfl)
     have lks := (h.out.there (boxOb ks (snR s).toArray) (.head _)).1
     replace hKn := Hz.mk hKn
     go_upto_region 12 with fail
     clear hgm0 n2 n4 hA1 b2 b3 l0 s0_ s2_ lks
     go_wp2_with fail
     refine (hSt.out _ _ h.out).mono ?_
     rintro r Y2 ⟨rfl, h6, hB6⟩
     replace hB := Hz.mk (hB.out.trans hB6)
     replace h := Hz.mk h6
     clear h6 hB6 hSt
     have h9 := Hz.mk (h.out.new #[.int .i64 t.over.e, .int .u64 t.over.v, .int .i64 t.over.f, .int .i64 t.at_.gate, .int .i64 t.at_.pc] 45)
     go_upto_region 13 with fail
     refine wp_world (fun X => MIn B X a P t (boxOb Y2.heap.size #[.int .i64 t.over.e, .int .u64 t.over.v, .int .i64 t.over.f, .int .i64 t.at_.gate, .int .i64 t.at_.pc] :: [boxOb ks (snR s).toArray, skOb B (.slice va K.length vc) K]) ∧ Below B W3 X) ⟨h9.out.1, hB.out.trans h9.out.2⟩ ?_
     clear h9 h hB
     rintro X2 ⟨h, hB⟩
     replace h := Hz.mk h
     replace hB := Hz.mk hB
     generalize Y2.heap.size = ko at *
     have y0 : X2.cell? ⟨ko, 0, none⟩ = some (.int .i64 t.over.e) := (h.out.there (boxOb ko #[.int .i64 t.over.e, .int .u64 t.over.v, .int .i64 t.over.f, .int .i64 t.at_.gate, .int .i64 t.at_.pc]) (.head _)).2.1 0
     have lko := (h.out.there (boxOb ko #[.int .i64 t.over.e, .int .u64 t.over.v, .int .i64 t.over.f, .int .i64 t.at_.gate, .int .i64 t.at_.pc]) (.head _)).1
     cases hq : stepM P s with
     | error e =>
       have he1 : (t.over.e != 0) = true := by rw [← hst.out, stepsM_err h0.out hq]; exact bne_iff_ne.2 (step_err hq)
       clear hq
       go_wp2_with fail
       go_ret
       exact ⟨rfl, hfin.out _ hB.out⟩
     | ok t' =>
       rw [show t' = t by rw [← hst.out]; exact (show stepsM P 1 s = t' from stepsM_ok h0.out hq).symm] at hq
       clear t'
       have h01 : Hz (t.over.e = 0) := Hz.mk (by rw [step_over hq]; exact h0.out)
       rw [h01.out] at y0
       have ok1 := Hz.mk (okm_step hP.out ok.out hq)
       replace hq := Hz.mk hq
       go_upto_region 15 with fail
       clear y0 lko
       refine wp_region_lit ?_
       refine wpList_plain rfl (fun K' hK' => ?_)
       go_simp
       with_reducible refine hK' _ _ ?_
       clear hK' K'
       try simp only [xap]
       refine wpList_plain rfl (fun K' hK' => ?_)
       go_simp
       (refine (snap_any B a P t _ _ h.out).mono ?_; rintro r Y3 ⟨rfl, e1⟩; replace hB := Hz.mk (hB.out.trans (h.out.bl e1).2); replace h := Hz.mk (h.out.bl e1).1; clear e1; have hA7 : At (Y3.alloc (.cells (snR zS).toArray 40)) Y3.heap.size (snR zS).toArray := At.new Y3 _ _; have hth := Hz.mk (At.there hA7 0 115 (by rw [snR_len]; decide)); have hA8 := Hz.mk (At.setAll hA7 (snR t) (by rw [snR_len, snR_len])); have g9 := Hz.mk (((Bl.refl Y3).alloc (.cells (snR zS).toArray 40)).sets Y3.heap.size (Nat.le_refl _) (snR t) 0); replace hA7 := Hz.mk hA7)
       with_reducible refine hK' _ _ ?_
       clear hK' K'
       try simp only [xap]
       refine wpList_plain rfl (fun K' hK' => ?_)
       refine wp_alloc_sn rfl (hK' _ _ ?_)
       clear hK' K'
       try simp only [xap]
       refine wpList_store_mid rfl _ _ _ rfl _ _ (List.toArray (snR t)) rfl rfl (show World.there _ _ _ _ by rw [show (snR t).toArray.size = 115 from snR_len t]; exact hth.out) (by rw [List.size_toArray, snR_len]; kernel_rfl) (snR_one t) ?_
       try simp only [Act.put]
       clear hth hA7
       have h9 := Hz.mk (h.out.add (boxOb Y3.heap.size (snR t).toArray) hA8.out (fun k q => by have : k = Y3.heap.size := q; omega) g9.out)
       replace hB := Hz.mk (hB.out.trans (Below.mono g9.out h.out.le))
       replace h := h9
       clear h9 g9 hA8
       generalize World.setCells _ _ _ _ = X3 at *
       generalize Y3.heap.size = kt at *
       replace ok := ok.out
       replace h0 := h0.out
       replace hq := hq.out
       obtain ⟨i, hi⟩ : ∃ i, (codeOf P (kOf P s.at_.gate))[s.at_.pc]? = some i := by
         unfold stepM at hq
         split at hq
         · cases hq
         · rename_i i hi; exact ⟨i, hi⟩
       have hgm : s.at_.gate < m.gates.length := by rw [hPm.out] at hgs; exact hgs
       have hg1 := ok1.out.f.g
       have hgm1 : t.at_.gate < m.gates.length := by rw [hPm.out] at hg1; exact hg1
       obtain ⟨hkl, hkc, -, -⟩ := hP.out.kl _ hgs
       have hkm : kOf P s.at_.gate < m.comps.length := by rw [hPm.out] at hkl ⊢; exact hkl
       have hgc : m.gates[s.at_.gate].c = ((kOf P s.at_.gate : Nat) : Int) := by have := hPm.out; subst this; exact hkc
       have hcoe : codeOf P (kOf P s.at_.gate) = m.comps[kOf P s.at_.gate].code := by have := hPm.out; subst this; exact codeOf_at (bare m) _ hkl
       have hre : resOf P s.at_.gate = m.gates[s.at_.gate].res := by have := hPm.out; subst this; exact resOf_at (bare m) _ hgs
       have hres7 : Hz ((resOf P s.at_.gate).length ≤ 7) := Hz.mk (by rw [hre]; have := (hP.out.gates _ hgs).2.2.2.2.2; have e := hPm.out; subst e; exact this)
       obtain ⟨hpl, hie⟩ := List.getElem?_eq_some_iff.1 hi
       have hio := (hP.out.code _).2 i (List.mem_of_getElem? hi)
       have hcl0 : Hz (i.op = 31 → 0 ≤ i.m ∧ i.m < m.gates.length) := Hz.mk (fun e => by have := hio.cl e; have e2 := hPm.out; subst e2; exact this)
       have hAl0 := Hz.mk (fun h1 h2 => step_alone hi h1 h2 hq)
       have hCl0 := Hz.mk (fun h1 => step_call hi h1 hq)
       have hRt0 := Hz.mk (fun h1 => step_ret hi h1 hq)
       rw [hcoe] at hpl
       replace hi := Hz.mk hi
       have hie2 : m.comps[kOf P s.at_.gate].code[s.at_.pc] = i := by
         have := hi.out
         rw [hcoe, List.getElem?_eq_getElem hpl] at this
         injection this
       clear hq hkc hkl hgs hg1 hie hio
       replace ok := Hz.mk ok
       replace h0 := Hz.mk h0
       obtain ⟨gb, goff, xa, xc, ya, yc, ega, hgb, -, cg0, -, -, cg3, -, hResT⟩ := hI1.out.gates s.at_.gate hgm
       obtain ⟨cb, coff, sa, sc, ka, kc, eca, hcb, -, -, cc1, -, hlin⟩ := hI1.out.comps (kOf P s.at_.gate) hkm
       obtain ⟨ib, ioff, eka, hib, -, hfive⟩ := hlin s.at_.pc hpl
       rw [hgc] at cg0
       rw [← hre] at cg3 hResT
       rw [hie2] at hfive
       obtain ⟨f0, -, -, -, f4⟩ := hfive
       have hcom : Hz (∀ X, Below B W3 X → X.cell? ⟨ib, ioff + s.at_.pc * 5 + 4, none⟩ = some (.int .i64 i.m)) := Hz.mk (fun X q => (q.cell (p := ⟨ib, _, none⟩) (Nat.lt_of_lt_of_le hib hwB)).trans f4)
       have hcop : Hz (∀ X, Below B W3 X → X.cell? ⟨ib, ioff + s.at_.pc * 5, none⟩ = some (.int .u8 i.op)) := Hz.mk (fun X q => (q.cell (p := ⟨ib, _, none⟩) (Nat.lt_of_lt_of_le hib hwB)).trans f0)
       have hlib : ∀ X, Below B W3 X → ib < X.heap.size := fun X q => Nat.lt_of_lt_of_le (Nat.lt_of_lt_of_le hib g0.out.size) q.size
       replace hlib := Hz.mk hlib
       have hres : Hz (∀ X, Below B W3 X → X.cell? ⟨gb, goff + s.at_.gate * 4 + 3, none⟩ = some (.slice ya (resOf P s.at_.gate).length yc)) := Hz.mk (fun X q => (q.cell (p := ⟨gb, _, none⟩) (Nat.lt_of_lt_of_le hgb hwB)).trans cg3)
       have hresT : Hz (∀ X, Below B W3 X → FIn 7 PTyp.vals X.heap.size X ya (resOf P s.at_.gate)) := Hz.mk (fun X q => (hResT.below (Below.mono q hwB)).mono (Nat.le_trans g0.out.size q.size))
       rw [eka] at cc1
       subst eca ega
       have cgX : Hz (∀ X, Below B W3 X → X.cell? ⟨gb, goff + s.at_.gate * 4, none⟩ = some (.int .i64 ((kOf P s.at_.gate : Nat) : Int)) ∧ X.cell? ⟨cb, coff + kOf P s.at_.gate * 2 + 1, none⟩ = some (.slice (some ⟨ib, ioff, none⟩) m.comps[kOf P s.at_.gate].code.length kc)) := Hz.mk (fun X q => ⟨(q.cell (p := ⟨gb, _, none⟩) (Nat.lt_of_lt_of_le hgb hwB)).trans cg0, (q.cell (p := ⟨cb, _, none⟩) (Nat.lt_of_lt_of_le hcb hwB)).trans cc1⟩)
       clear cg0 cg3 cc1 f0 f4 hlin hResT
       have hA3 := hA0.out X3 hB.out
       have b1 := hA3.2.1 1
       have b2 := hA3.2.1 2
       replace b1 : X3.cell? ⟨k0, 1, none⟩ = some (.slice (some ⟨cb, coff, none⟩) m.comps.length cc) := b1
       replace b2 : X3.cell? ⟨k0, 2, none⟩ = some (.slice (some ⟨gb, goff, none⟩) m.gates.length gc) := b2
       have l0 := hA3.1
       have s0_ : X3.cell? ⟨ks, 0, none⟩ = some (.int .i64 s.at_.gate) := (h.out.there (boxOb ks (snR s).toArray) (.tail _ (.tail _ (.head _)))).2.1 0
       have t0_ : X3.cell? ⟨kt, 0, none⟩ = some (.int .i64 t.at_.gate) := (h.out.there (boxOb kt (snR t).toArray) (.head _)).2.1 0
       have lks := (h.out.there (boxOb ks (snR s).toArray) (.tail _ (.tail _ (.head _)))).1
       have lkt := (h.out.there (boxOb kt (snR t).toArray) (.head _)).1
       have gi1 : (s.at_.gate : Int) < m.gates.length := by omega
       have gi1h := Hz.mk gi1
       have gi2 : ¬ (m.gates.length : Int) ≤ (s.at_.gate : Int) := by omega
       have gi3 : ¬ (m.gates.length : Int) ≤ (t.at_.gate : Int) := by omega
       have gi4 : (kOf P s.at_.gate : Int) < m.comps.length := by omega
       have gi5 : (s.at_.pc : Int) < m.comps[kOf P s.at_.gate].code.length := by omega
       have gi6 : ¬ (m.comps[kOf P s.at_.gate].code.length : Int) ≤ (s.at_.pc : Int) := by omega
       clear hie2 hi hcoe hgc eka hgm hgm1 hre hpl
       generalize m.comps[kOf P s.at_.gate].code.length = nc at *
       clear hkm
       generalize kOf P s.at_.gate = kc_ at *
       replace hgb := Hz.mk hgb
       go_upto_region 18 with fail
       replace hB := Hz.mk (hB.out.trans (h.out.bl (Bl.refl X3).drew).2)
       replace h := Hz.mk (h.out.bl (Bl.refl X3).drew).1
       obtain ⟨cg0, cc1⟩ := cgX.out X3.drew hB.out
       have hA4 := hA0.out X3.drew hB.out
       have d1_ : X3.drew.cell? ⟨k0, 1, none⟩ = some (.slice (some ⟨cb, coff, none⟩) m.comps.length cc) := hA4.2.1 1
       have d2_ : X3.drew.cell? ⟨k0, 2, none⟩ = some (.slice (some ⟨gb, goff, none⟩) m.gates.length gc) := hA4.2.1 2
       have e0_ : X3.drew.cell? ⟨ks, 0, none⟩ = some (.int .i64 s.at_.gate) := (h.out.there (boxOb ks (snR s).toArray) (.tail _ (.tail _ (.head _)))).2.1 0
       have hS18 := And.intro d1_ (And.intro d2_ (And.intro e0_ (And.intro cg0 cc1)))
       clear d1_ d2_ s0_ t0_ e0_ cg0 cc1 b1 b2 hA3 hA4 lks lkt l0
       refine wp_region_held_drew (S := (fun X => X.cell? ⟨k0, 1, none⟩ = some (.slice (some ⟨cb, coff, none⟩) m.comps.length cc) ∧ X.cell? ⟨k0, 2, none⟩ = some (.slice (some ⟨gb, goff, none⟩) m.gates.length gc) ∧ X.cell? ⟨ks, 0, none⟩ = some (.int .i64 s.at_.gate) ∧ X.cell? ⟨gb, goff + s.at_.gate * 4, none⟩ = some (.int .i64 (kc_ : Nat)) ∧ X.cell? ⟨cb, coff + kc_ * 2 + 1, none⟩ = some (.slice (some ⟨ib, ioff, none⟩) nc kc))) (by kernel_rfl) (hS18) (fun hHeld => ?_)
       refine xso 0 ?_ rfl ?_ (xso 1 ?_ rfl ?_ (xso 2 ?_ rfl ?_ (xso 3 ?_ rfl ?_ (xso 4 ?_ rfl ?_ (xso 5 ?_ rfl ?_ (xso 6 ?_ rfl ?_ (xso 7 ?_ rfl ?_ (xso 8 ?_ rfl ?_ (xso 9 ?_ rfl ?_ (xso 10 ?_ rfl ?_ (xso 11 ?_ rfl ?_ (xso 12 ?_ rfl ?_ ?_))))))))))))
       iterate 13 (rotate_left; focus ((try simp only [xap]); intro w hSw; (try dsimp only at hSw); go_simp; first | done | with_reducible rfl))
       try simp only [xap]
       refine xdn ?_ _
       clear hHeld
       generalize X3.drew = X4 at *
       clear hS18 cgX gi1 gi2 gi3 gi4 hib hcb
       have o0_ := hcop.out X4 hB.out
       have s1_ : X4.cell? ⟨ks, 1, none⟩ = some (.int .i64 s.at_.pc) := (h.out.there (boxOb ks (snR s).toArray) (.tail _ (.tail _ (.head _)))).2.1 1
       have lks := (h.out.there (boxOb ks (snR s).toArray) (.tail _ (.tail _ (.head _)))).1
       have lib := hlib.out X4 hB.out
       generalize hio_ : i.op = op_ at *
       replace hio_ := Hz.mk hio_
       by_cases h31 : op_ = 31
       · subst h31
         have hop1 : ((31 : Int) == 31) = true := rfl
         obtain ⟨hfit, hta, hts⟩ := hCl0.out rfl
         obtain ⟨hi0, hi1⟩ := hcl0.out rfl
         obtain ⟨gn, hgn⟩ : ∃ gn : Nat, i.m = gn := ⟨i.m.toNat, by omega⟩
         have hgn2 : i.m.toNat = gn := by omega
         rw [hgn2] at hfit hta
         have hgm2 : gn < m.gates.length := by omega
         have hCl : Hz (∀ X, Below B W3 X → Calls Tryz.prog 10 #[.agg #[.slice ra m.regs.length rc, .slice (some ⟨cb, coff, none⟩) m.comps.length cc, .slice (some ⟨gb, goff, none⟩) m.gates.length gc, .int .i64 m.depth], .agg (snR s).toArray, .agg (snR t).toArray] X fun x w' => x = .returned (.bool true) ∧ Bl X w') := Hz.mk (fun X q => clean_of hPm.out hP.out ok.out hgm2 hfit hta hts ra _ _ rc cc gc X (hI0.out X q))
         have htg : Hz (t.at_.gate = gn) := Hz.mk (by rw [hta]; exact (roots_gate _ _ _).1)
         have hK1 : Hz (t.st = (K ++ [s]).map snF) := Hz.mk (by rw [hts, hK.out, List.map_append]; rfl)
         have hmi : Hz (∀ X, Below B W3 X → X.cell? ⟨ib, ioff + s.at_.pc * 5 + 4, none⟩ = some (.int .i64 (gn : Nat))) := Hz.mk (fun X q => (hcom.out X q).trans (by rw [hgn]))
         clear hfit hta hts hi0 hi1 hgn hgn2 hgm2
         have hA4 := hA0.out X4 hB.out
         have l0 := hA4.1
         have b0 : X4.cell? ⟨k0, 0, none⟩ = some (.slice ra m.regs.length rc) := hA4.2.1 0
         have b1 : X4.cell? ⟨k0, 1, none⟩ = some (.slice (some ⟨cb, coff, none⟩) m.comps.length cc) := hA4.2.1 1
         have b2 : X4.cell? ⟨k0, 2, none⟩ = some (.slice (some ⟨gb, goff, none⟩) m.gates.length gc) := hA4.2.1 2
         have b3 : X4.cell? ⟨k0, 3, none⟩ = some (.int .i64 m.depth) := hA4.2.1 3
         clear hA4
         have hrs := Hz.mk (At.range (h.out.there (boxOb ks (snR s).toArray) (.tail _ (.tail _ (.head _)))))
         have hrt := Hz.mk (At.range (h.out.there (boxOb kt (snR t).toArray) (.head _)))
         go_upto_region 25 with fail
         clear o0_ s1_ lks lib
         refine wp_region_lit ?_
         refine wpList_plain rfl (fun K hK => ?_)
         go_simp
         with_reducible refine hK _ _ ?_
         clear hK K
         try simp only [xap]
         refine wpList_load_mid rfl _ _ rfl _ 0 rfl (snR s) _ hrs.out Tryz.underlying40 rfl (by rw [snR_len]; kernel_rfl) ?_
         try simp only [xap]
         refine wpList_load_mid rfl _ _ rfl _ 0 rfl (snR t) _ hrt.out Tryz.underlying40 rfl (by rw [snR_len]; kernel_rfl) ?_
         try simp only [xap]
         refine wpList_plain rfl (fun K hK => ?_)
         go_simp
         (refine (hCl.out _ hB.out).mono ?_; rintro r X5 ⟨rfl, e1⟩; replace hB := Hz.mk (hB.out.trans (h.out.bl e1).2); replace h := Hz.mk (h.out.bl e1).1; clear e1)
         with_reducible refine hK _ _ ?_
         clear hK K
         try simp only [xap]
         refine wpList_plain rfl (fun K hK => ?_)
         go_simp
         with_reducible refine hK _ _ ?_
         clear hK K
         try simp only [xap]
         clear b0 b1 b2 b3 l0 hrs hrt hCl
         go_upto_region 26 with fail
         replace hB := Hz.mk (hB.out.trans (h.out.bl (Bl.refl X5).drew).2)
         replace h := Hz.mk (h.out.bl (Bl.refl X5).drew).1
         have hS26 : X5.drew.cell? ⟨kt, 0, none⟩ = some (.int .i64 (gn : Nat)) ∧ X5.drew.cell? ⟨ks, 1, none⟩ = some (.int .i64 s.at_.pc) ∧ X5.drew.cell? ⟨ib, ioff + s.at_.pc * 5 + 4, none⟩ = some (.int .i64 (gn : Nat)) := ⟨((h.out.there (boxOb kt (snR t).toArray) (.head _)).2.1 0).trans (by rw [← htg.out]; rfl), (h.out.there (boxOb ks (snR s).toArray) (.tail _ (.tail _ (.head _)))).2.1 1, hmi.out _ hB.out⟩
         refine wp_region_held_drew (S := (fun X => X.cell? ⟨kt, 0, none⟩ = some (.int .i64 (gn : Nat)) ∧ X.cell? ⟨ks, 1, none⟩ = some (.int .i64 s.at_.pc) ∧ X.cell? ⟨ib, ioff + s.at_.pc * 5 + 4, none⟩ = some (.int .i64 (gn : Nat)))) (by kernel_rfl) (hS26) (fun hHeld => ?_)
         refine xso 0 ?_ rfl ?_ (xso 1 ?_ rfl ?_ (xso 2 ?_ rfl ?_ ?_))
         iterate 3 (rotate_left; focus ((try simp only [xap]); intro w hSw; (try dsimp only at hSw); go_simp; first | done | with_reducible rfl))
         try simp only [xap]
         refine xso 3 ?_ rfl ?_ ?_
         rotate_left
         · intro w hSw; (try dsimp only at hSw); go_simp; first | done | with_reducible rfl
         try simp only [xap]
         refine xso 4 ?_ rfl ?_ ?_
         rotate_left
         · intro w hSw; (try dsimp only at hSw); go_simp; first | done | with_reducible rfl
         try simp only [xap]
         refine xso 5 ?_ rfl ?_ ?_
         rotate_left
         · intro w hSw; (try dsimp only at hSw); go_simp; first | done | with_reducible rfl
         try simp only [xap]
         refine xso 6 ?_ rfl ?_ ?_
         rotate_left
         · intro w hSw; (try dsimp only at hSw); go_simp; first | done | with_reducible rfl
         try simp only [xap]
         refine xso 7 ?_ rfl ?_ ?_
         rotate_left
         · intro w hSw; (try dsimp only at hSw); go_simp; first | done | with_reducible rfl
         try simp only [xap]
         refine xso 8 ?_ rfl ?_ ?_
         rotate_left
         · intro w hSw; (try dsimp only at hSw); go_simp; first | done | with_reducible rfl
         try simp only [xap]
         refine xso 9 ?_ rfl ?_ ?_
         rotate_left
         · intro w hSw; (try dsimp only at hSw); go_simp; first | done | with_reducible rfl
         try simp only [xap]
         refine xso 10 ?_ rfl ?_ ?_
         rotate_left
         · intro w hSw; (try dsimp only at hSw); go_simp; first | done | with_reducible rfl
         try simp only [xap]
         refine xso 11 ?_ rfl ?_ (xso 12 ?_ rfl ?_ ?_)
         iterate 2 (rotate_left; focus ((try simp only [xap]); intro w hSw; (try dsimp only at hSw); go_simp; first | done | with_reducible rfl))
         try simp only [xap]
         refine xdn ?_ _
         clear hHeld
         generalize X5.drew = X6 at *
         clear hS26
         have hrs := Hz.mk (At.range (h.out.there (boxOb ks (snR s).toArray) (.tail _ (.tail _ (.head _)))))
         go_upto_region 28 with fail
         refine wp_region_lit ?_
         refine wpList_plain rfl (fun K' hK' => ?_)
         go_simp
         with_reducible refine hK' _ _ ?_
         clear hK' K'
         try simp only [xap]
         refine wpList_load_mid rfl _ _ rfl _ 0 rfl (snR s) _ hrs.out Tryz.underlying40 rfl (by rw [snR_len]; kernel_rfl) ?_
         try simp only [xap]
         clear hrs
         refine wpList_plain rfl (fun K' hK' => ?_)
         refine wp_build_sks _ rfl s rfl (hK' _ _ ?_)
         clear hK' K'
         try simp only [xap]
         have hX : At (X6.alloc (.cells (snR s).toArray 40)) X6.heap.size (snR s).toArray := At.new X6 _ _
         have hb9 : Bl X6 (X6.alloc (.cells (snR s).toArray 40)) := (Bl.refl X6).alloc _
         replace hB := Hz.mk (hB.out.trans (h.out.bl hb9).2)
         replace h := Hz.mk (h.out.bl hb9).1
         clear hb9
         generalize hVx : X6.alloc (.cells (snR s).toArray 40) = X7 at *
         clear hVx
         generalize X6.heap.size = kX at *
         have hown : X7.ownsRow B 40 115 (.slice va K.length vc) K.length (K.flatMap snR) := h.out.there (skOb B (.slice va K.length vc) K) (by simp)
         have hle9 := h.out.le
         have hKb : K.length ≤ 1000000 := by have := hKl.out; omega
         refine wpList_plain rfl (fun K' hK' => ?_)
         refine wp_append_z _ _ 31 40 (.agg Tryz.zeroCells40) 115 920 rfl Tryz.underlying31 (by kernel_rfl) (by kernel_rfl) (by decide) (by decide) B (.slice va K.length vc) K.length (K.flatMap snR) (snR s) (by rfl) hown kX (by rfl) hX (snR_len _) (sn_ones _) hKb hle9 ?_
         intro g9 cap w9 k1 k2 k3
         obtain ⟨hM1, hB1⟩ := h.out.pushK [boxOb kt (snR t).toArray, boxOb ko #[.int .i64 t.over.e, .int .u64 t.over.v, .int .i64 t.over.f, .int .i64 t.at_.gate, .int .i64 t.at_.pc], boxOb ks (snR s).toArray] s k1 k2 k3
         replace hM1 := Hz.mk (show MIn B w9 a P t [boxOb kt (snR t).toArray, boxOb ko #[.int .i64 t.over.e, .int .u64 t.over.v, .int .i64 t.over.f, .int .i64 t.at_.gate, .int .i64 t.at_.pc], boxOb ks (snR s).toArray, skOb B (.slice (some ⟨g9, 0, none⟩) (K.length + 1) cap) (K ++ [s])] from hM1)
         replace hB1 := Hz.mk hB1
         clear k1 k2 k3 hown hX hle9
         with_reducible refine hK' _ _ ?_
         clear hK' K'
         try simp only [xap]
         replace hB := Hz.mk (hB.out.trans hB1.out)
         replace h := hM1
         clear hM1 hB1
         go_wp2_with fail
         have hfi : Hz (MIn B w9 a P t [skOb B (.slice (some ⟨g9, 0, none⟩) (K ++ [s]).length cap) (K ++ [s])]) := Hz.mk (by rw [List.length_append]; exact h.out.drop.drop.drop)
         exact ⟨⟨j + 1, t, K ++ [s], some ⟨g9, 0, none⟩, cap, by rw [List.length_append]; rfl, by go_num, by omega, hfi.out, hB.out, ok1.out, h01.out, hK1.out⟩, by simp [intOf]; omega⟩
       by_cases h32 : op_ = 32
       · subst h32
         have hop1 : ((32 : Int) == 31) = false := rfl
         have hop2 : ((32 : Int) == 32) = true := rfl
         obtain ⟨hfit, L, f, hsl, hta, hts⟩ := hRt0.out rfl
         obtain ⟨K9, k9, hKK, hK9, hk9⟩ := snf_last (hK.out.symm.trans hsl)
         subst hKK
         have hf9 := ok.out.st f (by rw [hsl]; simp)
         have hpc9 : Hz (k9.at_.pc + 1 ≤ 400) := Hz.mk (pc_400 hP.out hf9 (show f.pc = k9.at_.pc + 1 from by rw [← hk9]; rfl))
         have hK1 : Hz (t.st = K9.map snF) := Hz.mk (by rw [hts, hK9])
         have htr : Hz (t.at_.regs = ovF s.at_.regs k9.at_.regs (resOf P s.at_.gate).length) := Hz.mk (by rw [hta, ← hk9]; rfl)
         have htg : Hz (t.at_.gate = k9.at_.gate) := Hz.mk (by rw [hta, ← hk9]; rfl)
         have htp : Hz (t.at_.pc = k9.at_.pc + 1) := Hz.mk (by rw [hta, ← hk9]; rfl)
         have hrs7 : (resOf P s.at_.gate).length ≤ 7 := hres7.out
         replace hfit := Hz.mk hfit
         clear hta hts hK9 hk9 hsl hf9
         obtain ⟨g9, hva, hg9, hrk, hvc, hMp⟩ := h.out.topK [boxOb kt (snR t).toArray, boxOb ko #[.int .i64 t.over.e, .int .u64 t.over.v, .int .i64 t.over.f, .int .i64 t.at_.gate, .int .i64 t.at_.pc], boxOb ks (snR s).toArray]
         subst hva
         replace hrk := Hz.mk (show X4.rangeAt g9 (K9.length * 115) (snR k9) from hrk)
         replace h := Hz.mk (show MIn B X4 a P t [boxOb kt (snR t).toArray, boxOb ko #[.int .i64 t.over.e, .int .u64 t.over.v, .int .i64 t.over.f, .int .i64 t.at_.gate, .int .i64 t.at_.pc], boxOb ks (snR s).toArray, skOb B (.slice (some ⟨g9, 0, none⟩) K9.length vc) K9] from hMp)
         clear hMp
         have hl9 : (K9 ++ [k9]).length = K9.length + 1 := by rw [List.length_append]; rfl
         rw [hl9]
         have hK9l : Hz (K9.length ≤ 16) := Hz.mk (by have := hKl.out; rw [hl9] at this; omega)
         replace hl9 := Hz.mk hl9
         have r0 : (((K9.length : Int) + 1) == 0) = false := beq_false_of_ne (by omega)
         have r2 : (K9.length : Int) < (K9.length : Int) + 1 := Int.lt_succ _
         have r3 : (K9.length : Int) ≤ (vc : Int) := Int.ofNat_le.2 hvc
         have r1 : wrap64 ((K9.length : Int) + 1 - 1) = (K9.length : Int) := by have h8 := hK9l.out; unfold wrap64; omega
         have r4 : IntKind.i64.wrap (K9.length : Int) = (K9.length : Int) := by rw [IntKind.wrap_i64]; have h8 := hK9l.out; omega
         have r5 : wrap64 (K9.length : Int) = (K9.length : Int) := by have h8 := hK9l.out; unfold wrap64; omega
         go_upto_region 32 with fail
         clear o0_ s1_ lks lib
         obtain ⟨hM1, hB1, hth⟩ := h.out.layC (snR zS) (snR k9) 40 (by rw [snR_len, snR_len])
         replace hM1 := Hz.mk hM1
         replace hB1 := Hz.mk hB1
         replace hth := Hz.mk hth
         refine wp_region_lit ?_
         refine wpList_plain rfl (fun K' hK' => ?_)
         go_simp
         with_reducible refine hK' _ _ ?_
         clear hK' K'
         try simp only [xap]
         refine wpList_plain rfl (fun K' hK' => ?_)
         go_simp
         with_reducible refine hK' _ _ ?_
         clear hK' K'
         try simp only [xap]
         refine wpList_plain rfl (fun K' hK' => ?_)
         go_simp
         with_reducible refine hK' _ _ ?_
         clear hK' K'
         try simp only [xap]
         refine wpList_plain rfl (fun K' hK' => ?_)
         go_simp
         with_reducible refine hK' _ _ ?_
         clear hK' K'
         try simp only [xap]
         refine wpList_plain rfl (fun K' hK' => ?_)
         go_simp
         with_reducible refine hK' _ _ ?_
         clear hK' K'
         try simp only [xap]
         refine wpList_load_mid rfl _ _ rfl _ (K9.length * 115) rfl (snR k9) _ hrk.out Tryz.underlying40 rfl (by rw [snR_len]; kernel_rfl) ?_
         try simp only [xap]
         refine wpList_plain rfl (fun K' hK' => ?_)
         refine wp_alloc_sn rfl (hK' _ _ ?_)
         clear hK' K'
         try simp only [xap]
         refine wpList_store_mid rfl _ _ _ rfl _ _ (List.toArray (snR k9)) rfl rfl (show World.there _ _ _ _ by rw [List.size_toArray]; exact hth.out) (by rw [List.size_toArray, snR_len]; kernel_rfl) (snR_one k9) ?_
         try simp only [Act.put]
         clear hth hrk
         replace hB := Hz.mk (hB.out.trans hB1.out)
         replace h := hM1
         clear hM1 hB1
         generalize World.setCells _ _ _ _ = X5 at *
         generalize X4.heap.size = kq at *
         go_upto_region 34 with fail
         clear r0 r1 r2 r3 r4 r5
         have hrq := Hz.mk (sn_regs (h.out.there (boxOb kq (snR k9).toArray) (.head _)))
         obtain ⟨hM1, hB1, hth⟩ := h.out.layC (rgR fun _ => zV) (rgR k9.at_.regs) 38 (by rw [rgR_len, rgR_len])
         replace hM1 := Hz.mk hM1
         replace hB1 := Hz.mk hB1
         replace hth := Hz.mk hth
         refine wp_region_lit ?_
         refine wpList_plain rfl (fun K' hK' => ?_)
         go_simp
         with_reducible refine hK' _ _ ?_
         clear hK' K'
         try simp only [xap]
         refine wpList_load_mid rfl _ _ rfl _ 3 rfl (rgR k9.at_.regs) _ hrq.out Tryz.underlying38 rfl (by rw [rgR_len]; kernel_rfl) ?_
         try simp only [xap]
         refine wpList_plain rfl (fun K' hK' => ?_)
         refine wp_alloc_rg rfl (hK' _ _ ?_)
         clear hK' K'
         try simp only [xap]
         refine wpList_store_mid rfl _ _ _ rfl _ _ (List.toArray (rgR k9.at_.regs)) rfl rfl (show World.there _ _ _ _ by rw [List.size_toArray]; exact hth.out) (by rw [List.size_toArray, rgR_len]; kernel_rfl) (rgR_one _) ?_
         try simp only [Act.put]
         clear hth hrq
         replace hB := Hz.mk (hB.out.trans hB1.out)
         replace h := hM1
         clear hM1 hB1
         generalize World.setCells _ _ _ _ = X6 at *
         generalize X5.heap.size = kw at *
         have hA4 := hA0.out X6 hB.out
         have l0 := hA4.1
         have b2 : X6.cell? ⟨k0, 2, none⟩ = some (.slice (some ⟨gb, goff, none⟩) m.gates.length gc) := hA4.2.1 2
         clear hA4
         have s0_ : X6.cell? ⟨ks, 0, none⟩ = some (.int .i64 s.at_.gate) := (h.out.there (boxOb ks (snR s).toArray) (by simp)).2.1 0
         have lks := (h.out.there (boxOb ks (snR s).toArray) (by simp)).1
         have c3 := hres.out X6 hB.out
         have lgb : gb < X6.heap.size := Nat.lt_of_lt_of_le hgb.out (Nat.le_trans g0.out.size hB.out.size)
         have gi1 : (s.at_.gate : Int) < m.gates.length := gi1h.out
         obtain ⟨Ty, hTy⟩ : ∃ Ty, resOf P s.at_.gate = Ty := ⟨_, rfl⟩
         rw [hTy] at hfit htr hrs7 c3
         have hFT := Hz.mk (fun X q => hresT.out X q)
         rw [hTy] at hFT
         go_upto_region 37 with fail
         clear b2 s0_ lks c3 lgb l0
         go_wp2_with fail
         go_loopw [21] (fun x wr => ∃ q : Nat, x = .int .i64 q ∧ q ≤ Ty.length ∧ MIn B wr a P t [boxOb kw (rgR (ovF s.at_.regs k9.at_.regs q)).toArray, boxOb kq (snR k9).toArray, boxOb kt (snR t).toArray, boxOb ko #[.int .i64 t.over.e, .int .u64 t.over.v, .int .i64 t.over.f, .int .i64 t.at_.gate, .int .i64 t.at_.pc], boxOb ks (snR s).toArray, skOb B (.slice (some ⟨g9, 0, none⟩) K9.length vc) K9] ∧ Below B W3 wr) (fun x _ => Ty.length - (intOf x).toNat)
         case atStart => exact ⟨0, rfl, Nat.zero_le _, by rw [ovF_zero]; exact h.out, hB.out⟩
         case round =>
           clear h hB
           obtain ⟨q, rfl, hq, h, hB⟩ := hrel
           by_cases hql : q < Ty.length
           · have ql : (q : Int) < Ty.length := by omega
             obtain ⟨q1, hq1⟩ : ∃ q1, 1 + q = q1 := ⟨_, rfl⟩
             have hq16 : q1 < 16 := cl_lt hq1 hql hrs7
             have w1 : wrap64 (1 + (q : Int)) = (q1 : Int) := cl_w hq1 hq16
             have w1b : IntKind.i64.wrap (1 + (q : Int)) = (q1 : Int) := cl_wi hq1 hq16
             have q16 : (q1 : Int) < 16 := Int.ofNat_lt.2 hq16
             obtain ⟨tb, toff, eya, _, htb, hc⟩ := hFT.out wr hB q hql
             subst eya
             have hS : vfit (s.at_.regs q1) Ty[q] = true := by rw [← hq1]; exact fitN_at hfit.out q hql hql
             have hN : ovF s.at_.regs k9.at_.regs (q + 1) = updV (ovF s.at_.regs k9.at_.regs q) q1 (s.at_.regs q1) := by rw [ovF_next, hq1]
             have hrg := Hz.mk (sn_reg (h.there (boxOb ks (snR s).toArray) (by simp)) q1 hq16)
             have hth := Hz.mk (At.there (h.there (boxOb kw (rgR (ovF s.at_.regs k9.at_.regs q)).toArray) (.head _)) (q1 * 7) 7 (cl_thr hq16))
             obtain ⟨hM1, hB1⟩ := h.intoV [] [boxOb kq (snR k9).toArray, boxOb kt (snR t).toArray, boxOb ko #[.int .i64 t.over.e, .int .u64 t.over.v, .int .i64 t.over.f, .int .i64 t.at_.gate, .int .i64 t.at_.pc], boxOb ks (snR s).toArray, skOb B (.slice (some ⟨g9, 0, none⟩) K9.length vc) K9] q1 hq16 (s.at_.regs q1)
             rw [← hN] at hM1
             have hM1 := Hz.mk (show MIn B (wr.setCells kw (q1 * 7) (s.at_.regs q1).row) a P t [boxOb kw (rgR (ovF s.at_.regs k9.at_.regs (q + 1))).toArray, boxOb kq (snR k9).toArray, boxOb kt (snR t).toArray, boxOb ko #[.int .i64 t.over.e, .int .u64 t.over.v, .int .i64 t.over.f, .int .i64 t.at_.gate, .int .i64 t.at_.pc], boxOb ks (snR s).toArray, skOb B (.slice (some ⟨g9, 0, none⟩) K9.length vc) K9] from hM1)
             have hB1 := Hz.mk (hB.trans hB1)
             have hvt : Hz (∀ X, MIn B X a P t [boxOb kw (rgR (ovF s.at_.regs k9.at_.regs (q + 1))).toArray, boxOb kq (snR k9).toArray, boxOb kt (snR t).toArray, boxOb ko #[.int .i64 t.over.e, .int .u64 t.over.v, .int .i64 t.over.f, .int .i64 t.at_.gate, .int .i64 t.at_.pc], boxOb ks (snR s).toArray, skOb B (.slice (some ⟨g9, 0, none⟩) K9.length vc) K9] → X.rangeAt kw (q1 * 7) (s.at_.regs q1).row) := Hz.mk (fun X z => by
               have z2 := rg_reg (z.there (boxOb kw (rgR (ovF s.at_.regs k9.at_.regs (q + 1))).toArray) (.head _)) q1 hq16
               rw [hN] at z2
               simpa [updV] using z2)
             have hF : Hz (∀ X, Calls Tryz.prog 11 #[.agg (s.at_.regs q1).row.toArray, .agg (PTyp.vals Ty[q]).toArray] X fun x w' => x = .returned (.bool true) ∧ Bl X w') := Hz.mk (fun X => (Fits_any (s.at_.regs q1).g (s.at_.regs q1).n (s.at_.regs q1).c.b (s.at_.regs q1).c.e (s.at_.regs q1).c.c (s.at_.regs q1).c.p (s.at_.regs q1).c.s Ty[q] X).mono (by rintro x w' ⟨rfl, g⟩; exact ⟨by rw [← hS]; rfl, g.below⟩))
             have hty : Hz (∀ X, Below B W3 X → X.rangeAt tb (toff + q * 7) (PTyp.vals Ty[q])) := Hz.mk (fun X z i v hv => by
               have hi : i < 7 := by have := (List.getElem?_eq_some_iff.1 hv).1; rwa [ptv_len] at this
               obtain ⟨tb2, toff2, e2, _, htb2, hc2⟩ := hFT.out X z q hql
               injection e2 with e2
               injection e2 with e3 e4
               subst e3 e4
               rw [hc2 i hi]
               exact hv)
             clear hc hS hN
             generalize s.at_.regs q1 = v at *
             generalize Ty[q] = ty at *
             replace h := Hz.mk h
             replace hB := Hz.mk hB
             go_upto_region 39 with fail
             refine wp_region_lit ?_
             refine wpList_plain rfl (fun K' hK' => ?_)
             go_simp
             with_reducible refine hK' _ _ ?_
             clear hK' K'
             try simp only [xap]
             refine wpList_plain rfl (fun K' hK' => ?_)
             go_simp
             with_reducible refine hK' _ _ ?_
             clear hK' K'
             try simp only [xap]
             refine wpList_plain rfl (fun K' hK' => ?_)
             go_simp
             with_reducible refine hK' _ _ ?_
             clear hK' K'
             try simp only [xap]
             refine wpList_plain rfl (fun K' hK' => ?_)
             go_simp
             with_reducible refine hK' _ _ ?_
             clear hK' K'
             try simp only [xap]
             refine wpList_plain rfl (fun K' hK' => ?_)
             go_simp
             with_reducible refine hK' _ _ ?_
             clear hK' K'
             try simp only [xap]
             refine wpList_plain rfl (fun K' hK' => ?_)
             go_simp
             with_reducible refine hK' _ _ ?_
             clear hK' K'
             try simp only [xap]
             refine wpList_load_mid rfl _ _ rfl _ (3 + q1 * 7) rfl v.row _ hrg.out Tryz.underlying37 rfl (by rw [Vl.row_len]; kernel_rfl) ?_
             try simp only [xap]
             refine wpList_plain rfl (fun K' hK' => ?_)
             go_simp
             with_reducible refine hK' _ _ ?_
             clear hK' K'
             try simp only [xap]
             refine wpList_store_mid rfl _ _ _ rfl _ _ (List.toArray v.row) rfl rfl (by rw [List.size_toArray, Vl.row_len]; exact hth.out) (vrow_info v) (vrow_one v) ?_
             try simp only [Act.put]
             clear hrg hth h hB
             generalize World.setCells _ _ _ _ = X7 at *
             clear w1
             have w1 : wrap64 (1 + (q : Int)) = (q1 : Int) := by unfold wrap64; omega
             have KS : Hz (∀ X, Bl X7 X → X.rangeAt kw (q1 * 7) v.row ∧ X.rangeAt tb (toff + q * 7) ty.vals) := Hz.mk (fun X z => ⟨hvt.out X (hM1.out.bl z).1, hty.out X (hB1.out.trans (hM1.out.bl z).2)⟩)
             clear hvt hty
             go_upto_region 40 with fail
             have gD := Hz.mk ((Bl.refl X7).drew)
             refine wp_region_held_drew (S := (fun X => X.rangeAt kw (q1 * 7) v.row ∧ X.rangeAt tb (toff + q * 7) ty.vals)) (by kernel_rfl) (KS.out _ gD.out) (fun hHeld => ?_)
             refine xso 0 ?_ rfl ?_ (xso 1 ?_ rfl ?_ (xso 2 ?_ rfl ?_ ?_))
             iterate 3 (rotate_left; focus ((try simp only [xap]); intro w hSw; (try dsimp only at hSw); go_simp; first | done | with_reducible rfl))
             try simp only [xap]
             refine xtk 3 rfl (yieldsIf_load_mid (by rfl) _ _ rfl _ _ rfl _ _ (fun _ h => h.1) Tryz.underlying37 rfl (by rw [Vl.row_len]; kernel_rfl)) ?_
             try simp only [xap]
             refine xso 4 ?_ rfl ?_ (xso 5 ?_ rfl ?_ (xso 6 ?_ rfl ?_ ?_))
             iterate 3 (rotate_left; focus ((try simp only [xap]); intro w hSw; (try dsimp only at hSw); go_simp; first | done | with_reducible rfl))
             try simp only [xap]
             refine xtk 7 rfl (yieldsIf_load_mid (by rfl) _ _ rfl _ _ rfl _ _ (fun _ h => h.2) Tryz.underlying60 rfl (by rw [ptv_len]; kernel_rfl)) ?_
             try simp only [xap]
             refine wpAnyH_ready (rs := [8]) (by kernel_rfl) (by simp) ?_
             refine (xcn rfl (fun K' hK' => ?_) AllReadyH.nil)
             go_simp
             clear hHeld
             refine (hF.out _).mono ?_
             rintro r X2 ⟨rfl, e1⟩
             refine hK'.out _ _ (KS.out _ (gD.out.trans e1)) (fun hHeld => ?_)
             clear hK' K'
             try simp only [xap]
             refine xso 9 ?_ rfl ?_ ?_
             rotate_left
             · intro w hSw; (try dsimp only at hSw); go_simp; first | done | with_reducible rfl
             try simp only [xap]
             refine xdn ?_ _
             clear hHeld KS
             have gE := Hz.mk (gD.out.trans e1)
             clear e1 gD hF
             clear w1 w1b q16 hq16
             replace hq1 := Hz.mk hq1
             go_wp2_with fail
             exact ⟨⟨q + 1, by go_num, by omega, (hM1.out.bl gE.out).1, hB1.out.trans (hM1.out.bl gE.out).2⟩, by simp [intOf]; omega⟩
           · have ql : ¬ (q : Int) < Ty.length := by omega
             obtain rfl : q = Ty.length := by omega
             rw [← htr.out] at h
             have A0 := h.there (boxOb kq (snR k9).toArray) (by simp)
             have A1 := h.there (boxOb kt (snR t).toArray) (by simp)
             have A2 := h.there (boxOb kw (rgR t.at_.regs).toArray) (by simp)
             have p0 : wr.cell? ⟨kq, 0, none⟩ = some (.int .i64 k9.at_.gate) := A0.2.1 0
             have p1 : wr.cell? ⟨kq, 1, none⟩ = some (.int .i64 k9.at_.pc) := A0.2.1 1
             have q0 : wr.cell? ⟨kt, 0, none⟩ = some (.int .i64 k9.at_.gate) := (A1.2.1 0).trans (by rw [← htg.out]; rfl)
             have q1 : wr.cell? ⟨kt, 1, none⟩ = some (.int .i64 ((k9.at_.pc : Int) + 1)) := (A1.2.1 1).trans (by rw [show (k9.at_.pc : Int) + 1 = (t.at_.pc : Nat) by rw [htp.out]; rfl]; rfl)
             have l1 := A0.1
             have l2 := A1.1
             have l3 := A2.1
             have hr1 := Hz.mk (sn_regs A1)
             have hr2 := Hz.mk (At.range A2)
             clear A0 A1 A2
             have w8 : wrap64 ((k9.at_.pc : Int) + 1) = (k9.at_.pc : Int) + 1 := cl_w8 (pc_mil hpc9.out)
             have w8b : IntKind.i64.wrap ((k9.at_.pc : Int) + 1) = (k9.at_.pc : Int) + 1 := cl_w9 (pc_mil hpc9.out)
             have hne := rg_neq t.at_.regs
             replace h := Hz.mk h
             replace hB := Hz.mk hB
             have hfi : Hz (MIn B wr a P t [skOb B (.slice (some ⟨g9, 0, none⟩) K9.length vc) K9]) := Hz.mk h.out.drop.drop.drop.drop.drop
             clear h htr
             generalize t.at_.regs = fe at *
             go_upto_region 43 with fail
             refine wp_region_lit ?_
             refine wpList_plain rfl (fun K' hK' => ?_)
             go_simp
             with_reducible refine hK' _ _ ?_
             clear hK' K'
             try simp only [xap]
             refine wpList_plain rfl (fun K' hK' => ?_)
             refine wp_load_mid _ _ rfl _ 3 rfl (rgR fe) _ hr1.out Tryz.underlying38 rfl (by rw [rgR_len]; kernel_rfl) (hK' _ _ ?_)
             clear hK' K'
             try simp only [xap]
             refine wpList_plain rfl (fun K' hK' => ?_)
             refine wp_load_mid _ _ rfl _ 0 rfl (rgR fe) _ hr2.out Tryz.underlying38 rfl (by rw [rgR_len]; kernel_rfl) (hK' _ _ ?_)
             clear hK' K'
             try simp only [xap]
             refine wpList_plain rfl (fun K' hK' => ?_)
             go_simp
             with_reducible refine hK' _ _ ?_
             clear hK' K'
             try simp only [xap]
             refine wpList_plain rfl (fun K' hK' => ?_)
             go_simp
             with_reducible refine hK' _ _ ?_
             clear hK' K'
             try simp only [xap]
             refine BigFrame.wpList_want (by rfl) (fun K' hK' => ?_)
             go_simp
             with_reducible refine hK' _ _ ?_
             clear hK' K'
             try simp only [xap]
             refine BigFrame.wpList_want (by rfl) (fun K' hK' => ?_)
             go_simp
             with_reducible refine hK' _ _ ?_
             clear hK' K'
             try simp only [xap]
             refine BigFrame.wpList_want (by rfl) (fun K' hK' => ?_)
             go_simp
             with_reducible refine hK' _ _ ?_
             clear hK' K'
             try simp only [xap]
             refine BigFrame.wpList_want (by rfl) (fun K' hK' => ?_)
             go_simp
             with_reducible refine hK' _ _ ?_
             clear hK' K'
             try simp only [xap]
             refine BigFrame.wpList_want (by rfl) (fun K' hK' => ?_)
             go_simp
             with_reducible refine hK' _ _ ?_
             clear hK' K'
             try simp only [xap]
             refine wpList_plain rfl (fun K' hK' => ?_)
             go_simp
             with_reducible refine hK' _ _ ?_
             clear hK' K'
             try simp only [xap]
             refine wpList_plain rfl (fun K' hK' => ?_)
             go_simp
             with_reducible refine hK' _ _ ?_
             clear hK' K'
             try simp only [xap]
             refine BigFrame.wpList_want (by rfl) (fun K' hK' => ?_)
             go_simp
             with_reducible refine hK' _ _ ?_
             clear hK' K'
             try simp only [xap]
             refine BigFrame.wpList_want (by rfl) (fun K' hK' => ?_)
             go_simp
             with_reducible refine hK' _ _ ?_
             clear hK' K'
             try simp only [xap]
             refine BigFrame.wpList_want (by rfl) (fun K' hK' => ?_)
             go_simp
             with_reducible refine hK' _ _ ?_
             clear hK' K'
             try simp only [xap]
             refine BigFrame.wpList_want (by rfl) (fun K' hK' => ?_)
             go_simp
             with_reducible refine hK' _ _ ?_
             clear hK' K'
             try simp only [xap]
             refine BigFrame.wpList_want (by rfl) (fun K' hK' => ?_)
             go_simp
             with_reducible refine hK' _ _ ?_
             clear hK' K'
             try simp only [xap]
             refine BigFrame.wpList_want (by rfl) (fun K' hK' => ?_)
             go_simp
             with_reducible refine hK' _ _ ?_
             clear hK' K'
             try simp only [xap]
             refine wpList_plain rfl (fun K' hK' => ?_)
             go_simp
             with_reducible refine hK' _ _ ?_
             clear hK' K'
             try simp only [xap]
             clear hr1 hr2 hne p0 p1 q0 q1 w8 w8b l1 l2 l3
             go_wp2_with fail
             exact ⟨⟨j + 1, t, K9, some ⟨g9, 0, none⟩, vc, rfl, by go_num, by omega, hfi.out, hB.out, ok1.out, h01.out, hK1.out⟩, by simp [intOf]; omega⟩
       have hAl : Hz (Alone s t i.a.toNat) := Hz.mk (hAl0.out h31 (fun _ _ => h32))
       have hop1 : (op_ == 31) = false := by simpa using h31
       have hop2 : (op_ == 32) = false := by simpa using h32
       replace h31 := Hz.mk h31
       replace h32 := Hz.mk h32
       have t0_ : X4.cell? ⟨kt, 0, none⟩ = some (.int .i64 s.at_.gate) := ((h.out.there (boxOb kt (snR t).toArray) (.head _)).2.1 0).trans (by rw [← hAl.out.gate]; rfl)
       have t2_ : X4.cell? ⟨kt, 2, none⟩ = some (.int .i64 s.st.length) := ((h.out.there (boxOb kt (snR t).toArray) (.head _)).2.1 2).trans (by rw [← hAl.out.st]; rfl)
       have lkt := (h.out.there (boxOb kt (snR t).toArray) (.head _)).1
       have s0_ : X4.cell? ⟨ks, 0, none⟩ = some (.int .i64 s.at_.gate) := (h.out.there (boxOb ks (snR s).toArray) (.tail _ (.tail _ (.head _)))).2.1 0
       have s2_ : X4.cell? ⟨ks, 2, none⟩ = some (.int .i64 s.st.length) := (h.out.there (boxOb ks (snR s).toArray) (.tail _ (.tail _ (.head _)))).2.1 2
       have hK1 : Hz (t.st = K.map snF) := Hz.mk (by rw [hAl.out.st]; exact hK.out)
       go_wp2_with fail
       exact ⟨⟨j + 1, t, K, va, vc, by first | rfl | (rw [List.length_append]; rfl), by go_num, by omega, h.out.drop.drop.drop, hB.out, ok1.out, h01.out, hK1.out⟩, by simp [intOf]; omega⟩
   · have jl : ¬ (j : Int) < 300 := by omega
     replace ok := Hz.mk ok
     replace h0 := Hz.mk h0
     go_wp2_with fail
     go_ret
     exact ⟨rfl, hfin.out _ hB.out⟩
theorem walk_CapmachineCalls (m : PImg) (gate : Int) (A I : List Nat) (ra ca ga aa ia : Option Addr) (rc cc gc ac ic : Nat) (w : World) (ht : TabIn w) (hm : ImgIn w.heap.size w ra ca ga m) (hr : m.Rng) (hf : Q.TwFit m) (hA : NumIn w aa A) (hI : InS w ia I ic) (hAb : ∀ x ∈ A, x < 18446744073709551616) (hIb : ∀ x ∈ I, x < 18446744073709551616) (hil : I.length ≤ 2000000) : Calls Tryz.prog 3 #[.agg #[.slice ra m.regs.length rc, .slice ca m.comps.length cc, .slice ga m.gates.length gc, .int .i64 m.depth], .int .i64 gate, .slice aa A.length ac, .slice ia I.length ic] w fun x w' => x = .returned (.bool true) ∧ Below w.heap.size w w' := by
 by_cases hrt : m.right = 0
 · have hth := th_of m hrt hr
   have hP : POk (bare m) := pok_of m hrt hr
   by_cases hg : gate < 0
   · exact calls_nil m gate A I ra ca ga aa ia rc cc gc ac ic w ht (fun X q => begun_neg m gate A I ra ca ga aa ia rc cc gc ac ic X (TabIn.bl ht q) ((hm.below q).mono q.size) hr hf hrt hg)
   · obtain ⟨n, rfl⟩ : ∃ n : Nat, gate = n := ⟨gate.toNat, by omega⟩
     have hgl : n % m.gates.length < m.gates.length := Nat.mod_lt _ hth.ne
     cases hent : isEnt m (n % m.gates.length)
     · exact calls_nil m n A I ra ca ga aa ia rc cc gc ac ic w ht (fun X q => begun_shut m n _ A I ra ca ga aa ia rc cc gc ac ic X (TabIn.bl ht q) ((hm.below q).mono q.size) hr hf (hA.bl q) hrt rfl hgl hent)
     · have hal : m.gates[n % m.gates.length].args.length ≤ 7 := (hP.gates _ hgl).2.2.2.2.1
       exact calls_some m n A I ra ca ga aa ia rc cc gc ac ic w ht hm (bare m) rfl _ hP (start_ok hrt hr hgl (ents_lt A _ hAb (by omega)) hIb hil) rfl rfl (fun X q => begun_ok m n _ A I ra ca ga aa ia rc cc gc ac ic X (TabIn.bl ht q) ((hm.below q).mono q.size) hr hf (hA.bl q) (hI.bl q) hil hrt rfl hgl hent)
 · exact calls_nil m gate A I ra ca ga aa ia rc cc gc ac ic w ht (fun X q => begun_wrong m gate A I ra ca ga aa ia rc cc gc ac ic X (TabIn.bl ht q) ((hm.below q).mono q.size) hr hrt)
end C
end Go.Proofs.YthmlkcglglcljaaGreatDoor
