import Derived.Test.YthfphgjjieddjaaGreatP50
import Derived.Test.YthfphgjjieddjaaGreatP49
import Derived.Test.YthfphgjjieddjaaGreatZSnEq
import Derived.OwnWalk
import Derived.Test.YthfphgjjieddjaaGreatP35
import Derived.Test.YthfphgjjieddjaaGreatP29
import Derived.Test.YthfphgjjieddjaaGreatP30
import Derived.Test.YthfphgjjieddjaaGreatP31
namespace Go.Proofs.YthfphgjjieddjaaGreat
set_option maxRecDepth 100000
set_option maxHeartbeats 40000000
namespace Z
open Go.RowKit
open T (Sep Ob Kp Mf FlIn boxOb)

theorem turned_any (R : Rp) (ca ga : Option Addr) (cc gc : Nat) (mem : List UInt8) (gate : Int) (A : List Int) (sa : Option Addr) (sc : Nat) (ia : Option Addr) (ic : Nat) (L : List Int) (w : World) (hb : Bgn w R ca ga mem A sa ia ic L) (hAl : A.length ≤ 2000000) :
   Calls Tryz.prog 6 #[.agg #[.slice ca R.code.length cc, .slice ga R.gates.length gc, .string (T.str mem), .int .i64 R.dep], .int .i64 gate, .slice sa A.length sc, .slice ia L.length ic] w fun x w' => x = .returned (.bool true) ∧ Below w.heap.size w w' := by
 replace hb := Hz.mk hb
 obtain ⟨R', hR'⟩ : ∃ R', tnR R R.code.length = R' := ⟨_, rfl⟩
 have hgs : Hz (R'.gates = R.gates ∧ R'.dep = R.dep) := Hz.mk (by rw [← hR']; exact tnR_gates R _)
 have hlen : Hz (R'.code.length = R.code.length) := Hz.mk (by rw [← hR']; exact tnR_len R _)
 have hwds : Hz R'.Wds := Hz.mk (by rw [← hR']; exact tn_wds hb.out.wd _)
 replace hR' := Hz.mk hR'
 go_enter Tryz.func6, Tryz.ntmps6
 go_upto_region 1 with fail
 refine wp_world (fun W => At W w.heap.size #[.slice ca R.code.length cc, .slice ga R.gates.length gc, .string (T.str mem), .int .i64 R.dep] ∧ Gr w W) ⟨At.new w _ _, (Gr.refl _).alloc _⟩ ?_
 rintro W ⟨hQ, G0⟩
 have G := Hz.mk G0.below
 clear G0
 replace hQ := Hz.mk hQ
 obtain ⟨km, hkm⟩ : ∃ km, w.heap.size = km := ⟨_, rfl⟩
 rw [hkm] at hQ ⊢
 replace hkm := Hz.mk hkm
 have d0 : W.cell? ⟨km, 0, none⟩ = some (.slice ca R.code.length cc) := hQ.out.2.1 0
 have d1 : W.cell? ⟨km, 1, none⟩ = some (.slice ga R.gates.length gc) := hQ.out.2.1 1
 have d2 : W.cell? ⟨km, 2, none⟩ = some (.string (T.str mem)) := hQ.out.2.1 2
 have d3 : W.cell? ⟨km, 3, none⟩ = some (.int .i64 R.dep) := hQ.out.2.1 3
 have hent := Hz.mk (ent_two R R' hgs.out.1 ca ga cc gc mem gate A sa sc W (hb.out.below G.out).hP (hb.out.below G.out).hA hAl)
 go_wp2_with fail
 refine hent.out.mono ?_
 rintro r W1 ⟨g, A2, va, vc, rfl, hWa, hA2, hcase, hB⟩
 clear d0 d1 d2 d3 hent
 replace hcase := Hz.mk hcase
 replace hQ := Hz.mk (at_below hQ.out hB hQ.out.1)
 replace G := Hz.mk (G.out.trans (hB.mono G.out.size))
 clear hB
 have hw1 := Hz.mk (words_any A2 va vc W1 hWa hA2)
 replace hWa := Hz.mk hWa
 go_wp2_with fail
 refine hw1.out.mono ?_
 rintro r W2 ⟨ka, rfl, hka, hFa, hB⟩
 have hkw : Hz (W1.heap.size ≤ ka) := Hz.mk hka
 replace hka : Hz (km < ka) := Hz.mk (Nat.lt_of_lt_of_le hQ.out.1 hka)
 have hvk : Hz (∀ b off, va = some ⟨b, off, none⟩ → 0 < A2.length → b < W1.heap.size) := Hz.mk (fun b off e h0 => by
   obtain ⟨b2, off2, e2, e3, _⟩ := hWa.out 0 h0
   rw [e] at e2
   injection e2 with e2
   injection e2 with e2
   omega)
 replace hWa := Hz.mk (hWa.out.below hB)
 replace hQ := Hz.mk (at_below hQ.out hB hQ.out.1)
 replace hFa := Hz.mk hFa
 replace G := Hz.mk (G.out.trans (hB.mono G.out.size))
 clear hw1 hB
 have hw2 := Hz.mk (words_any L ia ic W2 (hb.out.below G.out).hI.win hb.out.l)
 go_wp2_with fail
 refine hw2.out.mono ?_
 rintro r W3 ⟨kb, rfl, hkb, hFb, hB⟩
 have hab : Hz (ka < kb) := Hz.mk (Nat.lt_of_lt_of_le hFa.out.lt hkb)
 replace hWa := Hz.mk (hWa.out.below hB)
 replace hQ := Hz.mk (at_below hQ.out hB hQ.out.1)
 replace hFa := Hz.mk (hFa.out.bel hB hFa.out.lt)
 replace hFb := Hz.mk hFb
 replace G := Hz.mk (G.out.trans (hB.mono G.out.size))
 clear hw2 hB hkb
 have d0 : W3.cell? ⟨km, 0, none⟩ = some (.slice ca R.code.length cc) := hQ.out.2.1 0
 have d1 : W3.cell? ⟨km, 1, none⟩ = some (.slice ga R.gates.length gc) := hQ.out.2.1 1
 have d2 : W3.cell? ⟨km, 2, none⟩ = some (.string (T.str mem)) := hQ.out.2.1 2
 have d3 : W3.cell? ⟨km, 3, none⟩ = some (.int .i64 R.dep) := hQ.out.2.1 3
 have hln := Hz.mk (lent2_any R ca ga cc gc (T.str mem) W3 (hb.out.below G.out).hP hb.out.c hb.out.r hb.out.g)
 go_wp2_with fail
 refine hln.out.mono ?_
 rintro r W4 ⟨kc, kg, la, lc, J1, rfl, hLn, hB⟩
 clear d0 d1 d2 d3 hln
 replace hLn := Hz.mk hLn
 go_upto_region 5 with fail
 refine wp_world (fun X => At X W4.heap.size #[.slice (some ⟨kc, 0, none⟩) R.code.length (R.code.length + 8), .slice (some ⟨kg, 0, none⟩) R.gates.length (R.gates.length + 8), .string (T.str mem), .int .i64 R.dep] ∧ Gr W4 X) ?_ ?_
 · first | exact ⟨At.new W4 _ _, (Gr.refl _).alloc _⟩ | exact ⟨At.setAll (At.new W4 _ _) _ rfl, Gr.setCells ((Gr.refl W4).alloc _) _ (Nat.le_refl _) _ 0⟩
 rintro W5 ⟨hp, G2⟩
 have hlo : Hz (W3.heap.size ≤ W4.heap.size) := Hz.mk hB.size
 replace hLn := Hz.mk (hLn.out.bel (B := W4.heap.size) G2.below (Nat.le_refl _))
 replace hB := hB.trans (G2.below.mono hB.size)
 replace hp := Hz.mk hp
 have hblo : Hz (kb < W3.heap.size) := Hz.mk hFb.out.lt
 replace hWa := Hz.mk (hWa.out.below hB)
 replace hFa := Hz.mk (hFa.out.bel hB hFa.out.lt)
 replace hFb := Hz.mk (hFb.out.bel hB hFb.out.lt)
 replace hQ := Hz.mk (at_below hQ.out hB hQ.out.1)
 replace G := Hz.mk (G.out.trans (hB.mono G.out.size))
 clear G2 hB
 obtain ⟨kp, hkp⟩ : ∃ k, W4.heap.size = k := ⟨_, rfl⟩
 rw [hkp] at hp hLn hlo ⊢
 obtain ⟨lo1, hlo1⟩ : ∃ k, W3.heap.size = k := ⟨_, rfl⟩
 rw [hlo1] at hLn hlo
 rw [hlo1] at hblo
 have hlop := hlo
 clear hlo hkp hlo1
 have d0 : W5.cell? ⟨km, 0, none⟩ = some (.slice ca R.code.length cc) := hQ.out.2.1 0
 have d1 : W5.cell? ⟨km, 1, none⟩ = some (.slice ga R.gates.length gc) := hQ.out.2.1 1
 have d2 : W5.cell? ⟨km, 2, none⟩ = some (.string (T.str mem)) := hQ.out.2.1 2
 have d3 : W5.cell? ⟨km, 3, none⟩ = some (.int .i64 R.dep) := hQ.out.2.1 3
 have hln := Hz.mk (lent2_any R ca ga cc gc (T.str mem) W5 (hb.out.below G.out).hP hb.out.c hb.out.r hb.out.g)
 go_wp2_with fail
 refine hln.out.mono ?_
 rintro r W6 ⟨kc2, kg2, la2, lc2, J2, rfl, hLn2, hB⟩
 clear d0 d1 d2 d3 hln
 replace hLn2 := Hz.mk hLn2
 go_upto_region 6 with fail
 refine wp_world (fun X => At X W6.heap.size #[.slice (some ⟨kc2, 0, none⟩) R.code.length (R.code.length + 8), .slice (some ⟨kg2, 0, none⟩) R.gates.length (R.gates.length + 8), .string (T.str mem), .int .i64 R.dep] ∧ Gr W6 X) ?_ ?_
 · first | exact ⟨At.new W6 _ _, (Gr.refl _).alloc _⟩ | exact ⟨At.setAll (At.new W6 _ _) _ rfl, Gr.setCells ((Gr.refl W6).alloc _) _ (Nat.le_refl _) _ 0⟩
 rintro V ⟨ht, G2⟩
 have hlo : Hz (W5.heap.size ≤ W6.heap.size) := Hz.mk hB.size
 replace hLn2 := Hz.mk (hLn2.out.bel (B := W6.heap.size) G2.below (Nat.le_refl _))
 replace hB := hB.trans (G2.below.mono hB.size)
 replace ht := Hz.mk ht
 have hplo : Hz (kp < W5.heap.size) := Hz.mk hp.out.1
 replace hWa := Hz.mk (hWa.out.below hB)
 replace hFa := Hz.mk (hFa.out.bel hB hFa.out.lt)
 replace hFb := Hz.mk (hFb.out.bel hB hFb.out.lt)
 replace hLn := Hz.mk (hLn.out.bel hB (Nat.le_of_lt hp.out.1))
 replace hp := Hz.mk (at_below hp.out hB hp.out.1)
 replace hQ := Hz.mk (at_below hQ.out hB hQ.out.1)
 replace G := Hz.mk (G.out.trans (hB.mono G.out.size))
 clear G2 hB
 obtain ⟨kt, hkt⟩ : ∃ k, W6.heap.size = k := ⟨_, rfl⟩
 rw [hkt] at ht hLn2 hlo ⊢
 obtain ⟨lo2, hlo2⟩ : ∃ k, W5.heap.size = k := ⟨_, rfl⟩
 rw [hlo2] at hLn2 hlo
 rw [hlo2] at hplo
 have hT : Hz (TnS ⟨km, ka, kb, kc, kg, kp, kc2, kg2, kt, lo1, lo2, J1, J2, .slice la R.code.length lc, .slice la2 R.code.length lc2⟩ #[.slice ca R.code.length cc, .slice ga R.gates.length gc, .string (T.str mem), .int .i64 R.dep] #[.slice (some ⟨kc, 0, none⟩) R.code.length (R.code.length + 8), .slice (some ⟨kg, 0, none⟩) R.gates.length (R.gates.length + 8), .string (T.str mem), .int .i64 R.dep] #[.slice (some ⟨kc2, 0, none⟩) R.code.length (R.code.length + 8), .slice (some ⟨kg2, 0, none⟩) R.gates.length (R.gates.length + 8), .string (T.str mem), .int .i64 R.dep] (A2.length + 8) (L.length + 8) (wdA A2) (wdA L) (tnR R 0) V) := Hz.mk ⟨hQ.out, hp.out, ht.out, hFa.out, hFb.out, hLn.out, hLn2.out, ⟨hka.out, hab.out, hblo.out, hlop.out, hplo.out, hlo.out, ht.out.1⟩⟩
 clear hQ hp ht hFa hFb hLn hLn2 hka hab hblo hlop hplo hlo hkt hlo2
 have d0 : V.cell? ⟨kp, 0, none⟩ = some (.slice (some ⟨kc, 0, none⟩) R.code.length (R.code.length + 8)) := hT.out.p.2.1 0
 have d1 : V.cell? ⟨kp, 1, none⟩ = some (.slice (some ⟨kg, 0, none⟩) R.gates.length (R.gates.length + 8)) := hT.out.p.2.1 1
 have d2 : V.cell? ⟨kp, 2, none⟩ = some (.string (T.str mem)) := hT.out.p.2.1 2
 have d3 : V.cell? ⟨kp, 3, none⟩ = some (.int .i64 R.dep) := hT.out.p.2.1 3
 have hnw := Hz.mk (new_anyW R (some ⟨kc, 0, none⟩) (some ⟨kg, 0, none⟩) (R.code.length + 8) (R.gates.length + 8) mem g A2 L ka kb V hT.out.l1.rp hb.out.wd.code hT.out.a hT.out.b hb.out.l)
 go_wp2_with fail
 refine hnw.out.mono ?_
 rintro r V1 ⟨rp, re, rfl, hB⟩
 clear d0 d1 d2 d3 hnw
 replace hT := Hz.mk (hT.out.bel hB)
 replace hWa := Hz.mk (hWa.out.below hB)
 replace G := Hz.mk (G.out.trans (hB.mono G.out.size))
 have hWb : Hz (∀ X, Below V1.heap.size V1 X → WIn X va A2) := Hz.mk (fun X q => hWa.out.below q)
 clear hB
 have hvw : Hz (∀ X, Kp (fun k => km < k) V1 X → (∀ k, k = ka → True) → True) := Hz.mk (fun _ _ _ => trivial)
 clear hvw
 have hWc : Hz (∀ X : World, V1.heap.size ≤ X.heap.size → (∀ k, k < ka → X.heap[k]? = V1.heap[k]?) → WIn X va A2) := Hz.mk (fun X hs hx i hi => by
   obtain ⟨b, off, e, h1, h2⟩ := hWa.out i hi
   have := hvk.out b off e (by omega)
   have := hkw.out
   exact ⟨b, off, e, by omega, (T.cell_of_block (hx b (by omega)) _).trans h2⟩)
 have hG1 : Hz (Below ka V1 V1) := Hz.mk (Below.refl _ _)
 clear hWa hWb
 go_upto_region 8 with fail
 go_loopw [17] (fun x wr => ∃ i : Nat, x = .int .i64 i ∧ i ≤ R.code.length ∧ Hz (TnS ⟨km, ka, kb, kc, kg, kp, kc2, kg2, kt, lo1, lo2, J1, J2, .slice la R.code.length lc, .slice la2 R.code.length lc2⟩ #[.slice ca R.code.length cc, .slice ga R.gates.length gc, .string (T.str mem), .int .i64 R.dep] #[.slice (some ⟨kc, 0, none⟩) R.code.length (R.code.length + 8), .slice (some ⟨kg, 0, none⟩) R.gates.length (R.gates.length + 8), .string (T.str mem), .int .i64 R.dep] #[.slice (some ⟨kc2, 0, none⟩) R.code.length (R.code.length + 8), .slice (some ⟨kg2, 0, none⟩) R.gates.length (R.gates.length + 8), .string (T.str mem), .int .i64 R.dep] (A2.length + 8) (L.length + 8) (wdA A2) (wdA L) (tnR R i) wr) ∧ Hz (Below w.heap.size w wr) ∧ Hz (Below ka V1 wr)) (fun x _ => R.code.length - (intOf x).toNat)
 case atStart => exact ⟨0, rfl, Nat.zero_le _, hT, G, hG1⟩
 case round =>
   clear hT G hG1
   obtain ⟨i, rfl, hi, hT, G, hG1⟩ := hrel
   have q0 : wr.cell? ⟨km, 0, none⟩ = some (.slice ca R.code.length cc) := hT.out.m.2.1 0
   by_cases hin : i < R.code.length
   · have hi1 : (i : Int) < (R.code.length : Int) := by omega
     obtain ⟨cb, co, ra, rc, eca, hcb, x3, _⟩ := (hb.out.below G.out).hP.code i hin
     rw [eca] at q0
     replace eca := Hz.mk eca
     obtain ⟨m, hm⟩ : ∃ m, R.code[i].length = m := ⟨_, rfl⟩
     rw [hm] at x3
     have y2 : wr.cell? ⟨kc, i, none⟩ = some (.slice (some ⟨J1 i, 0, none⟩) m (m + 8)) := by rw [← hm]; exact (ln_cell hT.out.l1 hin).2
     have z1 : kc2 < wr.heap.size := (ln_cell hT.out.l2 hin).1
     have z2 : wr.cell? ⟨kc2, i, none⟩ = some (.slice (some ⟨J2 i, 0, none⟩) m (m + 8)) := by rw [← hm]; exact (ln_cell hT.out.l2 hin).2
     have hRl : m ≤ 2000000 := by rw [← hm]; exact hb.out.r _ (List.getElem_mem hin)
     have egd : (R.code.getD i []).length = m := by rw [← hm]; simp [hin]
     have p0 : wr.cell? ⟨kp, 0, none⟩ = some (.slice (some ⟨kc, 0, none⟩) R.code.length (R.code.length + 8)) := hT.out.p.2.1 0
     have t0 : wr.cell? ⟨kt, 0, none⟩ = some (.slice (some ⟨kc2, 0, none⟩) R.code.length (R.code.length + 8)) := hT.out.t.2.1 0
     have hgap : Hz (J1 i < kp ∧ kp < lo2 ∧ lo2 ≤ kt ∧ lo2 ≤ kc2 ∧ lo2 ≤ J2 i ∧ lo1 ≤ J1 i ∧ km < ka ∧ ka < kb ∧ kb < lo1 ∧ kt < wr.heap.size) := Hz.mk ⟨(hT.out.l1.done i (by rw [tnR_len]; exact hin)).1.2, hT.out.o.2.2.2.2.1, hT.out.o.2.2.2.2.2.1, hT.out.l2.kc_.1, (hT.out.l2.done i (by rw [tnR_len]; exact hin)).1.1, (hT.out.l1.done i (by rw [tnR_len]; exact hin)).1.1, hT.out.o.1, hT.out.o.2.1, hT.out.o.2.2.1, hT.out.o.2.2.2.2.2.2⟩
     by_cases hk : m / 2 < m
     · obtain ⟨h, hh⟩ : ∃ h, m / 2 = h := ⟨_, rfl⟩
       have hT2 : Hz (TnS ⟨km, ka, kb, kc, kg, kp, kc2, kg2, kt, lo1, lo2, J1, J2, .slice la R.code.length lc, .slice la2 R.code.length lc2⟩ #[.slice ca R.code.length cc, .slice ga R.gates.length gc, .string (T.str mem), .int .i64 R.dep] #[.slice (some ⟨kc, 0, none⟩) R.code.length (R.code.length + 8), .slice (some ⟨kg, 0, none⟩) R.gates.length (R.gates.length + 8), .string (T.str mem), .int .i64 R.dep] #[.slice (some ⟨kc2, 0, none⟩) R.code.length (R.code.length + 8), .slice (some ⟨kg2, 0, none⟩) R.gates.length (R.gates.length + 8), .string (T.str mem), .int .i64 R.dep] (A2.length + 8) (L.length + 8) (wdA A2) (wdA L) (tnR R (i + 1)) ((wr.setCells (J1 i) (h * 5) tnI.vals).setCells (J2 i) (h * 5) tnI.vals)) := Hz.mk (by have q := hT.out.turn hin (by rw [egd]; exact hk); rw [egd, hh] at q; exact q)
       have th1 : Hz (wr.there (J1 i) (h * 5) 5) := Hz.mk (by have q := ln_there (k := m / 2) hT.out.l1 hin (by rw [hm]; exact hk); rw [hh] at q; exact q)
       have hk2 := Hz.mk (kp_setsZ wr (J1 i) tnI.vals (h * 5))
       have th2 : Hz ((wr.setCells (J1 i) (h * 5) tnI.vals).there (J2 i) (h * 5) 5) := Hz.mk (by
         have q := ln_there (k := m / 2) (hT.out.l2.keep hk2.out (fun k h1 h2 (e : k = J1 i) => by
           have h3 : lo2 ≤ k := h1
           have := hgap.out
           omega)) hin (by rw [hm]; exact hk)
         rw [hh] at q
         exact q)
       have t0b : (wr.setCells (J1 i) (h * 5) tnI.vals).cell? ⟨kt, 0, none⟩ = some (.slice (some ⟨kc2, 0, none⟩) R.code.length (R.code.length + 8)) := (T.cell_of_block (hk2.out.block kt hT.out.t.1 (by have := hgap.out; omega)) _).trans t0
       have z2b : (wr.setCells (J1 i) (h * 5) tnI.vals).cell? ⟨kc2, i, none⟩ = some (.slice (some ⟨J2 i, 0, none⟩) m (m + 8)) := (T.cell_of_block (hk2.out.block kc2 z1 (by have := hgap.out; omega)) _).trans z2
       have hGn : Hz (Below w.heap.size w ((wr.setCells (J1 i) (h * 5) tnI.vals).setCells (J2 i) (h * 5) tnI.vals)) := Hz.mk (by
         have := hkm.out
         have := hgap.out
         exact tnr_bel G.out (by omega) (by omega))
       have hGk : Hz (Below ka V1 ((wr.setCells (J1 i) (h * 5) tnI.vals).setCells (J2 i) (h * 5) tnI.vals)) := Hz.mk (by
         have := hgap.out
         exact hG1.out.trans (((kp_setsZ wr (J1 i) tnI.vals _).below (by omega) (fun k (e : k = J1 i) => by omega)).trans ((kp_setsZ (wr.setCells (J1 i) _ tnI.vals) (J2 i) tnI.vals _).below (Nat.le_trans (by omega) (kp_setsZ wr (J1 i) tnI.vals _).size) (fun k (e : k = J2 i) => by omega))))
       have hm1 : (h : Int) < (m : Int) := by omega
       have hdv : Int.tdiv (m : Int) 2 = (h : Int) := by rw [Int.tdiv_eq_ediv_of_nonneg (by omega)]; omega
       have hwz : IntKind.i64.wrap (h : Int) = (h : Int) := by rw [IntKind.wrap_i64]; omega
       have hwz2 : wrap64 (h : Int) = (h : Int) := by unfold wrap64; omega
       clear hk2 hT G hG1 hgap hh hk egd
       go_upto_region 12 with fail
       refine wp_region_lit ?_
       iterate 8 (refine wpList_plain rfl (fun K hK => ?_); go_simp; with_reducible refine hK _ _ ?_; clear hK K; (try simp only [xap]))
       refine wpList_plain rfl (fun K hK => ?_)
       refine wp_store_mid _ _ _ rfl _ _ (List.toArray tnI.vals) rfl rfl th1.out (by kernel_rfl) (by simp [tnI, Ri.vals, Value.oneCell']) (hK _ _ ?_)
       clear hK K
       try simp only [Act.put]
       go_upto_region 13 with fail
       refine wp_region_lit ?_
       iterate 8 (refine wpList_plain rfl (fun K hK => ?_); go_simp; with_reducible refine hK _ _ ?_; clear hK K; (try simp only [xap]))
       refine wpList_plain rfl (fun K hK => ?_)
       refine wp_store_mid _ _ _ rfl _ _ (List.toArray tnI.vals) rfl rfl th2.out (by kernel_rfl) (by simp [tnI, Ri.vals, Value.oneCell']) (hK _ _ ?_)
       clear hK K
       try simp only [Act.put]
       generalize World.setCells (World.setCells _ _ _ _) _ _ _ = V2 at *
       clear th1 th2
       go_wp2_with fail
       refine ⟨⟨i + 1, ?_, hin, hT2, hGn, hGk⟩, ?_⟩
       · first | rfl | rw [nextT hin hb.out.c] | go_num
       · first | exact nextTm hin | exact nextTn hin hb.out.c
     · have hT2 := Hz.mk (hT.out.skip (by rw [egd]; exact hk))
       have e0 : m = 0 := by omega
       rw [e0] at x3
       clear hk egd hRl hT y2 z1 z2 p0 t0 hgap
       go_wp2_with fail
       refine ⟨⟨i + 1, ?_, hin, hT2, G, hG1⟩, ?_⟩
       · first | rfl | rw [nextT hin hb.out.c] | go_num
       · first | exact nextTm hin | exact nextTn hin hb.out.c
   · have hi1 : ¬ (i : Int) < (R.code.length : Int) := by omega
     obtain rfl : i = R.code.length := by omega
     rw [hR'.out] at hT
     replace hWc := Hz.mk (hWc.out wr hG1.out.size (fun k hk => hG1.out.block k hk))
     have hsa := Hz.mk (spoilt3 A2 ka va vc wr hT.out.a hWc.out (fun b off e h0 => by
       have := hvk.out b off e h0
       have := hkw.out
       omega) hA2)
     replace hA2 := Hz.mk hA2
     go_wp2_with fail
     refine hsa.out.mono ?_
     rintro r V5 ⟨rfl, hk5, hF5⟩
     clear hsa hWc q0
     replace G := Hz.mk (G.out.trans (hk5.below G.out.size (fun k (e : k = ka) => by
       have : km < ka := hT.out.o.1
       have := hkm.out
       omega)))
     replace hT : Hz (TnS ⟨km, ka, kb, kc, kg, kp, kc2, kg2, kt, lo1, lo2, J1, J2, .slice la R.code.length lc, .slice la2 R.code.length lc2⟩ #[.slice ca R.code.length cc, .slice ga R.gates.length gc, .string (T.str mem), .int .i64 R.dep] #[.slice (some ⟨kc, 0, none⟩) R.code.length (R.code.length + 8), .slice (some ⟨kg, 0, none⟩) R.gates.length (R.gates.length + 8), .string (T.str mem), .int .i64 R.dep] #[.slice (some ⟨kc2, 0, none⟩) R.code.length (R.code.length + 8), .slice (some ⟨kg2, 0, none⟩) R.gates.length (R.gates.length + 8), .string (T.str mem), .int .i64 R.dep] (A2.length + 8) (L.length + 8) (fun _ => .int .u64 78) (wdA L) R' V5) := Hz.mk (hT.out.spa hk5 hF5)
     clear hk5 hF5
     have hsb := Hz.mk (spoilt3 L kb ia ic V5 hT.out.b (hb.out.below G.out).hI.win (fun b off e h0 => by
       obtain ⟨b2, off2, e2, e3, _⟩ := hb.out.hI.win 0 h0
       rw [e] at e2
       injection e2 with e2
       injection e2 with e2
       have : km < ka := hT.out.o.1
       have : ka < kb := hT.out.o.2.1
       have := hkm.out
       omega) hb.out.l)
     go_wp2_with fail
     refine hsb.out.mono ?_
     rintro r V6 ⟨rfl, hk6, hF6⟩
     clear hsb
     replace G := Hz.mk (G.out.trans (hk6.below G.out.size (fun k (e : k = kb) => by
       have : km < ka := hT.out.o.1
       have : ka < kb := hT.out.o.2.1
       have := hkm.out
       omega)))
     replace hT : Hz (TnS ⟨km, ka, kb, kc, kg, kp, kc2, kg2, kt, lo1, lo2, J1, J2, .slice la R.code.length lc, .slice la2 R.code.length lc2⟩ #[.slice ca R.code.length cc, .slice ga R.gates.length gc, .string (T.str mem), .int .i64 R.dep] #[.slice (some ⟨kc, 0, none⟩) R.code.length (R.code.length + 8), .slice (some ⟨kg, 0, none⟩) R.gates.length (R.gates.length + 8), .string (T.str mem), .int .i64 R.dep] #[.slice (some ⟨kc2, 0, none⟩) R.code.length (R.code.length + 8), .slice (some ⟨kg2, 0, none⟩) R.gates.length (R.gates.length + 8), .string (T.str mem), .int .i64 R.dep] (A2.length + 8) (L.length + 8) (fun _ => .int .u64 78) (fun _ => .int .u64 78) R' V6) := Hz.mk (hT.out.spb hk6 hF6)
     clear hk6 hF6
     have hL2 := Hz.mk hb.out.l
     have KS : Hz (∀ X, Below V6.heap.size V6 X → X.rangeAt kt 0 [Value.slice (some ⟨kc2, 0, none⟩) R.code.length (R.code.length + 8), .slice (some ⟨kg2, 0, none⟩) R.gates.length (R.gates.length + 8), .string (T.str mem), .int .i64 R.dep]) := Hz.mk (fun X q j v e => by rw [Nat.zero_add]; exact (T.cell_of_block (q.block kt hT.out.t.1) _).trans ((hT.out.t.2.1 j).trans (by simpa using e)))
     have hLt : Hz (∀ r ∈ R'.code, r.length ≤ 2000000) := Hz.mk (by rw [← hR'.out]; exact tn_rows hb.out.r _)
     rcases hcase.out with hno | ⟨gn, hgl, rfl, ok, hna⟩
     · skip
       have hno : Hz (¬ (R'.Ok (T.str mem).size ∧ 0 ≤ g ∧ g < (R'.gates.length : Int))) := Hz.mk (by rw [T.str_size, hgs.out.1]; exact hno)
       have hnx := Hz.mk (new70c R' R.code.length R.gates.length R.dep hlen.out (congrArg List.length hgs.out.1) hgs.out.2 (some ⟨kc, 0, none⟩) (some ⟨kg, 0, none⟩) (R.code.length + 8) (R.gates.length + 8) mem g (some ⟨ka, 0, none⟩) A2.length (A2.length + 8) (.slice (some ⟨kb, 0, none⟩) L.length (L.length + 8)) V6 hT.out.l1.rp hwds.out.code hno.out)
       have d0 : V6.cell? ⟨kp, 0, none⟩ = some (.slice (some ⟨kc, 0, none⟩) R.code.length (R.code.length + 8)) := hT.out.p.2.1 0
       have d1 : V6.cell? ⟨kp, 1, none⟩ = some (.slice (some ⟨kg, 0, none⟩) R.gates.length (R.gates.length + 8)) := hT.out.p.2.1 1
       have d2 : V6.cell? ⟨kp, 2, none⟩ = some (.string (T.str mem)) := hT.out.p.2.1 2
       have d3 : V6.cell? ⟨kp, 3, none⟩ = some (.int .i64 R.dep) := hT.out.p.2.1 3
       go_wp2_with fail
       refine hnx.out.mono ?_
       rintro r V7 ⟨rfl, g7⟩
       clear d0 d1 d2 d3 hnx
       have g7d : Hz (Below V6.heap.size V6 V7.drew) := Hz.mk (g7.drew.below)
       clear g7
       have hfa : Hz (FRow V7.drew ka (A2.length + 8) (fun _ => .int .u64 78)) := Hz.mk (hT.out.a.bel g7d.out hT.out.a.lt)
       have hfb : Hz (FRow V7.drew kb (L.length + 8) (fun _ => .int .u64 78)) := Hz.mk (hT.out.b.bel g7d.out hT.out.b.lt)
       go_upto_region 17 with fail
       refine wp_region_held_drew (S := (fun X => X.rangeAt kt 0 [Value.slice (some ⟨kc2, 0, none⟩) R.code.length (R.code.length + 8), .slice (some ⟨kg2, 0, none⟩) R.gates.length (R.gates.length + 8), .string (T.str mem), .int .i64 R.dep])) (by kernel_rfl) (KS.out _ g7d.out) (fun hHeld => ?_)
       refine xtk 0 rfl (yieldsIf_load_mid (by rfl) _ _ rfl _ _ rfl _ _ (fun _ h => h) Tryz.underlying25 rfl (by kernel_rfl)) ?_
       try simp only [xap]
       refine xso 1 ?_ rfl ?_ (xso 2 ?_ rfl ?_ (xso 4 ?_ rfl ?_ ?_))
       iterate 3 (rotate_left; focus ((try simp only [xap]); intro w hSw; (try dsimp only at hSw); go_simp; first | done | with_reducible rfl))
       try simp only [xap]
       refine xrd 3 rfl (fun K hK => ?_)
       go_simp
       go_wp2_with (refine (words78 A2.length ka V7.drew hfa.out hA2.out).mono ?_; rintro r V8 ⟨k1, rfl, hk1, hF1, hb1⟩; clear hHeld)
       refine hK.out _ _ (KS.out _ (g7d.out.trans (hb1.mono g7d.out.size))) (fun hHeld => ?_)
       clear hK K
       try simp only [xap]
       refine xrd 5 rfl (fun K hK => ?_)
       go_simp
       go_wp2_with (refine (words78 L.length kb V8 (hfb.out.bel hb1 hfb.out.lt) hL2.out).mono ?_; rintro r V9 ⟨k2, rfl, hk2, hF2, hb2⟩; clear hHeld)
       refine hK.out _ _ (KS.out _ (g7d.out.trans ((hb1.trans (hb2.mono hb1.size)).mono g7d.out.size))) (fun hHeld => ?_)
       clear hK K
       try simp only [xap]
       refine xrd 6 rfl (fun K hK => ?_)
       go_simp
       go_wp2_with (refine (dnew70c R' R.code.length R.gates.length R.dep hlen.out (congrArg List.length hgs.out.1) hgs.out.2 (some ⟨kc2, 0, none⟩) (some ⟨kg2, 0, none⟩) (R.code.length + 8) (R.gates.length + 8) mem g (some ⟨k1, 0, none⟩) A2.length (A2.length + 8) (.slice (some ⟨k2, 0, none⟩) L.length (L.length + 8)) V9 (hT.out.l2.rp.below_ (g7d.out.trans ((hb1.trans (hb2.mono hb1.size)).mono g7d.out.size))) hwds.out.code hLt.out hno.out).mono ?_; rintro r V10 ⟨rfl, g10⟩; clear hHeld)
       refine hK.out _ _ (KS.out _ ((g7d.out.trans ((hb1.trans (hb2.mono hb1.size)).mono g7d.out.size)).trans (g10.below.mono (g7d.out.trans ((hb1.trans (hb2.mono hb1.size)).mono g7d.out.size)).size))) (fun hHeld => ?_)
       clear hK K
       try simp only [xap]
       refine xso 7 ?_ rfl ?_ (xso 8 ?_ rfl ?_ (xso 9 ?_ rfl ?_ (xso 10 ?_ rfl ?_ (xso 11 ?_ rfl ?_ ?_))))
       iterate 5 (rotate_left; focus ((try simp only [xap]); intro w hSw; (try dsimp only at hSw); go_simp; first | done | with_reducible rfl))
       try simp only [xap]
       refine xdn ?_ _
       clear hHeld
       replace G := Hz.mk (G.out.trans ((((g7d.out.trans ((hb1.trans (hb2.mono hb1.size)).mono g7d.out.size))).trans (g10.below.mono ((g7d.out.trans ((hb1.trans (hb2.mono hb1.size)).mono g7d.out.size))).size)).mono G.out.size))
       clear hF1 hF2 hb1 hb2 g10
       go_wp2_with fail
       go_ret
       exact ⟨rfl, G.out⟩
     · skip
       have hgl' : gn < R'.gates.length := by rw [hgs.out.1]; exact hgl
       have hna' : Hz ((A2.length : Int) = R'.gates[gn].a) := Hz.mk (by rw [hna]; simp [hgs.out.1])
       obtain ⟨hs, hvf⟩ := s78_okn (n := A2.length) hwds.out ok hgl' hb.out.l
       have pok := Hz.mk (ok.pr hwds.out.code)
       have rr := Hz.mk hwds.out.rr
       have hnx := Hz.mk (new78c R' R.code.length R.gates.length R.dep hlen.out (congrArg List.length hgs.out.1) hgs.out.2 (some ⟨kc, 0, none⟩) (some ⟨kg, 0, none⟩) (R.code.length + 8) (R.gates.length + 8) mem gn A2.length L.length ka kb V6 hT.out.l1.rp hwds.out.code ok hgl' hna'.out hT.out.a hT.out.b hb.out.l)
       replace hs := Hz.mk hs
       replace hvf := Hz.mk hvf
       replace ok := Hz.mk ok
       clear hna
       have d0 : V6.cell? ⟨kp, 0, none⟩ = some (.slice (some ⟨kc, 0, none⟩) R.code.length (R.code.length + 8)) := hT.out.p.2.1 0
       have d1 : V6.cell? ⟨kp, 1, none⟩ = some (.slice (some ⟨kg, 0, none⟩) R.gates.length (R.gates.length + 8)) := hT.out.p.2.1 1
       have d2 : V6.cell? ⟨kp, 2, none⟩ = some (.string (T.str mem)) := hT.out.p.2.1 2
       have d3 : V6.cell? ⟨kp, 3, none⟩ = some (.int .i64 R.dep) := hT.out.p.2.1 3
       go_wp2_with fail
       refine hnx.out.mono ?_
       rintro r V7 ⟨a, rfl, hM, hb7⟩
       clear d0 d1 d2 d3 hnx
       have g7d : Hz (Below V6.heap.size V6 V7.drew) := Hz.mk (hb7.trans ((Gr.refl V7).drew.below.mono hb7.size))
       replace hM := Hz.mk (hM.gr (Gr.refl V7).drew.below)
       clear hb7
       have hfa : Hz (FRow V7.drew ka (A2.length + 8) (fun _ => .int .u64 78)) := Hz.mk (hT.out.a.bel g7d.out hT.out.a.lt)
       have hfb : Hz (FRow V7.drew kb (L.length + 8) (fun _ => .int .u64 78)) := Hz.mk (hT.out.b.bel g7d.out hT.out.b.lt)
       go_upto_region 17 with fail
       refine wp_region_held_drew (S := (fun X => X.rangeAt kt 0 [Value.slice (some ⟨kc2, 0, none⟩) R.code.length (R.code.length + 8), .slice (some ⟨kg2, 0, none⟩) R.gates.length (R.gates.length + 8), .string (T.str mem), .int .i64 R.dep])) (by kernel_rfl) (KS.out _ g7d.out) (fun hHeld => ?_)
       refine xtk 0 rfl (yieldsIf_load_mid (by rfl) _ _ rfl _ _ rfl _ _ (fun _ h => h) Tryz.underlying25 rfl (by kernel_rfl)) ?_
       try simp only [xap]
       refine xso 1 ?_ rfl ?_ (xso 2 ?_ rfl ?_ (xso 4 ?_ rfl ?_ ?_))
       iterate 3 (rotate_left; focus ((try simp only [xap]); intro w hSw; (try dsimp only at hSw); go_simp; first | done | with_reducible rfl))
       try simp only [xap]
       refine xrd 3 rfl (fun K hK => ?_)
       go_simp
       go_wp2_with (refine (words78 A2.length ka V7.drew hfa.out hA2.out).mono ?_; rintro r V8 ⟨k1, rfl, hk1, hF1, hb1⟩; clear hHeld)
       refine hK.out _ _ (KS.out _ (g7d.out.trans (hb1.mono g7d.out.size))) (fun hHeld => ?_)
       clear hK K
       try simp only [xap]
       refine xrd 5 rfl (fun K hK => ?_)
       go_simp
       go_wp2_with (refine (words78 L.length kb V8 (hfb.out.bel hb1 hfb.out.lt) hL2.out).mono ?_; rintro r V9 ⟨k2, rfl, hk2, hF2, hb2⟩; clear hHeld)
       refine hK.out _ _ (KS.out _ (g7d.out.trans ((hb1.trans (hb2.mono hb1.size)).mono g7d.out.size))) (fun hHeld => ?_)
       clear hK K
       try simp only [xap]
       refine xrd 6 rfl (fun K hK => ?_)
       go_simp
       go_wp2_with (refine (dnew78c R' R.code.length R.gates.length R.dep hlen.out (congrArg List.length hgs.out.1) hgs.out.2 (some ⟨kc2, 0, none⟩) (some ⟨kg2, 0, none⟩) (R.code.length + 8) (R.gates.length + 8) mem gn A2.length L.length k1 k2 a V6.heap.size V7.drew V8 V9 hM.out hb1 hk1 hF1 hb2 hk2 hF2 (hT.out.l2.rp.below_ (g7d.out.trans ((hb1.trans (hb2.mono hb1.size)).mono g7d.out.size))) hwds.out.code ok.out hLt.out hgl' hna'.out ⟨V6, rfl, (g7d.out.trans ((hb1.trans (hb2.mono hb1.size)).mono g7d.out.size)), ok.out.rw hwds.out.code hT.out.l2.rp⟩).mono ?_; rintro r V10 ⟨b, rfl, hMD, hb10⟩; clear hHeld)
       refine hK.out _ _ (KS.out _ ((g7d.out.trans ((hb1.trans (hb2.mono hb1.size)).mono g7d.out.size)).trans hb10)) (fun hHeld => ?_)
       clear hK K
       try simp only [xap]
       refine xso 7 ?_ rfl ?_ (xso 8 ?_ rfl ?_ (xso 9 ?_ rfl ?_ (xso 10 ?_ rfl ?_ (xso 11 ?_ rfl ?_ ?_))))
       iterate 5 (rotate_left; focus ((try simp only [xap]); intro w hSw; (try dsimp only at hSw); go_simp; first | done | with_reducible rfl))
       try simp only [xap]
       refine xdn ?_ _
       clear hHeld
       have hpg : Hz (DPg V6.heap.size V10 ⟨some ⟨kc2, 0, none⟩, some ⟨kg2, 0, none⟩, R.code.length + 8, R.gates.length + 8, .string (T.str mem)⟩ R'.pr) := Hz.mk ⟨V6, rfl, ((g7d.out.trans ((hb1.trans (hb2.mono hb1.size)).mono g7d.out.size))).trans hb10, ok.out.rw hwds.out.code hT.out.l2.rp⟩
       have hwB : Hz (w.heap.size ≤ V6.heap.size) := Hz.mk G.out.size
       replace G := Hz.mk (G.out.trans ((((g7d.out.trans ((hb1.trans (hb2.mono hb1.size)).mono g7d.out.size))).trans hb10).mono G.out.size))
       clear hF1 hF2 hb1 hb2 hb10 hM hT KS hfa hfb g7d hk1 hk2
       replace hM := Hz.mk hMD
       clear hMD
       obtain ⟨c, hc⟩ : ∃ c : Dc, ⟨some ⟨kc2, 0, none⟩, some ⟨kg2, 0, none⟩, R.code.length + 8, R.gates.length + 8, .string (T.str mem)⟩ = c := ⟨_, rfl⟩
       rw [hc] at hM hpg
       clear hc
       obtain ⟨P, hPe⟩ : ∃ P, R'.pr = P := ⟨_, rfl⟩
       obtain ⟨s, hs0⟩ : ∃ s, s78 R' gn A2.length L.length mem = s := ⟨_, rfl⟩
       rw [hPe] at pok rr hs hM hpg
       rw [hs0] at hs hvf hM
       clear hPe hs0
       generalize V6.heap.size = B at *
       obtain ⟨u, hu⟩ : ∃ u, runF P s 60 = u := ⟨_, rfl⟩
       have hou : Hz (u.Okn P 100000) := Hz.mk (by rw [← hu]; exact (okn_runF P pok.out rr.out s 0 hs.out 60).mono (by omega))
       replace hu := Hz.mk hu
       go_wp2_with fail
       refine (hM.out.callX (fun l' h => xrun_oc P pok.out rr.out s 0 hs.out (by omega) 60 u hu.out B V10 a l' h)).mono ?_
       rintro r X1 ⟨rfl, hM1, hBn⟩
       replace G := Hz.mk (G.out.trans (hBn.mono hwB.out))
       replace hpg := Hz.mk (hpg.out.below hBn)
       replace hM := Hz.mk hM1
       clear hBn hM1
       go_upto_region 23 with fail
       refine wp_world (fun X => ∃ k, k = X1.heap.size ∧ MD B X P a u b c s (boxOb k (List.toArray [Value.int .i64 u.e, .int .u64 u.v, .int .i64 u.f, .int .i64 u.g, .int .i64 u.p]) :: []) ∧ Below B X1 X) ⟨_, rfl, hM.out.new _ _⟩ ?_
       rintro X2 ⟨ko, hkk, hM1, hBn⟩
       rw [← hkk]
       clear hkk
       replace G := Hz.mk (G.out.trans (hBn.mono hwB.out))
       replace hpg := Hz.mk (hpg.out.below hBn)
       replace hM := Hz.mk hM1
       clear hBn hM1
       go_wp2_with fail
       refine (hM.out.callY (fun l' h => drun_oc P pok.out rr.out s 0 hs.out (by omega) hvf.out 60 u hu.out B X2 b c l' h hpg.out)).mono ?_
       rintro r X3 ⟨rfl, hM1, hBn⟩
       replace G := Hz.mk (G.out.trans (hBn.mono hwB.out))
       replace hpg := Hz.mk (hpg.out.below hBn)
       replace hM := Hz.mk hM1
       clear hBn hM1
       go_upto_region 24 with fail
       refine wp_world (fun X => ∃ k, k = X3.heap.size ∧ MD B X P a u b c u (boxOb k (List.toArray [Value.int .i64 u.e, .int .u64 u.v, .int .i64 u.f, .int .i64 u.g, .int .i64 u.p]) :: [boxOb ko (List.toArray [Value.int .i64 u.e, .int .u64 u.v, .int .i64 u.f, .int .i64 u.g, .int .i64 u.p])]) ∧ Below B X3 X) ⟨_, rfl, hM.out.new _ _⟩ ?_
       rintro X4 ⟨kw, hkk, hM1, hBn⟩
       rw [← hkk]
       clear hkk
       replace G := Hz.mk (G.out.trans (hBn.mono hwB.out))
       replace hpg := Hz.mk (hpg.out.below hBn)
       replace hM := Hz.mk hM1
       clear hBn hM1
       have hlv := Hz.mk (level_any B X4 P a b c u hM.out.drop.drop (Nat.le_trans hou.out.ol (by omega)) (Nat.le_trans hou.out.tl (by omega)))
       go_wp2_with fail
       refine hlv.out.mono ?_
       rintro r X9 ⟨rfl, hb9⟩
       replace G := Hz.mk (G.out.trans (hb9.mono (Nat.le_trans hwB.out hM.out.le)))
       replace hM := Hz.mk (hM.out.gr hb9)
       clear hlv hb9
       have A1 := hM.out.there (boxOb ko (List.toArray [Value.int .i64 u.e, .int .u64 u.v, .int .i64 u.f, .int .i64 u.g, .int .i64 u.p])) (by simp)
       have A3 := hM.out.there (boxOb kw (List.toArray [Value.int .i64 u.e, .int .u64 u.v, .int .i64 u.f, .int .i64 u.g, .int .i64 u.p])) (by simp)
       have y0 : X9.cell? ⟨ko, 0, none⟩ = some (.int .i64 u.e) := A1.2.1 0
       have y1 : X9.cell? ⟨ko, 1, none⟩ = some (.int .u64 u.v) := A1.2.1 1
       have y2 : X9.cell? ⟨ko, 2, none⟩ = some (.int .i64 u.f) := A1.2.1 2
       have y3 : X9.cell? ⟨ko, 3, none⟩ = some (.int .i64 u.g) := A1.2.1 3
       have y4 : X9.cell? ⟨ko, 4, none⟩ = some (.int .i64 u.p) := A1.2.1 4
       have z0 : X9.cell? ⟨kw, 0, none⟩ = some (.int .i64 u.e) := A3.2.1 0
       have z1 : X9.cell? ⟨kw, 1, none⟩ = some (.int .u64 u.v) := A3.2.1 1
       have z2 : X9.cell? ⟨kw, 2, none⟩ = some (.int .i64 u.f) := A3.2.1 2
       have z3 : X9.cell? ⟨kw, 3, none⟩ = some (.int .i64 u.g) := A3.2.1 3
       have z4 : X9.cell? ⟨kw, 4, none⟩ = some (.int .i64 u.p) := A3.2.1 4
       clear A1 A3
       have hq2 := oc_eq5 u.e u.v u.f u.g u.p
       obtain ⟨lx, hX⟩ := hM.out.oneX
       have hsx := Hz.mk (snap_any B X9 a P u lx hX)
       clear hX
       go_wp2_with fail
       refine hsx.out.mono ?_
       rintro r X5 ⟨rfl, g5⟩
       replace G := Hz.mk (G.out.trans (g5.below.mono (Nat.le_trans hwB.out hM.out.le)))
       replace hM := Hz.mk (hM.out.gr g5.below)
       clear g5 hsx y0 y1 y2 y3 y4 z0 z1 z2 z3 z4
       obtain ⟨ly, hY⟩ := hM.out.oneY
       have hsy := Hz.mk (dsnap_any B X5 b c P u u.g u.p ly hY)
       clear hY
       go_wp2_with fail
       refine hsy.out.mono ?_
       rintro r X6 ⟨rfl, g6⟩
       replace G := Hz.mk (G.out.trans (g6.below.mono (Nat.le_trans hwB.out hM.out.le)))
       clear g6 hsy
       have hne := sn_eql u.g u.p u.st.length u.r
       generalize (snV u.g u.p u.st.length u.r).toArray = sv at *
       go_wp2_with fail
       go_ret
       exact ⟨rfl, G.out⟩
end Z
end Go.Proofs.YthfphgjjieddjaaGreat


namespace Go.Proofs.YthfphgjjieddjaaGreat
set_option maxRecDepth 100000
set_option maxHeartbeats 40000000
namespace Z
open Go.RowKit
open T (Sep Ob Kp Mf FlIn boxOb)

theorem belowR {V W : World} {ca ga : Option Addr} {P : Pr} (h : RwIn V ca ga P) (g : Below V.heap.size V W) : RwIn W ca ga P := by
 refine ⟨fun k hk => ?_, fun k hk => ?_⟩
 · obtain ⟨b, off, ra, rc, e1, e2, e3, e4⟩ := h.code k hk
   exact ⟨b, off, ra, rc, e1, Nat.lt_of_lt_of_le e2 g.size, (T.cell_of_block (g.block b e2) _).trans e3, e4.below g⟩
 · obtain ⟨b, off, e1, e2, e3⟩ := h.gate k hk
   exact ⟨b, off, e1, Nat.lt_of_lt_of_le e2 g.size, fun i v q => (T.cell_of_block (g.block b e2) _).trans (e3 i v q)⟩
def mL : List Fi := [⟨1, 1, 0, 0, 5⟩, ⟨62, 1, 8, 0, 3⟩, ⟨27, 1, 0, 0, 0⟩]
def mP : Pr := ⟨[mL], [xg], 1⟩
def m3 : Fm := { x2 with e := 1, v := x2.r 1, f := 0 }
def mf : Nat → Fm
 | 0 => x0
 | 1 => x1
 | 2 => x2
 | _ => m3
theorem m01 : Goes mP x0 x1 := goes_of ⟨1, 1, 0, 0, 5⟩ (by decide) (by decide) rfl (.inl ⟨by decide, by decide⟩) (fun B V a l h => h.onBox (s' := x1) ⟨rfl, rfl, rfl, rfl, rfl⟩ (fun q hb => li_op a _ ⟨1, 1, 0, 0, 5⟩ V hb (by decide) (show x0.p ≤ 1000000 by decide)))
theorem m12 : Goes mP x1 x2 := goes_of ⟨62, 1, 8, 0, 3⟩ (by decide) (by decide) rfl (.inr (.inr (.inr (.inl ⟨by decide, by decide⟩)))) (fun B V a l h => storeByte_ok B V a mP x1 l ⟨62, 1, 8, 0, 3⟩ h (by decide) (by decide) (by decide) (by decide) (by decide) (by decide))
theorem m23 : Goes mP x2 m3 := goes_of ⟨27, 1, 0, 0, 0⟩ (by decide) (by decide) rfl (.inr (.inr (.inl ⟨by decide, by decide⟩))) (fun B V a l h => h.onBox (s' := m3) ⟨rfl, rfl, rfl, rfl, rfl⟩ (fun q hb => halt_op a _ ⟨27, 1, 0, 0, 0⟩ V hb (by decide)))
theorem m3m : m3.m 3 = 5 := by decide
theorem mOk : mP.Ok := by
 refine ⟨⟨by decide, by decide⟩, rfl, ⟨by decide, by decide⟩, fun r hr => ?_, fun k h h2 => ?_⟩
 · obtain rfl : r = mL := by simpa [mP] using hr
   refine ⟨⟨by decide, by decide⟩, fun i hi => ?_⟩
   simp only [mL, List.mem_cons, List.not_mem_nil, or_false] at hi
   rcases hi with rfl | rfl | rfl
   · exact ⟨.inl ⟨by decide, by decide⟩, by decide, by decide, .inl (by decide), ⟨by decide, by decide⟩, fun h => by simp at h, fun h => by simp at h⟩
   · exact ⟨.inr (.inr (.inr (.inl ⟨by decide, by decide⟩))), by decide, by decide, .inl (by decide), ⟨by decide, by decide⟩, fun h => by simp at h, fun h => by simp at h⟩
   · exact ⟨.inr (.inr (.inl ⟨by decide, by decide⟩)), by decide, by decide, .inl (by decide), ⟨by decide, by decide⟩, fun h => by simp at h, fun h => by simp at h⟩
 · obtain rfl : k = 0 := by have : k < 1 := h; omega
   exact ⟨show xg.e < mL.length by decide, show xg.a ≤ 7 by decide, show xg.s ≤ 7 by decide⟩
theorem mrun (B : Nat) (W : World) (a : Nat) (l : List Ob) (h : MIn B W a mP x0 l) : ∃ r, Calls Tryz.prog 14 #[.pointer (some ⟨a, 0, none⟩), .int .i64 10] W fun x w' => x = .returned r ∧ MIn B w' a mP m3 l ∧ Below B W w' :=
 ⟨_, run_end B W a mP l 10 3 mf h (by decide) (fun k hk => by match k, hk with | 0, _ => rfl | 1, _ => rfl | 2, _ => rfl) (fun k hk => by match k, hk with | 0, _ => exact m01 | 1, _ => exact m12 | 2, _ => exact m23) (.inr (by decide)) (by decide) (by decide)⟩
theorem one3_any (b : Nat) (w : World) : Calls Tryz.prog 11 #[.slice (some ⟨b, 0, none⟩) 3 3] w fun x w' => x = .returned (.agg (List.toArray [Value.slice (some ⟨w.heap.size + 1, 0, none⟩) 1 1, .slice (some ⟨w.heap.size + 1 + 1, 0, none⟩) 1 1, .string ⟨#[]⟩, .int .i64 1])) ∧ Gr w w' ∧ w.heap.size + 1 + 1 < w'.heap.size ∧ w'.cell? ⟨w.heap.size + 1, 0, none⟩ = some (.slice (some ⟨b, 0, none⟩) 3 3) ∧ w'.rangeAt (w.heap.size + 1 + 1) 0 xg.vals := by
 have g3 : Gr w (((w.alloc (.cells (List.toArray [Value.slice (some ⟨w.heap.size + 1, 0, none⟩) 1 1, .slice (some ⟨w.heap.size + 1 + 1, 0, none⟩) 1 1, .string ⟨#[]⟩, .int .i64 1]) 25)).alloc (.cells #[.slice (some ⟨b, 0, none⟩) 3 3] 43)).alloc (.cells (List.toArray [Value.int .i64 0, .int .i64 0, .int .i64 0, .int .u64 0, .int .u64 0, .int .u64 0, .int .u64 0, .int .u64 0, .int .u64 0, .int .u64 0, .int .u64 0, .int .u64 0, .int .u64 0, .int .u64 0, .int .u64 0, .int .u64 0, .int .u64 0, .int .u64 0, .int .u64 0]) 83)) := (((Gr.refl w).alloc _).alloc _).alloc _
 have hA : At (((w.alloc (.cells (List.toArray [Value.slice (some ⟨w.heap.size + 1, 0, none⟩) 1 1, .slice (some ⟨w.heap.size + 1 + 1, 0, none⟩) 1 1, .string ⟨#[]⟩, .int .i64 1]) 25)).alloc (.cells #[.slice (some ⟨b, 0, none⟩) 3 3] 43)).alloc (.cells (List.toArray [Value.int .i64 0, .int .i64 0, .int .i64 0, .int .u64 0, .int .u64 0, .int .u64 0, .int .u64 0, .int .u64 0, .int .u64 0, .int .u64 0, .int .u64 0, .int .u64 0, .int .u64 0, .int .u64 0, .int .u64 0, .int .u64 0, .int .u64 0, .int .u64 0, .int .u64 0]) 83)) w.heap.size (List.toArray [Value.slice (some ⟨w.heap.size + 1, 0, none⟩) 1 1, .slice (some ⟨w.heap.size + 1 + 1, 0, none⟩) 1 1, .string ⟨#[]⟩, .int .i64 1]) := ((At.new w _ _).alloc _).alloc _
 have e1 : (w.alloc (.cells (List.toArray [Value.slice (some ⟨w.heap.size + 1, 0, none⟩) 1 1, .slice (some ⟨w.heap.size + 1 + 1, 0, none⟩) 1 1, .string ⟨#[]⟩, .int .i64 1]) 25)).heap.size = w.heap.size + 1 := by simp
 have e2 : ((w.alloc (.cells (List.toArray [Value.slice (some ⟨w.heap.size + 1, 0, none⟩) 1 1, .slice (some ⟨w.heap.size + 1 + 1, 0, none⟩) 1 1, .string ⟨#[]⟩, .int .i64 1]) 25)).alloc (.cells #[.slice (some ⟨b, 0, none⟩) 3 3] 43)).heap.size = w.heap.size + 1 + 1 := by simp
 have hB := (At.new (w.alloc (.cells (List.toArray [Value.slice (some ⟨w.heap.size + 1, 0, none⟩) 1 1, .slice (some ⟨w.heap.size + 1 + 1, 0, none⟩) 1 1, .string ⟨#[]⟩, .int .i64 1]) 25)) #[.slice (some ⟨b, 0, none⟩) 3 3] 43).alloc (.cells (List.toArray [Value.int .i64 0, .int .i64 0, .int .i64 0, .int .u64 0, .int .u64 0, .int .u64 0, .int .u64 0, .int .u64 0, .int .u64 0, .int .u64 0, .int .u64 0, .int .u64 0, .int .u64 0, .int .u64 0, .int .u64 0, .int .u64 0, .int .u64 0, .int .u64 0, .int .u64 0]) 83)
 have hC := At.new ((w.alloc (.cells (List.toArray [Value.slice (some ⟨w.heap.size + 1, 0, none⟩) 1 1, .slice (some ⟨w.heap.size + 1 + 1, 0, none⟩) 1 1, .string ⟨#[]⟩, .int .i64 1]) 25)).alloc (.cells #[.slice (some ⟨b, 0, none⟩) 3 3] 43)) (List.toArray [Value.int .i64 0, .int .i64 0, .int .i64 0, .int .u64 0, .int .u64 0, .int .u64 0, .int .u64 0, .int .u64 0, .int .u64 0, .int .u64 0, .int .u64 0, .int .u64 0, .int .u64 0, .int .u64 0, .int .u64 0, .int .u64 0, .int .u64 0, .int .u64 0, .int .u64 0]) 83
 rw [e1] at hB
 rw [e2] at hC
 have hB0 := hB.2.1 0
 have hC0 := hC.range
 have hC1 := hC.1
 have hrun := Hz.mk (run_loadVar_mid (P := Tryz.prog) (((w.alloc (.cells (List.toArray [Value.slice (some ⟨w.heap.size + 1, 0, none⟩) 1 1, .slice (some ⟨w.heap.size + 1 + 1, 0, none⟩) 1 1, .string ⟨#[]⟩, .int .i64 1]) 25)).alloc (.cells #[.slice (some ⟨b, 0, none⟩) 3 3] 43)).alloc (.cells (List.toArray [Value.int .i64 0, .int .i64 0, .int .i64 0, .int .u64 0, .int .u64 0, .int .u64 0, .int .u64 0, .int .u64 0, .int .u64 0, .int .u64 0, .int .u64 0, .int .u64 0, .int .u64 0, .int .u64 0, .int .u64 0, .int .u64 0, .int .u64 0, .int .u64 0, .int .u64 0]) 83)) w.heap.size 0 25 [Value.slice (some ⟨w.heap.size + 1, 0, none⟩) 1 1, .slice (some ⟨w.heap.size + 1 + 1, 0, none⟩) 1 1, .string ⟨#[]⟩, .int .i64 1] _ hA.range Tryz.underlying25 rfl (by kernel_rfl))
 replace g3 := Hz.mk g3
 replace hB0 := Hz.mk hB0
 replace hC0 := Hz.mk hC0
 replace hC1 := Hz.mk hC1
 clear hA hB hC e1 e2
 go_enter Tryz.func11, Tryz.ntmps11
 go_wp2_with fail
 refine bodyPost_ret (v := .agg (List.toArray [Value.slice (some ⟨w.heap.size + 1, 0, none⟩) 1 1, .slice (some ⟨w.heap.size + 1 + 1, 0, none⟩) 1 1, .string ⟨#[]⟩, .int .i64 1])) ?_ rfl ⟨rfl, g3.out, hC1.out, hB0.out, hC0.out⟩
 exact results_rowZ Tryz.results11 _ _ rfl hrun.out
theorem mRw {W : World} {kr kc kg : Nat} (h1 : At W kr (mL.flatMap Fi.vals).toArray) (h2 : W.cell? ⟨kc, 0, none⟩ = some (.slice (some ⟨kr, 0, none⟩) 3 3)) (h3 : kc < W.heap.size) (h4 : W.rangeAt kg 0 xg.vals) (h5 : kg < W.heap.size) : RwIn W (some ⟨kc, 0, none⟩) (some ⟨kg, 0, none⟩) mP := by
 refine ⟨fun k hk => ?_, fun k hk => ?_⟩
 · obtain rfl : k = 0 := by have : k < 1 := hk; omega
   refine ⟨kc, 0, some ⟨kr, 0, none⟩, 3, rfl, h3, h2, fun i hi => ⟨kr, 0, rfl, h1.1, fun j v q => ?_⟩⟩
   have hv : ∀ x : Fi, x.vals.length = 5 := fun _ => rfl
   have hj : j < 5 := by have := (List.getElem?_eq_some_iff.1 q).1; rwa [hv] at this
   rw [h1.2.1, List.getElem?_toArray, Nat.zero_add, flat_at' hv mL i hi j hj]
   exact q
 · obtain rfl : k = 0 := by have : k < 1 := hk; omega
   exact ⟨kg, 0, rfl, h5, h4⟩
theorem many_any (w : World) : Calls Tryz.prog 7 #[] w fun x w' => x = .returned (.bool true) ∧ Below w.heap.size w w' := by
 have hA0 := At.new w #[.int .u8 1, .int .i64 1, .int .i64 0, .int .i64 0, .int .u64 5, .int .u8 62, .int .i64 1, .int .i64 8, .int .i64 0, .int .u64 3, .int .u8 27, .int .i64 1, .int .i64 0, .int .i64 0, .int .u64 0] 42
 have gA : Gr w (w.alloc (.cells #[.int .u8 1, .int .i64 1, .int .i64 0, .int .i64 0, .int .u64 5, .int .u8 62, .int .i64 1, .int .i64 8, .int .i64 0, .int .u64 3, .int .u8 27, .int .i64 1, .int .i64 0, .int .i64 0, .int .u64 0] 42)) := (Gr.refl w).alloc _
 replace hA0 := Hz.mk hA0
 go_enter Tryz.func7, Tryz.ntmps7
 go_wp2_with fail
 generalize hW1 : w.alloc (.cells #[.int .u8 1, .int .i64 1, .int .i64 0, .int .i64 0, .int .u64 5, .int .u8 62, .int .i64 1, .int .i64 8, .int .i64 0, .int .u64 3, .int .u8 27, .int .i64 1, .int .i64 0, .int .i64 0, .int .u64 0] 42) = W1 at *
 clear hW1
 refine (one3_any w.heap.size W1).mono ?_
 rintro r W2 ⟨rfl, g2, hs2, c2, r2⟩
 have hA2 := Hz.mk (hA0.out.gr g2)
 have hs1 : W1.heap.size + 1 < W2.heap.size := by omega
 have hR2 : Hz (RwIn W2 (some ⟨W1.heap.size + 1, 0, none⟩) (some ⟨W1.heap.size + 1 + 1, 0, none⟩) mP) := Hz.mk (mRw hA2.out c2 hs1 r2 hs2)
 have G2 := gA.trans g2
 clear hA0 gA g2 c2 r2 hA2
 generalize W1.heap.size + 1 + 1 = kg at *
 generalize W1.heap.size + 1 = kc at *
 clear W1 hs1 hs2
 go_upto_region 2 with fail
 refine wp_world (fun X => At X W2.heap.size #[.slice (some ⟨kc, 0, none⟩) 1 1, .slice (some ⟨kg, 0, none⟩) 1 1, .string ⟨#[]⟩, .int .i64 1] ∧ Gr W2 X) ⟨At.new W2 _ _, (Gr.refl _).alloc _⟩ ?_
 rintro W3 ⟨hA3, g3⟩
 replace hR2 := Hz.mk (hR2.out.gr g3)
 replace G2 := G2.trans g3
 have hB := Hz.mk G2.below
 generalize W2.heap.size = kp at *
 replace hA3 := Hz.mk hA3
 clear G2 g3
 have hnew : Hz (∀ X, Below W3.heap.size W3 X → (Calls Tryz.prog 12 #[.agg #[.slice (some ⟨kc, 0, none⟩) 1 1, .slice (some ⟨kg, 0, none⟩) 1 1, .string ⟨#[]⟩, .int .i64 1], .int .i64 0, .slice none 0 0, .slice none 0 0] X fun x w' => ∃ a, x = .returned (.tuple #[.pointer (some ⟨a, 0, none⟩), .int .i64 0]) ∧ MIn X.heap.size w' a mP x0 [] ∧ Below X.heap.size X w')) := Hz.mk (fun X q => by
   have hR2 : Hz (RwIn X (some ⟨kc, 0, none⟩) (some ⟨kg, 0, none⟩) mP) := Hz.mk (belowR hR2.out q)
   exact new_ok mP (some ⟨kc, 0, none⟩) (some ⟨kg, 0, none⟩) 1 1 [] 0 none 0 0 (fun _ => 0) none 0 [] X hR2.out mOk (by decide) (by decide) rfl (.inl rfl) (by decide) (.inl ⟨rfl, rfl, rfl⟩))
 have d0 : W3.cell? ⟨kp, 0, none⟩ = some (.slice (some ⟨kc, 0, none⟩) 1 1) := hA3.out.2.1 0
 have d1 : W3.cell? ⟨kp, 1, none⟩ = some (.slice (some ⟨kg, 0, none⟩) 1 1) := hA3.out.2.1 1
 have d2 : W3.cell? ⟨kp, 2, none⟩ = some (.string ⟨#[]⟩) := hA3.out.2.1 2
 have d3 : W3.cell? ⟨kp, 3, none⟩ = some (.int .i64 1) := hA3.out.2.1 3
 have hnw := Hz.mk (hnew.out W3 (Below.refl _ _))
 go_wp2_with fail
 refine hnw.out.mono ?_
 rintro r W4 ⟨a, rfl, hM, hB4⟩
 clear d0 d1 d2 d3 hnw
 have hB3 := Hz.mk hB4
 replace hM := Hz.mk hM
 clear hB4
 obtain ⟨ro, hrn⟩ := mrun _ W4 a _ hM.out
 replace hrn := Hz.mk hrn
 go_wp2_with fail
 refine hrn.out.mono ?_
 rintro r W5 ⟨rfl, h5, hB5⟩
 replace hB3 := Hz.mk (hB3.out.trans hB5)
 replace hM := Hz.mk h5
 clear hrn h5 hB5
 have hme := Hz.mk (memory_any _ W5 a mP m3 _ hM.out)
 go_wp2_with fail
 refine hme.out.mono ?_
 rintro r W6 ⟨rfl, hB6⟩
 replace hB3 := Hz.mk (hB3.out.trans (hB6.mono hM.out.le))
 replace hM := Hz.mk (hM.out.gr hB6)
 clear hme hB6
 obtain ⟨mv, hmv⟩ : ∃ mv, ByteArray.mk (T.rowB m3.m 0 65536).toArray = mv := ⟨_, rfl⟩
 rw [hmv]
 replace hmv := Hz.mk hmv
 go_upto_region 8 with fail
 go_loopw [5] (fun x wr => ∃ i : Nat, x = .int .i64 i ∧ i ≤ 70 ∧ Hz (MIn W3.heap.size wr a mP m3 []) ∧ Hz (Below W3.heap.size W3 wr)) (fun x _ => 70 - (intOf x).toNat)
 case atStart => exact ⟨0, rfl, Nat.zero_le _, hM, hB3⟩
 case round =>
   clear hM hB3
   obtain ⟨i, rfl, hi, hM, hB3⟩ := hrel
   by_cases hi7 : i < 70
   · have hi1 : (i : Int) < 70 := by omega
     have hAw := at_below hA3.out hB3.out hA3.out.1
     have d0 : wr.cell? ⟨kp, 0, none⟩ = some (.slice (some ⟨kc, 0, none⟩) 1 1) := hAw.2.1 0
     have d1 : wr.cell? ⟨kp, 1, none⟩ = some (.slice (some ⟨kg, 0, none⟩) 1 1) := hAw.2.1 1
     have d2 : wr.cell? ⟨kp, 2, none⟩ = some (.string ⟨#[]⟩) := hAw.2.1 2
     have d3 : wr.cell? ⟨kp, 3, none⟩ = some (.int .i64 1) := hAw.2.1 3
     have hnw := Hz.mk (hnew.out wr hB3.out)
     go_wp2_with fail
     refine hnw.out.mono ?_
     rintro r W7 ⟨b, rfl, _, hB7⟩
     replace hB3 := Hz.mk (hB3.out.trans (hB7.mono hB3.out.size))
     replace hM := Hz.mk (hM.out.gr hB7)
     clear d0 d1 d2 d3 hnw hB7 hAw
     go_wp2_with fail
     refine ⟨⟨i + 1, ?_, hi7, hM, hB3⟩, ?_⟩
     · first | rfl | rw [next_wZ hi7 (by omega)] | go_num
     · first | exact next_mZ hi7 | (rw [next_wZ hi7 (by omega)]; exact next_mZ hi7)
   · have hi1 : ¬ (i : Int) < 70 := by omega
     have hsz : mv.size = 65536 := by rw [← hmv.out]; simp [ByteArray.size, T.rowB_len]
     have h3 : 3 < mv.size := by omega
     have h5 : mv[3]'h3 = 5 := by
       obtain rfl := hmv.out
       simp [ByteArray.getElem_eq_getElem_data, T.rowB, m3m]
     have hme := Hz.mk (memory_any _ wr a mP m3 _ hM.out)
     rw [hmv.out] at hme
     have h6 : (3 : Int) < (mv.size : Int) := by omega
     go_wp2_with fail
     refine hme.out.mono ?_
     rintro r W8 ⟨rfl, hB8⟩
     have hfin := Hz.mk (hB.out.trans ((hB3.out.trans (hB8.mono hM.out.le)).mono hB.out.size))
     clear hme hB8
     go_wp2_with fail
     go_ret
     exact ⟨rfl, hfin.out⟩
end Z
end Go.Proofs.YthfphgjjieddjaaGreat


namespace Go.Proofs.YthfphgjjieddjaaGreat
set_option maxRecDepth 100000
set_option maxHeartbeats 40000000
namespace Z
open Go.RowKit
open T (Sep Ob Kp Mf FlIn boxOb)

theorem made_no71 (R : Rp) (ca ga : Option Addr) (cc gc : Nat) (mem : List UInt8) (gate : Nat) (A : List Int) (sa : Option Addr) (sc : Nat) (ia : Option Addr) (ic : Nat) (L : List Int) (w : World) (hP : RpIn w ca ga R) (is : R.Is) (hA : WIn w sa A) (hAl : A.length ≤ 2000000) (hI : InL w ia ic L) (hc : R.code.length ≤ 1500000) (hr : ∀ r ∈ R.code, r.length ≤ 2000000) (hg : R.gates.length ≤ 2000000) (hl : L.length ≤ 2000000) (ok : R.Ok (T.str mem).size) (hgl : gate < R.gates.length) (h : (A.length : Int) ≠ R.gates[gate].a) :
   Calls Tryz.prog 5 #[.agg #[.slice ca R.code.length cc, .slice ga R.gates.length gc, .string (T.str mem), .int .i64 R.dep], .int .i64 gate, .slice sa A.length sc, .slice ia L.length ic] w fun x w' => x = .returned (.tuple #[.bool true, .pointer none, .pointer none]) ∧ Below w.heap.size w w' := by
 replace hA := Hz.mk hA
 replace hI := Hz.mk hI
 replace hr := Hz.mk hr
 replace hP := Hz.mk hP
 replace is := Hz.mk is
 go_enter Tryz.func5, Tryz.ntmps5
 go_upto_region 1 with fail
 refine wp_world (fun W => At W w.heap.size #[.slice ca R.code.length cc, .slice ga R.gates.length gc, .string (T.str mem), .int .i64 R.dep] ∧ Gr w W) ⟨At.new w _ _, (Gr.refl _).alloc _⟩ ?_
 rintro W ⟨hQ, G⟩
 have hB := Hz.mk G.below
 obtain ⟨km, hkm⟩ : ∃ km, w.heap.size = km := ⟨_, rfl⟩
 rw [hkm] at hQ ⊢
 have hkl := Hz.mk hQ.1
 have hw1 := Hz.mk (words_any A sa sc W (hA.out.below hB.out) hAl)
 replace hQ := Hz.mk hQ
 replace hkm := Hz.mk hkm
 clear G
 go_wp2_with fail
 refine hw1.out.mono ?_
 rintro r W1 ⟨ka, rfl, hka, hFa, hB1⟩
 replace hQ := Hz.mk (at_below hQ.out hB1 hkl.out)
 replace hB := Hz.mk (hB.out.trans (hB1.mono hB.out.size))
 replace hka : Hz (km < ka) := Hz.mk (Nat.lt_of_lt_of_le hkl.out hka)
 replace hkl := Hz.mk (Nat.lt_of_lt_of_le hkl.out hB1.size)
 replace hFa := Hz.mk hFa
 clear hw1 hB1
 have hw2 := Hz.mk (words_any L ia ic W1 (hI.out.win.below hB.out) hl)
 go_wp2_with fail
 refine hw2.out.mono ?_
 rintro r W2 ⟨kb, rfl, hkb, hFb, hB1⟩
 replace hQ := Hz.mk (at_below hQ.out hB1 hkl.out)
 have hab : Hz (ka < kb) := Hz.mk (Nat.lt_of_lt_of_le hFa.out.lt hkb)
 replace hFa := Hz.mk (hFa.out.bel hB1 hFa.out.lt)
 replace hB := Hz.mk (hB.out.trans (hB1.mono hB.out.size))
 replace hkl := Hz.mk (Nat.lt_of_lt_of_le hkl.out hB1.size)
 replace hFb := Hz.mk hFb
 clear hw2 hB1 hkb
 have e0 : W2.cell? ⟨km, 0, none⟩ = some (.slice ca R.code.length cc) := hQ.out.2.1 0
 have e1 : W2.cell? ⟨km, 1, none⟩ = some (.slice ga R.gates.length gc) := hQ.out.2.1 1
 have e2 : W2.cell? ⟨km, 2, none⟩ = some (.string (T.str mem)) := hQ.out.2.1 2
 have e3 : W2.cell? ⟨km, 3, none⟩ = some (.int .i64 R.dep) := hQ.out.2.1 3
 have hln := Hz.mk (lent2_any R ca ga cc gc (T.str mem) W2 (hP.out.below_ hB.out) hc hr.out hg)
 go_wp2_with fail
 refine hln.out.mono ?_
 rintro r W3 ⟨kc, kg, la, lc, K, rfl, hLn, hB1⟩
 have hlo1 : Hz (kb < W2.heap.size) := Hz.mk hFb.out.lt
 have hlo2 : Hz (W2.heap.size ≤ W3.heap.size) := Hz.mk hB1.size
 replace hQ := Hz.mk (at_below hQ.out hB1 hkl.out)
 replace hFb := Hz.mk (hFb.out.bel hB1 hFb.out.lt)
 replace hFa := Hz.mk (hFa.out.bel hB1 (by have := hab.out; have := hlo1.out; omega))
 replace hB := Hz.mk (hB.out.trans (hB1.mono hB.out.size))
 replace hkl := Hz.mk (Nat.lt_of_lt_of_le hkl.out hB1.size)
 replace hLn := Hz.mk hLn
 clear e0 e1 e2 e3 hln hB1
 generalize W2.heap.size = lo at *
 go_upto_region 4 with fail
 refine wp_world (fun V => At V W3.heap.size #[.slice (some ⟨kc, 0, none⟩) R.code.length (R.code.length + 8), .slice (some ⟨kg, 0, none⟩) R.gates.length (R.gates.length + 8), .string (T.str mem), .int .i64 R.dep] ∧ Gr W3 V) ?_ ?_
 · first | exact ⟨At.new W3 _ _, (Gr.refl _).alloc _⟩ | exact ⟨At.setAll (At.new W3 _ _) _ rfl, Gr.setCells ((Gr.refl W3).alloc _) _ (Nat.le_refl _) _ 0⟩
 rintro V ⟨hp, G2⟩
 have hhi : Hz (W3.heap.size ≤ V.heap.size) := Hz.mk G2.below.size
 have hkpl := Hz.mk hp.1
 replace hQ := Hz.mk (hQ.out.gr G2)
 replace hFa := Hz.mk (hFa.out.gr G2)
 replace hFb := Hz.mk (hFb.out.gr G2)
 replace hLn := Hz.mk (hLn.out.bel (B := W3.heap.size) (G2.below) (Nat.le_refl _))
 replace hB := Hz.mk (hB.out.trans (G2.below.mono hB.out.size))
 replace hkl := Hz.mk (Nat.lt_of_lt_of_le hkl.out G2.below.size)
 replace hp := Hz.mk hp
 have hkpn : Hz (km < W3.heap.size ∧ ka < W3.heap.size ∧ kb < W3.heap.size ∧ lo ≤ W3.heap.size) := Hz.mk (by have := hka.out; have := hab.out; have := hlo1.out; have := hlo2.out; omega)
 clear G2 hlo2
 generalize W3.heap.size = kp at *
 have d0 : V.cell? ⟨kp, 0, none⟩ = some (.slice (some ⟨kc, 0, none⟩) R.code.length (R.code.length + 8)) := hp.out.2.1 0
 have d1 : V.cell? ⟨kp, 1, none⟩ = some (.slice (some ⟨kg, 0, none⟩) R.gates.length (R.gates.length + 8)) := hp.out.2.1 1
 have d2 : V.cell? ⟨kp, 2, none⟩ = some (.string (T.str mem)) := hp.out.2.1 2
 have d3 : V.cell? ⟨kp, 3, none⟩ = some (.int .i64 R.dep) := hp.out.2.1 3
 have hnx := Hz.mk (new_no71 R (some ⟨kc, 0, none⟩) (some ⟨kg, 0, none⟩) (R.code.length + 8) (R.gates.length + 8) mem gate (some ⟨ka, 0, none⟩) A.length (A.length + 8) (.slice (some ⟨kb, 0, none⟩) L.length (L.length + 8)) V hLn.out.rp is.out ok hgl h)
 go_wp2_with fail
 refine hnx.out.mono ?_
 rintro r V4 ⟨rfl, g4⟩
 clear d0 d1 d2 d3 hnx
 have hQV := hQ
 replace hQ := Hz.mk (hQ.out.gr g4)
 have e0 : V4.cell? ⟨km, 0, none⟩ = some (.slice ca R.code.length cc) := hQ.out.2.1 0
 have e1 : V4.cell? ⟨km, 1, none⟩ = some (.slice ga R.gates.length gc) := hQ.out.2.1 1
 have e2 : V4.cell? ⟨km, 2, none⟩ = some (.string (T.str mem)) := hQ.out.2.1 2
 have e3 : V4.cell? ⟨km, 3, none⟩ = some (.int .i64 R.dep) := hQ.out.2.1 3
 have hny := Hz.mk (dnew_no71 R ca ga cc gc mem gate sa A.length sc (.slice ia L.length ic) V4 (hP.out.below_ (hB.out.trans (g4.below.mono hB.out.size))) is.out hr.out ok hgl h)
 go_wp2_with fail
 refine hny.out.mono ?_
 rintro r V5 ⟨rfl, g5⟩
 have hS := Hz.mk ((g4.trans g5).below)
 replace hQ : Hz (At V km #[.slice ca R.code.length cc, .slice ga R.gates.length gc, .string (T.str mem), .int .i64 R.dep]) := Hz.mk hQV.out
 clear e0 e1 e2 e3 hny g4 g5
 replace hFa := Hz.mk (hFa.out.bel hS.out hFa.out.lt)
 replace hFb := Hz.mk (hFb.out.bel hS.out hFb.out.lt)
 replace hLn := Hz.mk (hLn.out.bel hS.out hhi.out)
 replace hQ := Hz.mk (at_below hQ.out hS.out hkl.out)
 replace hp := Hz.mk (at_below hp.out hS.out hkpl.out)
 have hBw := Hz.mk (hB.out.trans (hS.out.mono hB.out.size))
 have hsz : Hz (V.heap.size ≤ V5.heap.size) := Hz.mk hS.out.size
 have hWA := Hz.mk (hA.out.below hBw.out)
 have hsp := Hz.mk (spoilt3 A ka sa sc V5 hFa.out hWA.out (fun b off e h0 => by
   obtain ⟨b2, off2, e2, e3, _⟩ := hA.out 0 h0
   rw [e] at e2
   injection e2 with e2
   injection e2 with e2
   have := hka.out; have := hkm.out; omega) hAl)
 go_wp2_with fail
 refine hsp.out.mono ?_
 rintro r V6 ⟨rfl, hk6, _⟩
 replace hFb := Hz.mk (hFb.out.keep hk6 (by have := hab.out; omega))
 replace hLn := Hz.mk (hLn.out.keep hk6 (fun k h1 h2 (q : k = ka) => by have := hab.out; have := hlo1.out; omega))
 replace hQ := Hz.mk (at_keep hQ.out hk6 (by have := hka.out; omega))
 replace hp := Hz.mk (at_keep hp.out hk6 (by have := hkpn.out; omega))
 replace hBw := Hz.mk (hBw.out.trans (hk6.below (B := w.heap.size) (by have := hBw.out.size; omega) (fun k (q : k = ka) => by have := hkm.out; have := hka.out; omega)))
 have hkA : Hz (Kp (fun k => w.heap.size ≤ k ∧ k < V.heap.size) V5 V6) := Hz.mk (Kp.mono hk6 (fun k (q : k = ka) => .inl (by have := hkm.out; have := hka.out; have := hkpn.out; have := hhi.out; omega)))
 replace hsz := Hz.mk (Nat.le_trans hsz.out hk6.size)
 clear hsp hWA hk6 hFa
 have hWI := Hz.mk (hI.out.win.below hBw.out)
 have hsp := Hz.mk (spoilt3 L kb ia ic V6 hFb.out hWI.out (fun b off e h0 => by
   obtain ⟨b2, off2, e2, e3, _⟩ := hI.out.win 0 h0
   rw [e] at e2
   injection e2 with e2
   injection e2 with e2
   have := hka.out; have := hab.out; have := hkm.out; omega) hl)
 go_wp2_with fail
 refine hsp.out.mono ?_
 rintro r V7 ⟨rfl, hk7, _⟩
 replace hLn := Hz.mk (hLn.out.keep hk7 (fun k h1 h2 (q : k = kb) => by have := hlo1.out; omega))
 replace hQ := Hz.mk (at_keep hQ.out hk7 (by have := hka.out; have := hab.out; omega))
 replace hp := Hz.mk (at_keep hp.out hk7 (by have := hkpn.out; omega))
 replace hBw := Hz.mk (hBw.out.trans (hk7.below (B := w.heap.size) (by have := hBw.out.size; omega) (fun k (q : k = kb) => by have := hkm.out; have := hka.out; have := hab.out; omega)))
 replace hkA : Hz (Kp (fun k => w.heap.size ≤ k ∧ k < V.heap.size) V5 V7) := Hz.mk (hkA.out.trans (Kp.mono hk7 (fun k (q : k = kb) => .inl (by have := hkm.out; have := hka.out; have := hab.out; have := hkpn.out; have := hhi.out; omega : w.heap.size ≤ k ∧ k < V.heap.size))) (fun _ q => .inl q))
 replace hsz := Hz.mk (Nat.le_trans hsz.out hk7.size)
 clear hsp hWI hk7 hFb
 have d0 : V7.cell? ⟨kp, 0, none⟩ = some (.slice (some ⟨kc, 0, none⟩) R.code.length (R.code.length + 8)) := hp.out.2.1 0
 have d1 : V7.cell? ⟨kp, 1, none⟩ = some (.slice (some ⟨kg, 0, none⟩) R.gates.length (R.gates.length + 8)) := hp.out.2.1 1
 have d2 : V7.cell? ⟨kp, 2, none⟩ = some (.string (T.str mem)) := hp.out.2.1 2
 have d3 : V7.cell? ⟨kp, 3, none⟩ = some (.int .i64 R.dep) := hp.out.2.1 3
 have e0 : V7.cell? ⟨km, 0, none⟩ = some (.slice ca R.code.length cc) := hQ.out.2.1 0
 have e1 : V7.cell? ⟨km, 1, none⟩ = some (.slice ga R.gates.length gc) := hQ.out.2.1 1
 have e2 : V7.cell? ⟨km, 2, none⟩ = some (.string (T.str mem)) := hQ.out.2.1 2
 have e3 : V7.cell? ⟨km, 3, none⟩ = some (.int .i64 R.dep) := hQ.out.2.1 3
 have hLw := Hz.mk (hLn.out.low (lo' := w.heap.size) (by have := hkm.out; have := hka.out; have := hab.out; have := hlo1.out; omega))
 have hbk := Hz.mk (back_any R ca ga cc gc (T.str mem) w.heap.size kp V7 kc kg K la lc hLw.out (Nat.le_trans hhi.out hsz.out) ⟨w, rfl, hBw.out, hP.out⟩ hc hr.out hg)
 go_wp2_with fail
 refine hbk.out.mono ?_
 rintro r V8 ⟨rfl, hk8⟩
 have hk8b := Hz.mk (Kp.mono (S1 := fun k => w.heap.size ≤ k ∧ k < V.heap.size) hk8 (fun k q => .inl (by have := hLw.out.inS q; have := hhi.out; omega)))
 replace hkA : Hz (Kp (fun k => w.heap.size ≤ k ∧ k < V.heap.size) V5 V8) := Hz.mk (hkA.out.trans hk8b.out (fun _ q => .inl q))
 replace hBw := Hz.mk (hBw.out.trans (hk8b.out.below (B := w.heap.size) (by have := hBw.out.size; omega) (fun k q => q.1)))
 clear d0 d1 d2 d3 e0 e1 e2 e3 hbk hk8 hk8b
 go_wp2_with fail
 go_ret3
 exact ⟨rfl, hBw.out⟩
end Z
end Go.Proofs.YthfphgjjieddjaaGreat
