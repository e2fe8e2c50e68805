import Derived.Test.YtmedafcmfbhjkaaGreatP52
namespace Go.Proofs.YtmedafcmfbhjkaaGreat
set_option maxRecDepth 100000
set_option maxHeartbeats 40000000
namespace Z
open Go.RowKit
open T (Sep Ob Kp Mf FlIn boxOb)

theorem walk_FastvmRun (R : Rp) (ca ga : Option Addr) (cc gc : Nat) (mem : List UInt8) (gate : Int) (A : List Int) (sa : Option Addr) (sc : Nat) (ia : Option Addr) (ic : Nat) (L : List Int) (N : List Int) (ra : Option Addr) (rc : Nat) (w : World) (hb : Bgn w R ca ga mem A sa ia ic L) (hcap : ∀ a, ia = some a → L.length ≤ ic) (hAl : A.length ≤ 2000000) (hR : RIn w ra N) :
   Calls Tryz.prog 4 #[.agg #[.slice ca R.code.length cc, .slice ga R.gates.length gc, .string (T.str mem), .int .i64 R.dep], .int .i64 gate, .slice sa A.length sc, .slice ia L.length ic, .slice ra N.length rc] w fun x w' => x = .returned (.bool true) ∧ Below w.heap.size w w' := by
 replace hb := Hz.mk hb
 replace hcap := Hz.mk hcap
 have hFB : Hz (∀ X, Below w.heap.size w X → RIn X ra N) := Hz.mk (fun X q => hR.below q)
 clear hR
 by_cases hok : R.Ok mem.length ∧ 0 ≤ gate
 rotate_left
 · have hno := Hz.mk hok
   clear hok
   go_enter Tryz.func4, Tryz.ntmps4
   go_upto_region 1 with fail
   refine wp_world (fun W => At W w.heap.size #[.slice ca R.code.length cc, .slice ga R.gates.length gc, .string (T.str mem), .int .i64 R.dep] ∧ Gr w W) ⟨At.new w _ _, (Gr.refl _).alloc _⟩ ?_
   rintro W ⟨hQ, G⟩
   have hkp := hQ.1
   replace hb := Hz.mk (hb.out.below G.below)
   go_wp2_with fail
   refine (examples_any W).mono ?_
   rintro r V1 ⟨rfl, hB⟩
   replace hQ := Hz.mk (at_below hQ hB hkp)
   replace hb := Hz.mk (hb.out.below hB)
   replace G := Hz.mk (G.below.trans (hB.mono (Nat.le_of_lt hkp)))
   replace hkp := Hz.mk (Nat.lt_of_lt_of_le hkp hB.size)
   clear hB
   have d0 : V1.cell? ⟨w.heap.size, 0, none⟩ = some (.slice ca R.code.length cc) := hQ.out.2.1 0
   have d1 : V1.cell? ⟨w.heap.size, 1, none⟩ = some (.slice ga R.gates.length gc) := hQ.out.2.1 1
   have d2 : V1.cell? ⟨w.heap.size, 2, none⟩ = some (.string (T.str mem)) := hQ.out.2.1 2
   have d3 : V1.cell? ⟨w.heap.size, 3, none⟩ = some (.int .i64 R.dep) := hQ.out.2.1 3
   have hent := Hz.mk (ent_no R ca ga cc gc mem gate A sa sc V1 hb.out.hP hb.out.hA hAl hno.out)
   go_wp2_with fail
   refine hent.out.mono ?_
   rintro r V2 ⟨g, A2, va, vc, rfl, hWa, hA2, hn2, hB⟩
   clear d0 d1 d2 d3 hent
   replace hQ := Hz.mk (at_below hQ.out hB hkp.out)
   replace hb := Hz.mk (hb.out.below hB)
   replace G := Hz.mk (G.out.trans (hB.mono (Nat.le_of_lt hkp.out)))
   replace hkp := Hz.mk (Nat.lt_of_lt_of_le hkp.out hB.size)
   clear hB
   have d0 : V2.cell? ⟨w.heap.size, 0, none⟩ = some (.slice ca R.code.length cc) := hQ.out.2.1 0
   have d1 : V2.cell? ⟨w.heap.size, 1, none⟩ = some (.slice ga R.gates.length gc) := hQ.out.2.1 1
   have d2 : V2.cell? ⟨w.heap.size, 2, none⟩ = some (.string (T.str mem)) := hQ.out.2.1 2
   have d3 : V2.cell? ⟨w.heap.size, 3, none⟩ = some (.int .i64 R.dep) := hQ.out.2.1 3
   have hmd := Hz.mk (made_no70 R ca ga cc gc mem g A2 va vc ia ic L V2 hb.out.hP hb.out.wd.code hWa hA2 hb.out.hI hb.out.c hb.out.r hb.out.g hb.out.l hn2)
   clear hn2
   go_wp2_with fail
   refine hmd.out.mono ?_
   rintro r V3 ⟨rfl, hB⟩
   replace G := Hz.mk (G.out.trans (hB.mono (Nat.le_of_lt hkp.out)))
   clear d0 d1 d2 d3 hmd hB
   go_wp2_with fail
   go_ret
   exact ⟨rfl, G.out⟩
 obtain ⟨ok, h0⟩ := hok
 have pok := Hz.mk (ok.pr hb.out.wd.code)
 have rr := Hz.mk hb.out.wd.rr
 have hs := Hz.mk (hb.out.okn ok gate)
 have he0 := Hz.mk (st0_e R gate A L mem)
 replace ok := Hz.mk ok
 obtain ⟨P, hPe⟩ : ∃ P, R.pr = P := ⟨_, rfl⟩
 obtain ⟨s0, hs0⟩ : ∃ s, st0 R gate A L mem = s := ⟨_, rfl⟩
 rw [hPe] at pok rr hs
 rw [hs0] at hs he0
 replace hPe := Hz.mk hPe
 replace hs0 := Hz.mk hs0
 have hvf := Hz.mk (st0_vf R gate A L mem)
 rw [hs0.out] at hvf
 go_enter Tryz.func4, Tryz.ntmps4
 go_upto_region 1 with fail
 refine wp_world (fun W => At W w.heap.size #[.slice ca R.code.length cc, .slice ga R.gates.length gc, .string (T.str mem), .int .i64 R.dep] ∧ Gr w W) ⟨At.new w _ _, (Gr.refl _).alloc _⟩ ?_
 rintro W ⟨hQ, G⟩
 have hkp := hQ.1
 replace hb := Hz.mk (hb.out.below G.below)
 go_wp2_with fail
 refine (examples_any W).mono ?_
 rintro r V1 ⟨rfl, hB⟩
 replace hQ := Hz.mk (at_below hQ hB hkp)
 replace hb := Hz.mk (hb.out.below hB)
 replace G := Hz.mk (G.below.trans (hB.mono (Nat.le_of_lt hkp)))
 replace hkp := Hz.mk (Nat.lt_of_lt_of_le hkp hB.size)
 clear hB
 have d0 : V1.cell? ⟨w.heap.size, 0, none⟩ = some (.slice ca R.code.length cc) := hQ.out.2.1 0
 have d1 : V1.cell? ⟨w.heap.size, 1, none⟩ = some (.slice ga R.gates.length gc) := hQ.out.2.1 1
 have d2 : V1.cell? ⟨w.heap.size, 2, none⟩ = some (.string (T.str mem)) := hQ.out.2.1 2
 have d3 : V1.cell? ⟨w.heap.size, 3, none⟩ = some (.int .i64 R.dep) := hQ.out.2.1 3
 have hent := Hz.mk (ent_ok R ca ga cc gc mem gate A sa sc V1 hb.out.hP hb.out.hA ok.out h0)
 go_wp2_with fail
 refine hent.out.mono ?_
 rintro r V2 ⟨va, vc, rfl, hWa, hB⟩
 clear d0 d1 d2 d3 hent
 replace hQ := Hz.mk (at_below hQ.out hB hkp.out)
 replace hb := Hz.mk (hb.out.below hB)
 replace G := Hz.mk (G.out.trans (hB.mono (Nat.le_of_lt hkp.out)))
 replace hkp := Hz.mk (Nat.lt_of_lt_of_le hkp.out hB.size)
 clear hB
 have d0 : V2.cell? ⟨w.heap.size, 0, none⟩ = some (.slice ca R.code.length cc) := hQ.out.2.1 0
 have d1 : V2.cell? ⟨w.heap.size, 1, none⟩ = some (.slice ga R.gates.length gc) := hQ.out.2.1 1
 have d2 : V2.cell? ⟨w.heap.size, 2, none⟩ = some (.string (T.str mem)) := hQ.out.2.1 2
 have d3 : V2.cell? ⟨w.heap.size, 3, none⟩ = some (.int .i64 R.dep) := hQ.out.2.1 3
 have hmd := Hz.mk (made_st0 R ca ga cc gc mem gate A va vc ia ic L V2 hb.out.hP hb.out.wd.code hWa hb.out.hI hb.out.c hb.out.r hb.out.g hb.out.l hcap.out ok.out)
 rw [hs0.out, hPe.out] at hmd
 go_wp2_with fail
 refine hmd.out.mono ?_
 rintro r V3 ⟨a, b, rfl, hM, hpg, hB⟩
 replace G := Hz.mk (G.out.trans (hB.mono (Nat.le_of_lt hkp.out)))
 have hwB : Hz (w.heap.size ≤ V2.heap.size) := Hz.mk (Nat.le_of_lt hkp.out)
 clear d0 d1 d2 d3 hmd hB hkp hQ hb
 replace hM := Hz.mk hM
 replace hpg := Hz.mk hpg
 obtain ⟨c, hc⟩ : ∃ c : Dc, ⟨ca, ga, cc, gc, .string (T.str mem)⟩ = c := ⟨_, rfl⟩
 rw [hc] at hM hpg
 clear hc
 generalize V2.heap.size = B at *
 go_upto_region 9 with fail
 go_loopw [17] (fun x wr => ∃ (j : Nat) (s : Fm), x = .int .i64 j ∧ j ≤ 4 ∧ Hz (MD B wr P a s b c s []) ∧ Hz (s.Okn P (j * 100000) ∧ s.Vf) ∧ Hz (Below w.heap.size w wr) ∧ Hz (DPg B wr c P)) (fun x _ => 4 - (intOf x).toNat)
 case atStart => exact ⟨0, s0, rfl, Nat.zero_le _, hM, Hz.mk ⟨hs.out.mono (by omega), hvf.out⟩, G, hpg⟩
 case round =>
   clear hM hs hvf G hpg
   obtain ⟨j, s, rfl, hj, hM, hsv, G, hpg⟩ := hrel
   have hos := Hz.mk hsv.out.1
   have hvf := Hz.mk hsv.out.2
   clear hsv
   by_cases hjN : j < N.length
   · have hjn1 : (j : Int) < (N.length : Int) := by omega
     by_cases hj3 : j < 4
     · have hj1 : (j : Int) < 4 := by omega
       have hF := Hz.mk (hFB.out wr G.out)
       obtain ⟨fb, fo, rfl, _, cf⟩ := hF.out j hjN
       generalize N[j] = nn at *
       by_cases hbig : 3000 < nn ∧ 0 < j
       · obtain ⟨hb1, hb2⟩ := hbig
         have hb3 : (0 : Int) < (j : Int) := by omega
         obtain ⟨u, hu⟩ : ∃ u, runF P s 3000 = u := ⟨_, rfl⟩
         have hou : Hz (u.Okn P ((j + 1) * 100000) ∧ u.Vf) := Hz.mk (by rw [← hu]; exact ⟨(okn_runF P pok.out rr.out s (j * 100000) hos.out 3000).mono (by omega), runM_vf P s hvf.out _⟩)
         replace hu := Hz.mk hu
         go_wp2_with fail
         refine (hM.out.callX (fun l' h => xrun_oc P pok.out rr.out s (j * 100000) hos.out (by omega) 3000 u hu.out B wr a l' h)).mono ?_
         rintro r X1 ⟨rfl, hM1, hBn⟩
         replace G := Hz.mk (G.out.trans (hBn.mono hwB.out))
         replace hpg := Hz.mk (hpg.out.below hBn)
         replace hM := Hz.mk hM1
         clear hBn hM1
         go_upto_region 15 with fail
         refine wp_world (fun X => ∃ k, k = X1.heap.size ∧ MD B X P a u b c s (boxOb k (List.toArray [Value.int .i64 u.e, .int .u64 u.v, .int .i64 u.f, .int .i64 u.g, .int .i64 u.p]) :: []) ∧ Below B X1 X) ⟨_, rfl, hM.out.new _ _⟩ ?_
         rintro X2 ⟨ko, hkk, hM1, hBn⟩
         rw [← hkk]
         clear hkk
         replace G := Hz.mk (G.out.trans (hBn.mono hwB.out))
         replace hpg := Hz.mk (hpg.out.below hBn)
         replace hM := Hz.mk hM1
         clear hBn hM1
         go_wp2_with fail
         refine (hM.out.callY (fun l' h => drun_oc P pok.out rr.out s (j * 100000) hos.out (by omega) hvf.out 3000 u hu.out B X2 b c l' h hpg.out)).mono ?_
         rintro r X3 ⟨rfl, hM1, hBn⟩
         replace G := Hz.mk (G.out.trans (hBn.mono hwB.out))
         replace hpg := Hz.mk (hpg.out.below hBn)
         replace hM := Hz.mk hM1
         clear hBn hM1
         go_upto_region 16 with fail
         refine wp_world (fun X => ∃ k, k = X3.heap.size ∧ MD B X P a u b c u (boxOb k (List.toArray [Value.int .i64 u.e, .int .u64 u.v, .int .i64 u.f, .int .i64 u.g, .int .i64 u.p]) :: [boxOb ko (List.toArray [Value.int .i64 u.e, .int .u64 u.v, .int .i64 u.f, .int .i64 u.g, .int .i64 u.p])]) ∧ Below B X3 X) ⟨_, rfl, hM.out.new _ _⟩ ?_
         rintro X4 ⟨kw, hkk, hM1, hBn⟩
         rw [← hkk]
         clear hkk
         replace G := Hz.mk (G.out.trans (hBn.mono hwB.out))
         replace hpg := Hz.mk (hpg.out.below hBn)
         replace hM := Hz.mk hM1
         clear hBn hM1
         have A1 := hM.out.there (boxOb ko (List.toArray [Value.int .i64 u.e, .int .u64 u.v, .int .i64 u.f, .int .i64 u.g, .int .i64 u.p])) (by simp)
         have A3 := hM.out.there (boxOb kw (List.toArray [Value.int .i64 u.e, .int .u64 u.v, .int .i64 u.f, .int .i64 u.g, .int .i64 u.p])) (by simp)
         have y0 : X4.cell? ⟨ko, 0, none⟩ = some (.int .i64 u.e) := A1.2.1 0
         have y1 : X4.cell? ⟨ko, 1, none⟩ = some (.int .u64 u.v) := A1.2.1 1
         have y2 : X4.cell? ⟨ko, 2, none⟩ = some (.int .i64 u.f) := A1.2.1 2
         have y3 : X4.cell? ⟨ko, 3, none⟩ = some (.int .i64 u.g) := A1.2.1 3
         have y4 : X4.cell? ⟨ko, 4, none⟩ = some (.int .i64 u.p) := A1.2.1 4
         have z0 : X4.cell? ⟨kw, 0, none⟩ = some (.int .i64 u.e) := A3.2.1 0
         have z1 : X4.cell? ⟨kw, 1, none⟩ = some (.int .u64 u.v) := A3.2.1 1
         have z2 : X4.cell? ⟨kw, 2, none⟩ = some (.int .i64 u.f) := A3.2.1 2
         have z3 : X4.cell? ⟨kw, 3, none⟩ = some (.int .i64 u.g) := A3.2.1 3
         have z4 : X4.cell? ⟨kw, 4, none⟩ = some (.int .i64 u.p) := A3.2.1 4
         clear A1 A3
         have hq2 := oc_ne5 u.e u.v u.f u.g u.p
         obtain ⟨lx, hX⟩ := hM.out.oneX
         have hsx := Hz.mk (snap_any B X4 a P u lx hX)
         clear hX
         go_wp2_with fail
         refine hsx.out.mono ?_
         rintro r X5 ⟨rfl, g5⟩
         replace G := Hz.mk (G.out.trans (g5.below.mono (Nat.le_trans hwB.out hM.out.le)))
         replace hpg := Hz.mk (hpg.out.below (g5.below.mono hM.out.le))
         replace hM := Hz.mk (hM.out.gr g5.below)
         clear g5 hsx y0 y1 y2 y3 y4 z0 z1 z2 z3 z4
         obtain ⟨ly, hY⟩ := hM.out.oneY
         have hsy := Hz.mk (dsnap_any B X5 b c P u u.g u.p ly hY)
         clear hY
         go_wp2_with fail
         refine hsy.out.mono ?_
         rintro r X6 ⟨rfl, g6⟩
         replace G := Hz.mk (G.out.trans (g6.below.mono (Nat.le_trans hwB.out hM.out.le)))
         replace hpg := Hz.mk (hpg.out.below (g6.below.mono hM.out.le))
         replace hM := Hz.mk (hM.out.gr g6.below)
         clear g6 hsy
         have hne := sn_neq u.g u.p u.st.length u.r
         generalize (snV u.g u.p u.st.length u.r).toArray = sv at *
         replace hM := Hz.mk hM.out.drop.drop
         replace hF := Hz.mk (hFB.out _ G.out)
         go_wp2_with fail
         refine ⟨⟨j + 1, u, ?_, by omega, hM, hou, G, hpg⟩, ?_⟩
         · first | rfl | go_num
         · exact ps_meas _ j hj3
       · by_cases hb1 : 3000 < nn
         · have hb3 : ¬ (0 : Int) < (j : Int) := by omega
           clear hbig
           obtain ⟨u, hu⟩ : ∃ u, runF P s nn = u := ⟨_, rfl⟩
           have hou : Hz (u.Okn P ((j + 1) * 100000) ∧ u.Vf) := Hz.mk (by rw [← hu]; exact ⟨(okn_runF P pok.out rr.out s (j * 100000) hos.out nn).mono (by omega), runM_vf P s hvf.out _⟩)
           replace hu := Hz.mk hu
           go_wp2_with fail
           refine (hM.out.callX (fun l' h => xrun_oc P pok.out rr.out s (j * 100000) hos.out (by omega) nn u hu.out B wr a l' h)).mono ?_
           rintro r X1 ⟨rfl, hM1, hBn⟩
           replace G := Hz.mk (G.out.trans (hBn.mono hwB.out))
           replace hpg := Hz.mk (hpg.out.below hBn)
           replace hM := Hz.mk hM1
           clear hBn hM1
           go_upto_region 15 with fail
           refine wp_world (fun X => ∃ k, k = X1.heap.size ∧ MD B X P a u b c s (boxOb k (List.toArray [Value.int .i64 u.e, .int .u64 u.v, .int .i64 u.f, .int .i64 u.g, .int .i64 u.p]) :: []) ∧ Below B X1 X) ⟨_, rfl, hM.out.new _ _⟩ ?_
           rintro X2 ⟨ko, hkk, hM1, hBn⟩
           rw [← hkk]
           clear hkk
           replace G := Hz.mk (G.out.trans (hBn.mono hwB.out))
           replace hpg := Hz.mk (hpg.out.below hBn)
           replace hM := Hz.mk hM1
           clear hBn hM1
           go_wp2_with fail
           refine (hM.out.callY (fun l' h => drun_oc P pok.out rr.out s (j * 100000) hos.out (by omega) hvf.out nn u hu.out B X2 b c l' h hpg.out)).mono ?_
           rintro r X3 ⟨rfl, hM1, hBn⟩
           replace G := Hz.mk (G.out.trans (hBn.mono hwB.out))
           replace hpg := Hz.mk (hpg.out.below hBn)
           replace hM := Hz.mk hM1
           clear hBn hM1
           go_upto_region 16 with fail
           refine wp_world (fun X => ∃ k, k = X3.heap.size ∧ MD B X P a u b c u (boxOb k (List.toArray [Value.int .i64 u.e, .int .u64 u.v, .int .i64 u.f, .int .i64 u.g, .int .i64 u.p]) :: [boxOb ko (List.toArray [Value.int .i64 u.e, .int .u64 u.v, .int .i64 u.f, .int .i64 u.g, .int .i64 u.p])]) ∧ Below B X3 X) ⟨_, rfl, hM.out.new _ _⟩ ?_
           rintro X4 ⟨kw, hkk, hM1, hBn⟩
           rw [← hkk]
           clear hkk
           replace G := Hz.mk (G.out.trans (hBn.mono hwB.out))
           replace hpg := Hz.mk (hpg.out.below hBn)
           replace hM := Hz.mk hM1
           clear hBn hM1
           have A1 := hM.out.there (boxOb ko (List.toArray [Value.int .i64 u.e, .int .u64 u.v, .int .i64 u.f, .int .i64 u.g, .int .i64 u.p])) (by simp)
           have A3 := hM.out.there (boxOb kw (List.toArray [Value.int .i64 u.e, .int .u64 u.v, .int .i64 u.f, .int .i64 u.g, .int .i64 u.p])) (by simp)
           have y0 : X4.cell? ⟨ko, 0, none⟩ = some (.int .i64 u.e) := A1.2.1 0
           have y1 : X4.cell? ⟨ko, 1, none⟩ = some (.int .u64 u.v) := A1.2.1 1
           have y2 : X4.cell? ⟨ko, 2, none⟩ = some (.int .i64 u.f) := A1.2.1 2
           have y3 : X4.cell? ⟨ko, 3, none⟩ = some (.int .i64 u.g) := A1.2.1 3
           have y4 : X4.cell? ⟨ko, 4, none⟩ = some (.int .i64 u.p) := A1.2.1 4
           have z0 : X4.cell? ⟨kw, 0, none⟩ = some (.int .i64 u.e) := A3.2.1 0
           have z1 : X4.cell? ⟨kw, 1, none⟩ = some (.int .u64 u.v) := A3.2.1 1
           have z2 : X4.cell? ⟨kw, 2, none⟩ = some (.int .i64 u.f) := A3.2.1 2
           have z3 : X4.cell? ⟨kw, 3, none⟩ = some (.int .i64 u.g) := A3.2.1 3
           have z4 : X4.cell? ⟨kw, 4, none⟩ = some (.int .i64 u.p) := A3.2.1 4
           clear A1 A3
           have hq2 := oc_ne5 u.e u.v u.f u.g u.p
           obtain ⟨lx, hX⟩ := hM.out.oneX
           have hsx := Hz.mk (snap_any B X4 a P u lx hX)
           clear hX
           go_wp2_with fail
           refine hsx.out.mono ?_
           rintro r X5 ⟨rfl, g5⟩
           replace G := Hz.mk (G.out.trans (g5.below.mono (Nat.le_trans hwB.out hM.out.le)))
           replace hpg := Hz.mk (hpg.out.below (g5.below.mono hM.out.le))
           replace hM := Hz.mk (hM.out.gr g5.below)
           clear g5 hsx y0 y1 y2 y3 y4 z0 z1 z2 z3 z4
           obtain ⟨ly, hY⟩ := hM.out.oneY
           have hsy := Hz.mk (dsnap_any B X5 b c P u u.g u.p ly hY)
           clear hY
           go_wp2_with fail
           refine hsy.out.mono ?_
           rintro r X6 ⟨rfl, g6⟩
           replace G := Hz.mk (G.out.trans (g6.below.mono (Nat.le_trans hwB.out hM.out.le)))
           replace hpg := Hz.mk (hpg.out.below (g6.below.mono hM.out.le))
           replace hM := Hz.mk (hM.out.gr g6.below)
           clear g6 hsy
           have hne := sn_neq u.g u.p u.st.length u.r
           generalize (snV u.g u.p u.st.length u.r).toArray = sv at *
           replace hM := Hz.mk hM.out.drop.drop
           replace hF := Hz.mk (hFB.out _ G.out)
           go_wp2_with fail
           refine ⟨⟨j + 1, u, ?_, by omega, hM, hou, G, hpg⟩, ?_⟩
           · first | rfl | go_num
           · exact ps_meas _ j hj3
         · clear hbig
           obtain ⟨u, hu⟩ : ∃ u, runF P s nn = u := ⟨_, rfl⟩
           have hou : Hz (u.Okn P ((j + 1) * 100000) ∧ u.Vf) := Hz.mk (by rw [← hu]; exact ⟨(okn_runF P pok.out rr.out s (j * 100000) hos.out nn).mono (by omega), runM_vf P s hvf.out _⟩)
           replace hu := Hz.mk hu
           go_wp2_with fail
           refine (hM.out.callX (fun l' h => xrun_oc P pok.out rr.out s (j * 100000) hos.out (by omega) nn u hu.out B wr a l' h)).mono ?_
           rintro r X1 ⟨rfl, hM1, hBn⟩
           replace G := Hz.mk (G.out.trans (hBn.mono hwB.out))
           replace hpg := Hz.mk (hpg.out.below hBn)
           replace hM := Hz.mk hM1
           clear hBn hM1
           go_upto_region 15 with fail
           refine wp_world (fun X => ∃ k, k = X1.heap.size ∧ MD B X P a u b c s (boxOb k (List.toArray [Value.int .i64 u.e, .int .u64 u.v, .int .i64 u.f, .int .i64 u.g, .int .i64 u.p]) :: []) ∧ Below B X1 X) ⟨_, rfl, hM.out.new _ _⟩ ?_
           rintro X2 ⟨ko, hkk, hM1, hBn⟩
           rw [← hkk]
           clear hkk
           replace G := Hz.mk (G.out.trans (hBn.mono hwB.out))
           replace hpg := Hz.mk (hpg.out.below hBn)
           replace hM := Hz.mk hM1
           clear hBn hM1
           go_wp2_with fail
           refine (hM.out.callY (fun l' h => drun_oc P pok.out rr.out s (j * 100000) hos.out (by omega) hvf.out nn u hu.out B X2 b c l' h hpg.out)).mono ?_
           rintro r X3 ⟨rfl, hM1, hBn⟩
           replace G := Hz.mk (G.out.trans (hBn.mono hwB.out))
           replace hpg := Hz.mk (hpg.out.below hBn)
           replace hM := Hz.mk hM1
           clear hBn hM1
           go_upto_region 16 with fail
           refine wp_world (fun X => ∃ k, k = X3.heap.size ∧ MD B X P a u b c u (boxOb k (List.toArray [Value.int .i64 u.e, .int .u64 u.v, .int .i64 u.f, .int .i64 u.g, .int .i64 u.p]) :: [boxOb ko (List.toArray [Value.int .i64 u.e, .int .u64 u.v, .int .i64 u.f, .int .i64 u.g, .int .i64 u.p])]) ∧ Below B X3 X) ⟨_, rfl, hM.out.new _ _⟩ ?_
           rintro X4 ⟨kw, hkk, hM1, hBn⟩
           rw [← hkk]
           clear hkk
           replace G := Hz.mk (G.out.trans (hBn.mono hwB.out))
           replace hpg := Hz.mk (hpg.out.below hBn)
           replace hM := Hz.mk hM1
           clear hBn hM1
           have A1 := hM.out.there (boxOb ko (List.toArray [Value.int .i64 u.e, .int .u64 u.v, .int .i64 u.f, .int .i64 u.g, .int .i64 u.p])) (by simp)
           have A3 := hM.out.there (boxOb kw (List.toArray [Value.int .i64 u.e, .int .u64 u.v, .int .i64 u.f, .int .i64 u.g, .int .i64 u.p])) (by simp)
           have y0 : X4.cell? ⟨ko, 0, none⟩ = some (.int .i64 u.e) := A1.2.1 0
           have y1 : X4.cell? ⟨ko, 1, none⟩ = some (.int .u64 u.v) := A1.2.1 1
           have y2 : X4.cell? ⟨ko, 2, none⟩ = some (.int .i64 u.f) := A1.2.1 2
           have y3 : X4.cell? ⟨ko, 3, none⟩ = some (.int .i64 u.g) := A1.2.1 3
           have y4 : X4.cell? ⟨ko, 4, none⟩ = some (.int .i64 u.p) := A1.2.1 4
           have z0 : X4.cell? ⟨kw, 0, none⟩ = some (.int .i64 u.e) := A3.2.1 0
           have z1 : X4.cell? ⟨kw, 1, none⟩ = some (.int .u64 u.v) := A3.2.1 1
           have z2 : X4.cell? ⟨kw, 2, none⟩ = some (.int .i64 u.f) := A3.2.1 2
           have z3 : X4.cell? ⟨kw, 3, none⟩ = some (.int .i64 u.g) := A3.2.1 3
           have z4 : X4.cell? ⟨kw, 4, none⟩ = some (.int .i64 u.p) := A3.2.1 4
           clear A1 A3
           have hq2 := oc_ne5 u.e u.v u.f u.g u.p
           obtain ⟨lx, hX⟩ := hM.out.oneX
           have hsx := Hz.mk (snap_any B X4 a P u lx hX)
           clear hX
           go_wp2_with fail
           refine hsx.out.mono ?_
           rintro r X5 ⟨rfl, g5⟩
           replace G := Hz.mk (G.out.trans (g5.below.mono (Nat.le_trans hwB.out hM.out.le)))
           replace hpg := Hz.mk (hpg.out.below (g5.below.mono hM.out.le))
           replace hM := Hz.mk (hM.out.gr g5.below)
           clear g5 hsx y0 y1 y2 y3 y4 z0 z1 z2 z3 z4
           obtain ⟨ly, hY⟩ := hM.out.oneY
           have hsy := Hz.mk (dsnap_any B X5 b c P u u.g u.p ly hY)
           clear hY
           go_wp2_with fail
           refine hsy.out.mono ?_
           rintro r X6 ⟨rfl, g6⟩
           replace G := Hz.mk (G.out.trans (g6.below.mono (Nat.le_trans hwB.out hM.out.le)))
           replace hpg := Hz.mk (hpg.out.below (g6.below.mono hM.out.le))
           replace hM := Hz.mk (hM.out.gr g6.below)
           clear g6 hsy
           have hne := sn_neq u.g u.p u.st.length u.r
           generalize (snV u.g u.p u.st.length u.r).toArray = sv at *
           replace hM := Hz.mk hM.out.drop.drop
           replace hF := Hz.mk (hFB.out _ G.out)
           go_wp2_with fail
           refine ⟨⟨j + 1, u, ?_, by omega, hM, hou, G, hpg⟩, ?_⟩
           · first | rfl | go_num
           · exact ps_meas _ j hj3
     · have hj1 : ¬ (j : Int) < 4 := by omega
       have hlv := Hz.mk (level_any B wr P a b c s hM.out (Nat.le_trans hos.out.ol (by omega)) (Nat.le_trans hos.out.tl (by omega)))
       go_wp2_with fail
       refine hlv.out.mono ?_
       rintro r X9 ⟨rfl, hb9⟩
       replace G := Hz.mk (G.out.trans (hb9.mono (Nat.le_trans hwB.out hM.out.le)))
       clear hlv hb9
       go_wp2_with fail
       go_ret
       exact ⟨rfl, G.out⟩
   · have hjn1 : ¬ (j : Int) < (N.length : Int) := by omega
     have hlv := Hz.mk (level_any B wr P a b c s hM.out (Nat.le_trans hos.out.ol (by omega)) (Nat.le_trans hos.out.tl (by omega)))
     go_wp2_with fail
     refine hlv.out.mono ?_
     rintro r X9 ⟨rfl, hb9⟩
     replace G := Hz.mk (G.out.trans (hb9.mono (Nat.le_trans hwB.out hM.out.le)))
     clear hlv hb9
     go_wp2_with fail
     go_ret
     exact ⟨rfl, G.out⟩
end Z
end Go.Proofs.YtmedafcmfbhjkaaGreat
