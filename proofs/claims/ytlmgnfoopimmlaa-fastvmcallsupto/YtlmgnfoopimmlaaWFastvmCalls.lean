import Derived.Test.YtlmgnfoopimmlaaP51
/-
  Stage 13, fastvm: registers behind calls and returns: the walk.
-/
namespace Go.Proofs.Ytlmgnfoopimmlaa
namespace Z
open Go.RowKit
open T (Sep Ob Kp Mf FlIn boxOb)

theorem fi_ones (i : Fi) : (Fi.vals i).toArray.all (fun x => x.oneCell') = true := by simp [Fi.vals, Value.oneCell']
theorem fg_len (g : Fg) : (Fg.vals g).length = 19 := by simp [Fg.vals, regs_len]
theorem at_belowB {V W : World} {B k : Nat} {cs : Array Value} (h : At V k cs) (hB : V.heap.size = B) (q : Below B V W) (hk : k < V.heap.size) : At W k cs := at_below h (hB ▸ q) hk
theorem drawn_below (W : World) (n : Nat) : Below W.heap.size W (W.drewN n) := ⟨rfl, rfl, rfl, Nat.le_refl _, fun _ _ => rfl⟩
theorem MIn.voidK {B : Nat} {W : World} {a : Nat} {P : Pr} {s : Fm} (h : MIn B W a P s []) : MIn B W a P s [stkOb B (.slice none ([] : List Sk).length 0) []] := h.add (stkOb B (.slice none 0 0) []) (World.ownsRow_nil _ _ _ _) (fun k q => by cases q) (Below.refl _ _)
set_option maxRecDepth 100000 in
set_option maxHeartbeats 8000000 in
theorem walk_FastvmCalls (R : Rp) (ca ga : Option Addr) (cc gc : Nat) (mem : List UInt8) (gate : Int) (A : List Int) (sa : Option Addr) (sc : Nat) (ia : Option Addr) (ic : Nat) (L : List Int) (w : World) (hb : Bgn w R ca ga mem A sa ia ic L) :
    Calls Try.prog 3 #[.agg #[.slice ca R.code.length cc, .slice ga R.gates.length gc, .string (T.str mem), .int .i64 R.dep], .int .i64 gate, .slice sa A.length sc, .slice ia L.length ic] w fun x w' => x = .returned (.bool true) ∧ Below w.heap.size w w' := by
  replace hb := Hz.mk hb
  by_cases hok : R.Ok mem.length ∧ 0 ≤ gate
  · skip
    obtain ⟨ok, h0⟩ := hok
    have pok := Hz.mk (ok.pr hb.out.wd.code)
    have rr := Hz.mk hb.out.wd.rr
    have hs := Hz.mk (hb.out.okn ok gate)
    have he0 := Hz.mk (st0_e R gate A L mem)
    replace ok := Hz.mk ok
    obtain ⟨P, hPe⟩ : ∃ P, R.pr = P := ⟨_, rfl⟩
    obtain ⟨s0, hs0⟩ : ∃ s, st0 R gate A L mem = s := ⟨_, rfl⟩
    rw [hPe] at pok rr hs
    rw [hs0] at hs he0
    replace hPe := Hz.mk hPe
    replace hs0 := Hz.mk hs0
    go_enter Try.func3, Try.ntmps3
    go_upto_region 1 with fail
    refine wp_world (fun W => At W w.heap.size #[.slice ca R.code.length cc, .slice ga R.gates.length gc, .string (T.str mem), .int .i64 R.dep] ∧ Gr w W) ⟨At.new w _ _, (Gr.refl _).alloc _⟩ ?_
    rintro W ⟨hQ, G⟩
    have hkp := hQ.1
    replace hb := Hz.mk (hb.out.below G.below)
    go_wp2_with fail
    refine (examples_any W).mono ?_
    rintro r V1 ⟨rfl, hB⟩
    replace hQ := Hz.mk (at_below hQ hB hkp)
    replace hb := Hz.mk (hb.out.below hB)
    replace G := Hz.mk (G.below.trans (hB.mono (Nat.le_of_lt hkp)))
    replace hkp := Hz.mk (Nat.lt_of_lt_of_le hkp hB.size)
    clear hB
    have G1 := Hz.mk (show w.heap.size ≤ V1.heap.size from G.out.size)
    have Gw := G
    have hQ1 := hQ
    have hkp1 := hkp
    have hRw := Hz.mk (ok.out.rw hb.out.wd.code hb.out.hP)
    rw [hPe.out] at hRw
    have d0 : V1.cell? ⟨w.heap.size, 0, none⟩ = some (.slice ca R.code.length cc) := hQ.out.2.1 0
    have d1 : V1.cell? ⟨w.heap.size, 1, none⟩ = some (.slice ga R.gates.length gc) := hQ.out.2.1 1
    have d2 : V1.cell? ⟨w.heap.size, 2, none⟩ = some (.string (T.str mem)) := hQ.out.2.1 2
    have d3 : V1.cell? ⟨w.heap.size, 3, none⟩ = some (.int .i64 R.dep) := hQ.out.2.1 3
    have hcl := Hz.mk (hb.out.some ok.out gate h0 cc gc sc)
    rw [hs0.out, hPe.out] at hcl
    go_wp2_with fail
    refine hcl.out.mono ?_
    rintro r V2 ⟨ax, rfl, hMx, hBV2⟩
    replace hMx := Hz.mk hMx
    replace hBV2 := Hz.mk hBV2
    clear d0 d1 d2 d3 hcl
    replace hQ := Hz.mk (at_below hQ.out hBV2.out hkp.out)
    replace hb := Hz.mk (hb.out.below hBV2.out)
    replace G := Hz.mk (G.out.trans (hBV2.out.mono (Nat.le_of_lt hkp.out)))
    replace hkp := Hz.mk (Nat.lt_of_lt_of_le hkp.out hBV2.out.size)
    have hst0 : Hz (s0.st = List.map Sk.fr []) := Hz.mk (by rw [← hs0.out]; rfl)
    have hG := hBV2
    have hBw : Hz (w.heap.size ≤ V1.heap.size) := Hz.mk (by have := G1.out; exact this)
    clear hBV2 hQ hb hkp
    have hQ := hQ1
    have hkp := hkp1
    clear hQ1 hkp1
    obtain ⟨B, hBe⟩ : ∃ B, V1.heap.size = B := ⟨_, rfl⟩
    have hM := hMx
    rw [hBe] at hM hG hBw
    replace hBe := Hz.mk hBe
    clear hMx
    have hM := Hz.mk (hM.out.voidK)
    go_upto_region 7 with fail
    go_loopw [11, 12] (fun v x wr => ∃ (j : Nat) (K : List Sk) (va : Option Addr) (vc : Nat), v = .slice va K.length vc ∧ x = .int .i64 j ∧ j ≤ 300 ∧ Hz (MIn B wr ax P (stepsM P s0 j) [stkOb B (.slice va K.length vc) K]) ∧ Hz ((stepsM P s0 j).e = 0) ∧ Hz ((stepsM P s0 j).st = K.map Sk.fr) ∧ Hz (Below B V1 wr)) (fun _ x _ => 300 - (intOf x).toNat)
    case atStart => exact ⟨0, [], none, 0, rfl, rfl, by decide, hM, he0, hst0, hG⟩
    case round =>
      clear hM hG
      obtain ⟨j, K, va, vc, rfl, rfl, hj, hM, hej, hK, hG⟩ := hrel
      by_cases hjl : j < 300
      · have hjl1 : (j : Int) < 300 := by omega
        have hst : Hz (stepsM P (stepsM P s0 j) 1 = stepsM P s0 (j + 1)) := Hz.mk (stepsM_one P s0 j)
        have hso := Hz.mk (okn_stepsM P pok.out rr.out s0 0 hs.out j)
        rw [Nat.zero_add] at hso
        have e : stepsM P s0 (j + 1) = stepM P (stepsM P s0 j) := by
          show (if (stepsM P s0 j).e = 0 then stepM P (stepsM P s0 j) else stepsM P s0 j) = _
          rw [if_pos hej.out]
        have hat := step_at P pok.out (stepsM P s0 j) j hso.out
        rw [← e] at hat
        clear e
        obtain ⟨t, hst2⟩ : ∃ t, stepsM P s0 (j + 1) = t := ⟨_, rfl⟩
        rw [hst2] at hst hat
        obtain ⟨s, hss⟩ : ∃ s, stepsM P s0 j = s := ⟨_, rfl⟩
        rw [hss] at hst hat hso hM hej hK
        replace hst2 := Hz.mk hst2
        clear hss
        have hKl : Hz (s.st.length = K.length) := Hz.mk (by rw [hK.out, List.length_map])
        have hdp : Hz ((s.st.length : Int) ≤ R.dep) := Hz.mk (by have := hso.out.st; rw [← hPe.out] at this; exact this)
        have hgc : Hz (s.g < R.code.length) := Hz.mk (by have := hso.out.g; rw [← hPe.out] at this; simpa [Rp.pr] using this)
        have hgg : Hz (s.g < R.gates.length) := Hz.mk (by have h := hso.out.g; have h2 := pok.out.nc; rw [← hPe.out] at h h2; simp [Rp.pr] at h h2; omega)
        have hgl : Hz (R.gates.length ≤ 16) := Hz.mk ok.out.n1.2
        have hsn := Hz.mk (snap_any B wr ax P s _ hM.out)
        go_upto_region 9 with fail
        refine wp_region_lit ?_
        refine wpList_plain rfl (fun K hK => ?_)
        go_simp
        with_reducible refine hK _ _ ?_
        clear hK K
        try simp only [Act.put, List.setIfInBounds_toArray, List.set_cons_zero, List.set_cons_succ]
        refine wpList_plain rfl (fun K' hK => ?_)
        go_simp
        refine hsn.out.mono ?_
        rintro r V2 ⟨rfl, hBn⟩
        replace hBn := hBn.below
        clear hsn
        replace hG := Hz.mk (hG.out.trans (hBn.mono hM.out.le))
        replace hM := Hz.mk (hM.out.gr hBn)
        clear hBn
        with_reducible refine hK _ _ ?_
        clear hK K'
        try simp only [Act.put, List.setIfInBounds_toArray, List.set_cons_zero, List.set_cons_succ]
        obtain ⟨hM1, hB1, hth, -⟩ := hM.out.layC [Value.int .i64 0, .int .i64 0, .int .i64 0, .int .u64 0, .int .u64 0, .int .u64 0, .int .u64 0, .int .u64 0, .int .u64 0, .int .u64 0, .int .u64 0, .int .u64 0, .int .u64 0, .int .u64 0, .int .u64 0, .int .u64 0, .int .u64 0, .int .u64 0, .int .u64 0] (snV s.g s.p s.st.length s.r) 34 (by rw [snV_len]; rfl)
        rw [snV_len] at hth
        replace hth := Hz.mk hth
        replace hG := Hz.mk (hG.out.trans hB1)
        replace hM := Hz.mk hM1
        clear hM1 hB1
        refine wpList_plain rfl (fun K' hK => ?_)
        go_simp
        with_reducible refine hK _ _ ?_
        clear hK K'
        try simp only [Act.put, List.setIfInBounds_toArray, List.set_cons_zero, List.set_cons_succ]
        refine wpList_plain rfl (fun K' hK => ?_)
        refine wp_store_mid _ _ _ rfl _ _ (List.toArray (snV s.g s.p s.st.length s.r)) rfl rfl hth.out (by rw [List.size_toArray, snV_len]; kernel_rfl) (snV_one _ _ _ _) (hK _ _ ?_)
        clear hK K' hth
        try simp only [Act.put]
        generalize hVx : ((V2.alloc (.cells (List.toArray [Value.int .i64 0, .int .i64 0, .int .i64 0, .int .u64 0, .int .u64 0, .int .u64 0, .int .u64 0, .int .u64 0, .int .u64 0, .int .u64 0, .int .u64 0, .int .u64 0, .int .u64 0, .int .u64 0, .int .u64 0, .int .u64 0, .int .u64 0, .int .u64 0, .int .u64 0]) 34)).setCells V2.heap.size 0 (snV s.g s.p s.st.length s.r)) = V3 at *
        clear hVx
        generalize V2.heap.size = ks at *
        have A0 := hM.out.there (boxOb ks (List.toArray (snV s.g s.p s.st.length s.r))) (by simp)
        have x0 : V3.cell? ⟨ks, 0, none⟩ = some (.int .i64 s.g) := A0.2.1 0
        have x2 : V3.cell? ⟨ks, 2, none⟩ = some (.int .i64 s.st.length) := A0.2.1 2
        clear A0
        have hQv := at_belowB hQ.out hBe.out hG.out hkp.out
        have d0 : V3.cell? ⟨w.heap.size, 0, none⟩ = some (.slice ca R.code.length cc) := hQv.2.1 0
        have d3 : V3.cell? ⟨w.heap.size, 3, none⟩ = some (.int .i64 R.dep) := hQv.2.1 3
        clear hQv
        have n1 : ((s.st.length : Int) != (K.length : Int)) = false := by simp [hKl.out]
        have n2 : ¬ R.dep < (s.st.length : Int) := by have := hdp.out; omega
        have n3 : ¬ (s.g : Int) < 0 := by omega
        have n4 : ¬ (R.code.length : Int) ≤ (s.g : Int) := by have := hgc.out; omega
        go_upto_region 12 with fail
        clear x0 x2 d0 d3 n1 n2 n3 n4
        go_wp2_with fail
        refine (step_oc P pok.out rr.out s j hso.out (by omega) t hst.out B V3 ax _ hM.out).mono ?_
        rintro r V4 ⟨rfl, hM1, hB1⟩
        replace hG := Hz.mk (hG.out.trans hB1)
        replace hM := Hz.mk hM1
        clear hM1 hB1
        go_upto_region 13 with fail
        refine wp_world (fun V => ∃ k, k = V4.heap.size ∧ MIn B V ax P t (boxOb k (List.toArray [Value.int .i64 t.e, .int .u64 t.v, .int .i64 t.f, .int .i64 t.g, .int .i64 t.p]) :: [boxOb ks (List.toArray (snV s.g s.p s.st.length s.r)), stkOb B (.slice va K.length vc) K]) ∧ Below B V4 V) ⟨_, rfl, hM.out.new _ _⟩ ?_
        rintro V5 ⟨ko, hkk, hM1, hB1⟩
        rw [← hkk]
        clear hkk
        replace hG := Hz.mk (hG.out.trans hB1)
        replace hM := Hz.mk hM1
        clear hM1 hB1
        have A0 := hM.out.there (boxOb ko (List.toArray [Value.int .i64 t.e, .int .u64 t.v, .int .i64 t.f, .int .i64 t.g, .int .i64 t.p])) (by simp)
        have y0 : V5.cell? ⟨ko, 0, none⟩ = some (.int .i64 t.e) := A0.2.1 0
        clear A0
        by_cases het : t.e = 0
        · have he1 : (t.e != 0) = false := by simp [het]
          obtain ⟨h1, h2, hiok, hcase⟩ := hat het
          obtain ⟨i, hi⟩ : ∃ i, P.code[s.g][s.p] = i := ⟨_, rfl⟩
          rw [hi] at hiok hcase
          go_upto_region 15 with fail
          clear y0 he1
          have hsn := Hz.mk (snap_any B V5 ax P t _ hM.out)
          go_upto_region 15 with fail
          refine wp_region_lit ?_
          refine wpList_plain rfl (fun K hK => ?_)
          go_simp
          with_reducible refine hK _ _ ?_
          clear hK K
          try simp only [Act.put, List.setIfInBounds_toArray, List.set_cons_zero, List.set_cons_succ]
          refine wpList_plain rfl (fun K' hK => ?_)
          go_simp
          refine hsn.out.mono ?_
          rintro r V6 ⟨rfl, hBn⟩
          replace hBn := hBn.below
          clear hsn
          replace hG := Hz.mk (hG.out.trans (hBn.mono hM.out.le))
          replace hM := Hz.mk (hM.out.gr hBn)
          clear hBn
          with_reducible refine hK _ _ ?_
          clear hK K'
          try simp only [Act.put, List.setIfInBounds_toArray, List.set_cons_zero, List.set_cons_succ]
          obtain ⟨hM1, hB1, hth, -⟩ := hM.out.layC [Value.int .i64 0, .int .i64 0, .int .i64 0, .int .u64 0, .int .u64 0, .int .u64 0, .int .u64 0, .int .u64 0, .int .u64 0, .int .u64 0, .int .u64 0, .int .u64 0, .int .u64 0, .int .u64 0, .int .u64 0, .int .u64 0, .int .u64 0, .int .u64 0, .int .u64 0] (snV t.g t.p t.st.length t.r) 34 (by rw [snV_len]; rfl)
          rw [snV_len] at hth
          replace hth := Hz.mk hth
          replace hG := Hz.mk (hG.out.trans hB1)
          replace hM := Hz.mk hM1
          clear hM1 hB1
          refine wpList_plain rfl (fun K' hK => ?_)
          go_simp
          with_reducible refine hK _ _ ?_
          clear hK K'
          try simp only [Act.put, List.setIfInBounds_toArray, List.set_cons_zero, List.set_cons_succ]
          refine wpList_plain rfl (fun K' hK => ?_)
          refine wp_store_mid _ _ _ rfl _ _ (List.toArray (snV t.g t.p t.st.length t.r)) rfl rfl hth.out (by rw [List.size_toArray, snV_len]; kernel_rfl) (snV_one _ _ _ _) (hK _ _ ?_)
          clear hK K' hth
          try simp only [Act.put]
          generalize hVx : ((V6.alloc (.cells (List.toArray [Value.int .i64 0, .int .i64 0, .int .i64 0, .int .u64 0, .int .u64 0, .int .u64 0, .int .u64 0, .int .u64 0, .int .u64 0, .int .u64 0, .int .u64 0, .int .u64 0, .int .u64 0, .int .u64 0, .int .u64 0, .int .u64 0, .int .u64 0, .int .u64 0, .int .u64 0]) 34)).setCells V6.heap.size 0 (snV t.g t.p t.st.length t.r)) = V7 at *
          clear hVx
          generalize V6.heap.size = kt at *
          have A0 := hM.out.there (boxOb ks (List.toArray (snV s.g s.p s.st.length s.r))) (by simp)
          have x0 : V7.cell? ⟨ks, 0, none⟩ = some (.int .i64 s.g) := A0.2.1 0
          have x1 : V7.cell? ⟨ks, 1, none⟩ = some (.int .i64 s.p) := A0.2.1 1
          clear A0
          have hRv := hRw.out.bel hBe.out hG.out
          obtain ⟨cb, co, ra, rc, hca, hcb, hcc, hE⟩ := hRv.code s.g h1
          obtain ⟨rb, ro, hra, hrb, hri⟩ := hE s.p h2
          subst hra
          rw [hi] at hri
          have hcaZ := hca
          replace hri := Hz.mk (show V7.rangeAt rb (ro + s.p * 5) (Fi.vals i) from hri)
          clear hRv hE
          subst hca
          have hQv := at_belowB hQ.out hBe.out hG.out hkp.out
          have d0 : V7.cell? ⟨w.heap.size, 0, none⟩ = some (.slice (some ⟨cb, co, none⟩) R.code.length cc) := hQv.2.1 0
          clear hQv
          obtain ⟨nr, hnr⟩ : ∃ n, P.code[s.g].length = n := ⟨_, rfl⟩
          rw [hnr] at hcc h2
          have m1 : ¬ (s.p : Int) < 0 := by omega
          have m2 : ¬ (nr : Int) ≤ (s.p : Int) := by omega
          have m3 : (s.g : Int) < (R.code.length : Int) := by have := hgc.out; omega
          have m4 : (s.p : Int) < (nr : Int) := by omega
          go_wp2_with fail
          go_quiet (fail)
          have gq := drawn_below V7 nq
          replace hcc := (T.cell_of_block (gq.block cb hcb) _).trans hcc
          replace hri := Hz.mk (fun j v r => (T.cell_of_block (gq.block rb hrb) _).trans (hri.out j v r))
          replace hcb := Nat.lt_of_lt_of_le hcb gq.size
          replace hrb := Nat.lt_of_lt_of_le hrb gq.size
          replace hG := Hz.mk (hG.out.trans (gq.mono hM.out.le))
          replace hM := Hz.mk (hM.out.gr gq)
          generalize V7.drewN nq = V8 at *
          go_wp2_with fail
          clear x0 x1 d0 gq m1 m2
          have A0 := hM.out.there (boxOb ks (List.toArray (snV s.g s.p s.st.length s.r))) (by simp)
          have x0 : V8.cell? ⟨ks, 0, none⟩ = some (.int .i64 s.g) := A0.2.1 0
          have x1 : V8.cell? ⟨ks, 1, none⟩ = some (.int .i64 s.p) := A0.2.1 1
          have l1 := A0.1
          clear A0
          have hQv := at_belowB hQ.out hBe.out hG.out hkp.out
          have d0 : V8.cell? ⟨w.heap.size, 0, none⟩ = some (.slice (some ⟨cb, co, none⟩) R.code.length cc) := hQv.2.1 0
          have l0 := hQv.1
          clear hQv
          have KS : Hz (∀ V, Below V8.heap.size V8 V → (V.cell? ⟨w.heap.size, 0, none⟩ = some (.slice (some ⟨cb, co, none⟩) R.code.length cc) ∧ V.cell? ⟨ks, 0, none⟩ = some (.int .i64 s.g) ∧ V.cell? ⟨cb, co + s.g, none⟩ = some (.slice (some ⟨rb, ro, none⟩) nr rc) ∧ V.cell? ⟨ks, 1, none⟩ = some (.int .i64 s.p) ∧ V.rangeAt rb (ro + s.p * 5) (Fi.vals i))) := Hz.mk (fun V q => ⟨(T.cell_of_block (q.block _ l0) _).trans d0, (T.cell_of_block (q.block _ l1) _).trans x0, (T.cell_of_block (q.block _ hcb) _).trans hcc, (T.cell_of_block (q.block _ l1) _).trans x1, fun j v r => (T.cell_of_block (q.block rb hrb) _).trans (hri.out j v r)⟩)
          have g0 : Hz (Below V8.heap.size V8 V8.drew) := Hz.mk ((Below.refl _ _).drew)
          obtain ⟨hM1, hB1, hth, g9⟩ := (hM.out.gr g0.out).layC [Value.int .u8 0, .int .i64 0, .int .i64 0, .int .i64 0, .int .u64 0] (Fi.vals i) 44 rfl
          have hth := Hz.mk (show ((V8.alloc (.cells (List.toArray [Value.int .u8 0, .int .i64 0, .int .i64 0, .int .i64 0, .int .u64 0]) 44)).drew).there V8.heap.size 0 5 from hth)
          have hM1 := Hz.mk (show MIn B (((V8.alloc (.cells (List.toArray [Value.int .u8 0, .int .i64 0, .int .i64 0, .int .i64 0, .int .u64 0]) 44)).drew).setCells V8.heap.size 0 (Fi.vals i)) ax P t (boxOb V8.heap.size (List.toArray (Fi.vals i)) :: [boxOb kt (List.toArray (snV t.g t.p t.st.length t.r)), boxOb ko (List.toArray [Value.int .i64 t.e, .int .u64 t.v, .int .i64 t.f, .int .i64 t.g, .int .i64 t.p]), boxOb ks (List.toArray (snV s.g s.p s.st.length s.r)), stkOb B (.slice va K.length vc) K]) from hM1)
          have g9 := Hz.mk (show Below V8.heap.size V8 (((V8.alloc (.cells (List.toArray [Value.int .u8 0, .int .i64 0, .int .i64 0, .int .i64 0, .int .u64 0]) 44)).drew).setCells V8.heap.size 0 (Fi.vals i)) from g0.out.trans g9)
          have hB1 := Hz.mk (show Below B V8 (((V8.alloc (.cells (List.toArray [Value.int .u8 0, .int .i64 0, .int .i64 0, .int .i64 0, .int .u64 0]) 44)).drew).setCells V8.heap.size 0 (Fi.vals i)) from (g0.out.mono hM.out.le).trans hB1)
          clear d0 x0 x1 hcc
          refine wp_region_held_drew (S := (fun V => V.cell? ⟨w.heap.size, 0, none⟩ = some (.slice (some ⟨cb, co, none⟩) R.code.length cc) ∧ V.cell? ⟨ks, 0, none⟩ = some (.int .i64 s.g) ∧ V.cell? ⟨cb, co + s.g, none⟩ = some (.slice (some ⟨rb, ro, none⟩) nr rc) ∧ V.cell? ⟨ks, 1, none⟩ = some (.int .i64 s.p) ∧ V.rangeAt rb (ro + s.p * 5) (Fi.vals i))) (by kernel_rfl) (KS.out _ g0.out) (fun hHeld => ?_)
          refine wpAnyH_take (i := 0) (oi := { dst := some 88, op := Op.fieldAddr 25 (Operand.tmp 4) 0, type := 0, pos := "keeps.go:126", after := #[], guard := none }) (v := ?_) rfl (by kernel_rfl) (by kernel_rfl) (by kernel_rfl) (fun _ _ _ h => h) (Or.inl ⟨by rfl, ?_⟩) (by assumption) ?_
          rotate_left
          · intro w hSw; (try dsimp only at hSw); go_simp; first | done | with_reducible rfl
          try simp only [Act.put, List.setIfInBounds_toArray, List.set_cons_zero, List.set_cons_succ]
          refine wpAnyH_take (i := 1) (oi := { dst := some 89, op := Op.load 22 (Operand.tmp 88), type := 22, pos := "keeps.go:126", after := #[{ on := 0, ground := Ground.data }], guard := none }) (v := ?_) rfl (by kernel_rfl) (by kernel_rfl) (by kernel_rfl) (fun _ _ _ h => h) (Or.inl ⟨by rfl, ?_⟩) (by assumption) ?_
          rotate_left
          · intro w hSw; (try dsimp only at hSw); go_simp; first | done | with_reducible rfl
          try simp only [Act.put, List.setIfInBounds_toArray, List.set_cons_zero, List.set_cons_succ]
          refine wpAnyH_take (i := 2) (oi := { dst := some 90, op := Op.fieldAddr 34 (Operand.tmp 13) 0, type := 0, pos := "keeps.go:126", after := #[], guard := none }) (v := ?_) rfl (by kernel_rfl) (by kernel_rfl) (by kernel_rfl) (fun _ _ _ h => h) (Or.inl ⟨by rfl, ?_⟩) (by assumption) ?_
          rotate_left
          · intro w hSw; (try dsimp only at hSw); go_simp; first | done | with_reducible rfl
          try simp only [Act.put, List.setIfInBounds_toArray, List.set_cons_zero, List.set_cons_succ]
          refine wpAnyH_take (i := 3) (oi := { dst := some 91, op := Op.load 3 (Operand.tmp 90), type := 3, pos := "keeps.go:126", after := #[{ on := 2, ground := Ground.data }], guard := none }) (v := ?_) rfl (by kernel_rfl) (by kernel_rfl) (by kernel_rfl) (fun _ _ _ h => h) (Or.inl ⟨by rfl, ?_⟩) (by assumption) ?_
          rotate_left
          · intro w hSw; (try dsimp only at hSw); go_simp; first | done | with_reducible rfl
          try simp only [Act.put, List.setIfInBounds_toArray, List.set_cons_zero, List.set_cons_succ]
          refine wpAnyH_take (i := 4) (oi := { dst := some 92, op := Op.indexAddr 22 (Operand.tmp 89) (Operand.tmp 91), type := 0, pos := "keeps.go:126", after := #[{ on := 1, ground := Ground.data }, { on := 3, ground := Ground.data }], guard := none }) (v := ?_) rfl (by kernel_rfl) (by kernel_rfl) (by kernel_rfl) (fun _ _ _ h => h) (Or.inl ⟨by rfl, ?_⟩) (by assumption) ?_
          rotate_left
          · intro w hSw; (try dsimp only at hSw); go_simp; first | done | with_reducible rfl
          try simp only [Act.put, List.setIfInBounds_toArray, List.set_cons_zero, List.set_cons_succ]
          refine wpAnyH_take (i := 5) (oi := { dst := some 93, op := Op.load 41 (Operand.tmp 92), type := 41, pos := "keeps.go:126", after := #[{ on := 4, ground := Ground.data }], guard := none }) (v := ?_) rfl (by kernel_rfl) (by kernel_rfl) (by kernel_rfl) (fun _ _ _ h => h) (Or.inl ⟨by rfl, ?_⟩) (by assumption) ?_
          rotate_left
          · intro w hSw; (try dsimp only at hSw); go_simp; first | done | with_reducible rfl
          try simp only [Act.put, List.setIfInBounds_toArray, List.set_cons_zero, List.set_cons_succ]
          refine wpAnyH_take (i := 6) (oi := { dst := some 94, op := Op.fieldAddr 34 (Operand.tmp 13) 1, type := 0, pos := "keeps.go:126", after := #[], guard := none }) (v := ?_) rfl (by kernel_rfl) (by kernel_rfl) (by kernel_rfl) (fun _ _ _ h => h) (Or.inl ⟨by rfl, ?_⟩) (by assumption) ?_
          rotate_left
          · intro w hSw; (try dsimp only at hSw); go_simp; first | done | with_reducible rfl
          try simp only [Act.put, List.setIfInBounds_toArray, List.set_cons_zero, List.set_cons_succ]
          refine wpAnyH_take (i := 7) (oi := { dst := some 95, op := Op.load 3 (Operand.tmp 94), type := 3, pos := "keeps.go:126", after := #[{ on := 6, ground := Ground.data }], guard := none }) (v := ?_) rfl (by kernel_rfl) (by kernel_rfl) (by kernel_rfl) (fun _ _ _ h => h) (Or.inl ⟨by rfl, ?_⟩) (by assumption) ?_
          rotate_left
          · intro w hSw; (try dsimp only at hSw); go_simp; first | done | with_reducible rfl
          try simp only [Act.put, List.setIfInBounds_toArray, List.set_cons_zero, List.set_cons_succ]
          refine wpAnyH_take (i := 8) (oi := { dst := some 96, op := Op.indexAddr 41 (Operand.tmp 93) (Operand.tmp 95), type := 0, pos := "keeps.go:126", after := #[{ on := 5, ground := Ground.data }, { on := 7, ground := Ground.data }], guard := none }) (v := ?_) rfl (by kernel_rfl) (by kernel_rfl) (by kernel_rfl) (fun _ _ _ h => h) (Or.inl ⟨by rfl, ?_⟩) (by assumption) ?_
          rotate_left
          · intro w hSw; (try dsimp only at hSw); go_simp; first | done | with_reducible rfl
          try simp only [Act.put, List.setIfInBounds_toArray, List.set_cons_zero, List.set_cons_succ]
          refine wpAnyH_take (i := 9) (oi := { dst := some 97, op := Op.load 44 (Operand.tmp 96), type := 44, pos := "keeps.go:126", after := #[{ on := 8, ground := Ground.data }], guard := none }) (v := _) rfl (by kernel_rfl) (by kernel_rfl) (by kernel_rfl) (fun _ _ _ h => h) (yieldsIf_load_mid (by rfl) _ _ rfl _ _ rfl _ _ (fun _ h => h.2.2.2.2) Try.underlying44 rfl (by kernel_rfl)) (by assumption) ?_
          try simp only [Act.put, List.setIfInBounds_toArray, List.set_cons_zero, List.set_cons_succ]
          refine wpAnyH_ready (rs := [10]) (by kernel_rfl) (by simp) ?_
          refine (AllReadyH.cons (o := { dst := some 16, op := Op.alloc 44, type := 0, pos := "keeps.go:126", after := #[], guard := none }) rfl (fun K' hK => ?_) AllReadyH.nil)
          go_simp
          clear hHeld
          refine hK.out _ _ (KS.out _ (g0.out.alloc g0.out.size _)) (fun hHeld => ?_)
          clear hK K'
          try simp only [Act.put, List.setIfInBounds_toArray, List.set_cons_zero, List.set_cons_succ]
          refine wpAnyH_ready (rs := [11]) (by kernel_rfl) (by simp) ?_
          refine (AllReadyH.cons (o := { dst := none, op := Op.store 44 (Operand.tmp 16) (Operand.tmp 97), type := 0, pos := "keeps.go:126", after := #[{ on := 10, ground := Ground.data }, { on := 9, ground := Ground.data }, { on := 0, ground := Ground.phase }, { on := 1, ground := Ground.phase }, { on := 2, ground := Ground.phase }, { on := 3, ground := Ground.phase }, { on := 4, ground := Ground.phase }, { on := 5, ground := Ground.phase }, { on := 6, ground := Ground.phase }, { on := 7, ground := Ground.phase }, { on := 8, ground := Ground.phase }, { on := 9, ground := Ground.phase }, { on := 10, ground := Ground.phase }], guard := none }) rfl (fun K' hK => ?_) AllReadyH.nil)
          rw [if_pos (by rfl)]
          refine wp_store_mid _ _ _ rfl _ _ (List.toArray (Fi.vals i)) rfl rfl hth.out (by kernel_rfl) (fi_ones i) ?_
          clear hHeld
          refine hK.out _ _ (KS.out _ g9.out) (fun hHeld => ?_)
          clear hK K'
          try simp only [Act.put]
          refine wpAnyH_done (by kernel_rfl) ?_ _
          clear hHeld KS hth g0 g9
          replace hG := Hz.mk (hG.out.trans hB1.out)
          replace hM := hM1
          clear hM1 hB1 hri
          generalize hV9 : (((V8.alloc (.cells (List.toArray [Value.int .u8 0, .int .i64 0, .int .i64 0, .int .i64 0, .int .u64 0]) 44)).drew).setCells V8.heap.size 0 (Fi.vals i)) = V9 at *
          clear hV9
          generalize V8.heap.size = ki at *
          have A0 := hM.out.there (boxOb ks (List.toArray (snV s.g s.p s.st.length s.r))) (by simp)
          have h3 := Hz.mk (at_regs3 A0)
          clear A0
          go_upto_region 19 with fail
          refine wp_region_lit ?_
          refine wpList_plain rfl (fun K hK => ?_)
          go_simp
          with_reducible refine hK _ _ ?_
          clear hK K
          try simp only [Act.put, List.setIfInBounds_toArray, List.set_cons_zero, List.set_cons_succ]
          refine wpList_plain rfl (fun K hK => ?_)
          refine wp_load_mid _ _ rfl _ 3 rfl (regs s.r) _ h3.out Try.underlying32 rfl (by rw [regs_len]; kernel_rfl) (hK _ _ ?_)
          clear hK K
          try simp only [Act.put, List.setIfInBounds_toArray, List.set_cons_zero, List.set_cons_succ]
          clear h3
          obtain ⟨hM1, hB1, hth, -⟩ := hM.out.layC [Value.int .u64 0, .int .u64 0, .int .u64 0, .int .u64 0, .int .u64 0, .int .u64 0, .int .u64 0, .int .u64 0, .int .u64 0, .int .u64 0, .int .u64 0, .int .u64 0, .int .u64 0, .int .u64 0, .int .u64 0, .int .u64 0] (regs s.r) 32 (by rw [regs_len]; rfl)
          rw [regs_len] at hth
          replace hth := Hz.mk hth
          replace hG := Hz.mk (hG.out.trans hB1)
          replace hM := Hz.mk hM1
          clear hM1 hB1
          refine wpList_plain rfl (fun K' hK => ?_)
          go_simp
          with_reducible refine hK _ _ ?_
          clear hK K'
          try simp only [Act.put, List.setIfInBounds_toArray, List.set_cons_zero, List.set_cons_succ]
          refine wpList_plain rfl (fun K' hK => ?_)
          refine wp_store_mid _ _ _ rfl _ _ (List.toArray (regs s.r)) rfl rfl hth.out (by rw [List.size_toArray, regs_len]; kernel_rfl) (regs_ones _) (hK _ _ ?_)
          clear hK K' hth
          try simp only [Act.put]
          generalize hVx : ((V9.alloc (.cells (List.toArray [Value.int .u64 0, .int .u64 0, .int .u64 0, .int .u64 0, .int .u64 0, .int .u64 0, .int .u64 0, .int .u64 0, .int .u64 0, .int .u64 0, .int .u64 0, .int .u64 0, .int .u64 0, .int .u64 0, .int .u64 0, .int .u64 0]) 32)).setCells V9.heap.size 0 (regs s.r)) = V10 at *
          clear hVx
          generalize V9.heap.size = kw at *
          rcases hcase with ⟨hop, hop2, hel⟩ | ⟨hop, hcl⟩ | ⟨hop, L9, f9, hrt⟩
          · replace hel := Hz.mk hel
            have A0 := hM.out.there (boxOb ki (List.toArray (Fi.vals i))) (by simp)
            have z0 : V10.cell? ⟨ki, 0, none⟩ = some (.int .u8 i.op) := A0.2.1 0
            have z1 : V10.cell? ⟨ki, 1, none⟩ = some (.int .i64 i.a) := A0.2.1 1
            have z4 : V10.cell? ⟨ki, 4, none⟩ = some (.int .u64 i.i) := A0.2.1 4
            clear A0
            have A0 := hM.out.there (boxOb ks (List.toArray (snV s.g s.p s.st.length s.r))) (by simp)
            have x0 : V10.cell? ⟨ks, 0, none⟩ = some (.int .i64 s.g) := A0.2.1 0
            clear A0
            have hQv := at_belowB hQ.out hBe.out hG.out hkp.out
            have d1 : V10.cell? ⟨w.heap.size, 1, none⟩ = some (.slice ga R.gates.length gc) := hQv.2.1 1
            clear hQv
            have m1 : ¬ (i.a : Int) < 0 := by omega
            have m2 : ¬ (16 : Int) ≤ (i.a : Int) := by have := hiok.a; omega
            have m5 : ¬ (R.gates.length : Int) ≤ (s.g : Int) := by have := hgg.out; omega
            have o1 : (i.op == 31) = false := by simp [hop]
            have o3 : IntKind.u64.wrap (R.gates.length : Int) = (R.gates.length : Int) := by rw [IntKind.wrap_u64]; have := hgl.out; omega
            have o2 : (i.op == 32) = false := by simp [hop2]
            go_upto_region 23 with fail
            clear z0 z1 z4 x0 d1 m1 m2 m5 o1 o2 o3
            have hia := hiok.a
            have d9 : Below V10.heap.size V10 V10.drew := (Below.refl _ _).drew
            replace hG := Hz.mk (hG.out.trans (d9.mono hM.out.le))
            replace hM := Hz.mk (hM.out.gr d9)
            clear d9
            obtain ⟨hM1, hB1, c9, f9⟩ := hM.out.intoR [] [boxOb ki (List.toArray (Fi.vals i)), boxOb kt (List.toArray (snV t.g t.p t.st.length t.r)), boxOb ko (List.toArray [Value.int .i64 t.e, .int .u64 t.v, .int .i64 t.f, .int .i64 t.g, .int .i64 t.p]), boxOb ks (List.toArray (snV s.g s.p s.st.length s.r)), stkOb B (.slice va K.length vc) K] i.a hia (t.r i.a)
            have hM1 := Hz.mk (show MIn B ((V10.setCell ⟨kw, i.a, none⟩ (.int .u64 (t.r i.a))).drew) ax P t (boxOb kw (List.toArray (regs (updR s.r i.a (t.r i.a)))) :: [boxOb ki (List.toArray (Fi.vals i)), boxOb kt (List.toArray (snV t.g t.p t.st.length t.r)), boxOb ko (List.toArray [Value.int .i64 t.e, .int .u64 t.v, .int .i64 t.f, .int .i64 t.g, .int .i64 t.p]), boxOb ks (List.toArray (snV s.g s.p s.st.length s.r)), stkOb B (.slice va K.length vc) K]) from hM1)
            have hB1 := Hz.mk (show Below B V10.drew ((V10.setCell ⟨kw, i.a, none⟩ (.int .u64 (t.r i.a))).drew) from hB1)
            have KS : Hz (∀ V, MIn B V ax P t (boxOb kw (List.toArray (regs (updR s.r i.a (t.r i.a)))) :: [boxOb ki (List.toArray (Fi.vals i)), boxOb kt (List.toArray (snV t.g t.p t.st.length t.r)), boxOb ko (List.toArray [Value.int .i64 t.e, .int .u64 t.v, .int .i64 t.f, .int .i64 t.g, .int .i64 t.p]), boxOb ks (List.toArray (snV s.g s.p s.st.length s.r)), stkOb B (.slice va K.length vc) K]) → (V.cell? ⟨ki, 1, none⟩ = some (.int .i64 i.a) ∧ V.cell? ⟨kt, 3 + i.a, none⟩ = some (.int .u64 (t.r i.a)))) := Hz.mk (fun V q => by
              have A0 := q.there (boxOb ki (List.toArray (Fi.vals i))) (by simp)
              have A1 := q.there (boxOb kt (List.toArray (snV t.g t.p t.st.length t.r))) (by simp)
              exact ⟨A0.2.1 1, (at_regs3 A1) i.a _ (regs_at t.r i.a hia)⟩)
            have KS0 : Hz (V10.drew.cell? ⟨ki, 1, none⟩ = some (.int .i64 i.a) ∧ V10.drew.cell? ⟨kt, 3 + i.a, none⟩ = some (.int .u64 (t.r i.a))) := by
              have A0 := hM.out.there (boxOb ki (List.toArray (Fi.vals i))) (by simp)
              have A1 := hM.out.there (boxOb kt (List.toArray (snV t.g t.p t.st.length t.r))) (by simp)
              exact Hz.mk ⟨A0.2.1 1, (at_regs3 A1) i.a _ (regs_at t.r i.a hia)⟩
            have m6 : (i.a : Int) < 16 := by omega
            refine wp_region_held_drew (S := (fun V => V.cell? ⟨ki, 1, none⟩ = some (.int .i64 i.a) ∧ V.cell? ⟨kt, 3 + i.a, none⟩ = some (.int .u64 (t.r i.a)))) (by kernel_rfl) (KS0.out) (fun hHeld => ?_)
            refine wpAnyH_take (i := 0) (oi := { dst := some 132, op := Op.fieldAddr 44 (Operand.tmp 16) 1, type := 0, pos := "keeps.go:156", after := #[], guard := none }) (v := ?_) rfl (by kernel_rfl) (by kernel_rfl) (by kernel_rfl) (fun _ _ _ h => h) (Or.inl ⟨by rfl, ?_⟩) (by assumption) ?_
            rotate_left
            · intro w hSw; (try dsimp only at hSw); go_simp; first | done | with_reducible rfl
            try simp only [Act.put, List.setIfInBounds_toArray, List.set_cons_zero, List.set_cons_succ]
            refine wpAnyH_take (i := 1) (oi := { dst := some 133, op := Op.load 3 (Operand.tmp 132), type := 3, pos := "keeps.go:156", after := #[{ on := 0, ground := Ground.data }], guard := none }) (v := ?_) rfl (by kernel_rfl) (by kernel_rfl) (by kernel_rfl) (fun _ _ _ h => h) (Or.inl ⟨by rfl, ?_⟩) (by assumption) ?_
            rotate_left
            · intro w hSw; (try dsimp only at hSw); go_simp; first | done | with_reducible rfl
            try simp only [Act.put, List.setIfInBounds_toArray, List.set_cons_zero, List.set_cons_succ]
            refine wpAnyH_take (i := 2) (oi := { dst := some 134, op := Op.fieldAddr 44 (Operand.tmp 16) 1, type := 0, pos := "keeps.go:156", after := #[], guard := none }) (v := ?_) rfl (by kernel_rfl) (by kernel_rfl) (by kernel_rfl) (fun _ _ _ h => h) (Or.inl ⟨by rfl, ?_⟩) (by assumption) ?_
            rotate_left
            · intro w hSw; (try dsimp only at hSw); go_simp; first | done | with_reducible rfl
            try simp only [Act.put, List.setIfInBounds_toArray, List.set_cons_zero, List.set_cons_succ]
            refine wpAnyH_take (i := 3) (oi := { dst := some 135, op := Op.load 3 (Operand.tmp 134), type := 3, pos := "keeps.go:156", after := #[{ on := 2, ground := Ground.data }], guard := none }) (v := ?_) rfl (by kernel_rfl) (by kernel_rfl) (by kernel_rfl) (fun _ _ _ h => h) (Or.inl ⟨by rfl, ?_⟩) (by assumption) ?_
            rotate_left
            · intro w hSw; (try dsimp only at hSw); go_simp; first | done | with_reducible rfl
            try simp only [Act.put, List.setIfInBounds_toArray, List.set_cons_zero, List.set_cons_succ]
            refine wpAnyH_take (i := 4) (oi := { dst := some 136, op := Op.fieldAddr 34 (Operand.tmp 15) 3, type := 0, pos := "keeps.go:156", after := #[], guard := none }) (v := ?_) rfl (by kernel_rfl) (by kernel_rfl) (by kernel_rfl) (fun _ _ _ h => h) (Or.inl ⟨by rfl, ?_⟩) (by assumption) ?_
            rotate_left
            · intro w hSw; (try dsimp only at hSw); go_simp; first | done | with_reducible rfl
            try simp only [Act.put, List.setIfInBounds_toArray, List.set_cons_zero, List.set_cons_succ]
            refine wpAnyH_take (i := 5) (oi := { dst := some 137, op := Op.indexAddr 32 (Operand.tmp 136) (Operand.tmp 135), type := 0, pos := "keeps.go:156", after := #[{ on := 4, ground := Ground.data }, { on := 3, ground := Ground.data }], guard := none }) (v := ?_) rfl (by kernel_rfl) (by kernel_rfl) (by kernel_rfl) (fun _ _ _ h => h) (Or.inl ⟨by rfl, ?_⟩) (by assumption) ?_
            rotate_left
            · intro w hSw; (try dsimp only at hSw); go_simp; first | done | with_reducible rfl
            try simp only [Act.put, List.setIfInBounds_toArray, List.set_cons_zero, List.set_cons_succ]
            refine wpAnyH_take (i := 6) (oi := { dst := some 138, op := Op.load 31 (Operand.tmp 137), type := 31, pos := "keeps.go:156", after := #[{ on := 5, ground := Ground.data }], guard := none }) (v := ?_) rfl (by kernel_rfl) (by kernel_rfl) (by kernel_rfl) (fun _ _ _ h => h) (Or.inl ⟨by rfl, ?_⟩) (by assumption) ?_
            rotate_left
            · intro w hSw; (try dsimp only at hSw); go_simp; first | done | with_reducible rfl
            try simp only [Act.put, List.setIfInBounds_toArray, List.set_cons_zero, List.set_cons_succ]
            refine wpAnyH_take (i := 7) (oi := { dst := some 139, op := Op.indexAddr 32 (Operand.tmp 17) (Operand.tmp 133), type := 0, pos := "keeps.go:156", after := #[{ on := 1, ground := Ground.data }, { on := 0, ground := Ground.phase }, { on := 1, ground := Ground.phase }, { on := 2, ground := Ground.phase }, { on := 3, ground := Ground.phase }, { on := 4, ground := Ground.phase }, { on := 5, ground := Ground.phase }, { on := 6, ground := Ground.phase }], guard := none }) (v := ?_) rfl (by kernel_rfl) (by kernel_rfl) (by kernel_rfl) (fun _ _ _ h => h) (Or.inl ⟨by rfl, ?_⟩) (by assumption) ?_
            rotate_left
            · intro w hSw; (try dsimp only at hSw); go_simp; first | done | with_reducible rfl
            try simp only [Act.put, List.setIfInBounds_toArray, List.set_cons_zero, List.set_cons_succ]
            refine wpAnyH_ready (rs := [8]) (by kernel_rfl) (by simp) ?_
            refine (AllReadyH.cons (o := { dst := none, op := Op.store 31 (Operand.tmp 139) (Operand.tmp 138), type := 0, pos := "keeps.go:156", after := #[{ on := 7, ground := Ground.data }, { on := 6, ground := Ground.data }, { on := 0, ground := Ground.phase }, { on := 1, ground := Ground.phase }, { on := 2, ground := Ground.phase }, { on := 3, ground := Ground.phase }, { on := 4, ground := Ground.phase }, { on := 5, ground := Ground.phase }, { on := 6, ground := Ground.phase }], guard := none }) rfl (fun K' hK => ?_) AllReadyH.nil)
            go_simp
            clear hHeld
            refine hK.out _ _ (KS.out _ hM1.out) (fun hHeld => ?_)
            clear hK K'
            try simp only [Act.put]
            refine wpAnyH_done (by kernel_rfl) ?_ _
            clear hHeld KS KS0 c9 f9 m6
            replace hG := Hz.mk (hG.out.trans hB1.out)
            replace hM := hM1
            clear hM1 hB1
            generalize hV9 : ((V10.setCell ⟨kw, i.a, none⟩ (.int .u64 (t.r i.a))).drew) = V11 at *
            clear hV9
            rw [← el_r hel.out] at hM
            have A1 := hM.out.there (boxOb kw (List.toArray (regs t.r))) (by simp)
            have A0 := hM.out.there (boxOb kt (List.toArray (snV t.g t.p t.st.length t.r))) (by simp)
            have x0 : V11.cell? ⟨kt, 0, none⟩ = some (.int .i64 s.g) := (A0.2.1 0).trans (by rw [← hel.out.g]; rfl)
            have h3 := Hz.mk (at_regs3 A0)
            have h4 := Hz.mk (at_range A1)
            clear A0 A1
            have A0 := hM.out.there (boxOb ks (List.toArray (snV s.g s.p s.st.length s.r))) (by simp)
            have x1 : V11.cell? ⟨ks, 0, none⟩ = some (.int .i64 s.g) := A0.2.1 0
            clear A0
            have hne := rg_neq t.r
            go_upto_region 24 with fail
            refine wp_region_lit ?_
            refine wpList_plain rfl (fun K hK => ?_)
            go_simp
            with_reducible refine hK _ _ ?_
            clear hK K
            try simp only [Act.put, List.setIfInBounds_toArray, List.set_cons_zero, List.set_cons_succ]
            refine wpList_plain rfl (fun K hK => ?_)
            go_simp
            with_reducible refine hK _ _ ?_
            clear hK K
            try simp only [Act.put, List.setIfInBounds_toArray, List.set_cons_zero, List.set_cons_succ]
            refine wpList_plain rfl (fun K hK => ?_)
            go_simp
            with_reducible refine hK _ _ ?_
            clear hK K
            try simp only [Act.put, List.setIfInBounds_toArray, List.set_cons_zero, List.set_cons_succ]
            refine wpList_plain rfl (fun K hK => ?_)
            go_simp
            with_reducible refine hK _ _ ?_
            clear hK K
            try simp only [Act.put, List.setIfInBounds_toArray, List.set_cons_zero, List.set_cons_succ]
            refine wpList_plain rfl (fun K hK => ?_)
            go_simp
            with_reducible refine hK _ _ ?_
            clear hK K
            try simp only [Act.put, List.setIfInBounds_toArray, List.set_cons_zero, List.set_cons_succ]
            refine wpList_plain rfl (fun K hK => ?_)
            go_simp
            with_reducible refine hK _ _ ?_
            clear hK K
            try simp only [Act.put, List.setIfInBounds_toArray, List.set_cons_zero, List.set_cons_succ]
            refine BigFrame.wpList_want (by rfl) (fun K hK => ?_)
            go_simp
            with_reducible refine hK _ _ ?_
            clear hK K
            try simp only [Act.put, List.setIfInBounds_toArray, List.set_cons_zero, List.set_cons_succ]
            refine BigFrame.wpList_want (by rfl) (fun K hK => ?_)
            refine wp_load_mid _ _ rfl _ 3 rfl (regs t.r) _ h3.out Try.underlying32 rfl (by rw [regs_len]; kernel_rfl) (hK _ _ ?_)
            clear hK K
            try simp only [Act.put, List.setIfInBounds_toArray, List.set_cons_zero, List.set_cons_succ]
            refine BigFrame.wpList_want (by rfl) (fun K hK => ?_)
            refine wp_load_mid _ _ rfl _ 0 rfl (regs t.r) _ h4.out Try.underlying32 rfl (by rw [regs_len]; kernel_rfl) (hK _ _ ?_)
            clear hK K
            try simp only [Act.put, List.setIfInBounds_toArray, List.set_cons_zero, List.set_cons_succ]
            refine BigFrame.wpList_want (by rfl) (fun K hK => ?_)
            go_simp
            with_reducible refine hK _ _ ?_
            clear hK K
            try simp only [Act.put, List.setIfInBounds_toArray, List.set_cons_zero, List.set_cons_succ]
            refine wpList_plain rfl (fun K hK => ?_)
            go_simp
            with_reducible refine hK _ _ ?_
            clear hK K
            try simp only [Act.put, List.setIfInBounds_toArray, List.set_cons_zero, List.set_cons_succ]
            clear h3 h4 hne x0 x1
            replace hM := Hz.mk hM.out.drop.drop.drop.drop.drop
            go_wp2_with fail
            have hN1 : Hz ((stepsM P s0 (j + 1)).e = 0) := Hz.mk (by rw [hst2.out]; exact het)
            have hN2 : Hz ((stepsM P s0 (j + 1)).st = List.map Sk.fr (K)) := Hz.mk (by rw [hst2.out]; exact by rw [hel.out.st]; exact hK.out)
            have hN3 : Hz (MIn B V11 ax P (stepsM P s0 (j + 1)) [stkOb B (.slice va (K).length vc) (K)]) := Hz.mk (by rw [hst2.out]; first | exact hM.out | (rw [List.length_append]; exact hM.out))
            clear hM
            with_reducible refine And.intro (Exists.intro (j + 1) (Exists.intro (K) (Exists.intro va (Exists.intro vc (And.intro ?_ (And.intro ?_ (And.intro (Nat.succ_le_of_lt hjl) (And.intro hN3 (And.intro hN1 (And.intro hN2 hG)))))))))) ?_
            · first | rfl | (rw [List.length_append]; rfl)
            · first | rfl | rw [next_wY hjl (by decide)] | go_num
            · first | exact next_mY hjl | (rw [next_wY hjl (by decide)]; exact next_mY hjl)
          · replace hcl := Hz.mk hcl
            have A0 := hM.out.there (boxOb ki (List.toArray (Fi.vals i))) (by simp)
            have z0 : V10.cell? ⟨ki, 0, none⟩ = some (.int .u8 i.op) := A0.2.1 0
            have z1 : V10.cell? ⟨ki, 1, none⟩ = some (.int .i64 i.a) := A0.2.1 1
            have z4 : V10.cell? ⟨ki, 4, none⟩ = some (.int .u64 i.i) := A0.2.1 4
            clear A0
            have A0 := hM.out.there (boxOb ks (List.toArray (snV s.g s.p s.st.length s.r))) (by simp)
            have x0 : V10.cell? ⟨ks, 0, none⟩ = some (.int .i64 s.g) := A0.2.1 0
            clear A0
            have hQv := at_belowB hQ.out hBe.out hG.out hkp.out
            have d1 : V10.cell? ⟨w.heap.size, 1, none⟩ = some (.slice ga R.gates.length gc) := hQv.2.1 1
            clear hQv
            have m1 : ¬ (i.a : Int) < 0 := by omega
            have m2 : ¬ (16 : Int) ≤ (i.a : Int) := by have := hiok.a; omega
            have m5 : ¬ (R.gates.length : Int) ≤ (s.g : Int) := by have := hgg.out; omega
            have o1 : (i.op == 31) = true := by simp [hop]
            have o3 : IntKind.u64.wrap (R.gates.length : Int) = (R.gates.length : Int) := by rw [IntKind.wrap_u64]; have := hgl.out; omega
            have hgi : i.i.toNat < P.gates.length := by have := hiok.cl hop; have := hiok.im; omega
            have hgR : P.gates.length = R.gates.length := by rw [← hPe.out]; simp [Rp.pr]
            have m7 : ¬ (R.gates.length : Int) ≤ i.i := by omega
            have m10 : 0 ≤ i.i := hiok.im.1
            have m9 : i.i < (R.gates.length : Int) := by omega
            have m8 : IntKind.i64.wrap i.i = i.i := by rw [IntKind.wrap_i64]; have := hgl.out; omega
            go_upto_region 27 with fail
            clear z0 z1 x0 m1 m2 m5 o1 o3 m7
            have hRv := hRw.out.bel hBe.out hG.out
            obtain ⟨gb, go_, hga, hgb, hgr⟩ := hRv.gate i.i.toNat hgi
            subst hga
            obtain ⟨gg, hgg9⟩ : ∃ g, P.gates[i.i.toNat] = g := ⟨_, rfl⟩
            rw [hgg9] at hgr
            have hgr9 : Hz (V10.rangeAt gb (go_ + i.i.toNat * 19) (Fg.vals gg)) := Hz.mk hgr
            clear hRv hgr
            refine wp_region_lit ?_
            refine wpList_plain rfl (fun K' hK => ?_)
            go_simp
            with_reducible refine hK _ _ ?_
            clear hK K'
            try simp only [Act.put, List.setIfInBounds_toArray, List.set_cons_zero, List.set_cons_succ]
            refine wpList_plain rfl (fun K' hK => ?_)
            go_simp
            with_reducible refine hK _ _ ?_
            clear hK K'
            try simp only [Act.put, List.setIfInBounds_toArray, List.set_cons_zero, List.set_cons_succ]
            refine wpList_plain rfl (fun K' hK => ?_)
            go_simp
            with_reducible refine hK _ _ ?_
            clear hK K'
            try simp only [Act.put, List.setIfInBounds_toArray, List.set_cons_zero, List.set_cons_succ]
            refine wpList_plain rfl (fun K' hK => ?_)
            go_simp
            with_reducible refine hK _ _ ?_
            clear hK K'
            try simp only [Act.put, List.setIfInBounds_toArray, List.set_cons_zero, List.set_cons_succ]
            refine wpList_plain rfl (fun K' hK => ?_)
            go_simp
            with_reducible refine hK _ _ ?_
            clear hK K'
            try simp only [Act.put, List.setIfInBounds_toArray, List.set_cons_zero, List.set_cons_succ]
            refine wpList_plain rfl (fun K' hK => ?_)
            go_simp
            with_reducible refine hK _ _ ?_
            clear hK K'
            try simp only [Act.put, List.setIfInBounds_toArray, List.set_cons_zero, List.set_cons_succ]
            refine wpList_plain rfl (fun K' hK => ?_)
            refine wp_load_mid _ _ rfl _ (go_ + i.i.toNat * 19) rfl (Fg.vals gg) _ hgr9.out Try.underlying46 rfl (by rw [fg_len]; kernel_rfl) (hK _ _ ?_)
            clear hK K' hgr9
            try simp only [Act.put, List.setIfInBounds_toArray, List.set_cons_zero, List.set_cons_succ]
            obtain ⟨hM1, hB1, hth, -⟩ := hM.out.layC [Value.int .i64 0, .int .i64 0, .int .i64 0, .int .u64 0, .int .u64 0, .int .u64 0, .int .u64 0, .int .u64 0, .int .u64 0, .int .u64 0, .int .u64 0, .int .u64 0, .int .u64 0, .int .u64 0, .int .u64 0, .int .u64 0, .int .u64 0, .int .u64 0, .int .u64 0] (Fg.vals gg) 46 (by rw [fg_len]; rfl)
            rw [fg_len] at hth
            replace hth := Hz.mk hth
            replace hG := Hz.mk (hG.out.trans hB1)
            replace hM := Hz.mk hM1
            clear hM1 hB1
            refine wpList_plain rfl (fun K' hK => ?_)
            go_simp
            with_reducible refine hK _ _ ?_
            clear hK K'
            try simp only [Act.put, List.setIfInBounds_toArray, List.set_cons_zero, List.set_cons_succ]
            refine wpList_plain rfl (fun K' hK => ?_)
            refine wp_store_mid _ _ _ rfl _ _ (List.toArray (Fg.vals gg)) rfl rfl hth.out (by rw [List.size_toArray, fg_len]; kernel_rfl) (Fg.one gg) (hK _ _ ?_)
            clear hK K' hth
            try simp only [Act.put]
            generalize hVx : ((V10.alloc (.cells (List.toArray [Value.int .i64 0, .int .i64 0, .int .i64 0, .int .u64 0, .int .u64 0, .int .u64 0, .int .u64 0, .int .u64 0, .int .u64 0, .int .u64 0, .int .u64 0, .int .u64 0, .int .u64 0, .int .u64 0, .int .u64 0, .int .u64 0, .int .u64 0, .int .u64 0, .int .u64 0]) 46)).setCells V10.heap.size 0 (Fg.vals gg)) = V11 at *
            clear hVx
            generalize V10.heap.size = kg at *
            clear z4 d1 m9
            replace m8 := Hz.mk m8
            have A0 := hM.out.there (boxOb kg (List.toArray (Fg.vals gg))) (by simp)
            have h3 := Hz.mk (at_gregs3 A0)
            clear A0
            obtain ⟨hM1, hB1, hth⟩ := hM.out.into [boxOb kg (List.toArray (Fg.vals gg))] [boxOb ki (List.toArray (Fi.vals i)), boxOb kt (List.toArray (snV t.g t.p t.st.length t.r)), boxOb ko (List.toArray [Value.int .i64 t.e, .int .u64 t.v, .int .i64 t.f, .int .i64 t.g, .int .i64 t.p]), boxOb ks (List.toArray (snV s.g s.p s.st.length s.r)), stkOb B (.slice va K.length vc) K] (regs gg.r) (by rw [regs_len, regs_len])
            rw [regs_len] at hth
            replace hth := Hz.mk hth
            replace hG := Hz.mk (hG.out.trans hB1)
            replace hM := Hz.mk hM1
            clear hM1 hB1
            go_upto_region 28 with fail
            refine wp_region_lit ?_
            refine wpList_plain rfl (fun K' hK => ?_)
            go_simp
            with_reducible refine hK _ _ ?_
            clear hK K'
            try simp only [Act.put, List.setIfInBounds_toArray, List.set_cons_zero, List.set_cons_succ]
            refine wpList_plain rfl (fun K' hK => ?_)
            refine wp_load_mid _ _ rfl _ 3 rfl (regs gg.r) _ h3.out Try.underlying32 rfl (by rw [regs_len]; kernel_rfl) (hK _ _ ?_)
            clear hK K'
            try simp only [Act.put, List.setIfInBounds_toArray, List.set_cons_zero, List.set_cons_succ]
            refine wpList_plain rfl (fun K' hK => ?_)
            refine wp_store_mid _ _ _ rfl _ _ (List.toArray (regs gg.r)) rfl rfl hth.out (by rw [List.size_toArray, regs_len]; kernel_rfl) (regs_ones _) (hK _ _ ?_)
            clear hK K' hth h3
            try simp only [Act.put]
            generalize hVx : (V11.setCells kw 0 (regs gg.r)) = V12 at *
            clear hVx
            have hM := Hz.mk (show MIn B V12 ax P t [boxOb kg (List.toArray (Fg.vals gg)), boxOb kw (List.toArray (regs (Wn gg.r s.r 1))), boxOb ki (List.toArray (Fi.vals i)), boxOb kt (List.toArray (snV t.g t.p t.st.length t.r)), boxOb ko (List.toArray [Value.int .i64 t.e, .int .u64 t.v, .int .i64 t.f, .int .i64 t.g, .int .i64 t.p]), boxOb ks (List.toArray (snV s.g s.p s.st.length s.r)), stkOb B (.slice va K.length vc) K] by rw [Wn_one]; exact hM.out)
            have hga7 : gg.a ≤ 7 := by rw [← hgg9]; exact (pok.out.gate _ hgi (by rw [pok.out.nc]; exact hgi)).2.1
            go_upto_region 30 with fail
            go_loopw [19] (fun x wr => ∃ k : Nat, x = .int .i64 k ∧ 1 ≤ k ∧ k ≤ gg.a + 1 ∧ Hz (MIn B wr ax P t [boxOb kg (List.toArray (Fg.vals gg)), boxOb kw (List.toArray (regs (Wn gg.r s.r k))), boxOb ki (List.toArray (Fi.vals i)), boxOb kt (List.toArray (snV t.g t.p t.st.length t.r)), boxOb ko (List.toArray [Value.int .i64 t.e, .int .u64 t.v, .int .i64 t.f, .int .i64 t.g, .int .i64 t.p]), boxOb ks (List.toArray (snV s.g s.p s.st.length s.r)), stkOb B (.slice va K.length vc) K]) ∧ Hz (Below B V1 wr)) (fun x _ => 16 - (intOf x).toNat)
            case atStart => exact ⟨1, rfl, by omega, by omega, hM, hG⟩
            case round =>
              clear hM hG
              obtain ⟨k, rfl, hk1, hk2, hM, hG⟩ := hrel
              have A0 := hM.out.there (boxOb kg (List.toArray (Fg.vals gg))) (by simp)
              have n1 : wr.cell? ⟨kg, 1, none⟩ = some (.int .i64 gg.a) := A0.2.1 1
              clear A0
              by_cases hkl : k ≤ gg.a
              · have hki : (k : Int) ≤ (gg.a : Int) := by omega
                have hk16 : (k : Int) < 16 := by omega
                have hkn : k < 16 := by omega
                obtain ⟨hM1, hB1, c9, f9⟩ := hM.out.intoR [boxOb kg (List.toArray (Fg.vals gg))] [boxOb ki (List.toArray (Fi.vals i)), boxOb kt (List.toArray (snV t.g t.p t.st.length t.r)), boxOb ko (List.toArray [Value.int .i64 t.e, .int .u64 t.v, .int .i64 t.f, .int .i64 t.g, .int .i64 t.p]), boxOb ks (List.toArray (snV s.g s.p s.st.length s.r)), stkOb B (.slice va K.length vc) K] k hkn (s.r k)
                rw [← Wn_succ _ _ _ hk1] at hM1
                have A0 := hM.out.there (boxOb ks (List.toArray (snV s.g s.p s.st.length s.r))) (by simp)
                have x9 : wr.cell? ⟨ks, 3 + k, none⟩ = some (.int .u64 (s.r k)) := (at_regs3 A0) k _ (regs_at s.r k hkn)
                clear A0
                replace hG := Hz.mk (hG.out.trans hB1)
                replace hM := Hz.mk (show MIn B (wr.setCell ⟨kw, k, none⟩ (.int .u64 (s.r k))) ax P t [boxOb kg (List.toArray (Fg.vals gg)), boxOb kw (List.toArray (regs (Wn gg.r s.r (k + 1)))), boxOb ki (List.toArray (Fi.vals i)), boxOb kt (List.toArray (snV t.g t.p t.st.length t.r)), boxOb ko (List.toArray [Value.int .i64 t.e, .int .u64 t.v, .int .i64 t.f, .int .i64 t.g, .int .i64 t.p]), boxOb ks (List.toArray (snV s.g s.p s.st.length s.r)), stkOb B (.slice va K.length vc) K] from hM1)
                clear hM1 hB1
                go_wp2_with fail
                clear c9 f9 x9
                with_reducible refine And.intro (Exists.intro (k + 1) (And.intro ?_ (And.intro (by omega) (And.intro (by omega) (And.intro hM hG))))) ?_
                · first | rfl | rw [next_wY hkn (by decide)] | go_num
                · first | exact next_mY hkn | (rw [next_wY hkn (by decide)]; exact next_mY hkn)
              · obtain rfl : k = gg.a + 1 := by omega
                have hki : ¬ ((gg.a + 1 : Nat) : Int) ≤ (gg.a : Int) := by omega
                have A0 := hM.out.there (boxOb kg (List.toArray (Fg.vals gg))) (by simp)
                have n1 : wr.cell? ⟨kg, 1, none⟩ = some (.int .i64 gg.a) := A0.2.1 1
                clear A0
                have hrr : t.r = Wn gg.r s.r (gg.a + 1) := by rw [hcl.out.r, P.gate_at _ hgi, hgg9, Wn_ent]
                rw [← hrr] at hM
                clear hrr
                go_upto_region 33 with fail
                clear n1
                have A0 := hM.out.there (boxOb ks (List.toArray (snV s.g s.p s.st.length s.r))) (by simp)
                have h3 := Hz.mk (at_range A0)
                clear A0
                refine wp_region_lit ?_
                refine wpList_plain rfl (fun K' hK => ?_)
                go_simp
                with_reducible refine hK _ _ ?_
                clear hK K'
                try simp only [Act.put, List.setIfInBounds_toArray, List.set_cons_zero, List.set_cons_succ]
                refine wpList_plain rfl (fun K' hK => ?_)
                refine wp_load_mid _ _ rfl _ 0 rfl (snV s.g s.p s.st.length s.r) _ h3.out Try.underlying34 rfl (by rw [snV_len]; kernel_rfl) (hK _ _ ?_)
                clear hK K'
                try simp only [Act.put, List.setIfInBounds_toArray, List.set_cons_zero, List.set_cons_succ]
                clear h3
                refine wpList_plain rfl (fun K' hK => ?_)
                refine wp_build_sks _ rfl (⟨s.g, s.p, s.st.length, s.r⟩ : Sk) rfl (hK _ _ ?_)
                clear hK K'
                try simp only [Act.put, List.setIfInBounds_toArray, List.set_cons_zero, List.set_cons_succ]
                have hX : At (wr.alloc (.cells (List.toArray (Sk.vals (⟨s.g, s.p, s.st.length, s.r⟩ : Sk))) 34)) wr.heap.size (List.toArray (Sk.vals (⟨s.g, s.p, s.st.length, s.r⟩ : Sk))) := At.new wr _ _
                have hb9 : Below wr.heap.size wr (wr.alloc (.cells (List.toArray (Sk.vals (⟨s.g, s.p, s.st.length, s.r⟩ : Sk))) 34)) := (Below.refl _ wr).alloc (Nat.le_refl _) _
                replace hG := Hz.mk (hG.out.trans (hb9.mono hM.out.le))
                replace hM := Hz.mk (hM.out.gr hb9)
                clear hb9
                generalize hVx : wr.alloc (.cells (List.toArray (Sk.vals (⟨s.g, s.p, s.st.length, s.r⟩ : Sk))) 34) = V13 at *
                clear hVx
                generalize wr.heap.size = kX at *
                have hown : V13.ownsRow B 34 19 (.slice va K.length vc) K.length (K.flatMap Sk.vals) := hM.out.there (stkOb B (.slice va K.length vc) K) (by simp)
                have hle9 := hM.out.le
                have hKb : K.length ≤ 1000000 := by have h9 := hKl.out; have h8 := hdp.out; have h7 := ok.out.dp; omega
                refine wpList_plain rfl (fun K' hK => ?_)
                refine wp_append_z _ _ 30 34 (.agg #[.int .i64 0, .int .i64 0, .int .i64 0, .int .u64 0, .int .u64 0, .int .u64 0, .int .u64 0, .int .u64 0, .int .u64 0, .int .u64 0, .int .u64 0, .int .u64 0, .int .u64 0, .int .u64 0, .int .u64 0, .int .u64 0, .int .u64 0, .int .u64 0, .int .u64 0]) 19 152 rfl Try.underlying30 (by kernel_rfl) (by kernel_rfl) (by decide) (by decide) B (.slice va K.length vc) K.length (K.flatMap Sk.vals) (Sk.vals (⟨s.g, s.p, s.st.length, s.r⟩ : Sk)) (by rfl) hown kX (by rfl) hX (Sk.len _) (sk_one _) hKb hle9 ?_
                intro g9 cap w9 k1 k2 k3
                obtain ⟨hM1, hB1⟩ := hM.out.pushK [boxOb kg (List.toArray (Fg.vals gg)), boxOb kw (List.toArray (regs t.r)), boxOb ki (List.toArray (Fi.vals i)), boxOb kt (List.toArray (snV t.g t.p t.st.length t.r)), boxOb ko (List.toArray [Value.int .i64 t.e, .int .u64 t.v, .int .i64 t.f, .int .i64 t.g, .int .i64 t.p]), boxOb ks (List.toArray (snV s.g s.p s.st.length s.r))] (⟨s.g, s.p, s.st.length, s.r⟩ : Sk) k1 k2 k3
                replace hM1 := Hz.mk (show MIn B w9 ax P t [boxOb kg (List.toArray (Fg.vals gg)), boxOb kw (List.toArray (regs t.r)), boxOb ki (List.toArray (Fi.vals i)), boxOb kt (List.toArray (snV t.g t.p t.st.length t.r)), boxOb ko (List.toArray [Value.int .i64 t.e, .int .u64 t.v, .int .i64 t.f, .int .i64 t.g, .int .i64 t.p]), boxOb ks (List.toArray (snV s.g s.p s.st.length s.r)), stkOb B (.slice (some ⟨g9, 0, none⟩) (K.length + 1) cap) (K ++ [(⟨s.g, s.p, s.st.length, s.r⟩ : Sk)])] from hM1)
                replace hB1 := Hz.mk hB1
                clear k1 k2 k3 hown hX hle9
                with_reducible refine hK _ _ ?_
                clear hK K'
                try simp only [Act.put, List.setIfInBounds_toArray, List.set_cons_zero, List.set_cons_succ]
                replace hG := Hz.mk (hG.out.trans hB1.out)
                replace hM := hM1
                clear hM1 hB1
                have A0 := hM.out.there (boxOb kg (List.toArray (Fg.vals gg))) (by simp)
                have A1 := hM.out.there (boxOb kt (List.toArray (snV t.g t.p t.st.length t.r))) (by simp)
                have A2 := hM.out.there (boxOb ki (List.toArray (Fi.vals i))) (by simp)
                have A3 := hM.out.there (boxOb kw (List.toArray (regs t.r))) (by simp)
                have n0 : w9.cell? ⟨kg, 0, none⟩ = some (.int .i64 gg.e) := A0.2.1 0
                have q0 : w9.cell? ⟨kt, 0, none⟩ = some (.int .i64 t.g) := A1.2.1 0
                have q1 : w9.cell? ⟨kt, 1, none⟩ = some (.int .i64 t.p) := A1.2.1 1
                have z4 : w9.cell? ⟨ki, 4, none⟩ = some (.int .u64 i.i) := A2.2.1 4
                have h3 := Hz.mk (at_regs3 A1)
                have h4 := Hz.mk (at_range A3)
                clear A0 A1 A2 A3
                have w8 : IntKind.i64.wrap i.i = i.i := m8.out
                have e1 : ((t.g : Int) != i.i) = false := by rw [hcl.out.g]; have := m10; simp; omega
                have e2 : ((t.p : Int) != (gg.e : Int)) = false := by rw [hcl.out.p, P.gate_at _ hgi, hgg9]; simp
                have hne := rg_neq t.r
                go_upto_region 34 with fail
                refine wp_region_lit ?_
                refine wpList_plain rfl (fun K' hK => ?_)
                go_simp
                with_reducible refine hK _ _ ?_
                clear hK K'
                try simp only [Act.put, List.setIfInBounds_toArray, List.set_cons_zero, List.set_cons_succ]
                refine wpList_plain rfl (fun K' hK => ?_)
                go_simp
                with_reducible refine hK _ _ ?_
                clear hK K'
                try simp only [Act.put, List.setIfInBounds_toArray, List.set_cons_zero, List.set_cons_succ]
                refine wpList_plain rfl (fun K' hK => ?_)
                go_simp
                with_reducible refine hK _ _ ?_
                clear hK K'
                try simp only [Act.put, List.setIfInBounds_toArray, List.set_cons_zero, List.set_cons_succ]
                refine wpList_plain rfl (fun K' hK => ?_)
                go_simp
                with_reducible refine hK _ _ ?_
                clear hK K'
                try simp only [Act.put, List.setIfInBounds_toArray, List.set_cons_zero, List.set_cons_succ]
                refine wpList_plain rfl (fun K' hK => ?_)
                go_simp
                with_reducible refine hK _ _ ?_
                clear hK K'
                try simp only [Act.put, List.setIfInBounds_toArray, List.set_cons_zero, List.set_cons_succ]
                refine wpList_plain rfl (fun K' hK => ?_)
                go_simp
                with_reducible refine hK _ _ ?_
                clear hK K'
                try simp only [Act.put, List.setIfInBounds_toArray, List.set_cons_zero, List.set_cons_succ]
                refine wpList_plain rfl (fun K' hK => ?_)
                go_simp
                with_reducible refine hK _ _ ?_
                clear hK K'
                try simp only [Act.put, List.setIfInBounds_toArray, List.set_cons_zero, List.set_cons_succ]
                refine BigFrame.wpList_want (by rfl) (fun K' hK => ?_)
                go_simp
                with_reducible refine hK _ _ ?_
                clear hK K'
                try simp only [Act.put, List.setIfInBounds_toArray, List.set_cons_zero, List.set_cons_succ]
                refine BigFrame.wpList_want (by rfl) (fun K' hK => ?_)
                go_simp
                with_reducible refine hK _ _ ?_
                clear hK K'
                try simp only [Act.put, List.setIfInBounds_toArray, List.set_cons_zero, List.set_cons_succ]
                refine BigFrame.wpList_want (by rfl) (fun K' hK => ?_)
                go_simp
                with_reducible refine hK _ _ ?_
                clear hK K'
                try simp only [Act.put, List.setIfInBounds_toArray, List.set_cons_zero, List.set_cons_succ]
                refine BigFrame.wpList_want (by rfl) (fun K' hK => ?_)
                go_simp
                with_reducible refine hK _ _ ?_
                clear hK K'
                try simp only [Act.put, List.setIfInBounds_toArray, List.set_cons_zero, List.set_cons_succ]
                refine BigFrame.wpList_want (by rfl) (fun K' hK => ?_)
                go_simp
                with_reducible refine hK _ _ ?_
                clear hK K'
                try simp only [Act.put, List.setIfInBounds_toArray, List.set_cons_zero, List.set_cons_succ]
                refine wpList_plain rfl (fun K' hK => ?_)
                go_simp
                with_reducible refine hK _ _ ?_
                clear hK K'
                try simp only [Act.put, List.setIfInBounds_toArray, List.set_cons_zero, List.set_cons_succ]
                refine wpList_plain rfl (fun K' hK => ?_)
                go_simp
                with_reducible refine hK _ _ ?_
                clear hK K'
                try simp only [Act.put, List.setIfInBounds_toArray, List.set_cons_zero, List.set_cons_succ]
                refine BigFrame.wpList_want (by rfl) (fun K' hK => ?_)
                go_simp
                with_reducible refine hK _ _ ?_
                clear hK K'
                try simp only [Act.put, List.setIfInBounds_toArray, List.set_cons_zero, List.set_cons_succ]
                refine BigFrame.wpList_want (by rfl) (fun K' hK => ?_)
                refine wp_load_mid _ _ rfl _ 3 rfl (regs t.r) _ h3.out Try.underlying32 rfl (by rw [regs_len]; kernel_rfl) (hK _ _ ?_)
                clear hK K'
                try simp only [Act.put, List.setIfInBounds_toArray, List.set_cons_zero, List.set_cons_succ]
                refine BigFrame.wpList_want (by rfl) (fun K' hK => ?_)
                refine wp_load_mid _ _ rfl _ 0 rfl (regs t.r) _ h4.out Try.underlying32 rfl (by rw [regs_len]; kernel_rfl) (hK _ _ ?_)
                clear hK K'
                try simp only [Act.put, List.setIfInBounds_toArray, List.set_cons_zero, List.set_cons_succ]
                refine BigFrame.wpList_want (by rfl) (fun K' hK => ?_)
                go_simp
                with_reducible refine hK _ _ ?_
                clear hK K'
                try simp only [Act.put, List.setIfInBounds_toArray, List.set_cons_zero, List.set_cons_succ]
                refine wpList_plain rfl (fun K' hK => ?_)
                go_simp
                with_reducible refine hK _ _ ?_
                clear hK K'
                try simp only [Act.put, List.setIfInBounds_toArray, List.set_cons_zero, List.set_cons_succ]
                clear h3 h4 hne n0 q0 q1 z4 w8 e1 e2
                replace hM := Hz.mk hM.out.drop.drop.drop.drop.drop.drop
                go_wp2_with fail
                have hN1 : Hz ((stepsM P s0 (j + 1)).e = 0) := Hz.mk (by rw [hst2.out]; exact het)
                have hN2 : Hz ((stepsM P s0 (j + 1)).st = List.map Sk.fr (K ++ [(⟨s.g, s.p, s.st.length, s.r⟩ : Sk)])) := Hz.mk (by rw [hst2.out]; exact by rw [hcl.out.st, hK.out, List.map_append]; rfl)
                have hN3 : Hz (MIn B w9 ax P (stepsM P s0 (j + 1)) [stkOb B (.slice (some ⟨g9, 0, none⟩) (K ++ [(⟨s.g, s.p, s.st.length, s.r⟩ : Sk)]).length cap) (K ++ [(⟨s.g, s.p, s.st.length, s.r⟩ : Sk)])]) := Hz.mk (by rw [hst2.out]; first | exact hM.out | (rw [List.length_append]; exact hM.out))
                clear hM
                with_reducible refine And.intro (Exists.intro (j + 1) (Exists.intro (K ++ [(⟨s.g, s.p, s.st.length, s.r⟩ : Sk)]) (Exists.intro (some ⟨g9, 0, none⟩) (Exists.intro cap (And.intro ?_ (And.intro ?_ (And.intro (Nat.succ_le_of_lt hjl) (And.intro hN3 (And.intro hN1 (And.intro hN2 hG)))))))))) ?_
                · first | rfl | (rw [List.length_append]; rfl)
                · first | rfl | rw [next_wY hjl (by decide)] | go_num
                · first | exact next_mY hjl | (rw [next_wY hjl (by decide)]; exact next_mY hjl)
          · skip
            obtain ⟨K9, k9, hKK, hK9, hk9⟩ := sk_last (hK.out.symm.trans hrt.sst)
            subst hKK
            replace hK9 := Hz.mk hK9
            replace hk9 := Hz.mk hk9
            replace hrt := Hz.mk hrt
            have hkp9 : Hz (k9.p + 1 ≤ 400) := Hz.mk (by have := (hso.out.fr f9 (by rw [hrt.out.sst]; simp)).2.1; rw [← hk9.out] at this; exact this)
            obtain ⟨g9, hva, hrk, hvc, hMp⟩ := hM.out.topK [boxOb kw (List.toArray (regs s.r)), boxOb ki (List.toArray (Fi.vals i)), boxOb kt (List.toArray (snV t.g t.p t.st.length t.r)), boxOb ko (List.toArray [Value.int .i64 t.e, .int .u64 t.v, .int .i64 t.f, .int .i64 t.g, .int .i64 t.p]), boxOb ks (List.toArray (snV s.g s.p s.st.length s.r))]
            subst hva
            replace hrk := Hz.mk (show V10.rangeAt g9 (K9.length * 19) (Sk.vals k9) from hrk)
            replace hM := Hz.mk (show MIn B V10 ax P t [boxOb kw (List.toArray (regs s.r)), boxOb ki (List.toArray (Fi.vals i)), boxOb kt (List.toArray (snV t.g t.p t.st.length t.r)), boxOb ko (List.toArray [Value.int .i64 t.e, .int .u64 t.v, .int .i64 t.f, .int .i64 t.g, .int .i64 t.p]), boxOb ks (List.toArray (snV s.g s.p s.st.length s.r)), stkOb B (.slice (some ⟨g9, 0, none⟩) K9.length vc) K9] from hMp)
            clear hMp
            have hl9 : (K9 ++ [k9]).length = K9.length + 1 := by rw [List.length_append]; rfl
            rw [hl9]
            replace hl9 := Hz.mk hl9
            have A0 := hM.out.there (boxOb ki (List.toArray (Fi.vals i))) (by simp)
            have z0 : V10.cell? ⟨ki, 0, none⟩ = some (.int .u8 i.op) := A0.2.1 0
            have z1 : V10.cell? ⟨ki, 1, none⟩ = some (.int .i64 i.a) := A0.2.1 1
            have z4 : V10.cell? ⟨ki, 4, none⟩ = some (.int .u64 i.i) := A0.2.1 4
            clear A0
            have A0 := hM.out.there (boxOb ks (List.toArray (snV s.g s.p s.st.length s.r))) (by simp)
            have x0 : V10.cell? ⟨ks, 0, none⟩ = some (.int .i64 s.g) := A0.2.1 0
            clear A0
            have hQv := at_belowB hQ.out hBe.out hG.out hkp.out
            have d1 : V10.cell? ⟨w.heap.size, 1, none⟩ = some (.slice ga R.gates.length gc) := hQv.2.1 1
            clear hQv
            have m1 : ¬ (i.a : Int) < 0 := by omega
            have m2 : ¬ (16 : Int) ≤ (i.a : Int) := by have := hiok.a; omega
            have m5 : ¬ (R.gates.length : Int) ≤ (s.g : Int) := by have := hgg.out; omega
            have o1 : (i.op == 31) = false := by simp [hop]
            have o3 : IntKind.u64.wrap (R.gates.length : Int) = (R.gates.length : Int) := by rw [IntKind.wrap_u64]; have := hgl.out; omega
            have o2 : (i.op == 32) = true := by simp [hop]
            have hK9l : Hz (K9.length ≤ 16) := Hz.mk (by have h9 := hKl.out; have h8 := hdp.out; have h7 := ok.out.dp; rw [hl9.out] at h9; omega)
            have r0 : (((K9.length : Int) + 1) == 0) = false := beq_false_of_ne (by omega)
            have r2 : (K9.length : Int) < (K9.length : Int) + 1 := Int.lt_succ _
            have r3 : (K9.length : Int) ≤ (vc : Int) := Int.ofNat_le.2 hvc
            have r1 : wrap64 ((K9.length : Int) + 1 - 1) = (K9.length : Int) := by have h8 := hK9l.out; unfold wrap64; omega
            have r4 : IntKind.i64.wrap (K9.length : Int) = (K9.length : Int) := by rw [IntKind.wrap_i64]; have h8 := hK9l.out; omega
            have r5 : wrap64 (K9.length : Int) = (K9.length : Int) := by have h8 := hK9l.out; unfold wrap64; omega
            go_upto_region 39 with fail
            clear z0 z1 z4 x0 d1 m1 m2 m5 o1 o2 o3
            refine wp_region_lit ?_
            refine wpList_plain rfl (fun K' hK => ?_)
            go_simp
            with_reducible refine hK _ _ ?_
            clear hK K'
            try simp only [Act.put, List.setIfInBounds_toArray, List.set_cons_zero, List.set_cons_succ]
            refine wpList_plain rfl (fun K' hK => ?_)
            go_simp
            with_reducible refine hK _ _ ?_
            clear hK K'
            try simp only [Act.put, List.setIfInBounds_toArray, List.set_cons_zero, List.set_cons_succ]
            refine wpList_plain rfl (fun K' hK => ?_)
            go_simp
            with_reducible refine hK _ _ ?_
            clear hK K'
            try simp only [Act.put, List.setIfInBounds_toArray, List.set_cons_zero, List.set_cons_succ]
            refine wpList_plain rfl (fun K' hK => ?_)
            go_simp
            with_reducible refine hK _ _ ?_
            clear hK K'
            try simp only [Act.put, List.setIfInBounds_toArray, List.set_cons_zero, List.set_cons_succ]
            refine wpList_plain rfl (fun K' hK => ?_)
            go_simp
            with_reducible refine hK _ _ ?_
            clear hK K'
            try simp only [Act.put, List.setIfInBounds_toArray, List.set_cons_zero, List.set_cons_succ]
            refine wpList_plain rfl (fun K' hK => ?_)
            refine wp_load_mid _ _ rfl _ (K9.length * 19) (by first | rfl | (simp; done)) (Sk.vals k9) _ hrk.out Try.underlying34 rfl (by rw [Sk.len]; kernel_rfl) (hK _ _ ?_)
            clear hK K' hrk
            try simp only [Act.put, List.setIfInBounds_toArray, List.set_cons_zero, List.set_cons_succ]
            obtain ⟨hM1, hB1, hth, -⟩ := hM.out.layC [Value.int .i64 0, .int .i64 0, .int .i64 0, .int .u64 0, .int .u64 0, .int .u64 0, .int .u64 0, .int .u64 0, .int .u64 0, .int .u64 0, .int .u64 0, .int .u64 0, .int .u64 0, .int .u64 0, .int .u64 0, .int .u64 0, .int .u64 0, .int .u64 0, .int .u64 0] (Sk.vals k9) 34 (by rw [Sk.len]; rfl)
            rw [Sk.len] at hth
            replace hth := Hz.mk hth
            replace hG := Hz.mk (hG.out.trans hB1)
            replace hM := Hz.mk hM1
            clear hM1 hB1
            refine wpList_plain rfl (fun K' hK => ?_)
            go_simp
            with_reducible refine hK _ _ ?_
            clear hK K'
            try simp only [Act.put, List.setIfInBounds_toArray, List.set_cons_zero, List.set_cons_succ]
            refine wpList_plain rfl (fun K' hK => ?_)
            refine wp_store_mid _ _ _ rfl _ _ (List.toArray (Sk.vals k9)) rfl rfl hth.out (by rw [List.size_toArray, Sk.len]; kernel_rfl) (snV_one _ _ _ _) (hK _ _ ?_)
            clear hK K' hth
            try simp only [Act.put]
            generalize hVx : ((V10.alloc (.cells (List.toArray [Value.int .i64 0, .int .i64 0, .int .i64 0, .int .u64 0, .int .u64 0, .int .u64 0, .int .u64 0, .int .u64 0, .int .u64 0, .int .u64 0, .int .u64 0, .int .u64 0, .int .u64 0, .int .u64 0, .int .u64 0, .int .u64 0, .int .u64 0, .int .u64 0, .int .u64 0]) 34)).setCells V10.heap.size 0 (Sk.vals k9)) = V11 at *
            clear hVx
            generalize V10.heap.size = kq at *
            go_upto_region 41 with fail
            clear r0 r1 r2 r3 r4 r5
            have A0 := hM.out.there (boxOb kq (List.toArray (Sk.vals k9))) (by simp)
            have h3 := Hz.mk (show V11.rangeAt kq 3 (regs k9.r) from at_regs3 A0)
            clear A0
            obtain ⟨hM1, hB1, hth⟩ := hM.out.into [boxOb kq (List.toArray (Sk.vals k9))] [boxOb ki (List.toArray (Fi.vals i)), boxOb kt (List.toArray (snV t.g t.p t.st.length t.r)), boxOb ko (List.toArray [Value.int .i64 t.e, .int .u64 t.v, .int .i64 t.f, .int .i64 t.g, .int .i64 t.p]), boxOb ks (List.toArray (snV s.g s.p s.st.length s.r)), stkOb B (.slice (some ⟨g9, 0, none⟩) K9.length vc) K9] (regs k9.r) (by rw [regs_len, regs_len])
            rw [regs_len] at hth
            replace hth := Hz.mk hth
            replace hG := Hz.mk (hG.out.trans hB1)
            replace hM := Hz.mk hM1
            clear hM1 hB1
            refine wp_region_lit ?_
            refine wpList_plain rfl (fun K' hK => ?_)
            go_simp
            with_reducible refine hK _ _ ?_
            clear hK K'
            try simp only [Act.put, List.setIfInBounds_toArray, List.set_cons_zero, List.set_cons_succ]
            refine wpList_plain rfl (fun K' hK => ?_)
            refine wp_load_mid _ _ rfl _ 3 rfl (regs k9.r) _ h3.out Try.underlying32 rfl (by rw [regs_len]; kernel_rfl) (hK _ _ ?_)
            clear hK K'
            try simp only [Act.put, List.setIfInBounds_toArray, List.set_cons_zero, List.set_cons_succ]
            refine wpList_plain rfl (fun K' hK => ?_)
            refine wp_store_mid _ _ _ rfl _ _ (List.toArray (regs k9.r)) rfl rfl hth.out (by rw [List.size_toArray, regs_len]; kernel_rfl) (regs_ones _) (hK _ _ ?_)
            clear hK K' hth h3
            try simp only [Act.put]
            generalize hVx : (V11.setCells kw 0 (regs k9.r)) = V12 at *
            clear hVx
            have hM := Hz.mk (show MIn B V12 ax P t [boxOb kq (List.toArray (Sk.vals k9)), boxOb kw (List.toArray (regs (Wn k9.r s.r 1))), boxOb ki (List.toArray (Fi.vals i)), boxOb kt (List.toArray (snV t.g t.p t.st.length t.r)), boxOb ko (List.toArray [Value.int .i64 t.e, .int .u64 t.v, .int .i64 t.f, .int .i64 t.g, .int .i64 t.p]), boxOb ks (List.toArray (snV s.g s.p s.st.length s.r)), stkOb B (.slice (some ⟨g9, 0, none⟩) K9.length vc) K9] by rw [Wn_one]; exact hM.out)
            have hgP : s.g < P.gates.length := by rw [← pok.out.nc]; exact h1
            have hRv := hRw.out.bel hBe.out hG.out
            obtain ⟨gb, go_, hga, -, -⟩ := hRv.gate s.g hgP
            subst hga
            clear hRv
            obtain ⟨gg, hgg9⟩ : ∃ g, P.gates[s.g] = g := ⟨_, rfl⟩
            have hga7 : gg.s ≤ 7 := by rw [← hgg9]; exact (pok.out.gate _ hgP h1).2.2
            have m5 : (s.g : Int) < (R.gates.length : Int) := by have := hgg.out; omega
            go_upto_region 43 with fail
            go_loopw [21] (fun x wr => ∃ k : Nat, x = .int .i64 k ∧ 1 ≤ k ∧ k ≤ gg.s + 1 ∧ Hz (MIn B wr ax P t [boxOb kq (List.toArray (Sk.vals k9)), boxOb kw (List.toArray (regs (Wn k9.r s.r k))), boxOb ki (List.toArray (Fi.vals i)), boxOb kt (List.toArray (snV t.g t.p t.st.length t.r)), boxOb ko (List.toArray [Value.int .i64 t.e, .int .u64 t.v, .int .i64 t.f, .int .i64 t.g, .int .i64 t.p]), boxOb ks (List.toArray (snV s.g s.p s.st.length s.r)), stkOb B (.slice (some ⟨g9, 0, none⟩) K9.length vc) K9]) ∧ Hz (Below B V1 wr)) (fun x _ => 16 - (intOf x).toNat)
            case atStart => exact ⟨1, rfl, by omega, by omega, hM, hG⟩
            case round =>
              clear hM hG
              obtain ⟨k, rfl, hk1, hk2, hM, hG⟩ := hrel
              have hRv := hRw.out.bel hBe.out hG.out
              obtain ⟨gb2, go2, hga2, hgb2, hgr2⟩ := hRv.gate s.g hgP
              injection hga2 with hga2
              injection hga2 with hga3 hga4
              subst hga3 hga4
              rw [hgg9] at hgr2
              have n2 : wr.cell? ⟨gb, go_ + s.g * 19 + 2, none⟩ = some (.int .i64 gg.s) := hgr2 2 _ rfl
              clear hRv hgr2
              have A0 := hM.out.there (boxOb ks (List.toArray (snV s.g s.p s.st.length s.r))) (by simp)
              have x0 : wr.cell? ⟨ks, 0, none⟩ = some (.int .i64 s.g) := A0.2.1 0
              clear A0
              have hQv := at_belowB hQ.out hBe.out hG.out hkp.out
              have d1 : wr.cell? ⟨w.heap.size, 1, none⟩ = some (.slice (some ⟨gb, go_, none⟩) R.gates.length gc) := hQv.2.1 1
              clear hQv
              by_cases hkl : k ≤ gg.s
              · have hki : (k : Int) ≤ (gg.s : Int) := by omega
                have hk16 : (k : Int) < 16 := by omega
                have hkn : k < 16 := by omega
                obtain ⟨hM1, hB1, c9, f9⟩ := hM.out.intoR [boxOb kq (List.toArray (Sk.vals k9))] [boxOb ki (List.toArray (Fi.vals i)), boxOb kt (List.toArray (snV t.g t.p t.st.length t.r)), boxOb ko (List.toArray [Value.int .i64 t.e, .int .u64 t.v, .int .i64 t.f, .int .i64 t.g, .int .i64 t.p]), boxOb ks (List.toArray (snV s.g s.p s.st.length s.r)), stkOb B (.slice (some ⟨g9, 0, none⟩) K9.length vc) K9] k hkn (s.r k)
                rw [← Wn_succ _ _ _ hk1] at hM1
                have A0 := hM.out.there (boxOb ks (List.toArray (snV s.g s.p s.st.length s.r))) (by simp)
                have x9 : wr.cell? ⟨ks, 3 + k, none⟩ = some (.int .u64 (s.r k)) := (at_regs3 A0) k _ (regs_at s.r k hkn)
                clear A0
                replace hG := Hz.mk (hG.out.trans hB1)
                replace hM := Hz.mk (show MIn B (wr.setCell ⟨kw, k, none⟩ (.int .u64 (s.r k))) ax P t [boxOb kq (List.toArray (Sk.vals k9)), boxOb kw (List.toArray (regs (Wn k9.r s.r (k + 1)))), boxOb ki (List.toArray (Fi.vals i)), boxOb kt (List.toArray (snV t.g t.p t.st.length t.r)), boxOb ko (List.toArray [Value.int .i64 t.e, .int .u64 t.v, .int .i64 t.f, .int .i64 t.g, .int .i64 t.p]), boxOb ks (List.toArray (snV s.g s.p s.st.length s.r)), stkOb B (.slice (some ⟨g9, 0, none⟩) K9.length vc) K9] from hM1)
                clear hM1 hB1
                go_wp2_with fail
                clear c9 f9 x9
                with_reducible refine And.intro (Exists.intro (k + 1) (And.intro ?_ (And.intro (by omega) (And.intro (by omega) (And.intro hM hG))))) ?_
                · first | rfl | rw [next_wY hkn (by decide)] | go_num
                · first | exact next_mY hkn | (rw [next_wY hkn (by decide)]; exact next_mY hkn)
              · obtain rfl : k = gg.s + 1 := by omega
                have hki : ¬ ((gg.s + 1 : Nat) : Int) ≤ (gg.s : Int) := by omega
                have hRv := hRw.out.bel hBe.out hG.out
                obtain ⟨gb2, go2, hga2, hgb2, hgr2⟩ := hRv.gate s.g hgP
                injection hga2 with hga2
                injection hga2 with hga3 hga4
                subst hga3 hga4
                rw [hgg9] at hgr2
                have n2 : wr.cell? ⟨gb, go_ + s.g * 19 + 2, none⟩ = some (.int .i64 gg.s) := hgr2 2 _ rfl
                clear hRv hgr2
                have A0 := hM.out.there (boxOb ks (List.toArray (snV s.g s.p s.st.length s.r))) (by simp)
                have x0 : wr.cell? ⟨ks, 0, none⟩ = some (.int .i64 s.g) := A0.2.1 0
                clear A0
                have hQv := at_belowB hQ.out hBe.out hG.out hkp.out
                have d1 : wr.cell? ⟨w.heap.size, 1, none⟩ = some (.slice (some ⟨gb, go_, none⟩) R.gates.length gc) := hQv.2.1 1
                clear hQv
                have hrr : t.r = Wn k9.r s.r (gg.s + 1) := by rw [hrt.out.r, P.gate_at _ hgP, hgg9, Wn_ent, ← hk9.out]; rfl
                rw [← hrr] at hM
                clear hrr
                go_upto_region 46 with fail
                clear n2 x0 d1
                have A0 := hM.out.there (boxOb kq (List.toArray (Sk.vals k9))) (by simp)
                have A1 := hM.out.there (boxOb kt (List.toArray (snV t.g t.p t.st.length t.r))) (by simp)
                have A3 := hM.out.there (boxOb kw (List.toArray (regs t.r))) (by simp)
                have p0 : wr.cell? ⟨kq, 0, none⟩ = some (.int .i64 k9.g) := A0.2.1 0
                have p1 : wr.cell? ⟨kq, 1, none⟩ = some (.int .i64 k9.p) := A0.2.1 1
                have q0 : wr.cell? ⟨kt, 0, none⟩ = some (.int .i64 t.g) := A1.2.1 0
                have q1 : wr.cell? ⟨kt, 1, none⟩ = some (.int .i64 t.p) := A1.2.1 1
                have h3 := Hz.mk (at_regs3 A1)
                have h4 := Hz.mk (at_range A3)
                clear A0 A1 A3
                have e1 : ((t.g : Int) != (k9.g : Int)) = false := by rw [hrt.out.g, ← hk9.out]; simp [Sk.fr]
                have w8 : wrap64 ((k9.p : Int) + 1) = (k9.p : Int) + 1 := by have h9 := hkp9.out; unfold wrap64; omega
                have e2 : ((t.p : Int) != (k9.p : Int) + 1) = false := by rw [hrt.out.p, ← hk9.out]; simp [Sk.fr]
                have w9 : IntKind.i64.wrap ((k9.p : Int) + 1) = (k9.p : Int) + 1 := by rw [IntKind.wrap_i64]; have h9 := hkp9.out; clear w8 e1 e2; omega
                have hne := rg_neq t.r
                refine wp_region_lit ?_
                refine wpList_plain rfl (fun K' hK => ?_)
                go_simp
                with_reducible refine hK _ _ ?_
                clear hK K'
                try simp only [Act.put, List.setIfInBounds_toArray, List.set_cons_zero, List.set_cons_succ]
                refine wpList_plain rfl (fun K' hK => ?_)
                go_simp
                with_reducible refine hK _ _ ?_
                clear hK K'
                try simp only [Act.put, List.setIfInBounds_toArray, List.set_cons_zero, List.set_cons_succ]
                refine wpList_plain rfl (fun K' hK => ?_)
                go_simp
                with_reducible refine hK _ _ ?_
                clear hK K'
                try simp only [Act.put, List.setIfInBounds_toArray, List.set_cons_zero, List.set_cons_succ]
                refine wpList_plain rfl (fun K' hK => ?_)
                go_simp
                with_reducible refine hK _ _ ?_
                clear hK K'
                try simp only [Act.put, List.setIfInBounds_toArray, List.set_cons_zero, List.set_cons_succ]
                refine wpList_plain rfl (fun K' hK => ?_)
                go_simp
                with_reducible refine hK _ _ ?_
                clear hK K'
                try simp only [Act.put, List.setIfInBounds_toArray, List.set_cons_zero, List.set_cons_succ]
                refine wpList_plain rfl (fun K' hK => ?_)
                go_simp
                with_reducible refine hK _ _ ?_
                clear hK K'
                try simp only [Act.put, List.setIfInBounds_toArray, List.set_cons_zero, List.set_cons_succ]
                refine BigFrame.wpList_want (by rfl) (fun K' hK => ?_)
                go_simp
                with_reducible refine hK _ _ ?_
                clear hK K'
                try simp only [Act.put, List.setIfInBounds_toArray, List.set_cons_zero, List.set_cons_succ]
                refine BigFrame.wpList_want (by rfl) (fun K' hK => ?_)
                go_simp
                with_reducible refine hK _ _ ?_
                clear hK K'
                try simp only [Act.put, List.setIfInBounds_toArray, List.set_cons_zero, List.set_cons_succ]
                refine BigFrame.wpList_want (by rfl) (fun K' hK => ?_)
                go_simp
                with_reducible refine hK _ _ ?_
                clear hK K'
                try simp only [Act.put, List.setIfInBounds_toArray, List.set_cons_zero, List.set_cons_succ]
                refine BigFrame.wpList_want (by rfl) (fun K' hK => ?_)
                go_simp
                with_reducible refine hK _ _ ?_
                clear hK K'
                try simp only [Act.put, List.setIfInBounds_toArray, List.set_cons_zero, List.set_cons_succ]
                refine BigFrame.wpList_want (by rfl) (fun K' hK => ?_)
                go_simp
                with_reducible refine hK _ _ ?_
                clear hK K'
                try simp only [Act.put, List.setIfInBounds_toArray, List.set_cons_zero, List.set_cons_succ]
                refine BigFrame.wpList_want (by rfl) (fun K' hK => ?_)
                go_simp
                with_reducible refine hK _ _ ?_
                clear hK K'
                try simp only [Act.put, List.setIfInBounds_toArray, List.set_cons_zero, List.set_cons_succ]
                refine wpList_plain rfl (fun K' hK => ?_)
                go_simp
                with_reducible refine hK _ _ ?_
                clear hK K'
                try simp only [Act.put, List.setIfInBounds_toArray, List.set_cons_zero, List.set_cons_succ]
                refine wpList_plain rfl (fun K' hK => ?_)
                go_simp
                with_reducible refine hK _ _ ?_
                clear hK K'
                try simp only [Act.put, List.setIfInBounds_toArray, List.set_cons_zero, List.set_cons_succ]
                refine BigFrame.wpList_want (by rfl) (fun K' hK => ?_)
                go_simp
                with_reducible refine hK _ _ ?_
                clear hK K'
                try simp only [Act.put, List.setIfInBounds_toArray, List.set_cons_zero, List.set_cons_succ]
                refine BigFrame.wpList_want (by rfl) (fun K' hK => ?_)
                refine wp_load_mid _ _ rfl _ 3 rfl (regs t.r) _ h3.out Try.underlying32 rfl (by rw [regs_len]; kernel_rfl) (hK _ _ ?_)
                clear hK K'
                try simp only [Act.put, List.setIfInBounds_toArray, List.set_cons_zero, List.set_cons_succ]
                refine BigFrame.wpList_want (by rfl) (fun K' hK => ?_)
                refine wp_load_mid _ _ rfl _ 0 rfl (regs t.r) _ h4.out Try.underlying32 rfl (by rw [regs_len]; kernel_rfl) (hK _ _ ?_)
                clear hK K'
                try simp only [Act.put, List.setIfInBounds_toArray, List.set_cons_zero, List.set_cons_succ]
                refine BigFrame.wpList_want (by rfl) (fun K' hK => ?_)
                go_simp
                with_reducible refine hK _ _ ?_
                clear hK K'
                try simp only [Act.put, List.setIfInBounds_toArray, List.set_cons_zero, List.set_cons_succ]
                refine wpList_plain rfl (fun K' hK => ?_)
                go_simp
                with_reducible refine hK _ _ ?_
                clear hK K'
                try simp only [Act.put, List.setIfInBounds_toArray, List.set_cons_zero, List.set_cons_succ]
                clear h3 h4 hne p0 p1 q0 q1 w8 w9 e1 e2
                replace hM := Hz.mk hM.out.drop.drop.drop.drop.drop.drop
                go_wp2_with fail
                have hN1 : Hz ((stepsM P s0 (j + 1)).e = 0) := Hz.mk (by rw [hst2.out]; exact het)
                have hN2 : Hz ((stepsM P s0 (j + 1)).st = List.map Sk.fr (K9)) := Hz.mk (by rw [hst2.out]; exact by rw [hrt.out.st]; exact hK9.out.symm)
                have hN3 : Hz (MIn B wr ax P (stepsM P s0 (j + 1)) [stkOb B (.slice (some ⟨g9, 0, none⟩) (K9).length vc) (K9)]) := Hz.mk (by rw [hst2.out]; first | exact hM.out | (rw [List.length_append]; exact hM.out))
                clear hM
                with_reducible refine And.intro (Exists.intro (j + 1) (Exists.intro (K9) (Exists.intro (some ⟨g9, 0, none⟩) (Exists.intro vc (And.intro ?_ (And.intro ?_ (And.intro (Nat.succ_le_of_lt hjl) (And.intro hN3 (And.intro hN1 (And.intro hN2 hG)))))))))) ?_
                · first | rfl | (rw [List.length_append]; rfl)
                · first | rfl | rw [next_wY hjl (by decide)] | go_num
                · first | exact next_mY hjl | (rw [next_wY hjl (by decide)]; exact next_mY hjl)
        · skip
          have he1 : (t.e != 0) = true := by simpa using het
          go_wp2_with fail
          go_ret
          exact ⟨rfl, Gw.out.trans (hG.out.mono hBw.out)⟩
      · obtain rfl : j = 300 := by omega
        go_wp2_with fail
        go_ret
        exact ⟨rfl, Gw.out.trans (hG.out.mono hBw.out)⟩
  · have hno := hok
    clear hok
    replace hno := Hz.mk hno
    go_enter Try.func3, Try.ntmps3
    go_upto_region 1 with fail
    refine wp_world (fun W => At W w.heap.size #[.slice ca R.code.length cc, .slice ga R.gates.length gc, .string (T.str mem), .int .i64 R.dep] ∧ Gr w W) ⟨At.new w _ _, (Gr.refl _).alloc _⟩ ?_
    rintro W ⟨hQ, G⟩
    have hkp := hQ.1
    replace hb := Hz.mk (hb.out.below G.below)
    go_wp2_with fail
    refine (examples_any W).mono ?_
    rintro r V1 ⟨rfl, hB⟩
    replace hQ := Hz.mk (at_below hQ hB hkp)
    replace hb := Hz.mk (hb.out.below hB)
    replace G := Hz.mk (G.below.trans (hB.mono (Nat.le_of_lt hkp)))
    replace hkp := Hz.mk (Nat.lt_of_lt_of_le hkp hB.size)
    clear hB
    have d0 : V1.cell? ⟨w.heap.size, 0, none⟩ = some (.slice ca R.code.length cc) := hQ.out.2.1 0
    have d1 : V1.cell? ⟨w.heap.size, 1, none⟩ = some (.slice ga R.gates.length gc) := hQ.out.2.1 1
    have d2 : V1.cell? ⟨w.heap.size, 2, none⟩ = some (.string (T.str mem)) := hQ.out.2.1 2
    have d3 : V1.cell? ⟨w.heap.size, 3, none⟩ = some (.int .i64 R.dep) := hQ.out.2.1 3
    have hcl := Hz.mk (hb.out.none gate hno.out cc gc sc)
    go_wp2_with fail
    refine hcl.out.mono ?_
    rintro r V2 ⟨rfl, hB⟩
    clear d0 d1 d2 d3 hcl
    replace hQ := Hz.mk (at_below hQ.out hB hkp.out)
    replace hb := Hz.mk (hb.out.below hB)
    replace G := Hz.mk (G.out.trans (hB.mono (Nat.le_of_lt hkp.out)))
    replace hkp := Hz.mk (Nat.lt_of_lt_of_le hkp.out hB.size)
    clear hB
    go_wp2_with fail
    go_ret
    exact ⟨rfl, G.out⟩
end Z
end Go.Proofs.Ytlmgnfoopimmlaa
