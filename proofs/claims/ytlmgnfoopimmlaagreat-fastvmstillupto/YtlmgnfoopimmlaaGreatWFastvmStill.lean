import Derived.Test.YtlmgnfoopimmlaaGreatP54
import Derived.Test.YtlmgnfoopimmlaaGreatP53
/-
  Stage 13, fastvm: a step that ends the run changes nothing: the walk.
-/
namespace Go.Proofs.YtlmgnfoopimmlaaGreat
namespace Z
open Go.RowKit
open T (Sep Ob Kp Mf FlIn boxOb)

theorem next_i {n : Nat} (h : n ≤ 1000000) : wrap64 ((n : Int) + 1) = (n : Int) + 1 := by unfold wrap64; omega
theorem ok_out {s t : Fm} (h : StepOk s t) : s.out.length ≤ t.out.length ∧ t.out.length ≤ s.out.length + 1 := by
  rcases h with ⟨_, h⟩ | ⟨_, h⟩
  · rcases h.out with q | ⟨x, q⟩ <;> rw [q] <;> simp
  · rw [h.out]; omega
theorem ok_tc {s t : Fm} (h : StepOk s t) : s.tc.length ≤ t.tc.length ∧ t.tc.length ≤ s.tc.length + 1 := by
  rcases h with ⟨_, h⟩ | ⟨_, h⟩
  · rcases h.tc with ⟨q, _⟩ | ⟨x, q, _⟩ <;> rw [q] <;> simp
  · rw [h.tc]; omega
set_option maxRecDepth 100000 in
set_option maxHeartbeats 8000000 in
theorem walk_FastvmStill (R : Rp) (ca ga : Option Addr) (cc gc : Nat) (mem : List UInt8) (gate : Int) (A : List Int) (sa : Option Addr) (sc : Nat) (ia : Option Addr) (ic : Nat) (L : List Int) (w : World) (hb : Bgn w R ca ga mem A sa ia ic L) :
    Calls Tryz.prog 4 #[.agg #[.slice ca R.code.length cc, .slice ga R.gates.length gc, .string (T.str mem), .int .i64 R.dep], .int .i64 gate, .slice sa A.length sc, .slice ia L.length ic] w fun x w' => x = .returned (.bool true) ∧ Below w.heap.size w w' := by
  replace hb := Hz.mk hb
  by_cases hok : R.Ok mem.length ∧ 0 ≤ gate
  · skip
    obtain ⟨ok, h0⟩ := hok
    have pok := Hz.mk (ok.pr hb.out.wd.code)
    have rr := Hz.mk hb.out.wd.rr
    have hs := Hz.mk (hb.out.okn ok gate)
    have he0 := Hz.mk (st0_e R gate A L mem)
    replace ok := Hz.mk ok
    obtain ⟨P, hPe⟩ : ∃ P, R.pr = P := ⟨_, rfl⟩
    obtain ⟨s0, hs0⟩ : ∃ s, st0 R gate A L mem = s := ⟨_, rfl⟩
    rw [hPe] at pok rr hs
    rw [hs0] at hs he0
    replace hPe := Hz.mk hPe
    replace hs0 := Hz.mk hs0
    go_enter Tryz.func4, Tryz.ntmps4
    go_upto_region 1 with fail
    refine wp_world (fun W => At W w.heap.size #[.slice ca R.code.length cc, .slice ga R.gates.length gc, .string (T.str mem), .int .i64 R.dep] ∧ Gr w W) ⟨At.new w _ _, (Gr.refl _).alloc _⟩ ?_
    rintro W ⟨hQ, G⟩
    have hkp := hQ.1
    replace hb := Hz.mk (hb.out.below G.below)
    go_wp2_with fail
    refine (examples_any W).mono ?_
    rintro r V1 ⟨rfl, hB⟩
    replace hQ := Hz.mk (at_below hQ hB hkp)
    replace hb := Hz.mk (hb.out.below hB)
    replace G := Hz.mk (G.below.trans (hB.mono (Nat.le_of_lt hkp)))
    replace hkp := Hz.mk (Nat.lt_of_lt_of_le hkp hB.size)
    clear hB
    have G1 := Hz.mk (show w.heap.size ≤ V1.heap.size from G.out.size)
    have Gw := G
    have d0 : V1.cell? ⟨w.heap.size, 0, none⟩ = some (.slice ca R.code.length cc) := hQ.out.2.1 0
    have d1 : V1.cell? ⟨w.heap.size, 1, none⟩ = some (.slice ga R.gates.length gc) := hQ.out.2.1 1
    have d2 : V1.cell? ⟨w.heap.size, 2, none⟩ = some (.string (T.str mem)) := hQ.out.2.1 2
    have d3 : V1.cell? ⟨w.heap.size, 3, none⟩ = some (.int .i64 R.dep) := hQ.out.2.1 3
    have hcl := Hz.mk (hb.out.some ok.out gate h0 cc gc sc)
    rw [hs0.out, hPe.out] at hcl
    go_wp2_with fail
    refine hcl.out.mono ?_
    rintro r V2 ⟨ax, rfl, hMx, hBV2⟩
    replace hMx := Hz.mk hMx
    replace hBV2 := Hz.mk hBV2
    clear d0 d1 d2 d3 hcl
    replace hQ := Hz.mk (at_below hQ.out hBV2.out hkp.out)
    replace hb := Hz.mk (hb.out.below hBV2.out)
    replace G := Hz.mk (G.out.trans (hBV2.out.mono (Nat.le_of_lt hkp.out)))
    replace hkp := Hz.mk (Nat.lt_of_lt_of_le hkp.out hBV2.out.size)
    have hM := hMx
    have hG := hBV2
    have hBw : Hz (w.heap.size ≤ V1.heap.size) := Hz.mk (by have := G1.out; exact this)
    clear hMx hBV2 hQ hb hkp ok hPe hs0
    generalize V1.heap.size = B at *
    go_upto_region 6 with fail
    go_loopw [11] (fun x wr => ∃ j : Nat, x = .int .i64 j ∧ j ≤ 300 ∧ Hz (MIn B wr ax P (stepsM P s0 j) []) ∧ Hz ((stepsM P s0 j).e = 0) ∧ Hz (Below B V1 wr)) (fun x _ => 300 - (intOf x).toNat)
    case atStart => exact ⟨0, rfl, by decide, hM, he0, hG⟩
    case round =>
      clear hM hG
      obtain ⟨j, rfl, hj, hM, hej, hG⟩ := hrel
      by_cases hjl : j < 300
      · have hjl1 : (j : Int) < 300 := by omega
        have hst : Hz (stepsM P (stepsM P s0 j) 1 = stepsM P s0 (j + 1)) := Hz.mk (stepsM_one P s0 j)
        have hok : StepOk (stepsM P s0 j) (stepsM P s0 (j + 1)) := by
          have e : stepsM P s0 (j + 1) = stepM P (stepsM P s0 j) := by
            show (if (stepsM P s0 j).e = 0 then stepM P (stepsM P s0 j) else stepsM P s0 j) = _
            rw [if_pos hej.out]
          rw [e]
          exact stepM_ok P _ hej.out
        have hso := Hz.mk (okn_stepsM P pok.out rr.out s0 0 hs.out j)
        have hto := Hz.mk (okn_stepsM P pok.out rr.out s0 0 hs.out (j + 1))
        rw [Nat.zero_add] at hso hto
        obtain ⟨t, hst2⟩ : ∃ t, stepsM P s0 (j + 1) = t := ⟨_, rfl⟩
        rw [hst2] at hst hok hto
        obtain ⟨s, hss⟩ : ∃ s, stepsM P s0 j = s := ⟨_, rfl⟩
        rw [hss] at hst hok hso hM hej
        replace hst2 := Hz.mk hst2
        clear hss
        have hol : Hz (s.out.length ≤ 1000000) := Hz.mk (Nat.le_trans hso.out.ol (by omega))
        have htl : Hz (s.tc.length ≤ 1000000) := Hz.mk (Nat.le_trans hso.out.tl (by omega))
        have hol2 : Hz (t.out.length ≤ 1000000) := Hz.mk (Nat.le_trans hto.out.ol (by omega))
        have htl2 : Hz (t.tc.length ≤ 1000000) := Hz.mk (Nat.le_trans hto.out.tl (by omega))
        have hlo : Hz (s.out.length ≤ t.out.length ∧ t.out.length ≤ s.out.length + 1) := Hz.mk (ok_out hok)
        have hlt : Hz (s.tc.length ≤ t.tc.length ∧ t.tc.length ≤ s.tc.length + 1) := Hz.mk (ok_tc hok)
        replace hok := Hz.mk hok
        have hsn := Hz.mk (snap_any B wr ax P s [] hM.out)
        go_upto_region 8 with fail
        refine wp_region_lit ?_
        refine wpList_plain rfl (fun K hK => ?_)
        go_simp
        with_reducible refine hK _ _ ?_
        clear hK K
        try simp only [Act.put, List.setIfInBounds_toArray, List.set_cons_zero, List.set_cons_succ]
        refine wpList_plain rfl (fun K hK => ?_)
        go_simp
        refine hsn.out.mono ?_
        rintro r V2 ⟨rfl, hBn⟩
        replace hBn := hBn.below
        clear hsn
        replace hG := Hz.mk (hG.out.trans (hBn.mono hM.out.le))
        replace hM := Hz.mk (hM.out.gr hBn)
        clear hBn
        with_reducible refine hK _ _ ?_
        clear hK K
        try simp only [Act.put, List.setIfInBounds_toArray, List.set_cons_zero, List.set_cons_succ]
        obtain ⟨hM1, hB1, hth⟩ := hM.out.lay [Value.int .i64 0, .int .i64 0, .int .i64 0, .int .u64 0, .int .u64 0, .int .u64 0, .int .u64 0, .int .u64 0, .int .u64 0, .int .u64 0, .int .u64 0, .int .u64 0, .int .u64 0, .int .u64 0, .int .u64 0, .int .u64 0, .int .u64 0, .int .u64 0, .int .u64 0] (snV s.g s.p s.st.length s.r) 33 (by rw [snV_len]; rfl)
        replace hG := Hz.mk (hG.out.trans hB1)
        replace hM := Hz.mk hM1
        rw [snV_len] at hth
        replace hth := Hz.mk hth
        clear hM1 hB1
        refine wpList_plain rfl (fun K hK => ?_)
        go_simp
        with_reducible refine hK _ _ ?_
        clear hK K
        try simp only [Act.put, List.setIfInBounds_toArray, List.set_cons_zero, List.set_cons_succ]
        refine wpList_plain rfl (fun K hK => ?_)
        refine wp_store_mid _ _ _ rfl _ _ (List.toArray (snV s.g s.p s.st.length s.r)) rfl rfl hth.out (by rw [List.size_toArray, snV_len]; kernel_rfl) (snV_one _ _ _ _) (hK _ _ ?_)
        clear hK K hth
        try simp only [Act.put]
        generalize World.setCells _ _ _ _ = V3 at *
        generalize V2.heap.size = ks at *
        go_wp2_with fail
        refine (outs_any B V3 ax P s _ hM.out hol.out).mono ?_
        rintro r V4 ⟨va1, c1, rfl, hW1, hBn⟩
        clear hW1
        replace hG := Hz.mk (hG.out.trans (hBn.mono hM.out.le))
        replace hM := Hz.mk (hM.out.gr hBn)
        clear hBn
        go_wp2_with fail
        refine (tcs_any B V4 ax P s _ hM.out htl.out).mono ?_
        rintro r V5 ⟨va1, c1, rfl, hW1, hBn⟩
        clear hW1
        replace hG := Hz.mk (hG.out.trans (hBn.mono hM.out.le))
        replace hM := Hz.mk (hM.out.gr hBn)
        clear hBn
        go_wp2_with fail
        refine (mem_mv B V5 ax P s _ hM.out).mono ?_
        rintro r V6 ⟨rfl, hBn⟩
        replace hG := Hz.mk (hG.out.trans (hBn.mono hM.out.le))
        replace hM := Hz.mk (hM.out.gr hBn)
        clear hBn
        go_wp2_with fail
        refine (step_oc P pok.out rr.out s j hso.out (by omega) t hst.out B V6 ax _ hM.out).mono ?_
        rintro r V7 ⟨rfl, hM1, hBn⟩
        replace hG := Hz.mk (hG.out.trans hBn)
        replace hM := Hz.mk hM1
        clear hM1 hBn
        go_upto_region 13 with fail
        refine wp_world (fun V => ∃ k, k = V7.heap.size ∧ MIn B V ax P t (boxOb k (List.toArray [Value.int .i64 t.e, .int .u64 t.v, .int .i64 t.f, .int .i64 t.g, .int .i64 t.p]) :: [boxOb ks (List.toArray (snV s.g s.p s.st.length s.r))]) ∧ Below B V7 V) ⟨_, rfl, hM.out.new _ _⟩ ?_
        rintro V8 ⟨ko, hkk, hM1, hBn⟩
        rw [← hkk]
        clear hkk
        replace hG := Hz.mk (hG.out.trans hBn)
        replace hM := Hz.mk hM1
        clear hBn hM1
        go_wp2_with fail
        refine (tcs_any B V8 ax P t _ hM.out htl2.out).mono ?_
        rintro r V9 ⟨vt, ct, rfl, hT, hBn⟩
        replace hT := Hz.mk hT
        replace hG := Hz.mk (hG.out.trans (hBn.mono hM.out.le))
        replace hM := Hz.mk (hM.out.gr hBn)
        clear hBn
        have n1 : ¬ (t.out.length : Int) < (s.out.length : Int) := by have := hlo.out; omega
        go_wp2_with fail
        refine (outs_any B V9 ax P t _ hM.out hol2.out).mono ?_
        rintro r V10 ⟨va1, c1, rfl, hW1, hBn⟩
        clear hW1
        replace hT := Hz.mk (hT.out.below hBn)
        replace hG := Hz.mk (hG.out.trans (hBn.mono hM.out.le))
        replace hM := Hz.mk (hM.out.gr hBn)
        clear hBn
        have n2 : wrap64 ((s.out.length : Int) + 1) = (s.out.length : Int) + 1 := next_i hol.out
        have n3 : ¬ (s.out.length : Int) + 1 < (t.out.length : Int) := by have := hlo.out; omega
        have n4 : ¬ (t.tc.length : Int) < (s.tc.length : Int) := by have := hlt.out; omega
        have n5 : wrap64 ((s.tc.length : Int) + 1) = (s.tc.length : Int) + 1 := next_i htl.out
        have n6 : ¬ (s.tc.length : Int) + 1 < (t.tc.length : Int) := by have := hlt.out; omega
        go_wp2_with fail
        refine (outs_any B V10 ax P t _ hM.out hol2.out).mono ?_
        rintro r V11 ⟨va1, c1, rfl, hW1, hBn⟩
        clear hW1
        replace hT := Hz.mk (hT.out.below hBn)
        replace hG := Hz.mk (hG.out.trans (hBn.mono hM.out.le))
        replace hM := Hz.mk (hM.out.gr hBn)
        clear hBn
        rcases hok.out with ⟨het, hon⟩ | ⟨het, hoff⟩
        · clear hok
          replace hon := hon
          have he1 : (t.e != 0) = false := by simp [het]
          have A1 := hM.out.there (boxOb ko (List.toArray [Value.int .i64 t.e, .int .u64 t.v, .int .i64 t.f, .int .i64 t.g, .int .i64 t.p])) (by simp)
          have y0 : V11.cell? ⟨ko, 0, none⟩ = some (.int .i64 t.e) := A1.2.1 0
          clear A1
          go_upto_region 18 with fail
          clear y0 n1 n2 n3 n4 n5 n6 he1
          go_upto_region 19 with fail
          refine wp_world (fun V => ∃ k, k = V11.heap.size ∧ MIn B V ax P t (boxOb k (List.toArray [Value.bool false, .int .u64 0, .int .u64 0]) :: [boxOb ko (List.toArray [Value.int .i64 t.e, .int .u64 t.v, .int .i64 t.f, .int .i64 t.g, .int .i64 t.p]), boxOb ks (List.toArray (snV s.g s.p s.st.length s.r))]) ∧ Below B V11 V ∧ Below V11.heap.size V11 V) ⟨_, rfl, (hM.out.new _ _).1, (hM.out.new _ _).2, (Below.refl _ _).alloc (Nat.le_refl _) _⟩ ?_
          rintro V13 ⟨kk, hkk, hM1, hBn, hBm⟩
          rw [← hkk]
          clear hkk
          replace hG := Hz.mk (hG.out.trans hBn)
          replace hM := Hz.mk hM1
          replace hT := Hz.mk (hT.out.below hBm)
          clear hBn hM1 hBm
          rcases hon.tc with ⟨htc, hmm⟩ | ⟨k, htc, hkn, hkm, hka⟩
          · replace hmm := Hz.mk hmm
            have n7 : ¬ (s.tc.length : Int) < (t.tc.length : Int) := by rw [htc]; omega
            have A0 := hM.out.there (boxOb kk (List.toArray [Value.bool false, .int .u64 0, .int .u64 0])) (by simp)
            have x0 : V13.cell? ⟨kk, 0, none⟩ = some (.bool false) := A0.2.1 0
            clear A0
            go_upto_region 24 with fail
            clear x0 n7
            have A0 := hM.out.there (boxOb kk (List.toArray [Value.bool false, .int .u64 0, .int .u64 0])) (by simp)
            have hth := Hz.mk (A0.there 0 3 (by simp))
            have hA9 := At.setAll A0 [Value.bool false, .int .u64 0, .int .u64 0] rfl
            have hK9 := kp_setsZ V13 kk [Value.bool false, .int .u64 0, .int .u64 0] 0
            obtain ⟨hM3, hB3⟩ := hM.out.side (o' := boxOb kk (List.toArray [Value.bool false, .int .u64 0, .int .u64 0])) hA9 hK9 (fun _ r => .inl r)
            refine wp_region_lit ?_
            refine wpList_plain rfl (fun K hK => ?_)
            go_simp
            with_reducible refine hK _ _ ?_
            clear hK K
            try simp only [Act.put, List.setIfInBounds_toArray, List.set_cons_zero, List.set_cons_succ]
            refine wpList_plain rfl (fun K hK => ?_)
            refine wp_store_mid _ _ _ rfl _ _ (List.toArray [Value.bool false, .int .u64 0, .int .u64 0]) rfl rfl hth.out (by kernel_rfl) (by simp [Value.oneCell']) (hK _ _ ?_)
            clear hK K hth
            try simp only [Act.put]
            replace hG := Hz.mk (hG.out.trans hB3)
            replace hM := Hz.mk hM3
            clear hM3 hB3 hA9 hK9 A0
            generalize World.setCells _ _ _ _ = V14 at *
            go_upto_region 25 with fail
            have KS : Hz (∀ V, Below V14.heap.size V14 V → (V.cell? ⟨kk, 1, none⟩ = some (.int .u64 0) ∧ V.cell? ⟨kk, 2, none⟩ = some (.int .u64 0))) := Hz.mk (fun V q => by
              have A0 := (hM.out.gr q).there (boxOb kk (List.toArray [Value.bool false, .int .u64 0, .int .u64 0])) (by simp)
              exact ⟨A0.2.1 1, A0.2.1 2⟩)
            have g0 : Below V14.heap.size V14 V14.drew := (Below.refl _ _).drew
            refine wp_region_held_drew (S := (fun V => V.cell? ⟨kk, 1, none⟩ = some (.int .u64 0) ∧ V.cell? ⟨kk, 2, none⟩ = some (.int .u64 0))) (by kernel_rfl) (KS.out _ g0) (fun hHeld => ?_)
            refine wpAnyH_take (i := 0) (oi := { dst := some 152, op := Op.move (Operand.tmp 15), type := 9, pos := "keeps.go:97", after := #[], guard := none }) (v := ?_) rfl (by kernel_rfl) (by kernel_rfl) (by kernel_rfl) (fun _ _ _ h => h) (Or.inl ⟨by rfl, ?_⟩) (by assumption) ?_
            rotate_left
            · intro w hSw; (try dsimp only at hSw); go_simp; first | done | with_reducible rfl
            try simp only [Act.put, List.setIfInBounds_toArray, List.set_cons_zero, List.set_cons_succ]
            refine wpAnyH_take (i := 1) (oi := { dst := some 153, op := Op.move (Operand.tmp 10), type := 23, pos := "keeps.go:97", after := #[], guard := none }) (v := ?_) rfl (by kernel_rfl) (by kernel_rfl) (by kernel_rfl) (fun _ _ _ h => h) (Or.inl ⟨by rfl, ?_⟩) (by assumption) ?_
            rotate_left
            · intro w hSw; (try dsimp only at hSw); go_simp; first | done | with_reducible rfl
            try simp only [Act.put, List.setIfInBounds_toArray, List.set_cons_zero, List.set_cons_succ]
            refine wpAnyH_take (i := 3) (oi := { dst := some 155, op := Op.fieldAddr 49 (Operand.tmp 18) 1, type := 0, pos := "keeps.go:97", after := #[], guard := none }) (v := ?_) rfl (by kernel_rfl) (by kernel_rfl) (by kernel_rfl) (fun _ _ _ h => h) (Or.inl ⟨by rfl, ?_⟩) (by assumption) ?_
            rotate_left
            · intro w hSw; (try dsimp only at hSw); go_simp; first | done | with_reducible rfl
            try simp only [Act.put, List.setIfInBounds_toArray, List.set_cons_zero, List.set_cons_succ]
            refine wpAnyH_take (i := 4) (oi := { dst := some 156, op := Op.load 25 (Operand.tmp 155), type := 25, pos := "keeps.go:97", after := #[{ on := 3, ground := Ground.data }], guard := none }) (v := ?_) rfl (by kernel_rfl) (by kernel_rfl) (by kernel_rfl) (fun _ _ _ h => h) (Or.inl ⟨by rfl, ?_⟩) (by assumption) ?_
            rotate_left
            · intro w hSw; (try dsimp only at hSw); go_simp; first | done | with_reducible rfl
            try simp only [Act.put, List.setIfInBounds_toArray, List.set_cons_zero, List.set_cons_succ]
            refine wpAnyH_take (i := 5) (oi := { dst := some 157, op := Op.fieldAddr 49 (Operand.tmp 18) 2, type := 0, pos := "keeps.go:97", after := #[], guard := none }) (v := ?_) rfl (by kernel_rfl) (by kernel_rfl) (by kernel_rfl) (fun _ _ _ h => h) (Or.inl ⟨by rfl, ?_⟩) (by assumption) ?_
            rotate_left
            · intro w hSw; (try dsimp only at hSw); go_simp; first | done | with_reducible rfl
            try simp only [Act.put, List.setIfInBounds_toArray, List.set_cons_zero, List.set_cons_succ]
            refine wpAnyH_take (i := 6) (oi := { dst := some 158, op := Op.load 25 (Operand.tmp 157), type := 25, pos := "keeps.go:97", after := #[{ on := 5, ground := Ground.data }], guard := none }) (v := ?_) rfl (by kernel_rfl) (by kernel_rfl) (by kernel_rfl) (fun _ _ _ h => h) (Or.inl ⟨by rfl, ?_⟩) (by assumption) ?_
            rotate_left
            · intro w hSw; (try dsimp only at hSw); go_simp; first | done | with_reducible rfl
            try simp only [Act.put, List.setIfInBounds_toArray, List.set_cons_zero, List.set_cons_succ]
            refine wpAnyH_ready (rs := [2]) (by kernel_rfl) (by simp) ?_
            refine AllReadyH.cons (o := { dst := some 154, op := Op.call { callee := Callee.value (Operand.func 13), args := #[Operand.tmp 153], argTypes := #[23] }, type := 9, pos := "keeps.go:97", after := #[{ on := 1, ground := Ground.data }], guard := none }) rfl (fun K hK => ?_) AllReadyH.nil
            go_simp
            go_wp2_with (refine (mem_mv B _ ax P t _ (hM.out.gr g0)).mono ?_; rintro r U1 ⟨rfl, gg⟩; have g1 := g0.trans (gg.mono g0.size); clear gg g0 hHeld)
            refine hK.out _ _ (KS.out _ g1) (fun hHeld => ?_)
            clear hK K
            try simp only [Act.put, List.setIfInBounds_toArray, List.set_cons_zero, List.set_cons_succ]
            refine wpAnyH_ready (rs := [7]) (by kernel_rfl) (by simp) ?_
            refine AllReadyH.cons (o := { dst := some 159, op := Op.call { callee := Callee.value (Operand.func 16), args := #[Operand.tmp 152, Operand.tmp 154, Operand.tmp 156, Operand.tmp 158], argTypes := #[9, 9, 25, 25] }, type := 4, pos := "keeps.go:97", after := #[{ on := 0, ground := Ground.data }, { on := 2, ground := Ground.data }, { on := 4, ground := Ground.data }, { on := 6, ground := Ground.data }, { on := 2, ground := Ground.chain }], guard := none }) rfl (fun K hK => ?_) AllReadyH.nil
            go_simp
            go_wp2_with (refine (chg_mv s.m t.m 0 0 _ (by decide) (by decide) (by decide) (fun i _ => by rw [hmm.out])).mono ?_; rintro r U2 ⟨rfl, gg⟩; have g2 := g1.trans (gg.mono g1.size); clear gg g1 hHeld)
            refine hK.out _ _ (KS.out _ g2) (fun hHeld => ?_)
            clear hK K
            try simp only [Act.put, List.setIfInBounds_toArray, List.set_cons_zero, List.set_cons_succ]
            refine wpAnyH_take (i := 8) (oi := { dst := some 19, op := Op.assign (Operand.tmp 159), type := 4, pos := "keeps.go:97", after := #[{ on := 7, ground := Ground.data }, { on := 7, ground := Ground.chain }, { on := 0, ground := Ground.phase }, { on := 1, ground := Ground.phase }, { on := 2, ground := Ground.phase }, { on := 3, ground := Ground.phase }, { on := 4, ground := Ground.phase }, { on := 5, ground := Ground.phase }, { on := 6, ground := Ground.phase }, { on := 7, ground := Ground.phase }], guard := none }) (v := ?_) rfl (by kernel_rfl) (by kernel_rfl) (by kernel_rfl) (fun _ _ _ h => h) (Or.inl ⟨by rfl, ?_⟩) (by assumption) ?_
            rotate_left
            · intro w hSw; (try dsimp only at hSw); go_simp; first | done | with_reducible rfl
            try simp only [Act.put, List.setIfInBounds_toArray, List.set_cons_zero, List.set_cons_succ]
            refine wpAnyH_done (by kernel_rfl) ?_ _
            clear hHeld KS
            replace hG := Hz.mk (hG.out.trans (g2.mono hM.out.le))
            replace hM := Hz.mk (hM.out.gr g2).drop.drop.drop
            clear g2
            go_wp2_with fail
            refine ⟨⟨j + 1, ?_, hjl, by rw [hst2.out]; exact hM, by rw [hst2.out]; exact Hz.mk het, hG⟩, ?_⟩
            · first | rfl | rw [next_wY hjl (by decide)] | go_num
            · first | exact next_mY hjl | (rw [next_wY hjl (by decide)]; exact next_mY hjl)
          · replace hkn := Hz.mk hkn
            replace hkm := Hz.mk hkm
            replace hka := Hz.mk hka
            cases hks : k.s
            · skip
              have n7 : (s.tc.length : Int) < (t.tc.length : Int) := by rw [htc, List.length_append, List.length_singleton]; omega
              have hil : s.tc.length < t.tc.length := by rw [htc]; simp
              obtain ⟨tb, tf, rfl, htb, htcell⟩ := hT.out s.tc.length hil
              have ek : t.tc[s.tc.length] = k := by simp [htc]
              rw [ek] at htcell
              have A0 := hM.out.there (boxOb kk (List.toArray [Value.bool false, .int .u64 0, .int .u64 0])) (by simp)
              have hth := Hz.mk (A0.there 0 3 (by simp))
              have hA9 := At.setAll A0 [Value.bool k.s, .int .u64 k.a, .int .u64 k.n] rfl
              have hK9 := kp_setsZ V13 kk [Value.bool k.s, .int .u64 k.a, .int .u64 k.n] 0
              obtain ⟨hM3, hB3⟩ := hM.out.side (o' := boxOb kk (List.toArray [Value.bool k.s, .int .u64 k.a, .int .u64 k.n])) hA9 hK9 (fun _ r => .inl r)
              replace hA9 := Hz.mk hA9
              replace hK9 := Hz.mk hK9
              replace hM3 := Hz.mk hM3
              replace hB3 := Hz.mk hB3
              have hrk : Hz (V13.rangeAt tb (tf + s.tc.length * 3) [Value.bool k.s, .int .u64 k.a, .int .u64 k.n]) := Hz.mk htcell
              clear htcell A0
              go_upto_region 20 with fail
              clear n7
              refine wp_region_lit ?_
              refine wpList_plain rfl (fun K hK => ?_)
              go_simp
              with_reducible refine hK _ _ ?_
              clear hK K
              try simp only [Act.put, List.setIfInBounds_toArray, List.set_cons_zero, List.set_cons_succ]
              refine wpList_plain rfl (fun K hK => ?_)
              go_simp
              with_reducible refine hK _ _ ?_
              clear hK K
              try simp only [Act.put, List.setIfInBounds_toArray, List.set_cons_zero, List.set_cons_succ]
              refine wpList_plain rfl (fun K hK => ?_)
              go_simp
              with_reducible refine hK _ _ ?_
              clear hK K
              try simp only [Act.put, List.setIfInBounds_toArray, List.set_cons_zero, List.set_cons_succ]
              refine wpList_plain rfl (fun K hK => ?_)
              refine wp_load_mid _ _ rfl _ (tf + s.tc.length * 3) rfl [Value.bool k.s, .int .u64 k.a, .int .u64 k.n] _ hrk.out Tryz.underlying49 rfl (by kernel_rfl) (hK _ _ ?_)
              clear hK K
              try simp only [Act.put, List.setIfInBounds_toArray, List.set_cons_zero, List.set_cons_succ]
              refine wpList_plain rfl (fun K hK => ?_)
              refine wp_store_mid _ _ _ rfl _ _ (List.toArray [Value.bool k.s, .int .u64 k.a, .int .u64 k.n]) rfl rfl hth.out (by kernel_rfl) (by simp [Value.oneCell']) (hK _ _ ?_)
              clear hK K hth hrk
              try simp only [Act.put]
              replace hG := Hz.mk (hG.out.trans hB3.out)
              replace hM := hM3
              clear hM3 hB3 hA9 hK9
              generalize World.setCells _ _ _ _ = V13b at *
              have A0 := hM.out.there (boxOb kk (List.toArray [Value.bool k.s, .int .u64 k.a, .int .u64 k.n])) (by simp)
              have x0 : V13b.cell? ⟨kk, 0, none⟩ = some (.bool false) := (A0.2.1 0).trans (by simp [hks])
              have x2 : V13b.cell? ⟨kk, 2, none⟩ = some (.int .u64 k.n) := A0.2.1 2
              clear A0
              rcases hkn.out with q1 | q1 | q1
              · skip
                have w1 : ((k.n != 1) : Bool) = false := by rw [q1]; decide
                have w8 : ((k.n != 8) : Bool) = true := by rw [q1]; decide
                have w16 : ((k.n != 16) : Bool) = true := by rw [q1]; decide
                go_upto_region 24 with fail
                clear x0 x2 w1 w8 w16 q1
                have A0 := hM.out.there (boxOb kk (List.toArray [Value.bool k.s, .int .u64 k.a, .int .u64 k.n])) (by simp)
                have hth := Hz.mk (A0.there 0 3 (by simp))
                have hA9 := At.setAll A0 [Value.bool false, .int .u64 0, .int .u64 0] rfl
                have hK9 := kp_setsZ V13b kk [Value.bool false, .int .u64 0, .int .u64 0] 0
                obtain ⟨hM3, hB3⟩ := hM.out.side (o' := boxOb kk (List.toArray [Value.bool false, .int .u64 0, .int .u64 0])) hA9 hK9 (fun _ r => .inl r)
                refine wp_region_lit ?_
                refine wpList_plain rfl (fun K hK => ?_)
                go_simp
                with_reducible refine hK _ _ ?_
                clear hK K
                try simp only [Act.put, List.setIfInBounds_toArray, List.set_cons_zero, List.set_cons_succ]
                refine wpList_plain rfl (fun K hK => ?_)
                refine wp_store_mid _ _ _ rfl _ _ (List.toArray [Value.bool false, .int .u64 0, .int .u64 0]) rfl rfl hth.out (by kernel_rfl) (by simp [Value.oneCell']) (hK _ _ ?_)
                clear hK K hth
                try simp only [Act.put]
                replace hG := Hz.mk (hG.out.trans hB3)
                replace hM := Hz.mk hM3
                clear hM3 hB3 hA9 hK9 A0
                generalize World.setCells _ _ _ _ = V14 at *
                go_upto_region 25 with fail
                have KS : Hz (∀ V, Below V14.heap.size V14 V → (V.cell? ⟨kk, 1, none⟩ = some (.int .u64 0) ∧ V.cell? ⟨kk, 2, none⟩ = some (.int .u64 0))) := Hz.mk (fun V q => by
                  have A0 := (hM.out.gr q).there (boxOb kk (List.toArray [Value.bool false, .int .u64 0, .int .u64 0])) (by simp)
                  exact ⟨A0.2.1 1, A0.2.1 2⟩)
                have g0 : Below V14.heap.size V14 V14.drew := (Below.refl _ _).drew
                refine wp_region_held_drew (S := (fun V => V.cell? ⟨kk, 1, none⟩ = some (.int .u64 0) ∧ V.cell? ⟨kk, 2, none⟩ = some (.int .u64 0))) (by kernel_rfl) (KS.out _ g0) (fun hHeld => ?_)
                refine wpAnyH_take (i := 0) (oi := { dst := some 152, op := Op.move (Operand.tmp 15), type := 9, pos := "keeps.go:97", after := #[], guard := none }) (v := ?_) rfl (by kernel_rfl) (by kernel_rfl) (by kernel_rfl) (fun _ _ _ h => h) (Or.inl ⟨by rfl, ?_⟩) (by assumption) ?_
                rotate_left
                · intro w hSw; (try dsimp only at hSw); go_simp; first | done | with_reducible rfl
                try simp only [Act.put, List.setIfInBounds_toArray, List.set_cons_zero, List.set_cons_succ]
                refine wpAnyH_take (i := 1) (oi := { dst := some 153, op := Op.move (Operand.tmp 10), type := 23, pos := "keeps.go:97", after := #[], guard := none }) (v := ?_) rfl (by kernel_rfl) (by kernel_rfl) (by kernel_rfl) (fun _ _ _ h => h) (Or.inl ⟨by rfl, ?_⟩) (by assumption) ?_
                rotate_left
                · intro w hSw; (try dsimp only at hSw); go_simp; first | done | with_reducible rfl
                try simp only [Act.put, List.setIfInBounds_toArray, List.set_cons_zero, List.set_cons_succ]
                refine wpAnyH_take (i := 3) (oi := { dst := some 155, op := Op.fieldAddr 49 (Operand.tmp 18) 1, type := 0, pos := "keeps.go:97", after := #[], guard := none }) (v := ?_) rfl (by kernel_rfl) (by kernel_rfl) (by kernel_rfl) (fun _ _ _ h => h) (Or.inl ⟨by rfl, ?_⟩) (by assumption) ?_
                rotate_left
                · intro w hSw; (try dsimp only at hSw); go_simp; first | done | with_reducible rfl
                try simp only [Act.put, List.setIfInBounds_toArray, List.set_cons_zero, List.set_cons_succ]
                refine wpAnyH_take (i := 4) (oi := { dst := some 156, op := Op.load 25 (Operand.tmp 155), type := 25, pos := "keeps.go:97", after := #[{ on := 3, ground := Ground.data }], guard := none }) (v := ?_) rfl (by kernel_rfl) (by kernel_rfl) (by kernel_rfl) (fun _ _ _ h => h) (Or.inl ⟨by rfl, ?_⟩) (by assumption) ?_
                rotate_left
                · intro w hSw; (try dsimp only at hSw); go_simp; first | done | with_reducible rfl
                try simp only [Act.put, List.setIfInBounds_toArray, List.set_cons_zero, List.set_cons_succ]
                refine wpAnyH_take (i := 5) (oi := { dst := some 157, op := Op.fieldAddr 49 (Operand.tmp 18) 2, type := 0, pos := "keeps.go:97", after := #[], guard := none }) (v := ?_) rfl (by kernel_rfl) (by kernel_rfl) (by kernel_rfl) (fun _ _ _ h => h) (Or.inl ⟨by rfl, ?_⟩) (by assumption) ?_
                rotate_left
                · intro w hSw; (try dsimp only at hSw); go_simp; first | done | with_reducible rfl
                try simp only [Act.put, List.setIfInBounds_toArray, List.set_cons_zero, List.set_cons_succ]
                refine wpAnyH_take (i := 6) (oi := { dst := some 158, op := Op.load 25 (Operand.tmp 157), type := 25, pos := "keeps.go:97", after := #[{ on := 5, ground := Ground.data }], guard := none }) (v := ?_) rfl (by kernel_rfl) (by kernel_rfl) (by kernel_rfl) (fun _ _ _ h => h) (Or.inl ⟨by rfl, ?_⟩) (by assumption) ?_
                rotate_left
                · intro w hSw; (try dsimp only at hSw); go_simp; first | done | with_reducible rfl
                try simp only [Act.put, List.setIfInBounds_toArray, List.set_cons_zero, List.set_cons_succ]
                refine wpAnyH_ready (rs := [2]) (by kernel_rfl) (by simp) ?_
                refine AllReadyH.cons (o := { dst := some 154, op := Op.call { callee := Callee.value (Operand.func 13), args := #[Operand.tmp 153], argTypes := #[23] }, type := 9, pos := "keeps.go:97", after := #[{ on := 1, ground := Ground.data }], guard := none }) rfl (fun K hK => ?_) AllReadyH.nil
                go_simp
                go_wp2_with (refine (mem_mv B _ ax P t _ (hM.out.gr g0)).mono ?_; rintro r U1 ⟨rfl, gg⟩; have g1 := g0.trans (gg.mono g0.size); clear gg g0 hHeld)
                refine hK.out _ _ (KS.out _ g1) (fun hHeld => ?_)
                clear hK K
                try simp only [Act.put, List.setIfInBounds_toArray, List.set_cons_zero, List.set_cons_succ]
                refine wpAnyH_ready (rs := [7]) (by kernel_rfl) (by simp) ?_
                refine AllReadyH.cons (o := { dst := some 159, op := Op.call { callee := Callee.value (Operand.func 16), args := #[Operand.tmp 152, Operand.tmp 154, Operand.tmp 156, Operand.tmp 158], argTypes := #[9, 9, 25, 25] }, type := 4, pos := "keeps.go:97", after := #[{ on := 0, ground := Ground.data }, { on := 2, ground := Ground.data }, { on := 4, ground := Ground.data }, { on := 6, ground := Ground.data }, { on := 2, ground := Ground.chain }], guard := none }) rfl (fun K hK => ?_) AllReadyH.nil
                go_simp
                go_wp2_with (refine (chg_mv s.m t.m 0 0 _ (by decide) (by decide) (by decide) (fun i _ => by rw [hkm.out hks])).mono ?_; rintro r U2 ⟨rfl, gg⟩; have g2 := g1.trans (gg.mono g1.size); clear gg g1 hHeld)
                refine hK.out _ _ (KS.out _ g2) (fun hHeld => ?_)
                clear hK K
                try simp only [Act.put, List.setIfInBounds_toArray, List.set_cons_zero, List.set_cons_succ]
                refine wpAnyH_take (i := 8) (oi := { dst := some 19, op := Op.assign (Operand.tmp 159), type := 4, pos := "keeps.go:97", after := #[{ on := 7, ground := Ground.data }, { on := 7, ground := Ground.chain }, { on := 0, ground := Ground.phase }, { on := 1, ground := Ground.phase }, { on := 2, ground := Ground.phase }, { on := 3, ground := Ground.phase }, { on := 4, ground := Ground.phase }, { on := 5, ground := Ground.phase }, { on := 6, ground := Ground.phase }, { on := 7, ground := Ground.phase }], guard := none }) (v := ?_) rfl (by kernel_rfl) (by kernel_rfl) (by kernel_rfl) (fun _ _ _ h => h) (Or.inl ⟨by rfl, ?_⟩) (by assumption) ?_
                rotate_left
                · intro w hSw; (try dsimp only at hSw); go_simp; first | done | with_reducible rfl
                try simp only [Act.put, List.setIfInBounds_toArray, List.set_cons_zero, List.set_cons_succ]
                refine wpAnyH_done (by kernel_rfl) ?_ _
                clear hHeld KS
                replace hG := Hz.mk (hG.out.trans (g2.mono hM.out.le))
                replace hM := Hz.mk (hM.out.gr g2).drop.drop.drop
                clear g2
                go_wp2_with fail
                refine ⟨⟨j + 1, ?_, hjl, by rw [hst2.out]; exact hM, by rw [hst2.out]; exact Hz.mk het, hG⟩, ?_⟩
                · first | rfl | rw [next_wY hjl (by decide)] | go_num
                · first | exact next_mY hjl | (rw [next_wY hjl (by decide)]; exact next_mY hjl)
              · skip
                have w1 : ((k.n != 1) : Bool) = true := by rw [q1]; decide
                have w8 : ((k.n != 8) : Bool) = false := by rw [q1]; decide
                have w16 : ((k.n != 16) : Bool) = true := by rw [q1]; decide
                go_upto_region 24 with fail
                clear x0 x2 w1 w8 w16 q1
                have A0 := hM.out.there (boxOb kk (List.toArray [Value.bool k.s, .int .u64 k.a, .int .u64 k.n])) (by simp)
                have hth := Hz.mk (A0.there 0 3 (by simp))
                have hA9 := At.setAll A0 [Value.bool false, .int .u64 0, .int .u64 0] rfl
                have hK9 := kp_setsZ V13b kk [Value.bool false, .int .u64 0, .int .u64 0] 0
                obtain ⟨hM3, hB3⟩ := hM.out.side (o' := boxOb kk (List.toArray [Value.bool false, .int .u64 0, .int .u64 0])) hA9 hK9 (fun _ r => .inl r)
                refine wp_region_lit ?_
                refine wpList_plain rfl (fun K hK => ?_)
                go_simp
                with_reducible refine hK _ _ ?_
                clear hK K
                try simp only [Act.put, List.setIfInBounds_toArray, List.set_cons_zero, List.set_cons_succ]
                refine wpList_plain rfl (fun K hK => ?_)
                refine wp_store_mid _ _ _ rfl _ _ (List.toArray [Value.bool false, .int .u64 0, .int .u64 0]) rfl rfl hth.out (by kernel_rfl) (by simp [Value.oneCell']) (hK _ _ ?_)
                clear hK K hth
                try simp only [Act.put]
                replace hG := Hz.mk (hG.out.trans hB3)
                replace hM := Hz.mk hM3
                clear hM3 hB3 hA9 hK9 A0
                generalize World.setCells _ _ _ _ = V14 at *
                go_upto_region 25 with fail
                have KS : Hz (∀ V, Below V14.heap.size V14 V → (V.cell? ⟨kk, 1, none⟩ = some (.int .u64 0) ∧ V.cell? ⟨kk, 2, none⟩ = some (.int .u64 0))) := Hz.mk (fun V q => by
                  have A0 := (hM.out.gr q).there (boxOb kk (List.toArray [Value.bool false, .int .u64 0, .int .u64 0])) (by simp)
                  exact ⟨A0.2.1 1, A0.2.1 2⟩)
                have g0 : Below V14.heap.size V14 V14.drew := (Below.refl _ _).drew
                refine wp_region_held_drew (S := (fun V => V.cell? ⟨kk, 1, none⟩ = some (.int .u64 0) ∧ V.cell? ⟨kk, 2, none⟩ = some (.int .u64 0))) (by kernel_rfl) (KS.out _ g0) (fun hHeld => ?_)
                refine wpAnyH_take (i := 0) (oi := { dst := some 152, op := Op.move (Operand.tmp 15), type := 9, pos := "keeps.go:97", after := #[], guard := none }) (v := ?_) rfl (by kernel_rfl) (by kernel_rfl) (by kernel_rfl) (fun _ _ _ h => h) (Or.inl ⟨by rfl, ?_⟩) (by assumption) ?_
                rotate_left
                · intro w hSw; (try dsimp only at hSw); go_simp; first | done | with_reducible rfl
                try simp only [Act.put, List.setIfInBounds_toArray, List.set_cons_zero, List.set_cons_succ]
                refine wpAnyH_take (i := 1) (oi := { dst := some 153, op := Op.move (Operand.tmp 10), type := 23, pos := "keeps.go:97", after := #[], guard := none }) (v := ?_) rfl (by kernel_rfl) (by kernel_rfl) (by kernel_rfl) (fun _ _ _ h => h) (Or.inl ⟨by rfl, ?_⟩) (by assumption) ?_
                rotate_left
                · intro w hSw; (try dsimp only at hSw); go_simp; first | done | with_reducible rfl
                try simp only [Act.put, List.setIfInBounds_toArray, List.set_cons_zero, List.set_cons_succ]
                refine wpAnyH_take (i := 3) (oi := { dst := some 155, op := Op.fieldAddr 49 (Operand.tmp 18) 1, type := 0, pos := "keeps.go:97", after := #[], guard := none }) (v := ?_) rfl (by kernel_rfl) (by kernel_rfl) (by kernel_rfl) (fun _ _ _ h => h) (Or.inl ⟨by rfl, ?_⟩) (by assumption) ?_
                rotate_left
                · intro w hSw; (try dsimp only at hSw); go_simp; first | done | with_reducible rfl
                try simp only [Act.put, List.setIfInBounds_toArray, List.set_cons_zero, List.set_cons_succ]
                refine wpAnyH_take (i := 4) (oi := { dst := some 156, op := Op.load 25 (Operand.tmp 155), type := 25, pos := "keeps.go:97", after := #[{ on := 3, ground := Ground.data }], guard := none }) (v := ?_) rfl (by kernel_rfl) (by kernel_rfl) (by kernel_rfl) (fun _ _ _ h => h) (Or.inl ⟨by rfl, ?_⟩) (by assumption) ?_
                rotate_left
                · intro w hSw; (try dsimp only at hSw); go_simp; first | done | with_reducible rfl
                try simp only [Act.put, List.setIfInBounds_toArray, List.set_cons_zero, List.set_cons_succ]
                refine wpAnyH_take (i := 5) (oi := { dst := some 157, op := Op.fieldAddr 49 (Operand.tmp 18) 2, type := 0, pos := "keeps.go:97", after := #[], guard := none }) (v := ?_) rfl (by kernel_rfl) (by kernel_rfl) (by kernel_rfl) (fun _ _ _ h => h) (Or.inl ⟨by rfl, ?_⟩) (by assumption) ?_
                rotate_left
                · intro w hSw; (try dsimp only at hSw); go_simp; first | done | with_reducible rfl
                try simp only [Act.put, List.setIfInBounds_toArray, List.set_cons_zero, List.set_cons_succ]
                refine wpAnyH_take (i := 6) (oi := { dst := some 158, op := Op.load 25 (Operand.tmp 157), type := 25, pos := "keeps.go:97", after := #[{ on := 5, ground := Ground.data }], guard := none }) (v := ?_) rfl (by kernel_rfl) (by kernel_rfl) (by kernel_rfl) (fun _ _ _ h => h) (Or.inl ⟨by rfl, ?_⟩) (by assumption) ?_
                rotate_left
                · intro w hSw; (try dsimp only at hSw); go_simp; first | done | with_reducible rfl
                try simp only [Act.put, List.setIfInBounds_toArray, List.set_cons_zero, List.set_cons_succ]
                refine wpAnyH_ready (rs := [2]) (by kernel_rfl) (by simp) ?_
                refine AllReadyH.cons (o := { dst := some 154, op := Op.call { callee := Callee.value (Operand.func 13), args := #[Operand.tmp 153], argTypes := #[23] }, type := 9, pos := "keeps.go:97", after := #[{ on := 1, ground := Ground.data }], guard := none }) rfl (fun K hK => ?_) AllReadyH.nil
                go_simp
                go_wp2_with (refine (mem_mv B _ ax P t _ (hM.out.gr g0)).mono ?_; rintro r U1 ⟨rfl, gg⟩; have g1 := g0.trans (gg.mono g0.size); clear gg g0 hHeld)
                refine hK.out _ _ (KS.out _ g1) (fun hHeld => ?_)
                clear hK K
                try simp only [Act.put, List.setIfInBounds_toArray, List.set_cons_zero, List.set_cons_succ]
                refine wpAnyH_ready (rs := [7]) (by kernel_rfl) (by simp) ?_
                refine AllReadyH.cons (o := { dst := some 159, op := Op.call { callee := Callee.value (Operand.func 16), args := #[Operand.tmp 152, Operand.tmp 154, Operand.tmp 156, Operand.tmp 158], argTypes := #[9, 9, 25, 25] }, type := 4, pos := "keeps.go:97", after := #[{ on := 0, ground := Ground.data }, { on := 2, ground := Ground.data }, { on := 4, ground := Ground.data }, { on := 6, ground := Ground.data }, { on := 2, ground := Ground.chain }], guard := none }) rfl (fun K hK => ?_) AllReadyH.nil
                go_simp
                go_wp2_with (refine (chg_mv s.m t.m 0 0 _ (by decide) (by decide) (by decide) (fun i _ => by rw [hkm.out hks])).mono ?_; rintro r U2 ⟨rfl, gg⟩; have g2 := g1.trans (gg.mono g1.size); clear gg g1 hHeld)
                refine hK.out _ _ (KS.out _ g2) (fun hHeld => ?_)
                clear hK K
                try simp only [Act.put, List.setIfInBounds_toArray, List.set_cons_zero, List.set_cons_succ]
                refine wpAnyH_take (i := 8) (oi := { dst := some 19, op := Op.assign (Operand.tmp 159), type := 4, pos := "keeps.go:97", after := #[{ on := 7, ground := Ground.data }, { on := 7, ground := Ground.chain }, { on := 0, ground := Ground.phase }, { on := 1, ground := Ground.phase }, { on := 2, ground := Ground.phase }, { on := 3, ground := Ground.phase }, { on := 4, ground := Ground.phase }, { on := 5, ground := Ground.phase }, { on := 6, ground := Ground.phase }, { on := 7, ground := Ground.phase }], guard := none }) (v := ?_) rfl (by kernel_rfl) (by kernel_rfl) (by kernel_rfl) (fun _ _ _ h => h) (Or.inl ⟨by rfl, ?_⟩) (by assumption) ?_
                rotate_left
                · intro w hSw; (try dsimp only at hSw); go_simp; first | done | with_reducible rfl
                try simp only [Act.put, List.setIfInBounds_toArray, List.set_cons_zero, List.set_cons_succ]
                refine wpAnyH_done (by kernel_rfl) ?_ _
                clear hHeld KS
                replace hG := Hz.mk (hG.out.trans (g2.mono hM.out.le))
                replace hM := Hz.mk (hM.out.gr g2).drop.drop.drop
                clear g2
                go_wp2_with fail
                refine ⟨⟨j + 1, ?_, hjl, by rw [hst2.out]; exact hM, by rw [hst2.out]; exact Hz.mk het, hG⟩, ?_⟩
                · first | rfl | rw [next_wY hjl (by decide)] | go_num
                · first | exact next_mY hjl | (rw [next_wY hjl (by decide)]; exact next_mY hjl)
              · skip
                have w1 : ((k.n != 1) : Bool) = true := by rw [q1]; decide
                have w8 : ((k.n != 8) : Bool) = true := by rw [q1]; decide
                have w16 : ((k.n != 16) : Bool) = false := by rw [q1]; decide
                go_upto_region 24 with fail
                clear x0 x2 w1 w8 w16 q1
                have A0 := hM.out.there (boxOb kk (List.toArray [Value.bool k.s, .int .u64 k.a, .int .u64 k.n])) (by simp)
                have hth := Hz.mk (A0.there 0 3 (by simp))
                have hA9 := At.setAll A0 [Value.bool false, .int .u64 0, .int .u64 0] rfl
                have hK9 := kp_setsZ V13b kk [Value.bool false, .int .u64 0, .int .u64 0] 0
                obtain ⟨hM3, hB3⟩ := hM.out.side (o' := boxOb kk (List.toArray [Value.bool false, .int .u64 0, .int .u64 0])) hA9 hK9 (fun _ r => .inl r)
                refine wp_region_lit ?_
                refine wpList_plain rfl (fun K hK => ?_)
                go_simp
                with_reducible refine hK _ _ ?_
                clear hK K
                try simp only [Act.put, List.setIfInBounds_toArray, List.set_cons_zero, List.set_cons_succ]
                refine wpList_plain rfl (fun K hK => ?_)
                refine wp_store_mid _ _ _ rfl _ _ (List.toArray [Value.bool false, .int .u64 0, .int .u64 0]) rfl rfl hth.out (by kernel_rfl) (by simp [Value.oneCell']) (hK _ _ ?_)
                clear hK K hth
                try simp only [Act.put]
                replace hG := Hz.mk (hG.out.trans hB3)
                replace hM := Hz.mk hM3
                clear hM3 hB3 hA9 hK9 A0
                generalize World.setCells _ _ _ _ = V14 at *
                go_upto_region 25 with fail
                have KS : Hz (∀ V, Below V14.heap.size V14 V → (V.cell? ⟨kk, 1, none⟩ = some (.int .u64 0) ∧ V.cell? ⟨kk, 2, none⟩ = some (.int .u64 0))) := Hz.mk (fun V q => by
                  have A0 := (hM.out.gr q).there (boxOb kk (List.toArray [Value.bool false, .int .u64 0, .int .u64 0])) (by simp)
                  exact ⟨A0.2.1 1, A0.2.1 2⟩)
                have g0 : Below V14.heap.size V14 V14.drew := (Below.refl _ _).drew
                refine wp_region_held_drew (S := (fun V => V.cell? ⟨kk, 1, none⟩ = some (.int .u64 0) ∧ V.cell? ⟨kk, 2, none⟩ = some (.int .u64 0))) (by kernel_rfl) (KS.out _ g0) (fun hHeld => ?_)
                refine wpAnyH_take (i := 0) (oi := { dst := some 152, op := Op.move (Operand.tmp 15), type := 9, pos := "keeps.go:97", after := #[], guard := none }) (v := ?_) rfl (by kernel_rfl) (by kernel_rfl) (by kernel_rfl) (fun _ _ _ h => h) (Or.inl ⟨by rfl, ?_⟩) (by assumption) ?_
                rotate_left
                · intro w hSw; (try dsimp only at hSw); go_simp; first | done | with_reducible rfl
                try simp only [Act.put, List.setIfInBounds_toArray, List.set_cons_zero, List.set_cons_succ]
                refine wpAnyH_take (i := 1) (oi := { dst := some 153, op := Op.move (Operand.tmp 10), type := 23, pos := "keeps.go:97", after := #[], guard := none }) (v := ?_) rfl (by kernel_rfl) (by kernel_rfl) (by kernel_rfl) (fun _ _ _ h => h) (Or.inl ⟨by rfl, ?_⟩) (by assumption) ?_
                rotate_left
                · intro w hSw; (try dsimp only at hSw); go_simp; first | done | with_reducible rfl
                try simp only [Act.put, List.setIfInBounds_toArray, List.set_cons_zero, List.set_cons_succ]
                refine wpAnyH_take (i := 3) (oi := { dst := some 155, op := Op.fieldAddr 49 (Operand.tmp 18) 1, type := 0, pos := "keeps.go:97", after := #[], guard := none }) (v := ?_) rfl (by kernel_rfl) (by kernel_rfl) (by kernel_rfl) (fun _ _ _ h => h) (Or.inl ⟨by rfl, ?_⟩) (by assumption) ?_
                rotate_left
                · intro w hSw; (try dsimp only at hSw); go_simp; first | done | with_reducible rfl
                try simp only [Act.put, List.setIfInBounds_toArray, List.set_cons_zero, List.set_cons_succ]
                refine wpAnyH_take (i := 4) (oi := { dst := some 156, op := Op.load 25 (Operand.tmp 155), type := 25, pos := "keeps.go:97", after := #[{ on := 3, ground := Ground.data }], guard := none }) (v := ?_) rfl (by kernel_rfl) (by kernel_rfl) (by kernel_rfl) (fun _ _ _ h => h) (Or.inl ⟨by rfl, ?_⟩) (by assumption) ?_
                rotate_left
                · intro w hSw; (try dsimp only at hSw); go_simp; first | done | with_reducible rfl
                try simp only [Act.put, List.setIfInBounds_toArray, List.set_cons_zero, List.set_cons_succ]
                refine wpAnyH_take (i := 5) (oi := { dst := some 157, op := Op.fieldAddr 49 (Operand.tmp 18) 2, type := 0, pos := "keeps.go:97", after := #[], guard := none }) (v := ?_) rfl (by kernel_rfl) (by kernel_rfl) (by kernel_rfl) (fun _ _ _ h => h) (Or.inl ⟨by rfl, ?_⟩) (by assumption) ?_
                rotate_left
                · intro w hSw; (try dsimp only at hSw); go_simp; first | done | with_reducible rfl
                try simp only [Act.put, List.setIfInBounds_toArray, List.set_cons_zero, List.set_cons_succ]
                refine wpAnyH_take (i := 6) (oi := { dst := some 158, op := Op.load 25 (Operand.tmp 157), type := 25, pos := "keeps.go:97", after := #[{ on := 5, ground := Ground.data }], guard := none }) (v := ?_) rfl (by kernel_rfl) (by kernel_rfl) (by kernel_rfl) (fun _ _ _ h => h) (Or.inl ⟨by rfl, ?_⟩) (by assumption) ?_
                rotate_left
                · intro w hSw; (try dsimp only at hSw); go_simp; first | done | with_reducible rfl
                try simp only [Act.put, List.setIfInBounds_toArray, List.set_cons_zero, List.set_cons_succ]
                refine wpAnyH_ready (rs := [2]) (by kernel_rfl) (by simp) ?_
                refine AllReadyH.cons (o := { dst := some 154, op := Op.call { callee := Callee.value (Operand.func 13), args := #[Operand.tmp 153], argTypes := #[23] }, type := 9, pos := "keeps.go:97", after := #[{ on := 1, ground := Ground.data }], guard := none }) rfl (fun K hK => ?_) AllReadyH.nil
                go_simp
                go_wp2_with (refine (mem_mv B _ ax P t _ (hM.out.gr g0)).mono ?_; rintro r U1 ⟨rfl, gg⟩; have g1 := g0.trans (gg.mono g0.size); clear gg g0 hHeld)
                refine hK.out _ _ (KS.out _ g1) (fun hHeld => ?_)
                clear hK K
                try simp only [Act.put, List.setIfInBounds_toArray, List.set_cons_zero, List.set_cons_succ]
                refine wpAnyH_ready (rs := [7]) (by kernel_rfl) (by simp) ?_
                refine AllReadyH.cons (o := { dst := some 159, op := Op.call { callee := Callee.value (Operand.func 16), args := #[Operand.tmp 152, Operand.tmp 154, Operand.tmp 156, Operand.tmp 158], argTypes := #[9, 9, 25, 25] }, type := 4, pos := "keeps.go:97", after := #[{ on := 0, ground := Ground.data }, { on := 2, ground := Ground.data }, { on := 4, ground := Ground.data }, { on := 6, ground := Ground.data }, { on := 2, ground := Ground.chain }], guard := none }) rfl (fun K hK => ?_) AllReadyH.nil
                go_simp
                go_wp2_with (refine (chg_mv s.m t.m 0 0 _ (by decide) (by decide) (by decide) (fun i _ => by rw [hkm.out hks])).mono ?_; rintro r U2 ⟨rfl, gg⟩; have g2 := g1.trans (gg.mono g1.size); clear gg g1 hHeld)
                refine hK.out _ _ (KS.out _ g2) (fun hHeld => ?_)
                clear hK K
                try simp only [Act.put, List.setIfInBounds_toArray, List.set_cons_zero, List.set_cons_succ]
                refine wpAnyH_take (i := 8) (oi := { dst := some 19, op := Op.assign (Operand.tmp 159), type := 4, pos := "keeps.go:97", after := #[{ on := 7, ground := Ground.data }, { on := 7, ground := Ground.chain }, { on := 0, ground := Ground.phase }, { on := 1, ground := Ground.phase }, { on := 2, ground := Ground.phase }, { on := 3, ground := Ground.phase }, { on := 4, ground := Ground.phase }, { on := 5, ground := Ground.phase }, { on := 6, ground := Ground.phase }, { on := 7, ground := Ground.phase }], guard := none }) (v := ?_) rfl (by kernel_rfl) (by kernel_rfl) (by kernel_rfl) (fun _ _ _ h => h) (Or.inl ⟨by rfl, ?_⟩) (by assumption) ?_
                rotate_left
                · intro w hSw; (try dsimp only at hSw); go_simp; first | done | with_reducible rfl
                try simp only [Act.put, List.setIfInBounds_toArray, List.set_cons_zero, List.set_cons_succ]
                refine wpAnyH_done (by kernel_rfl) ?_ _
                clear hHeld KS
                replace hG := Hz.mk (hG.out.trans (g2.mono hM.out.le))
                replace hM := Hz.mk (hM.out.gr g2).drop.drop.drop
                clear g2
                go_wp2_with fail
                refine ⟨⟨j + 1, ?_, hjl, by rw [hst2.out]; exact hM, by rw [hst2.out]; exact Hz.mk het, hG⟩, ?_⟩
                · first | rfl | rw [next_wY hjl (by decide)] | go_num
                · first | exact next_mY hjl | (rw [next_wY hjl (by decide)]; exact next_mY hjl)
            · skip
              have n7 : (s.tc.length : Int) < (t.tc.length : Int) := by rw [htc, List.length_append, List.length_singleton]; omega
              have hil : s.tc.length < t.tc.length := by rw [htc]; simp
              obtain ⟨tb, tf, rfl, htb, htcell⟩ := hT.out s.tc.length hil
              have ek : t.tc[s.tc.length] = k := by simp [htc]
              rw [ek] at htcell
              have A0 := hM.out.there (boxOb kk (List.toArray [Value.bool false, .int .u64 0, .int .u64 0])) (by simp)
              have hth := Hz.mk (A0.there 0 3 (by simp))
              have hA9 := At.setAll A0 [Value.bool k.s, .int .u64 k.a, .int .u64 k.n] rfl
              have hK9 := kp_setsZ V13 kk [Value.bool k.s, .int .u64 k.a, .int .u64 k.n] 0
              obtain ⟨hM3, hB3⟩ := hM.out.side (o' := boxOb kk (List.toArray [Value.bool k.s, .int .u64 k.a, .int .u64 k.n])) hA9 hK9 (fun _ r => .inl r)
              replace hA9 := Hz.mk hA9
              replace hK9 := Hz.mk hK9
              replace hM3 := Hz.mk hM3
              replace hB3 := Hz.mk hB3
              have hrk : Hz (V13.rangeAt tb (tf + s.tc.length * 3) [Value.bool k.s, .int .u64 k.a, .int .u64 k.n]) := Hz.mk htcell
              clear htcell A0
              go_upto_region 20 with fail
              clear n7
              refine wp_region_lit ?_
              refine wpList_plain rfl (fun K hK => ?_)
              go_simp
              with_reducible refine hK _ _ ?_
              clear hK K
              try simp only [Act.put, List.setIfInBounds_toArray, List.set_cons_zero, List.set_cons_succ]
              refine wpList_plain rfl (fun K hK => ?_)
              go_simp
              with_reducible refine hK _ _ ?_
              clear hK K
              try simp only [Act.put, List.setIfInBounds_toArray, List.set_cons_zero, List.set_cons_succ]
              refine wpList_plain rfl (fun K hK => ?_)
              go_simp
              with_reducible refine hK _ _ ?_
              clear hK K
              try simp only [Act.put, List.setIfInBounds_toArray, List.set_cons_zero, List.set_cons_succ]
              refine wpList_plain rfl (fun K hK => ?_)
              refine wp_load_mid _ _ rfl _ (tf + s.tc.length * 3) rfl [Value.bool k.s, .int .u64 k.a, .int .u64 k.n] _ hrk.out Tryz.underlying49 rfl (by kernel_rfl) (hK _ _ ?_)
              clear hK K
              try simp only [Act.put, List.setIfInBounds_toArray, List.set_cons_zero, List.set_cons_succ]
              refine wpList_plain rfl (fun K hK => ?_)
              refine wp_store_mid _ _ _ rfl _ _ (List.toArray [Value.bool k.s, .int .u64 k.a, .int .u64 k.n]) rfl rfl hth.out (by kernel_rfl) (by simp [Value.oneCell']) (hK _ _ ?_)
              clear hK K hth hrk
              try simp only [Act.put]
              replace hG := Hz.mk (hG.out.trans hB3.out)
              replace hM := hM3
              clear hM3 hB3 hA9 hK9
              generalize World.setCells _ _ _ _ = V13b at *
              have A0 := hM.out.there (boxOb kk (List.toArray [Value.bool k.s, .int .u64 k.a, .int .u64 k.n])) (by simp)
              have x0 : V13b.cell? ⟨kk, 0, none⟩ = some (.bool true) := (A0.2.1 0).trans (by simp [hks])
              have x2 : V13b.cell? ⟨kk, 2, none⟩ = some (.int .u64 k.n) := A0.2.1 2
              clear A0
              rcases hkn.out with q1 | q1 | q1
              · skip
                have w1 : ((k.n != 1) : Bool) = false := by rw [q1]; decide
                have w8 : ((k.n != 8) : Bool) = true := by rw [q1]; decide
                have w16 : ((k.n != 16) : Bool) = true := by rw [q1]; decide
                go_upto_region 25 with fail
                clear x0 x2 w1 w8 w16 q1
                generalize V13b = V14 at *
                have KS : Hz (∀ V, Below V14.heap.size V14 V → (V.cell? ⟨kk, 1, none⟩ = some (.int .u64 k.a) ∧ V.cell? ⟨kk, 2, none⟩ = some (.int .u64 k.n))) := Hz.mk (fun V q => by
                  have A0 := (hM.out.gr q).there (boxOb kk (List.toArray [Value.bool k.s, .int .u64 k.a, .int .u64 k.n])) (by simp)
                  exact ⟨A0.2.1 1, A0.2.1 2⟩)
                have g0 : Below V14.heap.size V14 V14.drew := (Below.refl _ _).drew
                refine wp_region_held_drew (S := (fun V => V.cell? ⟨kk, 1, none⟩ = some (.int .u64 k.a) ∧ V.cell? ⟨kk, 2, none⟩ = some (.int .u64 k.n))) (by kernel_rfl) (KS.out _ g0) (fun hHeld => ?_)
                refine wpAnyH_take (i := 0) (oi := { dst := some 152, op := Op.move (Operand.tmp 15), type := 9, pos := "keeps.go:97", after := #[], guard := none }) (v := ?_) rfl (by kernel_rfl) (by kernel_rfl) (by kernel_rfl) (fun _ _ _ h => h) (Or.inl ⟨by rfl, ?_⟩) (by assumption) ?_
                rotate_left
                · intro w hSw; (try dsimp only at hSw); go_simp; first | done | with_reducible rfl
                try simp only [Act.put, List.setIfInBounds_toArray, List.set_cons_zero, List.set_cons_succ]
                refine wpAnyH_take (i := 1) (oi := { dst := some 153, op := Op.move (Operand.tmp 10), type := 23, pos := "keeps.go:97", after := #[], guard := none }) (v := ?_) rfl (by kernel_rfl) (by kernel_rfl) (by kernel_rfl) (fun _ _ _ h => h) (Or.inl ⟨by rfl, ?_⟩) (by assumption) ?_
                rotate_left
                · intro w hSw; (try dsimp only at hSw); go_simp; first | done | with_reducible rfl
                try simp only [Act.put, List.setIfInBounds_toArray, List.set_cons_zero, List.set_cons_succ]
                refine wpAnyH_take (i := 3) (oi := { dst := some 155, op := Op.fieldAddr 49 (Operand.tmp 18) 1, type := 0, pos := "keeps.go:97", after := #[], guard := none }) (v := ?_) rfl (by kernel_rfl) (by kernel_rfl) (by kernel_rfl) (fun _ _ _ h => h) (Or.inl ⟨by rfl, ?_⟩) (by assumption) ?_
                rotate_left
                · intro w hSw; (try dsimp only at hSw); go_simp; first | done | with_reducible rfl
                try simp only [Act.put, List.setIfInBounds_toArray, List.set_cons_zero, List.set_cons_succ]
                refine wpAnyH_take (i := 4) (oi := { dst := some 156, op := Op.load 25 (Operand.tmp 155), type := 25, pos := "keeps.go:97", after := #[{ on := 3, ground := Ground.data }], guard := none }) (v := ?_) rfl (by kernel_rfl) (by kernel_rfl) (by kernel_rfl) (fun _ _ _ h => h) (Or.inl ⟨by rfl, ?_⟩) (by assumption) ?_
                rotate_left
                · intro w hSw; (try dsimp only at hSw); go_simp; first | done | with_reducible rfl
                try simp only [Act.put, List.setIfInBounds_toArray, List.set_cons_zero, List.set_cons_succ]
                refine wpAnyH_take (i := 5) (oi := { dst := some 157, op := Op.fieldAddr 49 (Operand.tmp 18) 2, type := 0, pos := "keeps.go:97", after := #[], guard := none }) (v := ?_) rfl (by kernel_rfl) (by kernel_rfl) (by kernel_rfl) (fun _ _ _ h => h) (Or.inl ⟨by rfl, ?_⟩) (by assumption) ?_
                rotate_left
                · intro w hSw; (try dsimp only at hSw); go_simp; first | done | with_reducible rfl
                try simp only [Act.put, List.setIfInBounds_toArray, List.set_cons_zero, List.set_cons_succ]
                refine wpAnyH_take (i := 6) (oi := { dst := some 158, op := Op.load 25 (Operand.tmp 157), type := 25, pos := "keeps.go:97", after := #[{ on := 5, ground := Ground.data }], guard := none }) (v := ?_) rfl (by kernel_rfl) (by kernel_rfl) (by kernel_rfl) (fun _ _ _ h => h) (Or.inl ⟨by rfl, ?_⟩) (by assumption) ?_
                rotate_left
                · intro w hSw; (try dsimp only at hSw); go_simp; first | done | with_reducible rfl
                try simp only [Act.put, List.setIfInBounds_toArray, List.set_cons_zero, List.set_cons_succ]
                refine wpAnyH_ready (rs := [2]) (by kernel_rfl) (by simp) ?_
                refine AllReadyH.cons (o := { dst := some 154, op := Op.call { callee := Callee.value (Operand.func 13), args := #[Operand.tmp 153], argTypes := #[23] }, type := 9, pos := "keeps.go:97", after := #[{ on := 1, ground := Ground.data }], guard := none }) rfl (fun K hK => ?_) AllReadyH.nil
                go_simp
                go_wp2_with (refine (mem_mv B _ ax P t _ (hM.out.gr g0)).mono ?_; rintro r U1 ⟨rfl, gg⟩; have g1 := g0.trans (gg.mono g0.size); clear gg g0 hHeld)
                refine hK.out _ _ (KS.out _ g1) (fun hHeld => ?_)
                clear hK K
                try simp only [Act.put, List.setIfInBounds_toArray, List.set_cons_zero, List.set_cons_succ]
                refine wpAnyH_ready (rs := [7]) (by kernel_rfl) (by simp) ?_
                refine AllReadyH.cons (o := { dst := some 159, op := Op.call { callee := Callee.value (Operand.func 16), args := #[Operand.tmp 152, Operand.tmp 154, Operand.tmp 156, Operand.tmp 158], argTypes := #[9, 9, 25, 25] }, type := 4, pos := "keeps.go:97", after := #[{ on := 0, ground := Ground.data }, { on := 2, ground := Ground.data }, { on := 4, ground := Ground.data }, { on := 6, ground := Ground.data }, { on := 2, ground := Ground.chain }], guard := none }) rfl (fun K hK => ?_) AllReadyH.nil
                go_simp
                go_wp2_with (refine (chg_mv s.m t.m k.a k.n _ hka.out.1 (by rcases hkn.out with q | q | q <;> omega) hka.out.2.1 hka.out.2.2).mono ?_; rintro r U2 ⟨rfl, gg⟩; have g2 := g1.trans (gg.mono g1.size); clear gg g1 hHeld)
                refine hK.out _ _ (KS.out _ g2) (fun hHeld => ?_)
                clear hK K
                try simp only [Act.put, List.setIfInBounds_toArray, List.set_cons_zero, List.set_cons_succ]
                refine wpAnyH_take (i := 8) (oi := { dst := some 19, op := Op.assign (Operand.tmp 159), type := 4, pos := "keeps.go:97", after := #[{ on := 7, ground := Ground.data }, { on := 7, ground := Ground.chain }, { on := 0, ground := Ground.phase }, { on := 1, ground := Ground.phase }, { on := 2, ground := Ground.phase }, { on := 3, ground := Ground.phase }, { on := 4, ground := Ground.phase }, { on := 5, ground := Ground.phase }, { on := 6, ground := Ground.phase }, { on := 7, ground := Ground.phase }], guard := none }) (v := ?_) rfl (by kernel_rfl) (by kernel_rfl) (by kernel_rfl) (fun _ _ _ h => h) (Or.inl ⟨by rfl, ?_⟩) (by assumption) ?_
                rotate_left
                · intro w hSw; (try dsimp only at hSw); go_simp; first | done | with_reducible rfl
                try simp only [Act.put, List.setIfInBounds_toArray, List.set_cons_zero, List.set_cons_succ]
                refine wpAnyH_done (by kernel_rfl) ?_ _
                clear hHeld KS
                replace hG := Hz.mk (hG.out.trans (g2.mono hM.out.le))
                replace hM := Hz.mk (hM.out.gr g2).drop.drop.drop
                clear g2
                go_wp2_with fail
                refine ⟨⟨j + 1, ?_, hjl, by rw [hst2.out]; exact hM, by rw [hst2.out]; exact Hz.mk het, hG⟩, ?_⟩
                · first | rfl | rw [next_wY hjl (by decide)] | go_num
                · first | exact next_mY hjl | (rw [next_wY hjl (by decide)]; exact next_mY hjl)
              · skip
                have w1 : ((k.n != 1) : Bool) = true := by rw [q1]; decide
                have w8 : ((k.n != 8) : Bool) = false := by rw [q1]; decide
                have w16 : ((k.n != 16) : Bool) = true := by rw [q1]; decide
                go_upto_region 25 with fail
                clear x0 x2 w1 w8 w16 q1
                generalize V13b = V14 at *
                have KS : Hz (∀ V, Below V14.heap.size V14 V → (V.cell? ⟨kk, 1, none⟩ = some (.int .u64 k.a) ∧ V.cell? ⟨kk, 2, none⟩ = some (.int .u64 k.n))) := Hz.mk (fun V q => by
                  have A0 := (hM.out.gr q).there (boxOb kk (List.toArray [Value.bool k.s, .int .u64 k.a, .int .u64 k.n])) (by simp)
                  exact ⟨A0.2.1 1, A0.2.1 2⟩)
                have g0 : Below V14.heap.size V14 V14.drew := (Below.refl _ _).drew
                refine wp_region_held_drew (S := (fun V => V.cell? ⟨kk, 1, none⟩ = some (.int .u64 k.a) ∧ V.cell? ⟨kk, 2, none⟩ = some (.int .u64 k.n))) (by kernel_rfl) (KS.out _ g0) (fun hHeld => ?_)
                refine wpAnyH_take (i := 0) (oi := { dst := some 152, op := Op.move (Operand.tmp 15), type := 9, pos := "keeps.go:97", after := #[], guard := none }) (v := ?_) rfl (by kernel_rfl) (by kernel_rfl) (by kernel_rfl) (fun _ _ _ h => h) (Or.inl ⟨by rfl, ?_⟩) (by assumption) ?_
                rotate_left
                · intro w hSw; (try dsimp only at hSw); go_simp; first | done | with_reducible rfl
                try simp only [Act.put, List.setIfInBounds_toArray, List.set_cons_zero, List.set_cons_succ]
                refine wpAnyH_take (i := 1) (oi := { dst := some 153, op := Op.move (Operand.tmp 10), type := 23, pos := "keeps.go:97", after := #[], guard := none }) (v := ?_) rfl (by kernel_rfl) (by kernel_rfl) (by kernel_rfl) (fun _ _ _ h => h) (Or.inl ⟨by rfl, ?_⟩) (by assumption) ?_
                rotate_left
                · intro w hSw; (try dsimp only at hSw); go_simp; first | done | with_reducible rfl
                try simp only [Act.put, List.setIfInBounds_toArray, List.set_cons_zero, List.set_cons_succ]
                refine wpAnyH_take (i := 3) (oi := { dst := some 155, op := Op.fieldAddr 49 (Operand.tmp 18) 1, type := 0, pos := "keeps.go:97", after := #[], guard := none }) (v := ?_) rfl (by kernel_rfl) (by kernel_rfl) (by kernel_rfl) (fun _ _ _ h => h) (Or.inl ⟨by rfl, ?_⟩) (by assumption) ?_
                rotate_left
                · intro w hSw; (try dsimp only at hSw); go_simp; first | done | with_reducible rfl
                try simp only [Act.put, List.setIfInBounds_toArray, List.set_cons_zero, List.set_cons_succ]
                refine wpAnyH_take (i := 4) (oi := { dst := some 156, op := Op.load 25 (Operand.tmp 155), type := 25, pos := "keeps.go:97", after := #[{ on := 3, ground := Ground.data }], guard := none }) (v := ?_) rfl (by kernel_rfl) (by kernel_rfl) (by kernel_rfl) (fun _ _ _ h => h) (Or.inl ⟨by rfl, ?_⟩) (by assumption) ?_
                rotate_left
                · intro w hSw; (try dsimp only at hSw); go_simp; first | done | with_reducible rfl
                try simp only [Act.put, List.setIfInBounds_toArray, List.set_cons_zero, List.set_cons_succ]
                refine wpAnyH_take (i := 5) (oi := { dst := some 157, op := Op.fieldAddr 49 (Operand.tmp 18) 2, type := 0, pos := "keeps.go:97", after := #[], guard := none }) (v := ?_) rfl (by kernel_rfl) (by kernel_rfl) (by kernel_rfl) (fun _ _ _ h => h) (Or.inl ⟨by rfl, ?_⟩) (by assumption) ?_
                rotate_left
                · intro w hSw; (try dsimp only at hSw); go_simp; first | done | with_reducible rfl
                try simp only [Act.put, List.setIfInBounds_toArray, List.set_cons_zero, List.set_cons_succ]
                refine wpAnyH_take (i := 6) (oi := { dst := some 158, op := Op.load 25 (Operand.tmp 157), type := 25, pos := "keeps.go:97", after := #[{ on := 5, ground := Ground.data }], guard := none }) (v := ?_) rfl (by kernel_rfl) (by kernel_rfl) (by kernel_rfl) (fun _ _ _ h => h) (Or.inl ⟨by rfl, ?_⟩) (by assumption) ?_
                rotate_left
                · intro w hSw; (try dsimp only at hSw); go_simp; first | done | with_reducible rfl
                try simp only [Act.put, List.setIfInBounds_toArray, List.set_cons_zero, List.set_cons_succ]
                refine wpAnyH_ready (rs := [2]) (by kernel_rfl) (by simp) ?_
                refine AllReadyH.cons (o := { dst := some 154, op := Op.call { callee := Callee.value (Operand.func 13), args := #[Operand.tmp 153], argTypes := #[23] }, type := 9, pos := "keeps.go:97", after := #[{ on := 1, ground := Ground.data }], guard := none }) rfl (fun K hK => ?_) AllReadyH.nil
                go_simp
                go_wp2_with (refine (mem_mv B _ ax P t _ (hM.out.gr g0)).mono ?_; rintro r U1 ⟨rfl, gg⟩; have g1 := g0.trans (gg.mono g0.size); clear gg g0 hHeld)
                refine hK.out _ _ (KS.out _ g1) (fun hHeld => ?_)
                clear hK K
                try simp only [Act.put, List.setIfInBounds_toArray, List.set_cons_zero, List.set_cons_succ]
                refine wpAnyH_ready (rs := [7]) (by kernel_rfl) (by simp) ?_
                refine AllReadyH.cons (o := { dst := some 159, op := Op.call { callee := Callee.value (Operand.func 16), args := #[Operand.tmp 152, Operand.tmp 154, Operand.tmp 156, Operand.tmp 158], argTypes := #[9, 9, 25, 25] }, type := 4, pos := "keeps.go:97", after := #[{ on := 0, ground := Ground.data }, { on := 2, ground := Ground.data }, { on := 4, ground := Ground.data }, { on := 6, ground := Ground.data }, { on := 2, ground := Ground.chain }], guard := none }) rfl (fun K hK => ?_) AllReadyH.nil
                go_simp
                go_wp2_with (refine (chg_mv s.m t.m k.a k.n _ hka.out.1 (by rcases hkn.out with q | q | q <;> omega) hka.out.2.1 hka.out.2.2).mono ?_; rintro r U2 ⟨rfl, gg⟩; have g2 := g1.trans (gg.mono g1.size); clear gg g1 hHeld)
                refine hK.out _ _ (KS.out _ g2) (fun hHeld => ?_)
                clear hK K
                try simp only [Act.put, List.setIfInBounds_toArray, List.set_cons_zero, List.set_cons_succ]
                refine wpAnyH_take (i := 8) (oi := { dst := some 19, op := Op.assign (Operand.tmp 159), type := 4, pos := "keeps.go:97", after := #[{ on := 7, ground := Ground.data }, { on := 7, ground := Ground.chain }, { on := 0, ground := Ground.phase }, { on := 1, ground := Ground.phase }, { on := 2, ground := Ground.phase }, { on := 3, ground := Ground.phase }, { on := 4, ground := Ground.phase }, { on := 5, ground := Ground.phase }, { on := 6, ground := Ground.phase }, { on := 7, ground := Ground.phase }], guard := none }) (v := ?_) rfl (by kernel_rfl) (by kernel_rfl) (by kernel_rfl) (fun _ _ _ h => h) (Or.inl ⟨by rfl, ?_⟩) (by assumption) ?_
                rotate_left
                · intro w hSw; (try dsimp only at hSw); go_simp; first | done | with_reducible rfl
                try simp only [Act.put, List.setIfInBounds_toArray, List.set_cons_zero, List.set_cons_succ]
                refine wpAnyH_done (by kernel_rfl) ?_ _
                clear hHeld KS
                replace hG := Hz.mk (hG.out.trans (g2.mono hM.out.le))
                replace hM := Hz.mk (hM.out.gr g2).drop.drop.drop
                clear g2
                go_wp2_with fail
                refine ⟨⟨j + 1, ?_, hjl, by rw [hst2.out]; exact hM, by rw [hst2.out]; exact Hz.mk het, hG⟩, ?_⟩
                · first | rfl | rw [next_wY hjl (by decide)] | go_num
                · first | exact next_mY hjl | (rw [next_wY hjl (by decide)]; exact next_mY hjl)
              · skip
                have w1 : ((k.n != 1) : Bool) = true := by rw [q1]; decide
                have w8 : ((k.n != 8) : Bool) = true := by rw [q1]; decide
                have w16 : ((k.n != 16) : Bool) = false := by rw [q1]; decide
                go_upto_region 25 with fail
                clear x0 x2 w1 w8 w16 q1
                generalize V13b = V14 at *
                have KS : Hz (∀ V, Below V14.heap.size V14 V → (V.cell? ⟨kk, 1, none⟩ = some (.int .u64 k.a) ∧ V.cell? ⟨kk, 2, none⟩ = some (.int .u64 k.n))) := Hz.mk (fun V q => by
                  have A0 := (hM.out.gr q).there (boxOb kk (List.toArray [Value.bool k.s, .int .u64 k.a, .int .u64 k.n])) (by simp)
                  exact ⟨A0.2.1 1, A0.2.1 2⟩)
                have g0 : Below V14.heap.size V14 V14.drew := (Below.refl _ _).drew
                refine wp_region_held_drew (S := (fun V => V.cell? ⟨kk, 1, none⟩ = some (.int .u64 k.a) ∧ V.cell? ⟨kk, 2, none⟩ = some (.int .u64 k.n))) (by kernel_rfl) (KS.out _ g0) (fun hHeld => ?_)
                refine wpAnyH_take (i := 0) (oi := { dst := some 152, op := Op.move (Operand.tmp 15), type := 9, pos := "keeps.go:97", after := #[], guard := none }) (v := ?_) rfl (by kernel_rfl) (by kernel_rfl) (by kernel_rfl) (fun _ _ _ h => h) (Or.inl ⟨by rfl, ?_⟩) (by assumption) ?_
                rotate_left
                · intro w hSw; (try dsimp only at hSw); go_simp; first | done | with_reducible rfl
                try simp only [Act.put, List.setIfInBounds_toArray, List.set_cons_zero, List.set_cons_succ]
                refine wpAnyH_take (i := 1) (oi := { dst := some 153, op := Op.move (Operand.tmp 10), type := 23, pos := "keeps.go:97", after := #[], guard := none }) (v := ?_) rfl (by kernel_rfl) (by kernel_rfl) (by kernel_rfl) (fun _ _ _ h => h) (Or.inl ⟨by rfl, ?_⟩) (by assumption) ?_
                rotate_left
                · intro w hSw; (try dsimp only at hSw); go_simp; first | done | with_reducible rfl
                try simp only [Act.put, List.setIfInBounds_toArray, List.set_cons_zero, List.set_cons_succ]
                refine wpAnyH_take (i := 3) (oi := { dst := some 155, op := Op.fieldAddr 49 (Operand.tmp 18) 1, type := 0, pos := "keeps.go:97", after := #[], guard := none }) (v := ?_) rfl (by kernel_rfl) (by kernel_rfl) (by kernel_rfl) (fun _ _ _ h => h) (Or.inl ⟨by rfl, ?_⟩) (by assumption) ?_
                rotate_left
                · intro w hSw; (try dsimp only at hSw); go_simp; first | done | with_reducible rfl
                try simp only [Act.put, List.setIfInBounds_toArray, List.set_cons_zero, List.set_cons_succ]
                refine wpAnyH_take (i := 4) (oi := { dst := some 156, op := Op.load 25 (Operand.tmp 155), type := 25, pos := "keeps.go:97", after := #[{ on := 3, ground := Ground.data }], guard := none }) (v := ?_) rfl (by kernel_rfl) (by kernel_rfl) (by kernel_rfl) (fun _ _ _ h => h) (Or.inl ⟨by rfl, ?_⟩) (by assumption) ?_
                rotate_left
                · intro w hSw; (try dsimp only at hSw); go_simp; first | done | with_reducible rfl
                try simp only [Act.put, List.setIfInBounds_toArray, List.set_cons_zero, List.set_cons_succ]
                refine wpAnyH_take (i := 5) (oi := { dst := some 157, op := Op.fieldAddr 49 (Operand.tmp 18) 2, type := 0, pos := "keeps.go:97", after := #[], guard := none }) (v := ?_) rfl (by kernel_rfl) (by kernel_rfl) (by kernel_rfl) (fun _ _ _ h => h) (Or.inl ⟨by rfl, ?_⟩) (by assumption) ?_
                rotate_left
                · intro w hSw; (try dsimp only at hSw); go_simp; first | done | with_reducible rfl
                try simp only [Act.put, List.setIfInBounds_toArray, List.set_cons_zero, List.set_cons_succ]
                refine wpAnyH_take (i := 6) (oi := { dst := some 158, op := Op.load 25 (Operand.tmp 157), type := 25, pos := "keeps.go:97", after := #[{ on := 5, ground := Ground.data }], guard := none }) (v := ?_) rfl (by kernel_rfl) (by kernel_rfl) (by kernel_rfl) (fun _ _ _ h => h) (Or.inl ⟨by rfl, ?_⟩) (by assumption) ?_
                rotate_left
                · intro w hSw; (try dsimp only at hSw); go_simp; first | done | with_reducible rfl
                try simp only [Act.put, List.setIfInBounds_toArray, List.set_cons_zero, List.set_cons_succ]
                refine wpAnyH_ready (rs := [2]) (by kernel_rfl) (by simp) ?_
                refine AllReadyH.cons (o := { dst := some 154, op := Op.call { callee := Callee.value (Operand.func 13), args := #[Operand.tmp 153], argTypes := #[23] }, type := 9, pos := "keeps.go:97", after := #[{ on := 1, ground := Ground.data }], guard := none }) rfl (fun K hK => ?_) AllReadyH.nil
                go_simp
                go_wp2_with (refine (mem_mv B _ ax P t _ (hM.out.gr g0)).mono ?_; rintro r U1 ⟨rfl, gg⟩; have g1 := g0.trans (gg.mono g0.size); clear gg g0 hHeld)
                refine hK.out _ _ (KS.out _ g1) (fun hHeld => ?_)
                clear hK K
                try simp only [Act.put, List.setIfInBounds_toArray, List.set_cons_zero, List.set_cons_succ]
                refine wpAnyH_ready (rs := [7]) (by kernel_rfl) (by simp) ?_
                refine AllReadyH.cons (o := { dst := some 159, op := Op.call { callee := Callee.value (Operand.func 16), args := #[Operand.tmp 152, Operand.tmp 154, Operand.tmp 156, Operand.tmp 158], argTypes := #[9, 9, 25, 25] }, type := 4, pos := "keeps.go:97", after := #[{ on := 0, ground := Ground.data }, { on := 2, ground := Ground.data }, { on := 4, ground := Ground.data }, { on := 6, ground := Ground.data }, { on := 2, ground := Ground.chain }], guard := none }) rfl (fun K hK => ?_) AllReadyH.nil
                go_simp
                go_wp2_with (refine (chg_mv s.m t.m k.a k.n _ hka.out.1 (by rcases hkn.out with q | q | q <;> omega) hka.out.2.1 hka.out.2.2).mono ?_; rintro r U2 ⟨rfl, gg⟩; have g2 := g1.trans (gg.mono g1.size); clear gg g1 hHeld)
                refine hK.out _ _ (KS.out _ g2) (fun hHeld => ?_)
                clear hK K
                try simp only [Act.put, List.setIfInBounds_toArray, List.set_cons_zero, List.set_cons_succ]
                refine wpAnyH_take (i := 8) (oi := { dst := some 19, op := Op.assign (Operand.tmp 159), type := 4, pos := "keeps.go:97", after := #[{ on := 7, ground := Ground.data }, { on := 7, ground := Ground.chain }, { on := 0, ground := Ground.phase }, { on := 1, ground := Ground.phase }, { on := 2, ground := Ground.phase }, { on := 3, ground := Ground.phase }, { on := 4, ground := Ground.phase }, { on := 5, ground := Ground.phase }, { on := 6, ground := Ground.phase }, { on := 7, ground := Ground.phase }], guard := none }) (v := ?_) rfl (by kernel_rfl) (by kernel_rfl) (by kernel_rfl) (fun _ _ _ h => h) (Or.inl ⟨by rfl, ?_⟩) (by assumption) ?_
                rotate_left
                · intro w hSw; (try dsimp only at hSw); go_simp; first | done | with_reducible rfl
                try simp only [Act.put, List.setIfInBounds_toArray, List.set_cons_zero, List.set_cons_succ]
                refine wpAnyH_done (by kernel_rfl) ?_ _
                clear hHeld KS
                replace hG := Hz.mk (hG.out.trans (g2.mono hM.out.le))
                replace hM := Hz.mk (hM.out.gr g2).drop.drop.drop
                clear g2
                go_wp2_with fail
                refine ⟨⟨j + 1, ?_, hjl, by rw [hst2.out]; exact hM, by rw [hst2.out]; exact Hz.mk het, hG⟩, ?_⟩
                · first | rfl | rw [next_wY hjl (by decide)] | go_num
                · first | exact next_mY hjl | (rw [next_wY hjl (by decide)]; exact next_mY hjl)
        · clear hok
          have hG0 := hG
          have he1 : (t.e != 0) = true := by simpa using het
          have a3 : Hz ((snV t.g t.p t.st.length t.r) = (snV s.g s.p s.st.length s.r)) := Hz.mk (by rw [hoff.g, hoff.p, hoff.st, hoff.r])
          have a1 : Hz (t.out.length = s.out.length) := Hz.mk (by rw [hoff.out])
          have a4 : Hz (t.m = s.m) := Hz.mk hoff.m
          have a2 : t.tc.length = s.tc.length := by rw [hoff.tc]
          have hfe : (t.f != 0) = (t.e == 7) := by
            have := hoff.f
            by_cases q : t.e = 7
            · have := this.2 q
              simp [q, this]
            · have : t.f = 0 := by
                by_cases z : t.f = 0
                · exact z
                · exact absurd (this.1 z) q
              simp [q, this]
          obtain ⟨b9, hb9⟩ : ∃ b, (t.e == 7) = b := ⟨_, rfl⟩
          rw [hb9] at hfe
          have A0 := hM.out.there (boxOb ks (List.toArray (snV s.g s.p s.st.length s.r))) (by simp)
          have A1 := hM.out.there (boxOb ko (List.toArray [Value.int .i64 t.e, .int .u64 t.v, .int .i64 t.f, .int .i64 t.g, .int .i64 t.p])) (by simp)
          have y0 : V11.cell? ⟨ko, 0, none⟩ = some (.int .i64 t.e) := A1.2.1 0
          have KS : Hz (∀ V, Below V11.heap.size V11 V → (V.rangeAt ks 0 (snV s.g s.p s.st.length s.r) ∧ V.cell? ⟨ks, 0, none⟩ = some (.int .i64 s.g) ∧ V.cell? ⟨ks, 1, none⟩ = some (.int .i64 s.p) ∧ V.cell? ⟨ko, 0, none⟩ = some (.int .i64 t.e) ∧ V.cell? ⟨ko, 2, none⟩ = some (.int .i64 t.f) ∧ V.cell? ⟨ko, 3, none⟩ = some (.int .i64 s.g) ∧ V.cell? ⟨ko, 4, none⟩ = some (.int .i64 s.p))) := Hz.mk (fun V q => by
            have h := hM.out.gr q
            have A0 := h.there (boxOb ks (List.toArray (snV s.g s.p s.st.length s.r))) (by simp)
            have A1 := h.there (boxOb ko (List.toArray [Value.int .i64 t.e, .int .u64 t.v, .int .i64 t.f, .int .i64 t.g, .int .i64 t.p])) (by simp)
            exact ⟨fun j v r => by rw [Nat.zero_add]; exact (A0.2.1 j).trans (by simpa using r), A0.2.1 0, A0.2.1 1, A1.2.1 0, A1.2.1 2, (A1.2.1 3).trans (by simp [hoff.g]), (A1.2.1 4).trans (by simp [hoff.p])⟩)
          clear A0 A1
          replace hoff := Hz.mk hoff
          go_upto_region 17 with fail
          clear y0 n1 n2 n3 n4 n5 n6
          have heq := sn_eql s.g s.p s.st.length s.r
          have hz1 := snV_len s.g s.p s.st.length s.r
          have g0 : Below V11.heap.size V11 V11.drew := (Below.refl _ _).drew
          clear hT hlo hlt hG
          refine wp_region_held_drew (S := (fun V => V.rangeAt ks 0 (snV s.g s.p s.st.length s.r) ∧ V.cell? ⟨ks, 0, none⟩ = some (.int .i64 s.g) ∧ V.cell? ⟨ks, 1, none⟩ = some (.int .i64 s.p) ∧ V.cell? ⟨ko, 0, none⟩ = some (.int .i64 t.e) ∧ V.cell? ⟨ko, 2, none⟩ = some (.int .i64 t.f) ∧ V.cell? ⟨ko, 3, none⟩ = some (.int .i64 s.g) ∧ V.cell? ⟨ko, 4, none⟩ = some (.int .i64 s.p))) (by kernel_rfl) (KS.out _ g0) (fun hHeld => ?_)
          refine wpAnyH_take (i := 0) (oi := { dst := some 80, op := Op.move (Operand.tmp 10), type := 23, pos := "keeps.go:85", after := #[], guard := none }) (v := ?_) rfl (by kernel_rfl) (by kernel_rfl) (by kernel_rfl) (fun _ _ _ h => h) (Or.inl ⟨by rfl, ?_⟩) (by assumption) ?_
          rotate_left
          · intro w hSw; (try dsimp only at hSw); go_simp; first | done | with_reducible rfl
          try simp only [Act.put, List.setIfInBounds_toArray, List.set_cons_zero, List.set_cons_succ]
          refine wpAnyH_take (i := 2) (oi := { dst := some 82, op := Op.load 33 (Operand.tmp 12), type := 33, pos := "keeps.go:85", after := #[], guard := none }) (v := _) rfl (by kernel_rfl) (by kernel_rfl) (by kernel_rfl) (fun _ _ _ h => h) (yieldsIf_load_mid (by rfl) _ _ rfl _ _ rfl _ _ (fun _ h => h.1) Tryz.underlying33 rfl (by rw [snV_len]; kernel_rfl)) (by assumption) ?_
          try simp only [Act.put, List.setIfInBounds_toArray, List.set_cons_zero, List.set_cons_succ]
          refine wpAnyH_ready (rs := [1]) (by kernel_rfl) (by simp) ?_
          refine AllReadyH.cons (o := { dst := some 81, op := Op.call { callee := Callee.value (Operand.func 9), args := #[Operand.tmp 80], argTypes := #[23] }, type := 33, pos := "keeps.go:85", after := #[{ on := 0, ground := Ground.data }], guard := none }) rfl (fun K hK => ?_) AllReadyH.nil
          go_simp
          go_wp2_with (refine (snap_any B _ ax P t _ (hM.out.gr g0)).mono ?_; rintro r U1 ⟨rfl, gg⟩; have g1 := g0.trans (gg.below.mono g0.size); rw [a3.out]; clear gg g0 hHeld)
          refine hK.out _ _ (KS.out _ g1) (fun hHeld => ?_)
          clear hK K
          try simp only [Act.put, List.setIfInBounds_toArray, List.set_cons_zero, List.set_cons_succ]
          refine wpAnyH_take (i := 3) (oi := { dst := some 83, op := Op.binOp BinOp.eql 33 (Operand.tmp 81) (Operand.tmp 82) 33, type := 4, pos := "keeps.go:85", after := #[{ on := 1, ground := Ground.data }, { on := 2, ground := Ground.data }], guard := none }) (v := ?_) rfl (by kernel_rfl) (by kernel_rfl) (by kernel_rfl) (fun _ _ _ h => h) (Or.inl ⟨by rfl, ?_⟩) (by assumption) ?_
          rotate_left
          · intro w hSw; (try dsimp only at hSw); go_simp; first | done | with_reducible rfl
          try simp only [Act.put, List.setIfInBounds_toArray, List.set_cons_zero, List.set_cons_succ]
          refine wpAnyH_take (i := 4) (oi := { dst := some 84, op := Op.move (Operand.tmp 83), type := 4, pos := "keeps.go:85", after := #[{ on := 3, ground := Ground.data }, { on := 1, ground := Ground.chain }], guard := none }) (v := ?_) rfl (by kernel_rfl) (by kernel_rfl) (by kernel_rfl) (fun _ _ _ h => h) (Or.inl ⟨by rfl, ?_⟩) (by assumption) ?_
          rotate_left
          · intro w hSw; (try dsimp only at hSw); go_simp; first | done | with_reducible rfl
          try simp only [Act.put, List.setIfInBounds_toArray, List.set_cons_zero, List.set_cons_succ]
          refine wpAnyH_take (i := 5) (oi := { dst := some 85, op := Op.move (Operand.tmp 10), type := 23, pos := "keeps.go:85", after := #[{ on := 4, ground := Ground.guard }], guard := some (4, true) }) (v := ?_) rfl (by kernel_rfl) (by kernel_rfl) (by kernel_rfl) (fun _ _ _ h => h) (Or.inl ⟨by rfl, ?_⟩) (by assumption) ?_
          rotate_left
          · intro w hSw; (try dsimp only at hSw); go_simp; first | done | with_reducible rfl
          try simp only [Act.put, List.setIfInBounds_toArray, List.set_cons_zero, List.set_cons_succ]
          refine wpAnyH_take (i := 8) (oi := { dst := some 88, op := Op.move (Operand.tmp 13), type := 3, pos := "keeps.go:85", after := #[{ on := 4, ground := Ground.guard }], guard := some (4, true) }) (v := ?_) rfl (by kernel_rfl) (by kernel_rfl) (by kernel_rfl) (fun _ _ _ h => h) (Or.inl ⟨by rfl, ?_⟩) (by assumption) ?_
          rotate_left
          · intro w hSw; (try dsimp only at hSw); go_simp; first | done | with_reducible rfl
          try simp only [Act.put, List.setIfInBounds_toArray, List.set_cons_zero, List.set_cons_succ]
          refine wpAnyH_ready (rs := [6]) (by kernel_rfl) (by simp) ?_
          refine AllReadyH.cons (o := { dst := some 86, op := Op.call { callee := Callee.value (Operand.func 10), args := #[Operand.tmp 85], argTypes := #[23] }, type := 35, pos := "keeps.go:85", after := #[{ on := 5, ground := Ground.data }, { on := 4, ground := Ground.chain }, { on := 4, ground := Ground.guard }], guard := some (4, true) }) rfl (fun K hK => ?_) AllReadyH.nil
          go_simp
          go_wp2_with (refine (outs_any B _ ax P t _ (hM.out.gr g1) hol2.out).mono ?_; rintro r U2 ⟨va1, c1, rfl, _, gg⟩; rw [a1.out]; have g2 := g1.trans (gg.mono g1.size); clear gg g1 hHeld)
          refine hK.out _ _ (KS.out _ g2) (fun hHeld => ?_)
          clear hK K
          try simp only [Act.put, List.setIfInBounds_toArray, List.set_cons_zero, List.set_cons_succ]
          refine wpAnyH_take (i := 7) (oi := { dst := some 87, op := Op.call { callee := Callee.builtin Builtin.len, args := #[Operand.tmp 86], argTypes := #[35] }, type := 3, pos := "keeps.go:85", after := #[{ on := 6, ground := Ground.data }, { on := 4, ground := Ground.guard }], guard := some (4, true) }) (v := ?_) rfl (by kernel_rfl) (by kernel_rfl) (by kernel_rfl) (fun _ _ _ h => h) (Or.inl ⟨by rfl, ?_⟩) (by assumption) ?_
          rotate_left
          · intro w hSw; (try dsimp only at hSw); go_simp; first | done | with_reducible rfl
          try simp only [Act.put, List.setIfInBounds_toArray, List.set_cons_zero, List.set_cons_succ]
          refine wpAnyH_take (i := 9) (oi := { dst := some 89, op := Op.binOp BinOp.eql 3 (Operand.tmp 87) (Operand.tmp 88) 3, type := 4, pos := "keeps.go:85", after := #[{ on := 7, ground := Ground.data }, { on := 8, ground := Ground.data }, { on := 4, ground := Ground.guard }], guard := some (4, true) }) (v := ?_) rfl (by kernel_rfl) (by kernel_rfl) (by kernel_rfl) (fun _ _ _ h => h) (Or.inl ⟨by rfl, ?_⟩) (by assumption) ?_
          rotate_left
          · intro w hSw; (try dsimp only at hSw); go_simp; first | done | with_reducible rfl
          try simp only [Act.put, List.setIfInBounds_toArray, List.set_cons_zero, List.set_cons_succ]
          refine wpAnyH_take (i := 10) (oi := { dst := some 90, op := Op.pick (Operand.tmp 84) (Operand.tmp 89) (Operand.const (Value.bool false)), type := 4, pos := "keeps.go:85", after := #[{ on := 4, ground := Ground.data }, { on := 9, ground := Ground.data }], guard := none }) (v := ?_) rfl (by kernel_rfl) (by kernel_rfl) (by kernel_rfl) (fun _ _ _ h => h) (Or.inl ⟨by rfl, ?_⟩) (by assumption) ?_
          rotate_left
          · intro w hSw; (try dsimp only at hSw); go_simp; first | done | with_reducible rfl
          try simp only [Act.put, List.setIfInBounds_toArray, List.set_cons_zero, List.set_cons_succ]
          refine wpAnyH_take (i := 11) (oi := { dst := some 91, op := Op.move (Operand.tmp 90), type := 4, pos := "keeps.go:85", after := #[{ on := 10, ground := Ground.data }, { on := 6, ground := Ground.chain }], guard := none }) (v := ?_) rfl (by kernel_rfl) (by kernel_rfl) (by kernel_rfl) (fun _ _ _ h => h) (Or.inl ⟨by rfl, ?_⟩) (by assumption) ?_
          rotate_left
          · intro w hSw; (try dsimp only at hSw); go_simp; first | done | with_reducible rfl
          try simp only [Act.put, List.setIfInBounds_toArray, List.set_cons_zero, List.set_cons_succ]
          refine wpAnyH_take (i := 12) (oi := { dst := some 92, op := Op.move (Operand.tmp 17), type := 37, pos := "keeps.go:85", after := #[{ on := 11, ground := Ground.guard }], guard := some (11, true) }) (v := ?_) rfl (by kernel_rfl) (by kernel_rfl) (by kernel_rfl) (fun _ _ _ h => h) (Or.inl ⟨by rfl, ?_⟩) (by assumption) ?_
          rotate_left
          · intro w hSw; (try dsimp only at hSw); go_simp; first | done | with_reducible rfl
          try simp only [Act.put, List.setIfInBounds_toArray, List.set_cons_zero, List.set_cons_succ]
          refine wpAnyH_take (i := 13) (oi := { dst := some 93, op := Op.call { callee := Callee.builtin Builtin.len, args := #[Operand.tmp 92], argTypes := #[37] }, type := 3, pos := "keeps.go:85", after := #[{ on := 12, ground := Ground.data }, { on := 11, ground := Ground.guard }], guard := some (11, true) }) (v := ?_) rfl (by kernel_rfl) (by kernel_rfl) (by kernel_rfl) (fun _ _ _ h => h) (Or.inl ⟨by rfl, ?_⟩) (by assumption) ?_
          rotate_left
          · intro w hSw; (try dsimp only at hSw); go_simp; first | done | with_reducible rfl
          try simp only [Act.put, List.setIfInBounds_toArray, List.set_cons_zero, List.set_cons_succ]
          refine wpAnyH_take (i := 14) (oi := { dst := some 94, op := Op.move (Operand.tmp 14), type := 3, pos := "keeps.go:85", after := #[{ on := 11, ground := Ground.guard }], guard := some (11, true) }) (v := ?_) rfl (by kernel_rfl) (by kernel_rfl) (by kernel_rfl) (fun _ _ _ h => h) (Or.inl ⟨by rfl, ?_⟩) (by assumption) ?_
          rotate_left
          · intro w hSw; (try dsimp only at hSw); go_simp; first | done | with_reducible rfl
          try simp only [Act.put, List.setIfInBounds_toArray, List.set_cons_zero, List.set_cons_succ]
          refine wpAnyH_take (i := 15) (oi := { dst := some 95, op := Op.binOp BinOp.eql 3 (Operand.tmp 93) (Operand.tmp 94) 3, type := 4, pos := "keeps.go:85", after := #[{ on := 13, ground := Ground.data }, { on := 14, ground := Ground.data }, { on := 11, ground := Ground.guard }], guard := some (11, true) }) (v := ?_) rfl (by kernel_rfl) (by kernel_rfl) (by kernel_rfl) (fun _ _ _ h => h) (Or.inl ⟨by rfl, ?_⟩) (by assumption) ?_
          rotate_left
          · intro w hSw; (try dsimp only at hSw); go_simp; first | done | with_reducible rfl
          try simp only [Act.put, List.setIfInBounds_toArray, List.set_cons_zero, List.set_cons_succ]
          refine wpAnyH_take (i := 16) (oi := { dst := some 96, op := Op.pick (Operand.tmp 91) (Operand.tmp 95) (Operand.const (Value.bool false)), type := 4, pos := "keeps.go:85", after := #[{ on := 11, ground := Ground.data }, { on := 15, ground := Ground.data }], guard := none }) (v := ?_) rfl (by kernel_rfl) (by kernel_rfl) (by kernel_rfl) (fun _ _ _ h => h) (Or.inl ⟨by rfl, ?_⟩) (by assumption) ?_
          rotate_left
          · intro w hSw; (try dsimp only at hSw); go_simp; first | done | with_reducible rfl
          try simp only [Act.put, List.setIfInBounds_toArray, List.set_cons_zero, List.set_cons_succ]
          refine wpAnyH_take (i := 17) (oi := { dst := some 97, op := Op.move (Operand.tmp 96), type := 4, pos := "keeps.go:85", after := #[{ on := 16, ground := Ground.data }, { on := 11, ground := Ground.chain }], guard := none }) (v := ?_) rfl (by kernel_rfl) (by kernel_rfl) (by kernel_rfl) (fun _ _ _ h => h) (Or.inl ⟨by rfl, ?_⟩) (by assumption) ?_
          rotate_left
          · intro w hSw; (try dsimp only at hSw); go_simp; first | done | with_reducible rfl
          try simp only [Act.put, List.setIfInBounds_toArray, List.set_cons_zero, List.set_cons_succ]
          refine wpAnyH_take (i := 18) (oi := { dst := some 98, op := Op.move (Operand.tmp 10), type := 23, pos := "keeps.go:85", after := #[{ on := 17, ground := Ground.guard }], guard := some (17, true) }) (v := ?_) rfl (by kernel_rfl) (by kernel_rfl) (by kernel_rfl) (fun _ _ _ h => h) (Or.inl ⟨by rfl, ?_⟩) (by assumption) ?_
          rotate_left
          · intro w hSw; (try dsimp only at hSw); go_simp; first | done | with_reducible rfl
          try simp only [Act.put, List.setIfInBounds_toArray, List.set_cons_zero, List.set_cons_succ]
          refine wpAnyH_take (i := 20) (oi := { dst := some 100, op := Op.move (Operand.tmp 15), type := 9, pos := "keeps.go:85", after := #[{ on := 17, ground := Ground.guard }], guard := some (17, true) }) (v := ?_) rfl (by kernel_rfl) (by kernel_rfl) (by kernel_rfl) (fun _ _ _ h => h) (Or.inl ⟨by rfl, ?_⟩) (by assumption) ?_
          rotate_left
          · intro w hSw; (try dsimp only at hSw); go_simp; first | done | with_reducible rfl
          try simp only [Act.put, List.setIfInBounds_toArray, List.set_cons_zero, List.set_cons_succ]
          refine wpAnyH_ready (rs := [19]) (by kernel_rfl) (by simp) ?_
          refine AllReadyH.cons (o := { dst := some 99, op := Op.call { callee := Callee.value (Operand.func 13), args := #[Operand.tmp 98], argTypes := #[23] }, type := 9, pos := "keeps.go:85", after := #[{ on := 18, ground := Ground.data }, { on := 17, ground := Ground.chain }, { on := 17, ground := Ground.guard }], guard := some (17, true) }) rfl (fun K hK => ?_) AllReadyH.nil
          go_simp
          go_wp2_with (refine (mem_mv B _ ax P t _ (hM.out.gr g2)).mono ?_; rintro r U3 ⟨rfl, gg⟩; rw [a4.out]; have g3 := g2.trans (gg.mono g2.size); clear gg g2 hHeld)
          refine hK.out _ _ (KS.out _ g3) (fun hHeld => ?_)
          clear hK K
          try simp only [Act.put, List.setIfInBounds_toArray, List.set_cons_zero, List.set_cons_succ]
          refine wpAnyH_take (i := 21) (oi := { dst := some 101, op := Op.binOp BinOp.eql 9 (Operand.tmp 99) (Operand.tmp 100) 9, type := 4, pos := "keeps.go:85", after := #[{ on := 19, ground := Ground.data }, { on := 20, ground := Ground.data }, { on := 17, ground := Ground.guard }], guard := some (17, true) }) (v := ?_) rfl (by kernel_rfl) (by kernel_rfl) (by kernel_rfl) (fun _ _ _ h => h) (Or.inl ⟨by rfl, ?_⟩) (by assumption) ?_
          rotate_left
          · intro w hSw; (try dsimp only at hSw); go_simp; first | done | with_reducible rfl
          try simp only [Act.put, List.setIfInBounds_toArray, List.set_cons_zero, List.set_cons_succ]
          refine wpAnyH_take (i := 22) (oi := { dst := some 102, op := Op.pick (Operand.tmp 97) (Operand.tmp 101) (Operand.const (Value.bool false)), type := 4, pos := "keeps.go:85", after := #[{ on := 17, ground := Ground.data }, { on := 21, ground := Ground.data }], guard := none }) (v := ?_) rfl (by kernel_rfl) (by kernel_rfl) (by kernel_rfl) (fun _ _ _ h => h) (Or.inl ⟨by rfl, ?_⟩) (by assumption) ?_
          rotate_left
          · intro w hSw; (try dsimp only at hSw); go_simp; first | done | with_reducible rfl
          try simp only [Act.put, List.setIfInBounds_toArray, List.set_cons_zero, List.set_cons_succ]
          refine wpAnyH_take (i := 23) (oi := { dst := some 103, op := Op.move (Operand.tmp 102), type := 4, pos := "keeps.go:85", after := #[{ on := 22, ground := Ground.data }, { on := 19, ground := Ground.chain }], guard := none }) (v := ?_) rfl (by kernel_rfl) (by kernel_rfl) (by kernel_rfl) (fun _ _ _ h => h) (Or.inl ⟨by rfl, ?_⟩) (by assumption) ?_
          rotate_left
          · intro w hSw; (try dsimp only at hSw); go_simp; first | done | with_reducible rfl
          try simp only [Act.put, List.setIfInBounds_toArray, List.set_cons_zero, List.set_cons_succ]
          refine wpAnyH_take (i := 24) (oi := { dst := some 104, op := Op.fieldAddr 28 (Operand.tmp 16) 3, type := 0, pos := "keeps.go:85", after := #[{ on := 23, ground := Ground.guard }], guard := some (23, true) }) (v := ?_) rfl (by kernel_rfl) (by kernel_rfl) (by kernel_rfl) (fun _ _ _ h => h) (Or.inl ⟨by rfl, ?_⟩) (by assumption) ?_
          rotate_left
          · intro w hSw; (try dsimp only at hSw); go_simp; first | done | with_reducible rfl
          try simp only [Act.put, List.setIfInBounds_toArray, List.set_cons_zero, List.set_cons_succ]
          refine wpAnyH_take (i := 25) (oi := { dst := some 105, op := Op.load 3 (Operand.tmp 104), type := 3, pos := "keeps.go:85", after := #[{ on := 24, ground := Ground.data }, { on := 23, ground := Ground.guard }], guard := some (23, true) }) (v := ?_) rfl (by kernel_rfl) (by kernel_rfl) (by kernel_rfl) (fun _ _ _ h => h) (Or.inl ⟨by rfl, ?_⟩) (by assumption) ?_
          rotate_left
          · intro w hSw; (try dsimp only at hSw); go_simp; first | done | with_reducible rfl
          try simp only [Act.put, List.setIfInBounds_toArray, List.set_cons_zero, List.set_cons_succ]
          refine wpAnyH_take (i := 26) (oi := { dst := some 106, op := Op.fieldAddr 33 (Operand.tmp 12) 0, type := 0, pos := "keeps.go:85", after := #[{ on := 23, ground := Ground.guard }], guard := some (23, true) }) (v := ?_) rfl (by kernel_rfl) (by kernel_rfl) (by kernel_rfl) (fun _ _ _ h => h) (Or.inl ⟨by rfl, ?_⟩) (by assumption) ?_
          rotate_left
          · intro w hSw; (try dsimp only at hSw); go_simp; first | done | with_reducible rfl
          try simp only [Act.put, List.setIfInBounds_toArray, List.set_cons_zero, List.set_cons_succ]
          refine wpAnyH_take (i := 27) (oi := { dst := some 107, op := Op.load 3 (Operand.tmp 106), type := 3, pos := "keeps.go:85", after := #[{ on := 26, ground := Ground.data }, { on := 23, ground := Ground.guard }], guard := some (23, true) }) (v := ?_) rfl (by kernel_rfl) (by kernel_rfl) (by kernel_rfl) (fun _ _ _ h => h) (Or.inl ⟨by rfl, ?_⟩) (by assumption) ?_
          rotate_left
          · intro w hSw; (try dsimp only at hSw); go_simp; first | done | with_reducible rfl
          try simp only [Act.put, List.setIfInBounds_toArray, List.set_cons_zero, List.set_cons_succ]
          refine wpAnyH_take (i := 28) (oi := { dst := some 108, op := Op.binOp BinOp.eql 3 (Operand.tmp 105) (Operand.tmp 107) 3, type := 4, pos := "keeps.go:85", after := #[{ on := 25, ground := Ground.data }, { on := 27, ground := Ground.data }, { on := 23, ground := Ground.guard }], guard := some (23, true) }) (v := ?_) rfl (by kernel_rfl) (by kernel_rfl) (by kernel_rfl) (fun _ _ _ h => h) (Or.inl ⟨by rfl, ?_⟩) (by assumption) ?_
          rotate_left
          · intro w hSw; (try dsimp only at hSw); go_simp; first | done | with_reducible rfl
          try simp only [Act.put, List.setIfInBounds_toArray, List.set_cons_zero, List.set_cons_succ]
          refine wpAnyH_take (i := 29) (oi := { dst := some 109, op := Op.pick (Operand.tmp 103) (Operand.tmp 108) (Operand.const (Value.bool false)), type := 4, pos := "keeps.go:85", after := #[{ on := 23, ground := Ground.data }, { on := 28, ground := Ground.data }], guard := none }) (v := ?_) rfl (by kernel_rfl) (by kernel_rfl) (by kernel_rfl) (fun _ _ _ h => h) (Or.inl ⟨by rfl, ?_⟩) (by assumption) ?_
          rotate_left
          · intro w hSw; (try dsimp only at hSw); go_simp; first | done | with_reducible rfl
          try simp only [Act.put, List.setIfInBounds_toArray, List.set_cons_zero, List.set_cons_succ]
          refine wpAnyH_take (i := 30) (oi := { dst := some 110, op := Op.move (Operand.tmp 109), type := 4, pos := "keeps.go:85", after := #[{ on := 29, ground := Ground.data }, { on := 23, ground := Ground.chain }], guard := none }) (v := ?_) rfl (by kernel_rfl) (by kernel_rfl) (by kernel_rfl) (fun _ _ _ h => h) (Or.inl ⟨by rfl, ?_⟩) (by assumption) ?_
          rotate_left
          · intro w hSw; (try dsimp only at hSw); go_simp; first | done | with_reducible rfl
          try simp only [Act.put, List.setIfInBounds_toArray, List.set_cons_zero, List.set_cons_succ]
          refine wpAnyH_take (i := 31) (oi := { dst := some 111, op := Op.fieldAddr 28 (Operand.tmp 16) 4, type := 0, pos := "keeps.go:85", after := #[{ on := 30, ground := Ground.guard }], guard := some (30, true) }) (v := ?_) rfl (by kernel_rfl) (by kernel_rfl) (by kernel_rfl) (fun _ _ _ h => h) (Or.inl ⟨by rfl, ?_⟩) (by assumption) ?_
          rotate_left
          · intro w hSw; (try dsimp only at hSw); go_simp; first | done | with_reducible rfl
          try simp only [Act.put, List.setIfInBounds_toArray, List.set_cons_zero, List.set_cons_succ]
          refine wpAnyH_take (i := 32) (oi := { dst := some 112, op := Op.load 3 (Operand.tmp 111), type := 3, pos := "keeps.go:85", after := #[{ on := 31, ground := Ground.data }, { on := 30, ground := Ground.guard }], guard := some (30, true) }) (v := ?_) rfl (by kernel_rfl) (by kernel_rfl) (by kernel_rfl) (fun _ _ _ h => h) (Or.inl ⟨by rfl, ?_⟩) (by assumption) ?_
          rotate_left
          · intro w hSw; (try dsimp only at hSw); go_simp; first | done | with_reducible rfl
          try simp only [Act.put, List.setIfInBounds_toArray, List.set_cons_zero, List.set_cons_succ]
          refine wpAnyH_take (i := 33) (oi := { dst := some 113, op := Op.fieldAddr 33 (Operand.tmp 12) 1, type := 0, pos := "keeps.go:85", after := #[{ on := 30, ground := Ground.guard }], guard := some (30, true) }) (v := ?_) rfl (by kernel_rfl) (by kernel_rfl) (by kernel_rfl) (fun _ _ _ h => h) (Or.inl ⟨by rfl, ?_⟩) (by assumption) ?_
          rotate_left
          · intro w hSw; (try dsimp only at hSw); go_simp; first | done | with_reducible rfl
          try simp only [Act.put, List.setIfInBounds_toArray, List.set_cons_zero, List.set_cons_succ]
          refine wpAnyH_take (i := 34) (oi := { dst := some 114, op := Op.load 3 (Operand.tmp 113), type := 3, pos := "keeps.go:85", after := #[{ on := 33, ground := Ground.data }, { on := 30, ground := Ground.guard }], guard := some (30, true) }) (v := ?_) rfl (by kernel_rfl) (by kernel_rfl) (by kernel_rfl) (fun _ _ _ h => h) (Or.inl ⟨by rfl, ?_⟩) (by assumption) ?_
          rotate_left
          · intro w hSw; (try dsimp only at hSw); go_simp; first | done | with_reducible rfl
          try simp only [Act.put, List.setIfInBounds_toArray, List.set_cons_zero, List.set_cons_succ]
          refine wpAnyH_take (i := 35) (oi := { dst := some 115, op := Op.binOp BinOp.eql 3 (Operand.tmp 112) (Operand.tmp 114) 3, type := 4, pos := "keeps.go:85", after := #[{ on := 32, ground := Ground.data }, { on := 34, ground := Ground.data }, { on := 30, ground := Ground.guard }], guard := some (30, true) }) (v := ?_) rfl (by kernel_rfl) (by kernel_rfl) (by kernel_rfl) (fun _ _ _ h => h) (Or.inl ⟨by rfl, ?_⟩) (by assumption) ?_
          rotate_left
          · intro w hSw; (try dsimp only at hSw); go_simp; first | done | with_reducible rfl
          try simp only [Act.put, List.setIfInBounds_toArray, List.set_cons_zero, List.set_cons_succ]
          refine wpAnyH_take (i := 36) (oi := { dst := some 116, op := Op.pick (Operand.tmp 110) (Operand.tmp 115) (Operand.const (Value.bool false)), type := 4, pos := "keeps.go:85", after := #[{ on := 30, ground := Ground.data }, { on := 35, ground := Ground.data }], guard := none }) (v := ?_) rfl (by kernel_rfl) (by kernel_rfl) (by kernel_rfl) (fun _ _ _ h => h) (Or.inl ⟨by rfl, ?_⟩) (by assumption) ?_
          rotate_left
          · intro w hSw; (try dsimp only at hSw); go_simp; first | done | with_reducible rfl
          try simp only [Act.put, List.setIfInBounds_toArray, List.set_cons_zero, List.set_cons_succ]
          refine wpAnyH_take (i := 37) (oi := { dst := some 117, op := Op.move (Operand.tmp 116), type := 4, pos := "keeps.go:85", after := #[{ on := 36, ground := Ground.data }, { on := 30, ground := Ground.chain }], guard := none }) (v := ?_) rfl (by kernel_rfl) (by kernel_rfl) (by kernel_rfl) (fun _ _ _ h => h) (Or.inl ⟨by rfl, ?_⟩) (by assumption) ?_
          rotate_left
          · intro w hSw; (try dsimp only at hSw); go_simp; first | done | with_reducible rfl
          try simp only [Act.put, List.setIfInBounds_toArray, List.set_cons_zero, List.set_cons_succ]
          refine wpAnyH_take (i := 38) (oi := { dst := some 118, op := Op.fieldAddr 28 (Operand.tmp 16) 2, type := 0, pos := "keeps.go:85", after := #[{ on := 37, ground := Ground.guard }], guard := some (37, true) }) (v := ?_) rfl (by kernel_rfl) (by kernel_rfl) (by kernel_rfl) (fun _ _ _ h => h) (Or.inl ⟨by rfl, ?_⟩) (by assumption) ?_
          rotate_left
          · intro w hSw; (try dsimp only at hSw); go_simp; first | done | with_reducible rfl
          try simp only [Act.put, List.setIfInBounds_toArray, List.set_cons_zero, List.set_cons_succ]
          refine wpAnyH_take (i := 39) (oi := { dst := some 119, op := Op.load 26 (Operand.tmp 118), type := 26, pos := "keeps.go:85", after := #[{ on := 38, ground := Ground.data }, { on := 37, ground := Ground.guard }], guard := some (37, true) }) (v := ?_) rfl (by kernel_rfl) (by kernel_rfl) (by kernel_rfl) (fun _ _ _ h => h) (Or.inl ⟨by rfl, ?_⟩) (by assumption) ?_
          rotate_left
          · intro w hSw; (try dsimp only at hSw); go_simp; first | done | with_reducible rfl
          try simp only [Act.put, List.setIfInBounds_toArray, List.set_cons_zero, List.set_cons_succ]
          refine wpAnyH_take (i := 40) (oi := { dst := some 120, op := Op.binOp BinOp.neq 26 (Operand.tmp 119) (Operand.const (Value.int IntKind.i64 0)) 26, type := 4, pos := "keeps.go:85", after := #[{ on := 39, ground := Ground.data }, { on := 37, ground := Ground.guard }], guard := some (37, true) }) (v := ?_) rfl (by kernel_rfl) (by kernel_rfl) (by kernel_rfl) (fun _ _ _ h => h) (Or.inl ⟨by rfl, ?_⟩) (by assumption) ?_
          rotate_left
          · intro w hSw; (try dsimp only at hSw); go_simp; first | done | with_reducible rfl
          try simp only [Act.put, List.setIfInBounds_toArray, List.set_cons_zero, List.set_cons_succ]
          refine wpAnyH_take (i := 41) (oi := { dst := some 121, op := Op.fieldAddr 28 (Operand.tmp 16) 0, type := 0, pos := "keeps.go:85", after := #[{ on := 37, ground := Ground.guard }], guard := some (37, true) }) (v := ?_) rfl (by kernel_rfl) (by kernel_rfl) (by kernel_rfl) (fun _ _ _ h => h) (Or.inl ⟨by rfl, ?_⟩) (by assumption) ?_
          rotate_left
          · intro w hSw; (try dsimp only at hSw); go_simp; first | done | with_reducible rfl
          try simp only [Act.put, List.setIfInBounds_toArray, List.set_cons_zero, List.set_cons_succ]
          refine wpAnyH_take (i := 42) (oi := { dst := some 122, op := Op.load 24 (Operand.tmp 121), type := 24, pos := "keeps.go:85", after := #[{ on := 41, ground := Ground.data }, { on := 37, ground := Ground.guard }], guard := some (37, true) }) (v := ?_) rfl (by kernel_rfl) (by kernel_rfl) (by kernel_rfl) (fun _ _ _ h => h) (Or.inl ⟨by rfl, ?_⟩) (by assumption) ?_
          rotate_left
          · intro w hSw; (try dsimp only at hSw); go_simp; first | done | with_reducible rfl
          try simp only [Act.put, List.setIfInBounds_toArray, List.set_cons_zero, List.set_cons_succ]
          refine wpAnyH_take (i := 43) (oi := { dst := some 123, op := Op.binOp BinOp.eql 24 (Operand.tmp 122) (Operand.const (Value.int IntKind.i64 7)) 24, type := 4, pos := "keeps.go:85", after := #[{ on := 42, ground := Ground.data }, { on := 37, ground := Ground.guard }], guard := some (37, true) }) (v := ?_) rfl (by kernel_rfl) (by kernel_rfl) (by kernel_rfl) (fun _ _ _ h => h) (Or.inl ⟨by rfl, ?_⟩) (by assumption) ?_
          rotate_left
          · intro w hSw; (try dsimp only at hSw); go_simp; first | done | with_reducible rfl
          try simp only [Act.put, List.setIfInBounds_toArray, List.set_cons_zero, List.set_cons_succ]
          refine wpAnyH_take (i := 44) (oi := { dst := some 124, op := Op.binOp BinOp.eql 4 (Operand.tmp 120) (Operand.tmp 123) 4, type := 4, pos := "keeps.go:85", after := #[{ on := 40, ground := Ground.data }, { on := 43, ground := Ground.data }, { on := 37, ground := Ground.guard }], guard := some (37, true) }) (v := ?_) rfl (by kernel_rfl) (by kernel_rfl) (by kernel_rfl) (fun _ _ _ h => h) (Or.inl ⟨by rfl, ?_⟩) (by assumption) ?_
          rotate_left
          · intro w hSw; (try dsimp only at hSw); go_simp; first | done | with_reducible rfl
          try simp only [Act.put, List.setIfInBounds_toArray, List.set_cons_zero, List.set_cons_succ]
          refine wpAnyH_take (i := 45) (oi := { dst := some 125, op := Op.pick (Operand.tmp 117) (Operand.tmp 124) (Operand.const (Value.bool false)), type := 4, pos := "keeps.go:85", after := #[{ on := 37, ground := Ground.data }, { on := 44, ground := Ground.data }], guard := none }) (v := ?_) rfl (by kernel_rfl) (by kernel_rfl) (by kernel_rfl) (fun _ _ _ h => h) (Or.inl ⟨by rfl, ?_⟩) (by assumption) ?_
          rotate_left
          · intro w hSw; (try dsimp only at hSw); go_simp; first | done | with_reducible rfl
          try simp only [Act.put, List.setIfInBounds_toArray, List.set_cons_zero, List.set_cons_succ]
          refine wpAnyH_take (i := 46) (oi := { dst := some 8, op := Op.assign (Operand.tmp 125), type := 4, pos := "keeps.go:85", after := #[{ on := 45, ground := Ground.data }, { on := 37, ground := Ground.chain }, { on := 0, ground := Ground.phase }, { on := 1, ground := Ground.phase }, { on := 2, ground := Ground.phase }, { on := 3, ground := Ground.phase }, { on := 4, ground := Ground.phase }, { on := 5, ground := Ground.phase }, { on := 6, ground := Ground.phase }, { on := 7, ground := Ground.phase }, { on := 8, ground := Ground.phase }, { on := 9, ground := Ground.phase }, { on := 10, ground := Ground.phase }, { on := 11, ground := Ground.phase }, { on := 12, ground := Ground.phase }, { on := 13, ground := Ground.phase }, { on := 14, ground := Ground.phase }, { on := 15, ground := Ground.phase }, { on := 16, ground := Ground.phase }, { on := 17, ground := Ground.phase }, { on := 18, ground := Ground.phase }, { on := 19, ground := Ground.phase }, { on := 20, ground := Ground.phase }, { on := 21, ground := Ground.phase }, { on := 22, ground := Ground.phase }, { on := 23, ground := Ground.phase }, { on := 24, ground := Ground.phase }, { on := 25, ground := Ground.phase }, { on := 26, ground := Ground.phase }, { on := 27, ground := Ground.phase }, { on := 28, ground := Ground.phase }, { on := 29, ground := Ground.phase }, { on := 30, ground := Ground.phase }, { on := 31, ground := Ground.phase }, { on := 32, ground := Ground.phase }, { on := 33, ground := Ground.phase }, { on := 34, ground := Ground.phase }, { on := 35, ground := Ground.phase }, { on := 36, ground := Ground.phase }, { on := 37, ground := Ground.phase }, { on := 38, ground := Ground.phase }, { on := 39, ground := Ground.phase }, { on := 40, ground := Ground.phase }, { on := 41, ground := Ground.phase }, { on := 42, ground := Ground.phase }, { on := 43, ground := Ground.phase }, { on := 44, ground := Ground.phase }, { on := 45, ground := Ground.phase }], guard := none }) (v := ?_) rfl (by kernel_rfl) (by kernel_rfl) (by kernel_rfl) (fun _ _ _ h => h) (Or.inl ⟨by rfl, ?_⟩) (by assumption) ?_
          rotate_left
          · intro w hSw; (try dsimp only at hSw); go_simp; first | done | with_reducible rfl
          try simp only [Act.put, List.setIfInBounds_toArray, List.set_cons_zero, List.set_cons_succ]
          refine wpAnyH_done (by kernel_rfl) ?_ _
          clear hHeld KS
          go_wp2_with fail
          go_ret
          exact ⟨rfl, Gw.out.trans ((hG0.out.trans (g3.mono hM.out.le)).mono hBw.out)⟩
      · obtain rfl : j = 300 := by omega
        go_wp2_with fail
        go_ret
        exact ⟨rfl, Gw.out.trans (hG.out.mono hBw.out)⟩
  · have hno := hok
    clear hok
    replace hno := Hz.mk hno
    go_enter Tryz.func4, Tryz.ntmps4
    go_upto_region 1 with fail
    refine wp_world (fun W => At W w.heap.size #[.slice ca R.code.length cc, .slice ga R.gates.length gc, .string (T.str mem), .int .i64 R.dep] ∧ Gr w W) ⟨At.new w _ _, (Gr.refl _).alloc _⟩ ?_
    rintro W ⟨hQ, G⟩
    have hkp := hQ.1
    replace hb := Hz.mk (hb.out.below G.below)
    go_wp2_with fail
    refine (examples_any W).mono ?_
    rintro r V1 ⟨rfl, hB⟩
    replace hQ := Hz.mk (at_below hQ hB hkp)
    replace hb := Hz.mk (hb.out.below hB)
    replace G := Hz.mk (G.below.trans (hB.mono (Nat.le_of_lt hkp)))
    replace hkp := Hz.mk (Nat.lt_of_lt_of_le hkp hB.size)
    clear hB
    have d0 : V1.cell? ⟨w.heap.size, 0, none⟩ = some (.slice ca R.code.length cc) := hQ.out.2.1 0
    have d1 : V1.cell? ⟨w.heap.size, 1, none⟩ = some (.slice ga R.gates.length gc) := hQ.out.2.1 1
    have d2 : V1.cell? ⟨w.heap.size, 2, none⟩ = some (.string (T.str mem)) := hQ.out.2.1 2
    have d3 : V1.cell? ⟨w.heap.size, 3, none⟩ = some (.int .i64 R.dep) := hQ.out.2.1 3
    have hcl := Hz.mk (hb.out.none gate hno.out cc gc sc)
    go_wp2_with fail
    refine hcl.out.mono ?_
    rintro r V2 ⟨rfl, hB⟩
    clear d0 d1 d2 d3 hcl
    replace hQ := Hz.mk (at_below hQ.out hB hkp.out)
    replace hb := Hz.mk (hb.out.below hB)
    replace G := Hz.mk (G.out.trans (hB.mono (Nat.le_of_lt hkp.out)))
    replace hkp := Hz.mk (Nat.lt_of_lt_of_le hkp.out hB.size)
    clear hB
    go_wp2_with fail
    go_ret
    exact ⟨rfl, G.out⟩
end Z
end Go.Proofs.YtlmgnfoopimmlaaGreat
