import Derived.Deep.DeepCutAuto
import Derived.Test.YtbichnngepjpnaaGreatZCpM
/-
  Stage 13, fastvm: a copy goes on as its machine would: the walk.
-/
namespace Go.Proofs.YtbichnngepjpnaaGreat
namespace Z
open Go.RowKit
open T (Sep Ob Kp Mf FlIn boxOb)

set_option maxRecDepth 100000 in
set_option maxHeartbeats 8000000 in
theorem walk_FastvmCopy (R : Rp) (ca ga : Option Addr) (cc gc : Nat) (mem : List UInt8) (gate : Int) (A : List Int) (sa : Option Addr) (sc : Nat) (ia : Option Addr) (ic : Nat) (L : List Int) (at_ fuel : Int) (w : World) (hb : Bgn w R ca ga mem A sa ia ic L) (ha : -9223372036854775808 ≤ at_ ∧ at_ < 9223372036854775808) (_hf : -9223372036854775808 ≤ fuel ∧ fuel < 9223372036854775808) :
    Calls Tryz.prog 3 #[.agg #[.slice ca R.code.length cc, .slice ga R.gates.length gc, .string (T.str mem), .int .i64 R.dep], .int .i64 gate, .slice sa A.length sc, .slice ia L.length ic, .int .i64 at_, .int .i64 fuel] w fun x w' => x = .returned (.bool true) ∧ Below w.heap.size w w' := by
  replace hb := Hz.mk hb
  by_cases hok : R.Ok mem.length ∧ 0 ≤ gate
  · skip
    obtain ⟨ok, h0⟩ := hok
    have pok := Hz.mk (ok.pr hb.out.wd.code)
    have rr := Hz.mk hb.out.wd.rr
    have hs := Hz.mk (hb.out.okn ok gate)
    have he0 := Hz.mk (st0_e R gate A L mem)
    replace ok := Hz.mk ok
    obtain ⟨P, hPe⟩ : ∃ P, R.pr = P := ⟨_, rfl⟩
    obtain ⟨s0, hs0⟩ : ∃ s, st0 R gate A L mem = s := ⟨_, rfl⟩
    rw [hPe] at pok rr hs
    rw [hs0] at hs he0
    replace hPe := Hz.mk hPe
    replace hs0 := Hz.mk hs0
    go_enter Tryz.func3, Tryz.ntmps3
    go_upto_region 1 with fail
    refine wp_world (fun W => At W w.heap.size #[.slice ca R.code.length cc, .slice ga R.gates.length gc, .string (T.str mem), .int .i64 R.dep] ∧ Gr w W) ⟨At.new w _ _, (Gr.refl _).alloc _⟩ ?_
    rintro W ⟨hQ, G⟩
    have hkp := hQ.1
    replace hb := Hz.mk (hb.out.below G.below)
    go_wp2_with fail
    refine (examples_any W).mono ?_
    rintro r V1 ⟨rfl, hB⟩
    replace hQ := Hz.mk (at_below hQ hB hkp)
    replace hb := Hz.mk (hb.out.below hB)
    replace G := Hz.mk (G.below.trans (hB.mono (Nat.le_of_lt hkp)))
    replace hkp := Hz.mk (Nat.lt_of_lt_of_le hkp hB.size)
    clear hB
    have hBw := Hz.mk (show w.heap.size ≤ V1.heap.size from G.out.size)
    have Gw := G
    have d0 : V1.cell? ⟨w.heap.size, 0, none⟩ = some (.slice ca R.code.length cc) := hQ.out.2.1 0
    have d1 : V1.cell? ⟨w.heap.size, 1, none⟩ = some (.slice ga R.gates.length gc) := hQ.out.2.1 1
    have d2 : V1.cell? ⟨w.heap.size, 2, none⟩ = some (.string (T.str mem)) := hQ.out.2.1 2
    have d3 : V1.cell? ⟨w.heap.size, 3, none⟩ = some (.int .i64 R.dep) := hQ.out.2.1 3
    have hcl := Hz.mk (hb.out.some ok.out gate h0 cc gc sc)
    rw [hs0.out, hPe.out] at hcl
    go_wp2_with fail
    refine hcl.out.mono ?_
    rintro r V2 ⟨ax, rfl, hMx, hBV2⟩
    replace hMx := Hz.mk hMx
    replace hBV2 := Hz.mk hBV2
    clear d0 d1 d2 d3 hcl
    have hQ1 := hQ
    have hb1 := hb
    have hkp1 := hkp
    replace hQ := Hz.mk (at_below hQ.out hBV2.out hkp.out)
    replace hb := Hz.mk (hb.out.below hBV2.out)
    replace G := Hz.mk (G.out.trans (hBV2.out.mono (Nat.le_of_lt hkp.out)))
    replace hkp := Hz.mk (Nat.lt_of_lt_of_le hkp.out hBV2.out.size)
    have d0 : V2.cell? ⟨w.heap.size, 0, none⟩ = some (.slice ca R.code.length cc) := hQ.out.2.1 0
    have d1 : V2.cell? ⟨w.heap.size, 1, none⟩ = some (.slice ga R.gates.length gc) := hQ.out.2.1 1
    have d2 : V2.cell? ⟨w.heap.size, 2, none⟩ = some (.string (T.str mem)) := hQ.out.2.1 2
    have d3 : V2.cell? ⟨w.heap.size, 3, none⟩ = some (.int .i64 R.dep) := hQ.out.2.1 3
    have hcl := Hz.mk (hb.out.some ok.out gate h0 cc gc sc)
    rw [hs0.out, hPe.out] at hcl
    go_wp2_with fail
    refine hcl.out.mono ?_
    rintro r V3 ⟨ay, rfl, hMy, hBV3⟩
    replace hMy := Hz.mk hMy
    replace hBV3 := Hz.mk hBV3
    clear d0 d1 d2 d3 hcl
    replace hQ := Hz.mk (at_below hQ.out hBV3.out hkp.out)
    replace hb := Hz.mk (hb.out.below hBV3.out)
    replace G := Hz.mk (G.out.trans (hBV3.out.mono (Nat.le_of_lt hkp.out)))
    replace hkp := Hz.mk (Nat.lt_of_lt_of_le hkp.out hBV3.out.size)
    obtain ⟨qy, hM0⟩ := hMx.out.both hMy.out hBV3.out
    have hM : Hz (MS V1.heap.size V3 P [(ax, s0), (ay, s0)] []) := Hz.mk (MS.of2 ⟨qy, by simpa using hM0⟩)
    have hG := Hz.mk (hBV2.out.trans (hBV3.out.mono hBV2.out.size))
    have hz0 : Hz (MZ s0.m) := Hz.mk (by rw [← hs0.out]; exact mz_st0 R gate A L mem)
    have hil0 : Hz (s0.inp.length ≤ 2000000) := Hz.mk (by rw [← hs0.out, st0_inp]; exact hb1.out.l)
    clear hM0 hMx hMy hBV2 hBV3 hQ hb hkp he0
    have hQ := hQ1
    have hb := hb1
    have hkp := hkp1
    clear hQ1 hb1 hkp1
    obtain ⟨B, hBe⟩ : ∃ B, V1.heap.size = B := ⟨_, rfl⟩
    rw [hBe] at hM hG hBw hkp
    replace hBe := Hz.mk hBe
    obtain ⟨kp, hkk⟩ : ∃ k, w.heap.size = k := ⟨_, rfl⟩
    rw [hkk] at hQ hkp
    rw [hkk]
    replace hkk := Hz.mk hkk
    go_upto_if 50 with fail
    go_cut [4] (fun v wx => (∃ aa : Int, v = .int .i64 aa ∧ Hz (0 ≤ aa)) ∧ V3 = wx)
    case first =>
      by_cases hfu : at_ < 0
      · have w1 : wrap64 (at_ + 1) = at_ + 1 := by unfold wrap64; omega
        have w2 : wrap64 (-(at_ + 1)) = -(at_ + 1) := by unfold wrap64; omega
        have w3 : IntKind.i64.wrap (-(at_ + 1)) = -(at_ + 1) := by rw [IntKind.wrap_i64]; omega
        have w4 : Hz (0 ≤ -(at_ + 1)) := Hz.mk (by omega)
        go_wp2_with fail
        go_meet
        exact ⟨⟨_, rfl, w4⟩, rfl⟩
      · have w4 : Hz (0 ≤ at_) := Hz.mk (by omega)
        go_wp2_with fail
        go_meet
        exact ⟨⟨_, rfl, w4⟩, rfl⟩
    case rest =>
      obtain ⟨⟨aa, haa, hap⟩, hwx⟩ := hcut
      subst haa
      subst hwx
      obtain ⟨N, hN, hN3⟩ := tmod60 aa hap.out
      clear hap
      go_upto_region 11 with fail
      go_loopw [16] (fun x wr => ∃ j : Nat, x = .int .i64 j ∧ j ≤ N ∧ Hz (MS B wr P [(ax, (stepsM P s0 j)), (ay, (stepsM P s0 j))] []) ∧ Hz (Below B V1 wr)) (fun x _ => N - (intOf x).toNat)
      case atStart => exact ⟨0, rfl, Nat.zero_le _, hM, hG⟩
      case round =>
        clear hM hG
        obtain ⟨j, rfl, hj, hM, hG⟩ := hrel
        by_cases hjl : j < N
        · have hjl1 : (j : Int) < (N : Int) := by omega
          go_wp2_with fail
          refine (hM.out.call (fun l' h => step_oc P pok.out rr.out (stepsM P s0 j) j (by have := okn_stepsM P pok.out rr.out s0 0 hs.out j; rwa [Nat.zero_add] at this) (by omega) (stepsM P s0 (j + 1)) (stepsM_one P s0 j) B wr ax l' h)).mono ?_
          rintro r X1 ⟨rfl, hM1, hBn⟩
          replace hG := Hz.mk (hG.out.trans hBn)
          replace hM := Hz.mk hM1
          clear hBn hM1
          replace hM := Hz.mk (hM.out.perm (show List.Perm [(ax, (stepsM P s0 (j + 1))), (ay, (stepsM P s0 j))] [(ay, (stepsM P s0 j)), (ax, (stepsM P s0 (j + 1)))] from List.perm_middle (l₁ := [(ax, (stepsM P s0 (j + 1)))]) (l₂ := [])))
          go_wp2_with fail
          refine (hM.out.call (fun l' h => step_oc P pok.out rr.out (stepsM P s0 j) j (by have := okn_stepsM P pok.out rr.out s0 0 hs.out j; rwa [Nat.zero_add] at this) (by omega) (stepsM P s0 (j + 1)) (stepsM_one P s0 j) B X1 ay l' h)).mono ?_
          rintro r X2 ⟨rfl, hM1, hBn⟩
          replace hG := Hz.mk (hG.out.trans hBn)
          replace hM := Hz.mk hM1
          clear hBn hM1
          replace hM := Hz.mk (hM.out.perm (show List.Perm [(ay, (stepsM P s0 (j + 1))), (ax, (stepsM P s0 (j + 1)))] [(ax, (stepsM P s0 (j + 1))), (ay, (stepsM P s0 (j + 1)))] from List.perm_middle (l₁ := [(ay, (stepsM P s0 (j + 1)))]) (l₂ := [])))
          go_wp2_with fail
          refine And.intro (Exists.intro (j + 1) ⟨cp_next1 j, hjl, hM, hG⟩) ?_
          exact cp_meas _ j hjl
        · have hjl1 : ¬ (j : Int) < (N : Int) := by omega
          obtain rfl : N = j := by omega
          have hle := Hz.mk hM.out.le
          go_upto_region 15 with fail
          clear hjl1
          obtain ⟨s, hsN⟩ : ∃ z, stepsM P s0 N = z := ⟨_, rfl⟩
          rw [hsN] at hM
          have hoks : Hz (s.Okn P N) := Hz.mk (by rw [← hsN]; have := okn_stepsM P pok.out rr.out s0 0 hs.out N; rwa [Nat.zero_add] at this)
          have hmz : Hz (MZ s.m) := Hz.mk (by rw [← hsN]; exact mz_stepsM P s0 hz0.out N)
          have hil : Hz (s.inp.length ≤ 2000000) := Hz.mk (by rw [← hsN]; exact Nat.le_trans (inp_steps P s0 N) hil0.out)
          have hdp : Hz (s.st.length ≤ 2000000) := Hz.mk (by have q1 := hoks.out.st; have q2 := pok.out.dp; omega)
          replace hsN := Hz.mk hsN
          obtain ⟨lx, hX⟩ := hM.out.one
          go_wp2_with fail
          refine (copy_any B wr ax P s lx pok.out hX hmz.out hdp.out hil.out (Nat.le_trans hoks.out.ol (by omega)) (Nat.le_trans hoks.out.tl (by omega))).mono ?_
          rintro r X1 ⟨rfl, hMz, hBn⟩
          replace hM := Hz.mk (hM.out.more hMz hBn)
          replace hG := Hz.mk (hG.out.trans (hBn.mono hle.out))
          clear hBn hMz hX hmz hdp
          generalize wr.heap.size = az at *
          obtain ⟨lx, hX⟩ := hM.out.one
          go_wp2_with fail
          refine (snap_any B X1 az P s lx hX).mono ?_
          rintro r X2 ⟨rfl, hBn⟩
          replace hBn := hBn.below
          replace hG := Hz.mk (hG.out.trans (hBn.mono hM.out.le))
          replace hM := Hz.mk (hM.out.gr hBn)
          clear hBn hX
          replace hM := Hz.mk (hM.out.perm (show List.Perm [(az, s), (ax, s), (ay, s)] [(ax, s), (az, s), (ay, s)] from List.perm_middle (l₁ := [(az, s)]) (l₂ := [(ay, s)])))
          obtain ⟨lx, hX⟩ := hM.out.one
          go_wp2_with fail
          refine (snap_any B X2 ax P s lx hX).mono ?_
          rintro r X3 ⟨rfl, hBn⟩
          replace hBn := hBn.below
          replace hG := Hz.mk (hG.out.trans (hBn.mono hM.out.le))
          replace hM := Hz.mk (hM.out.gr hBn)
          clear hBn hX
          have hne := sn_neq s.g s.p s.st.length s.r
          generalize (snV s.g s.p s.st.length s.r).toArray = sv at *
          replace hM := Hz.mk (hM.out.perm (show List.Perm [(ax, s), (az, s), (ay, s)] [(ay, s), (ax, s), (az, s)] from List.perm_middle (l₁ := [(ax, s), (az, s)]) (l₂ := [])))
          replace hM := Hz.mk (hM.out.perm (show List.Perm [(ay, s), (ax, s), (az, s)] [(ax, s), (ay, s), (az, s)] from List.perm_middle (l₁ := [(ay, s)]) (l₂ := [(az, s)])))
          replace hM := Hz.mk (hM.out.perm (show List.Perm [(ax, s), (ay, s), (az, s)] [(az, s), (ax, s), (ay, s)] from List.perm_middle (l₁ := [(ax, s), (ay, s)]) (l₂ := [])))
          have hQ3 : Hz (At X3 kp #[.slice ca R.code.length cc, .slice ga R.gates.length gc, .string (T.str mem), .int .i64 R.dep]) := Hz.mk (at_below hQ.out hG.out hkp.out)
          have hb3 := Hz.mk (hb.out.below (by rw [hBe.out]; exact hG.out))
          have d0 : X3.cell? ⟨kp, 0, none⟩ = some (.slice ca R.code.length cc) := hQ3.out.2.1 0
          have d1 : X3.cell? ⟨kp, 1, none⟩ = some (.slice ga R.gates.length gc) := hQ3.out.2.1 1
          have d2 : X3.cell? ⟨kp, 2, none⟩ = some (.string (T.str mem)) := hQ3.out.2.1 2
          have d3 : X3.cell? ⟨kp, 3, none⟩ = some (.int .i64 R.dep) := hQ3.out.2.1 3
          have hcl := Hz.mk (hb3.out.some ok.out gate h0 cc gc sc)
          rw [hs0.out, hPe.out] at hcl
          go_wp2_with fail
          refine hcl.out.mono ?_
          rintro r X4 ⟨an, rfl, hMn, hBn⟩
          clear d0 d1 d2 d3 hcl hQ3 hb3 hne
          replace hG := Hz.mk (hG.out.trans (hBn.mono hM.out.le))
          replace hM := Hz.mk (hM.out.more hMn hBn)
          clear hMn hBn hQ hb hkp ok hPe hs0
          go_upto_region 22 with fail
          go_loopw [19] (fun x wr => ∃ j : Nat, x = .int .i64 j ∧ j ≤ N ∧ Hz (MS B wr P [(an, (stepsM P s0 j)), (az, s), (ax, s), (ay, s)] []) ∧ Hz (Below B V1 wr)) (fun x _ => N - (intOf x).toNat)
          case atStart => exact ⟨0, rfl, Nat.zero_le _, hM, hG⟩
          case round =>
            clear hM hG
            obtain ⟨j, rfl, hj, hM, hG⟩ := hrel
            by_cases hjl : j < N
            · have hjl1 : (j : Int) < (N : Int) := by omega
              go_wp2_with fail
              refine (hM.out.call (fun l' h => step_oc P pok.out rr.out (stepsM P s0 j) j (by have := okn_stepsM P pok.out rr.out s0 0 hs.out j; rwa [Nat.zero_add] at this) (by omega) (stepsM P s0 (j + 1)) (stepsM_one P s0 j) B wr an l' h)).mono ?_
              rintro r X1 ⟨rfl, hM1, hBn⟩
              replace hG := Hz.mk (hG.out.trans hBn)
              replace hM := Hz.mk hM1
              clear hBn hM1
              go_wp2_with fail
              refine And.intro (Exists.intro (j + 1) ⟨cp_next1 j, hjl, hM, hG⟩) ?_
              exact cp_meas _ j hjl
            · have hjl1 : ¬ (j : Int) < (N : Int) := by omega
              obtain rfl : N = j := by omega
              rw [hsN.out] at hM
              go_upto_region 25 with fail
              clear hN hjl1
              obtain ⟨s2, hs2⟩ : ∃ z, giveM s [7, 7] = z := ⟨_, rfl⟩
              obtain ⟨m2, hm2⟩ : ∃ z, Int.tmod fuel 200 = z := ⟨_, rfl⟩
              have hm3 : m2 < 200 := by rw [← hm2]; exact tmod200 fuel
              obtain ⟨s3, hs3⟩ : ∃ z, runZ P s2 m2 = z := ⟨_, rfl⟩
              obtain ⟨s4, hs4⟩ : ∃ z, giveM s3 [8] = z := ⟨_, rfl⟩
              have hok2 : Hz (s2.Okn P N) := Hz.mk (by rw [← hs2]; exact okn_give hoks.out [7, 7] wd77 (by have := hil.out; show s.inp.length + 2 ≤ _; omega))
              have hok3 : Hz (s3.Okn P (N + 200)) := Hz.mk (by rw [← hs3]; exact okn_runZ P pok.out rr.out s2 N hok2.out m2 hm3)
              have hil2 : Hz (s3.inp.length ≤ 2000002) := Hz.mk (by
                have q1 := inp_runZ P s2 m2
                have q2 := give_inp s [7, 7]
                rw [hs2] at q2
                rw [hs3, q2, List.length_append] at q1
                have := hil.out
                have e : ([7, 7] : List Int).length = 2 := rfl
                omega)
              have hok4 : Hz (s4.Okn P (N + 200)) := Hz.mk (by rw [← hs4]; exact okn_give hok3.out [8] wd8_ (by have := hil2.out; show s3.inp.length + 1 ≤ _; omega))
              have hols4 : Hz (s4.out.length ≤ 1000000) := Hz.mk (Nat.le_trans hok4.out.ol (by omega))
              have htls4 : Hz (s4.tc.length ≤ 1000000) := Hz.mk (Nat.le_trans hok4.out.tl (by omega))
              replace hs2 := Hz.mk hs2
              replace hs3 := Hz.mk hs3
              replace hs4 := Hz.mk hs4
              clear hok4
              replace hM := Hz.mk (hM.out.perm (show List.Perm [(an, s), (az, s), (ax, s), (ay, s)] [(ax, s), (an, s), (az, s), (ay, s)] from List.perm_middle (l₁ := [(an, s), (az, s)]) (l₂ := [(ay, s)])))
              obtain ⟨hM1, hB1⟩ := hM.out.new #[.int .u64 7, .int .u64 7] 31
              have hA1 := hM1.there (boxOb wr.heap.size #[.int .u64 7, .int .u64 7]) (by simp)
              have hgv : Hz (Calls Tryz.prog 9 #[.pointer (some ⟨ax, 0, none⟩), .slice (some ⟨wr.heap.size, 0, none⟩) 2 2] (wr.alloc (.cells #[.int .u64 7, .int .u64 7] 31)) fun z w' => z = .returned (.tuple #[]) ∧ MS B w' P [(ax, s2), (an, s), (az, s), (ay, s)] [boxOb wr.heap.size #[.int .u64 7, .int .u64 7]] ∧ Below B (wr.alloc (.cells #[.int .u64 7, .int .u64 7] 31)) w') := Hz.mk (hM1.call (fun l' h => by
                have q := give_some B _ ax P s l' [7, 7] wr.heap.size 0 2 h (wat7 hA1) (by have := hil.out; show s.inp.length + 2 ≤ _; omega)
                rw [hs2.out] at q
                exact q))
              replace hB1 := Hz.mk hB1
              clear hM1 hA1
              go_wp2_with fail
              refine hgv.out.mono ?_
              rintro r G1 ⟨rfl, hM2, hB2⟩
              replace hG := Hz.mk (hG.out.trans (hB1.out.trans hB2))
              replace hM := Hz.mk hM2.drop
              clear hgv hB1 hB2 hM2
              go_wp2_with fail
              refine (hM.out.call (fun l' h => run_z P pok.out rr.out s2 N hok2.out (by omega) m2 hm3 s3 hs3.out B G1 ax l' h)).mono ?_
              rintro r G2 ⟨rfl, hM1, hBn⟩
              replace hG := Hz.mk (hG.out.trans hBn)
              replace hM := Hz.mk hM1
              clear hBn hM1
              obtain ⟨hM1, hB1⟩ := hM.out.new #[.int .u64 8] 31
              have hA1 := hM1.there (boxOb G2.heap.size #[.int .u64 8]) (by simp)
              have hgv : Hz (Calls Tryz.prog 9 #[.pointer (some ⟨ax, 0, none⟩), .slice (some ⟨G2.heap.size, 0, none⟩) 1 1] (G2.alloc (.cells #[.int .u64 8] 31)) fun z w' => z = .returned (.tuple #[]) ∧ MS B w' P [(ax, s4), (an, s), (az, s), (ay, s)] [boxOb G2.heap.size #[.int .u64 8]] ∧ Below B (G2.alloc (.cells #[.int .u64 8] 31)) w') := Hz.mk (hM1.call (fun l' h => by
                have q := give_some B _ ax P s3 l' [8] G2.heap.size 0 1 h (wat8 hA1) (by have := hil2.out; show s3.inp.length + 1 ≤ _; omega)
                rw [hs4.out] at q
                exact q))
              replace hB1 := Hz.mk hB1
              clear hM1 hA1
              go_wp2_with fail
              refine hgv.out.mono ?_
              rintro r G3 ⟨rfl, hM2, hB2⟩
              replace hG := Hz.mk (hG.out.trans (hB1.out.trans hB2))
              replace hM := Hz.mk hM2.drop
              clear hgv hB1 hB2 hM2
              replace hM := Hz.mk (hM.out.perm (show List.Perm [(ax, s4), (an, s), (az, s), (ay, s)] [(an, s), (ax, s4), (az, s), (ay, s)] from List.perm_middle (l₁ := [(ax, s4)]) (l₂ := [(az, s), (ay, s)])))
              obtain ⟨hM1, hB1⟩ := hM.out.new #[.int .u64 7, .int .u64 7] 31
              have hA1 := hM1.there (boxOb G3.heap.size #[.int .u64 7, .int .u64 7]) (by simp)
              have hgv : Hz (Calls Tryz.prog 9 #[.pointer (some ⟨an, 0, none⟩), .slice (some ⟨G3.heap.size, 0, none⟩) 2 2] (G3.alloc (.cells #[.int .u64 7, .int .u64 7] 31)) fun z w' => z = .returned (.tuple #[]) ∧ MS B w' P [(an, s2), (ax, s4), (az, s), (ay, s)] [boxOb G3.heap.size #[.int .u64 7, .int .u64 7]] ∧ Below B (G3.alloc (.cells #[.int .u64 7, .int .u64 7] 31)) w') := Hz.mk (hM1.call (fun l' h => by
                have q := give_some B _ an P s l' [7, 7] G3.heap.size 0 2 h (wat7 hA1) (by have := hil.out; show s.inp.length + 2 ≤ _; omega)
                rw [hs2.out] at q
                exact q))
              replace hB1 := Hz.mk hB1
              clear hM1 hA1
              go_wp2_with fail
              refine hgv.out.mono ?_
              rintro r G4 ⟨rfl, hM2, hB2⟩
              replace hG := Hz.mk (hG.out.trans (hB1.out.trans hB2))
              replace hM := Hz.mk hM2.drop
              clear hgv hB1 hB2 hM2
              go_wp2_with fail
              refine (hM.out.call (fun l' h => run_z P pok.out rr.out s2 N hok2.out (by omega) m2 hm3 s3 hs3.out B G4 an l' h)).mono ?_
              rintro r G5 ⟨rfl, hM1, hBn⟩
              replace hG := Hz.mk (hG.out.trans hBn)
              replace hM := Hz.mk hM1
              clear hBn hM1
              obtain ⟨hM1, hB1⟩ := hM.out.new #[.int .u64 8] 31
              have hA1 := hM1.there (boxOb G5.heap.size #[.int .u64 8]) (by simp)
              have hgv : Hz (Calls Tryz.prog 9 #[.pointer (some ⟨an, 0, none⟩), .slice (some ⟨G5.heap.size, 0, none⟩) 1 1] (G5.alloc (.cells #[.int .u64 8] 31)) fun z w' => z = .returned (.tuple #[]) ∧ MS B w' P [(an, s4), (ax, s4), (az, s), (ay, s)] [boxOb G5.heap.size #[.int .u64 8]] ∧ Below B (G5.alloc (.cells #[.int .u64 8] 31)) w') := Hz.mk (hM1.call (fun l' h => by
                have q := give_some B _ an P s3 l' [8] G5.heap.size 0 1 h (wat8 hA1) (by have := hil2.out; show s3.inp.length + 1 ≤ _; omega)
                rw [hs4.out] at q
                exact q))
              replace hB1 := Hz.mk hB1
              clear hM1 hA1
              go_wp2_with fail
              refine hgv.out.mono ?_
              rintro r G6 ⟨rfl, hM2, hB2⟩
              replace hG := Hz.mk (hG.out.trans (hB1.out.trans hB2))
              replace hM := Hz.mk hM2.drop
              clear hgv hB1 hB2 hM2
              replace hM := Hz.mk (hM.out.perm (show List.Perm [(an, s4), (ax, s4), (az, s), (ay, s)] [(ax, s4), (an, s4), (az, s), (ay, s)] from List.perm_middle (l₁ := [(an, s4)]) (l₂ := [(az, s), (ay, s)])))
              replace hM := Hz.mk (hM.out.perm (show List.Perm [(ax, s4), (an, s4), (az, s), (ay, s)] [(an, s4), (ax, s4), (az, s), (ay, s)] from List.perm_middle (l₁ := [(ax, s4)]) (l₂ := [(az, s), (ay, s)])))
              replace hM := Hz.mk (hM.out.perm (show List.Perm [(an, s4), (ax, s4), (az, s), (ay, s)] [(ay, s), (an, s4), (ax, s4), (az, s)] from List.perm_middle (l₁ := [(an, s4), (ax, s4), (az, s)]) (l₂ := [])))
              replace hM := Hz.mk (hM.out.perm (show List.Perm [(ay, s), (an, s4), (ax, s4), (az, s)] [(az, s), (ay, s), (an, s4), (ax, s4)] from List.perm_middle (l₁ := [(ay, s), (an, s4), (ax, s4)]) (l₂ := [])))
              clear hs2 hs3 hs4 hok2 hok3 hil2 hm2 hm3 hil
              go_upto_region 32 with fail
              go_loopw [20] (fun x wr => ∃ (k : Nat) (u : Fm), x = .int .i64 k ∧ k ≤ 100 ∧ Hz (MS B wr P [(az, u), (ay, u), (an, s4), (ax, s4)] []) ∧ Hz (u.Okn P (N + k)) ∧ Hz (Below B V1 wr)) (fun x _ => 100 - (intOf x).toNat)
              case atStart => exact ⟨0, s, rfl, by decide, hM, hoks, hG⟩
              case round =>
                clear hM hG hoks
                obtain ⟨k, u, rfl, hkl, hM, hoku, hG⟩ := hrel
                by_cases hk : k < 100
                · have hki : (k : Int) < 100 := by omega
                  obtain ⟨u1, hu1⟩ : ∃ z, stepsM P u 1 = z := ⟨_, rfl⟩
                  have hok1 : Hz (u1.Okn P (N + k + 1)) := Hz.mk (by rw [← hu1]; exact okn_stepsM P pok.out rr.out u (N + k) hoku.out 1)
                  replace hu1 := Hz.mk hu1
                  go_upto_region 34 with fail
                  go_wp2_with fail
                  refine (hM.out.call (fun l' h => step_oc P pok.out rr.out u (N + k) hoku.out (by omega) u1 hu1.out B wr az l' h)).mono ?_
                  rintro r X1 ⟨rfl, hM1, hBn⟩
                  replace hG := Hz.mk (hG.out.trans hBn)
                  replace hM := Hz.mk hM1
                  clear hBn hM1
                  go_upto_region 35 with fail
                  refine wp_world (fun V => ∃ k, k = X1.heap.size ∧ MS B V P [(az, u1), (ay, u), (an, s4), (ax, s4)] (boxOb k (List.toArray [Value.int .i64 u1.e, .int .u64 u1.v, .int .i64 u1.f, .int .i64 u1.g, .int .i64 u1.p]) :: []) ∧ Below B X1 V) ⟨_, rfl, hM.out.new _ _⟩ ?_
                  rintro X2 ⟨ko, hkk, hM1, hBn⟩
                  rw [← hkk]
                  clear hkk
                  replace hG := Hz.mk (hG.out.trans hBn)
                  replace hM := Hz.mk hM1
                  clear hBn hM1
                  replace hM := Hz.mk (hM.out.perm (show List.Perm [(az, u1), (ay, u), (an, s4), (ax, s4)] [(ay, u), (az, u1), (an, s4), (ax, s4)] from List.perm_middle (l₁ := [(az, u1)]) (l₂ := [(an, s4), (ax, s4)])))
                  go_wp2_with fail
                  refine (hM.out.call (fun l' h => step_oc P pok.out rr.out u (N + k) hoku.out (by omega) u1 hu1.out B X2 ay l' h)).mono ?_
                  rintro r X3 ⟨rfl, hM1, hBn⟩
                  replace hG := Hz.mk (hG.out.trans hBn)
                  replace hM := Hz.mk hM1
                  clear hBn hM1
                  go_upto_region 36 with fail
                  refine wp_world (fun V => ∃ k, k = X3.heap.size ∧ MS B V P [(ay, u1), (az, u1), (an, s4), (ax, s4)] (boxOb k (List.toArray [Value.int .i64 u1.e, .int .u64 u1.v, .int .i64 u1.f, .int .i64 u1.g, .int .i64 u1.p]) :: [boxOb ko (List.toArray [Value.int .i64 u1.e, .int .u64 u1.v, .int .i64 u1.f, .int .i64 u1.g, .int .i64 u1.p])]) ∧ Below B X3 V) ⟨_, rfl, hM.out.new _ _⟩ ?_
                  rintro X4 ⟨kw, hkk, hM1, hBn⟩
                  rw [← hkk]
                  clear hkk
                  replace hG := Hz.mk (hG.out.trans hBn)
                  replace hM := Hz.mk hM1
                  clear hBn hM1
                  have A1 := hM.out.there (boxOb ko (List.toArray [Value.int .i64 u1.e, .int .u64 u1.v, .int .i64 u1.f, .int .i64 u1.g, .int .i64 u1.p])) (by simp)
                  have A3 := hM.out.there (boxOb kw (List.toArray [Value.int .i64 u1.e, .int .u64 u1.v, .int .i64 u1.f, .int .i64 u1.g, .int .i64 u1.p])) (by simp)
                  have y0 : X4.cell? ⟨ko, 0, none⟩ = some (.int .i64 u1.e) := A1.2.1 0
                  have y1 : X4.cell? ⟨ko, 1, none⟩ = some (.int .u64 u1.v) := A1.2.1 1
                  have y2 : X4.cell? ⟨ko, 2, none⟩ = some (.int .i64 u1.f) := A1.2.1 2
                  have y3 : X4.cell? ⟨ko, 3, none⟩ = some (.int .i64 u1.g) := A1.2.1 3
                  have y4 : X4.cell? ⟨ko, 4, none⟩ = some (.int .i64 u1.p) := A1.2.1 4
                  have z0 : X4.cell? ⟨kw, 0, none⟩ = some (.int .i64 u1.e) := A3.2.1 0
                  have z1 : X4.cell? ⟨kw, 1, none⟩ = some (.int .u64 u1.v) := A3.2.1 1
                  have z2 : X4.cell? ⟨kw, 2, none⟩ = some (.int .i64 u1.f) := A3.2.1 2
                  have z3 : X4.cell? ⟨kw, 3, none⟩ = some (.int .i64 u1.g) := A3.2.1 3
                  have z4 : X4.cell? ⟨kw, 4, none⟩ = some (.int .i64 u1.p) := A3.2.1 4
                  clear A1 A3 hu1
                  have hq2 := oc_ne5 u1.e u1.v u1.f u1.g u1.p
                  replace hM := Hz.mk (hM.out.perm (show List.Perm [(ay, u1), (az, u1), (an, s4), (ax, s4)] [(az, u1), (ay, u1), (an, s4), (ax, s4)] from List.perm_middle (l₁ := [(ay, u1)]) (l₂ := [(an, s4), (ax, s4)])))
                  obtain ⟨lx, hX⟩ := hM.out.one
                  go_wp2_with fail
                  refine (snap_any B X4 az P u1 lx hX).mono ?_
                  rintro r X5 ⟨rfl, hBn⟩
                  replace hBn := hBn.below
                  replace hG := Hz.mk (hG.out.trans (hBn.mono hM.out.le))
                  replace hM := Hz.mk (hM.out.gr hBn)
                  clear hBn hX
                  clear y0 y1 y2 y3 y4 z0 z1 z2 z3 z4
                  replace hM := Hz.mk (hM.out.perm (show List.Perm [(az, u1), (ay, u1), (an, s4), (ax, s4)] [(ay, u1), (az, u1), (an, s4), (ax, s4)] from List.perm_middle (l₁ := [(az, u1)]) (l₂ := [(an, s4), (ax, s4)])))
                  obtain ⟨lx, hX⟩ := hM.out.one
                  go_wp2_with fail
                  refine (snap_any B X5 ay P u1 lx hX).mono ?_
                  rintro r X6 ⟨rfl, hBn⟩
                  replace hBn := hBn.below
                  replace hG := Hz.mk (hG.out.trans (hBn.mono hM.out.le))
                  replace hM := Hz.mk (hM.out.gr hBn)
                  clear hBn hX
                  have hne := sn_neq u1.g u1.p u1.st.length u1.r
                  generalize (snV u1.g u1.p u1.st.length u1.r).toArray = sv at *
                  have A1 := hM.out.there (boxOb ko (List.toArray [Value.int .i64 u1.e, .int .u64 u1.v, .int .i64 u1.f, .int .i64 u1.g, .int .i64 u1.p])) (by simp)
                  have z0 : X6.cell? ⟨ko, 0, none⟩ = some (.int .i64 u1.e) := A1.2.1 0
                  clear A1
                  replace hM := Hz.mk (hM.out.perm (show List.Perm [(ay, u1), (az, u1), (an, s4), (ax, s4)] [(az, u1), (ay, u1), (an, s4), (ax, s4)] from List.perm_middle (l₁ := [(ay, u1)]) (l₂ := [(an, s4), (ax, s4)])))
                  replace hM := Hz.mk (hM.out.perm (show List.Perm [(az, u1), (ay, u1), (an, s4), (ax, s4)] [(ax, s4), (az, u1), (ay, u1), (an, s4)] from List.perm_middle (l₁ := [(az, u1), (ay, u1), (an, s4)]) (l₂ := [])))
                  replace hM := Hz.mk (hM.out.perm (show List.Perm [(ax, s4), (az, u1), (ay, u1), (an, s4)] [(an, s4), (ax, s4), (az, u1), (ay, u1)] from List.perm_middle (l₁ := [(ax, s4), (az, u1), (ay, u1)]) (l₂ := [])))
                  replace hM := Hz.mk (hM.out.perm (show List.Perm [(an, s4), (ax, s4), (az, u1), (ay, u1)] [(ay, u1), (an, s4), (ax, s4), (az, u1)] from List.perm_middle (l₁ := [(an, s4), (ax, s4), (az, u1)]) (l₂ := [])))
                  replace hM := Hz.mk (hM.out.perm (show List.Perm [(ay, u1), (an, s4), (ax, s4), (az, u1)] [(az, u1), (ay, u1), (an, s4), (ax, s4)] from List.perm_middle (l₁ := [(ay, u1), (an, s4), (ax, s4)]) (l₂ := [])))
                  replace hM := Hz.mk hM.out.drop.drop
                  by_cases hz : u1.e = 0
                  · have hz1 : (u1.e != 0) = false := by simp [hz]
                    clear hz
                    go_wp2_with fail
                    refine And.intro (Exists.intro (k + 1) ⟨u1, cp_next1 k, hk, hM, hok1, hG⟩) ?_
                    exact cp_meas _ k hk
                  · have hz1 : (u1.e != 0) = true := by simpa using hz
                    clear hz
                    have holu1 : Hz (u1.out.length ≤ 1000000) := Hz.mk (Nat.le_trans hok1.out.ol (by omega))
                    have htlu1 : Hz (u1.tc.length ≤ 1000000) := Hz.mk (Nat.le_trans hok1.out.tl (by omega))
                    go_upto_region 39 with fail
                    clear hne hq2 z0 hok1 hoku
                    obtain ⟨lx, hX⟩ := hM.out.one
                    go_wp2_with fail
                    refine (outs_any B X6 az P u1 lx hX holu1.out).mono ?_
                    rintro r Y1 ⟨va1, c1, rfl, hW1, hBn⟩
                    replace hW1 := Hz.mk hW1
                    replace hG := Hz.mk (hG.out.trans (hBn.mono hM.out.le))
                    replace hM := Hz.mk (hM.out.gr hBn)
                    clear hBn hX
                    replace hM := Hz.mk (hM.out.perm (show List.Perm [(az, u1), (ay, u1), (an, s4), (ax, s4)] [(ay, u1), (az, u1), (an, s4), (ax, s4)] from List.perm_middle (l₁ := [(az, u1)]) (l₂ := [(an, s4), (ax, s4)])))
                    obtain ⟨lx, hX⟩ := hM.out.one
                    go_wp2_with fail
                    refine (outs_any B Y1 ay P u1 lx hX holu1.out).mono ?_
                    rintro r Y2 ⟨va2, c2, rfl, hW2, hBn⟩
                    replace hW2 := Hz.mk hW2
                    replace hW1 := Hz.mk (hW1.out.below hBn)
                    replace hG := Hz.mk (hG.out.trans (hBn.mono hM.out.le))
                    replace hM := Hz.mk (hM.out.gr hBn)
                    clear hBn hX
                    go_wp2_with fail
                    refine (sameW_self u1.out va1 va2 c1 c2 Y2 hW1.out hW2.out holu1.out).mono ?_
                    rintro r Y3 ⟨rfl, hBn⟩
                    replace hBn := hBn.below
                    replace hG := Hz.mk (hG.out.trans (hBn.mono hM.out.le))
                    replace hM := Hz.mk (hM.out.gr hBn)
                    clear hBn hW1 hW2
                    replace hM := Hz.mk (hM.out.perm (show List.Perm [(ay, u1), (az, u1), (an, s4), (ax, s4)] [(az, u1), (ay, u1), (an, s4), (ax, s4)] from List.perm_middle (l₁ := [(ay, u1)]) (l₂ := [(an, s4), (ax, s4)])))
                    obtain ⟨lx, hX⟩ := hM.out.one
                    go_wp2_with fail
                    refine (tcs_any B Y3 az P u1 lx hX htlu1.out).mono ?_
                    rintro r Y4 ⟨va1, c1, rfl, hW1, hBn⟩
                    replace hW1 := Hz.mk hW1
                    replace hG := Hz.mk (hG.out.trans (hBn.mono hM.out.le))
                    replace hM := Hz.mk (hM.out.gr hBn)
                    clear hBn hX
                    replace hM := Hz.mk (hM.out.perm (show List.Perm [(az, u1), (ay, u1), (an, s4), (ax, s4)] [(ay, u1), (az, u1), (an, s4), (ax, s4)] from List.perm_middle (l₁ := [(az, u1)]) (l₂ := [(an, s4), (ax, s4)])))
                    obtain ⟨lx, hX⟩ := hM.out.one
                    go_wp2_with fail
                    refine (tcs_any B Y4 ay P u1 lx hX htlu1.out).mono ?_
                    rintro r Y5 ⟨va2, c2, rfl, hW2, hBn⟩
                    replace hW2 := Hz.mk hW2
                    replace hW1 := Hz.mk (hW1.out.below hBn)
                    replace hG := Hz.mk (hG.out.trans (hBn.mono hM.out.le))
                    replace hM := Hz.mk (hM.out.gr hBn)
                    clear hBn hX
                    go_wp2_with fail
                    refine (sameT_self u1.tc va1 va2 c1 c2 Y5 hW1.out hW2.out htlu1.out).mono ?_
                    rintro r Y6 ⟨rfl, hBn⟩
                    replace hBn := hBn.below
                    replace hG := Hz.mk (hG.out.trans (hBn.mono hM.out.le))
                    replace hM := Hz.mk (hM.out.gr hBn)
                    clear hBn hW1 hW2
                    replace hM := Hz.mk (hM.out.perm (show List.Perm [(ay, u1), (az, u1), (an, s4), (ax, s4)] [(ax, s4), (ay, u1), (az, u1), (an, s4)] from List.perm_middle (l₁ := [(ay, u1), (az, u1), (an, s4)]) (l₂ := [])))
                    obtain ⟨lx, hX⟩ := hM.out.one
                    go_wp2_with fail
                    refine (outs_any B Y6 ax P s4 lx hX hols4.out).mono ?_
                    rintro r Y7 ⟨va1, c1, rfl, hW1, hBn⟩
                    replace hW1 := Hz.mk hW1
                    replace hG := Hz.mk (hG.out.trans (hBn.mono hM.out.le))
                    replace hM := Hz.mk (hM.out.gr hBn)
                    clear hBn hX
                    replace hM := Hz.mk (hM.out.perm (show List.Perm [(ax, s4), (ay, u1), (az, u1), (an, s4)] [(an, s4), (ax, s4), (ay, u1), (az, u1)] from List.perm_middle (l₁ := [(ax, s4), (ay, u1), (az, u1)]) (l₂ := [])))
                    obtain ⟨lx, hX⟩ := hM.out.one
                    go_wp2_with fail
                    refine (outs_any B Y7 an P s4 lx hX hols4.out).mono ?_
                    rintro r Y8 ⟨va2, c2, rfl, hW2, hBn⟩
                    replace hW2 := Hz.mk hW2
                    replace hW1 := Hz.mk (hW1.out.below hBn)
                    replace hG := Hz.mk (hG.out.trans (hBn.mono hM.out.le))
                    replace hM := Hz.mk (hM.out.gr hBn)
                    clear hBn hX
                    go_wp2_with fail
                    refine (sameW_self s4.out va1 va2 c1 c2 Y8 hW1.out hW2.out hols4.out).mono ?_
                    rintro r Y9 ⟨rfl, hBn⟩
                    replace hBn := hBn.below
                    replace hG := Hz.mk (hG.out.trans (hBn.mono hM.out.le))
                    replace hM := Hz.mk (hM.out.gr hBn)
                    clear hBn hW1 hW2
                    replace hM := Hz.mk (hM.out.perm (show List.Perm [(an, s4), (ax, s4), (ay, u1), (az, u1)] [(ax, s4), (an, s4), (ay, u1), (az, u1)] from List.perm_middle (l₁ := [(an, s4)]) (l₂ := [(ay, u1), (az, u1)])))
                    obtain ⟨lx, hX⟩ := hM.out.one
                    go_wp2_with fail
                    refine (tcs_any B Y9 ax P s4 lx hX htls4.out).mono ?_
                    rintro r Y10 ⟨va1, c1, rfl, hW1, hBn⟩
                    replace hW1 := Hz.mk hW1
                    replace hG := Hz.mk (hG.out.trans (hBn.mono hM.out.le))
                    replace hM := Hz.mk (hM.out.gr hBn)
                    clear hBn hX
                    replace hM := Hz.mk (hM.out.perm (show List.Perm [(ax, s4), (an, s4), (ay, u1), (az, u1)] [(an, s4), (ax, s4), (ay, u1), (az, u1)] from List.perm_middle (l₁ := [(ax, s4)]) (l₂ := [(ay, u1), (az, u1)])))
                    obtain ⟨lx, hX⟩ := hM.out.one
                    go_wp2_with fail
                    refine (tcs_any B Y10 an P s4 lx hX htls4.out).mono ?_
                    rintro r Y11 ⟨va2, c2, rfl, hW2, hBn⟩
                    replace hW2 := Hz.mk hW2
                    replace hW1 := Hz.mk (hW1.out.below hBn)
                    replace hG := Hz.mk (hG.out.trans (hBn.mono hM.out.le))
                    replace hM := Hz.mk (hM.out.gr hBn)
                    clear hBn hX
                    go_wp2_with fail
                    refine (sameT_self s4.tc va1 va2 c1 c2 Y11 hW1.out hW2.out htls4.out).mono ?_
                    rintro r Y12 ⟨rfl, hBn⟩
                    replace hBn := hBn.below
                    replace hG := Hz.mk (hG.out.trans (hBn.mono hM.out.le))
                    replace hM := Hz.mk (hM.out.gr hBn)
                    clear hBn hW1 hW2
                    replace hM := Hz.mk (hM.out.perm (show List.Perm [(an, s4), (ax, s4), (ay, u1), (az, u1)] [(az, u1), (an, s4), (ax, s4), (ay, u1)] from List.perm_middle (l₁ := [(an, s4), (ax, s4), (ay, u1)]) (l₂ := [])))
                    obtain ⟨lx, hX⟩ := hM.out.one
                    go_wp2_with fail
                    refine (memory_any B Y12 az P u1 lx hX).mono ?_
                    rintro r Z1 ⟨rfl, hBn⟩
                    replace hG := Hz.mk (hG.out.trans (hBn.mono hM.out.le))
                    replace hM := Hz.mk (hM.out.gr hBn)
                    clear hBn hX
                    replace hM := Hz.mk (hM.out.perm (show List.Perm [(az, u1), (an, s4), (ax, s4), (ay, u1)] [(ay, u1), (az, u1), (an, s4), (ax, s4)] from List.perm_middle (l₁ := [(az, u1), (an, s4), (ax, s4)]) (l₂ := [])))
                    obtain ⟨lx, hX⟩ := hM.out.one
                    go_wp2_with fail
                    refine (memory_any B Z1 ay P u1 lx hX).mono ?_
                    rintro r Z2 ⟨rfl, hBn⟩
                    replace hG := Hz.mk (hG.out.trans (hBn.mono hM.out.le))
                    replace hM := Hz.mk (hM.out.gr hBn)
                    clear hBn hX
                    generalize (ByteArray.mk (T.rowB u1.m 0 65536).toArray) = mv at *
                    replace hM := Hz.mk (hM.out.perm (show List.Perm [(ay, u1), (az, u1), (an, s4), (ax, s4)] [(ax, s4), (ay, u1), (az, u1), (an, s4)] from List.perm_middle (l₁ := [(ay, u1), (az, u1), (an, s4)]) (l₂ := [])))
                    obtain ⟨lx, hX⟩ := hM.out.one
                    go_wp2_with fail
                    refine (memory_any B Z2 ax P s4 lx hX).mono ?_
                    rintro r Z3 ⟨rfl, hBn⟩
                    replace hG := Hz.mk (hG.out.trans (hBn.mono hM.out.le))
                    replace hM := Hz.mk (hM.out.gr hBn)
                    clear hBn hX
                    replace hM := Hz.mk (hM.out.perm (show List.Perm [(ax, s4), (ay, u1), (az, u1), (an, s4)] [(an, s4), (ax, s4), (ay, u1), (az, u1)] from List.perm_middle (l₁ := [(ax, s4), (ay, u1), (az, u1)]) (l₂ := [])))
                    obtain ⟨lx, hX⟩ := hM.out.one
                    go_wp2_with fail
                    refine (memory_any B Z3 an P s4 lx hX).mono ?_
                    rintro r Z4 ⟨rfl, hBn⟩
                    replace hG := Hz.mk (hG.out.trans (hBn.mono hM.out.le))
                    replace hM := Hz.mk (hM.out.gr hBn)
                    clear hBn hX
                    generalize (ByteArray.mk (T.rowB s4.m 0 65536).toArray) = mw at *
                    replace hM := Hz.mk (hM.out.perm (show List.Perm [(an, s4), (ax, s4), (ay, u1), (az, u1)] [(ax, s4), (an, s4), (ay, u1), (az, u1)] from List.perm_middle (l₁ := [(an, s4)]) (l₂ := [(ay, u1), (az, u1)])))
                    obtain ⟨lx, hX⟩ := hM.out.one
                    go_wp2_with fail
                    refine (snap_any B Z4 ax P s4 lx hX).mono ?_
                    rintro r Z5 ⟨rfl, hBn⟩
                    replace hBn := hBn.below
                    replace hG := Hz.mk (hG.out.trans (hBn.mono hM.out.le))
                    replace hM := Hz.mk (hM.out.gr hBn)
                    clear hBn hX
                    replace hM := Hz.mk (hM.out.perm (show List.Perm [(ax, s4), (an, s4), (ay, u1), (az, u1)] [(an, s4), (ax, s4), (ay, u1), (az, u1)] from List.perm_middle (l₁ := [(ax, s4)]) (l₂ := [(ay, u1), (az, u1)])))
                    obtain ⟨lx, hX⟩ := hM.out.one
                    go_wp2_with fail
                    refine (snap_any B Z5 an P s4 lx hX).mono ?_
                    rintro r Z6 ⟨rfl, hBn⟩
                    replace hBn := hBn.below
                    replace hG := Hz.mk (hG.out.trans (hBn.mono hM.out.le))
                    replace hM := Hz.mk (hM.out.gr hBn)
                    clear hBn hX
                    have hne := sn_eql s4.g s4.p s4.st.length s4.r
                    generalize (snV s4.g s4.p s4.st.length s4.r).toArray = sv at *
                    go_wp2_with fail
                    go_ret
                    exact ⟨rfl, Gw.out.trans (hG.out.mono hBw.out)⟩
                · have hki : ¬ (k : Int) < 100 := by omega
                  have holu : Hz (u.out.length ≤ 1000000) := Hz.mk (Nat.le_trans hoku.out.ol (by omega))
                  have htlu : Hz (u.tc.length ≤ 1000000) := Hz.mk (Nat.le_trans hoku.out.tl (by omega))
                  go_upto_region 39 with fail
                  clear hoku
                  obtain ⟨lx, hX⟩ := hM.out.one
                  go_wp2_with fail
                  refine (outs_any B wr az P u lx hX holu.out).mono ?_
                  rintro r Y1 ⟨va1, c1, rfl, hW1, hBn⟩
                  replace hW1 := Hz.mk hW1
                  replace hG := Hz.mk (hG.out.trans (hBn.mono hM.out.le))
                  replace hM := Hz.mk (hM.out.gr hBn)
                  clear hBn hX
                  replace hM := Hz.mk (hM.out.perm (show List.Perm [(az, u), (ay, u), (an, s4), (ax, s4)] [(ay, u), (az, u), (an, s4), (ax, s4)] from List.perm_middle (l₁ := [(az, u)]) (l₂ := [(an, s4), (ax, s4)])))
                  obtain ⟨lx, hX⟩ := hM.out.one
                  go_wp2_with fail
                  refine (outs_any B Y1 ay P u lx hX holu.out).mono ?_
                  rintro r Y2 ⟨va2, c2, rfl, hW2, hBn⟩
                  replace hW2 := Hz.mk hW2
                  replace hW1 := Hz.mk (hW1.out.below hBn)
                  replace hG := Hz.mk (hG.out.trans (hBn.mono hM.out.le))
                  replace hM := Hz.mk (hM.out.gr hBn)
                  clear hBn hX
                  go_wp2_with fail
                  refine (sameW_self u.out va1 va2 c1 c2 Y2 hW1.out hW2.out holu.out).mono ?_
                  rintro r Y3 ⟨rfl, hBn⟩
                  replace hBn := hBn.below
                  replace hG := Hz.mk (hG.out.trans (hBn.mono hM.out.le))
                  replace hM := Hz.mk (hM.out.gr hBn)
                  clear hBn hW1 hW2
                  replace hM := Hz.mk (hM.out.perm (show List.Perm [(ay, u), (az, u), (an, s4), (ax, s4)] [(az, u), (ay, u), (an, s4), (ax, s4)] from List.perm_middle (l₁ := [(ay, u)]) (l₂ := [(an, s4), (ax, s4)])))
                  obtain ⟨lx, hX⟩ := hM.out.one
                  go_wp2_with fail
                  refine (tcs_any B Y3 az P u lx hX htlu.out).mono ?_
                  rintro r Y4 ⟨va1, c1, rfl, hW1, hBn⟩
                  replace hW1 := Hz.mk hW1
                  replace hG := Hz.mk (hG.out.trans (hBn.mono hM.out.le))
                  replace hM := Hz.mk (hM.out.gr hBn)
                  clear hBn hX
                  replace hM := Hz.mk (hM.out.perm (show List.Perm [(az, u), (ay, u), (an, s4), (ax, s4)] [(ay, u), (az, u), (an, s4), (ax, s4)] from List.perm_middle (l₁ := [(az, u)]) (l₂ := [(an, s4), (ax, s4)])))
                  obtain ⟨lx, hX⟩ := hM.out.one
                  go_wp2_with fail
                  refine (tcs_any B Y4 ay P u lx hX htlu.out).mono ?_
                  rintro r Y5 ⟨va2, c2, rfl, hW2, hBn⟩
                  replace hW2 := Hz.mk hW2
                  replace hW1 := Hz.mk (hW1.out.below hBn)
                  replace hG := Hz.mk (hG.out.trans (hBn.mono hM.out.le))
                  replace hM := Hz.mk (hM.out.gr hBn)
                  clear hBn hX
                  go_wp2_with fail
                  refine (sameT_self u.tc va1 va2 c1 c2 Y5 hW1.out hW2.out htlu.out).mono ?_
                  rintro r Y6 ⟨rfl, hBn⟩
                  replace hBn := hBn.below
                  replace hG := Hz.mk (hG.out.trans (hBn.mono hM.out.le))
                  replace hM := Hz.mk (hM.out.gr hBn)
                  clear hBn hW1 hW2
                  replace hM := Hz.mk (hM.out.perm (show List.Perm [(ay, u), (az, u), (an, s4), (ax, s4)] [(ax, s4), (ay, u), (az, u), (an, s4)] from List.perm_middle (l₁ := [(ay, u), (az, u), (an, s4)]) (l₂ := [])))
                  obtain ⟨lx, hX⟩ := hM.out.one
                  go_wp2_with fail
                  refine (outs_any B Y6 ax P s4 lx hX hols4.out).mono ?_
                  rintro r Y7 ⟨va1, c1, rfl, hW1, hBn⟩
                  replace hW1 := Hz.mk hW1
                  replace hG := Hz.mk (hG.out.trans (hBn.mono hM.out.le))
                  replace hM := Hz.mk (hM.out.gr hBn)
                  clear hBn hX
                  replace hM := Hz.mk (hM.out.perm (show List.Perm [(ax, s4), (ay, u), (az, u), (an, s4)] [(an, s4), (ax, s4), (ay, u), (az, u)] from List.perm_middle (l₁ := [(ax, s4), (ay, u), (az, u)]) (l₂ := [])))
                  obtain ⟨lx, hX⟩ := hM.out.one
                  go_wp2_with fail
                  refine (outs_any B Y7 an P s4 lx hX hols4.out).mono ?_
                  rintro r Y8 ⟨va2, c2, rfl, hW2, hBn⟩
                  replace hW2 := Hz.mk hW2
                  replace hW1 := Hz.mk (hW1.out.below hBn)
                  replace hG := Hz.mk (hG.out.trans (hBn.mono hM.out.le))
                  replace hM := Hz.mk (hM.out.gr hBn)
                  clear hBn hX
                  go_wp2_with fail
                  refine (sameW_self s4.out va1 va2 c1 c2 Y8 hW1.out hW2.out hols4.out).mono ?_
                  rintro r Y9 ⟨rfl, hBn⟩
                  replace hBn := hBn.below
                  replace hG := Hz.mk (hG.out.trans (hBn.mono hM.out.le))
                  replace hM := Hz.mk (hM.out.gr hBn)
                  clear hBn hW1 hW2
                  replace hM := Hz.mk (hM.out.perm (show List.Perm [(an, s4), (ax, s4), (ay, u), (az, u)] [(ax, s4), (an, s4), (ay, u), (az, u)] from List.perm_middle (l₁ := [(an, s4)]) (l₂ := [(ay, u), (az, u)])))
                  obtain ⟨lx, hX⟩ := hM.out.one
                  go_wp2_with fail
                  refine (tcs_any B Y9 ax P s4 lx hX htls4.out).mono ?_
                  rintro r Y10 ⟨va1, c1, rfl, hW1, hBn⟩
                  replace hW1 := Hz.mk hW1
                  replace hG := Hz.mk (hG.out.trans (hBn.mono hM.out.le))
                  replace hM := Hz.mk (hM.out.gr hBn)
                  clear hBn hX
                  replace hM := Hz.mk (hM.out.perm (show List.Perm [(ax, s4), (an, s4), (ay, u), (az, u)] [(an, s4), (ax, s4), (ay, u), (az, u)] from List.perm_middle (l₁ := [(ax, s4)]) (l₂ := [(ay, u), (az, u)])))
                  obtain ⟨lx, hX⟩ := hM.out.one
                  go_wp2_with fail
                  refine (tcs_any B Y10 an P s4 lx hX htls4.out).mono ?_
                  rintro r Y11 ⟨va2, c2, rfl, hW2, hBn⟩
                  replace hW2 := Hz.mk hW2
                  replace hW1 := Hz.mk (hW1.out.below hBn)
                  replace hG := Hz.mk (hG.out.trans (hBn.mono hM.out.le))
                  replace hM := Hz.mk (hM.out.gr hBn)
                  clear hBn hX
                  go_wp2_with fail
                  refine (sameT_self s4.tc va1 va2 c1 c2 Y11 hW1.out hW2.out htls4.out).mono ?_
                  rintro r Y12 ⟨rfl, hBn⟩
                  replace hBn := hBn.below
                  replace hG := Hz.mk (hG.out.trans (hBn.mono hM.out.le))
                  replace hM := Hz.mk (hM.out.gr hBn)
                  clear hBn hW1 hW2
                  replace hM := Hz.mk (hM.out.perm (show List.Perm [(an, s4), (ax, s4), (ay, u), (az, u)] [(az, u), (an, s4), (ax, s4), (ay, u)] from List.perm_middle (l₁ := [(an, s4), (ax, s4), (ay, u)]) (l₂ := [])))
                  obtain ⟨lx, hX⟩ := hM.out.one
                  go_wp2_with fail
                  refine (memory_any B Y12 az P u lx hX).mono ?_
                  rintro r Z1 ⟨rfl, hBn⟩
                  replace hG := Hz.mk (hG.out.trans (hBn.mono hM.out.le))
                  replace hM := Hz.mk (hM.out.gr hBn)
                  clear hBn hX
                  replace hM := Hz.mk (hM.out.perm (show List.Perm [(az, u), (an, s4), (ax, s4), (ay, u)] [(ay, u), (az, u), (an, s4), (ax, s4)] from List.perm_middle (l₁ := [(az, u), (an, s4), (ax, s4)]) (l₂ := [])))
                  obtain ⟨lx, hX⟩ := hM.out.one
                  go_wp2_with fail
                  refine (memory_any B Z1 ay P u lx hX).mono ?_
                  rintro r Z2 ⟨rfl, hBn⟩
                  replace hG := Hz.mk (hG.out.trans (hBn.mono hM.out.le))
                  replace hM := Hz.mk (hM.out.gr hBn)
                  clear hBn hX
                  generalize (ByteArray.mk (T.rowB u.m 0 65536).toArray) = mv at *
                  replace hM := Hz.mk (hM.out.perm (show List.Perm [(ay, u), (az, u), (an, s4), (ax, s4)] [(ax, s4), (ay, u), (az, u), (an, s4)] from List.perm_middle (l₁ := [(ay, u), (az, u), (an, s4)]) (l₂ := [])))
                  obtain ⟨lx, hX⟩ := hM.out.one
                  go_wp2_with fail
                  refine (memory_any B Z2 ax P s4 lx hX).mono ?_
                  rintro r Z3 ⟨rfl, hBn⟩
                  replace hG := Hz.mk (hG.out.trans (hBn.mono hM.out.le))
                  replace hM := Hz.mk (hM.out.gr hBn)
                  clear hBn hX
                  replace hM := Hz.mk (hM.out.perm (show List.Perm [(ax, s4), (ay, u), (az, u), (an, s4)] [(an, s4), (ax, s4), (ay, u), (az, u)] from List.perm_middle (l₁ := [(ax, s4), (ay, u), (az, u)]) (l₂ := [])))
                  obtain ⟨lx, hX⟩ := hM.out.one
                  go_wp2_with fail
                  refine (memory_any B Z3 an P s4 lx hX).mono ?_
                  rintro r Z4 ⟨rfl, hBn⟩
                  replace hG := Hz.mk (hG.out.trans (hBn.mono hM.out.le))
                  replace hM := Hz.mk (hM.out.gr hBn)
                  clear hBn hX
                  generalize (ByteArray.mk (T.rowB s4.m 0 65536).toArray) = mw at *
                  replace hM := Hz.mk (hM.out.perm (show List.Perm [(an, s4), (ax, s4), (ay, u), (az, u)] [(ax, s4), (an, s4), (ay, u), (az, u)] from List.perm_middle (l₁ := [(an, s4)]) (l₂ := [(ay, u), (az, u)])))
                  obtain ⟨lx, hX⟩ := hM.out.one
                  go_wp2_with fail
                  refine (snap_any B Z4 ax P s4 lx hX).mono ?_
                  rintro r Z5 ⟨rfl, hBn⟩
                  replace hBn := hBn.below
                  replace hG := Hz.mk (hG.out.trans (hBn.mono hM.out.le))
                  replace hM := Hz.mk (hM.out.gr hBn)
                  clear hBn hX
                  replace hM := Hz.mk (hM.out.perm (show List.Perm [(ax, s4), (an, s4), (ay, u), (az, u)] [(an, s4), (ax, s4), (ay, u), (az, u)] from List.perm_middle (l₁ := [(ax, s4)]) (l₂ := [(ay, u), (az, u)])))
                  obtain ⟨lx, hX⟩ := hM.out.one
                  go_wp2_with fail
                  refine (snap_any B Z5 an P s4 lx hX).mono ?_
                  rintro r Z6 ⟨rfl, hBn⟩
                  replace hBn := hBn.below
                  replace hG := Hz.mk (hG.out.trans (hBn.mono hM.out.le))
                  replace hM := Hz.mk (hM.out.gr hBn)
                  clear hBn hX
                  have hne := sn_eql s4.g s4.p s4.st.length s4.r
                  generalize (snV s4.g s4.p s4.st.length s4.r).toArray = sv at *
                  go_wp2_with fail
                  go_ret
                  exact ⟨rfl, Gw.out.trans (hG.out.mono hBw.out)⟩
  · have hno := hok
    clear hok
    replace hno := Hz.mk hno
    go_enter Tryz.func3, Tryz.ntmps3
    go_upto_region 1 with fail
    refine wp_world (fun W => At W w.heap.size #[.slice ca R.code.length cc, .slice ga R.gates.length gc, .string (T.str mem), .int .i64 R.dep] ∧ Gr w W) ⟨At.new w _ _, (Gr.refl _).alloc _⟩ ?_
    rintro W ⟨hQ, G⟩
    have hkp := hQ.1
    replace hb := Hz.mk (hb.out.below G.below)
    go_wp2_with fail
    refine (examples_any W).mono ?_
    rintro r V1 ⟨rfl, hB⟩
    replace hQ := Hz.mk (at_below hQ hB hkp)
    replace hb := Hz.mk (hb.out.below hB)
    replace G := Hz.mk (G.below.trans (hB.mono (Nat.le_of_lt hkp)))
    replace hkp := Hz.mk (Nat.lt_of_lt_of_le hkp hB.size)
    clear hB
    have d0 : V1.cell? ⟨w.heap.size, 0, none⟩ = some (.slice ca R.code.length cc) := hQ.out.2.1 0
    have d1 : V1.cell? ⟨w.heap.size, 1, none⟩ = some (.slice ga R.gates.length gc) := hQ.out.2.1 1
    have d2 : V1.cell? ⟨w.heap.size, 2, none⟩ = some (.string (T.str mem)) := hQ.out.2.1 2
    have d3 : V1.cell? ⟨w.heap.size, 3, none⟩ = some (.int .i64 R.dep) := hQ.out.2.1 3
    have hcl := Hz.mk (hb.out.none gate hno.out cc gc sc)
    go_wp2_with fail
    refine hcl.out.mono ?_
    rintro r V2 ⟨rfl, hB⟩
    clear d0 d1 d2 d3 hcl
    replace hQ := Hz.mk (at_below hQ.out hB hkp.out)
    replace hb := Hz.mk (hb.out.below hB)
    replace G := Hz.mk (G.out.trans (hB.mono (Nat.le_of_lt hkp.out)))
    replace hkp := Hz.mk (Nat.lt_of_lt_of_le hkp.out hB.size)
    clear hB
    have d0 : V2.cell? ⟨w.heap.size, 0, none⟩ = some (.slice ca R.code.length cc) := hQ.out.2.1 0
    have d1 : V2.cell? ⟨w.heap.size, 1, none⟩ = some (.slice ga R.gates.length gc) := hQ.out.2.1 1
    have d2 : V2.cell? ⟨w.heap.size, 2, none⟩ = some (.string (T.str mem)) := hQ.out.2.1 2
    have d3 : V2.cell? ⟨w.heap.size, 3, none⟩ = some (.int .i64 R.dep) := hQ.out.2.1 3
    have hcl := Hz.mk (hb.out.none gate hno.out cc gc sc)
    go_wp2_with fail
    refine hcl.out.mono ?_
    rintro r V3 ⟨rfl, hB⟩
    clear d0 d1 d2 d3 hcl
    replace hQ := Hz.mk (at_below hQ.out hB hkp.out)
    replace hb := Hz.mk (hb.out.below hB)
    replace G := Hz.mk (G.out.trans (hB.mono (Nat.le_of_lt hkp.out)))
    replace hkp := Hz.mk (Nat.lt_of_lt_of_le hkp.out hB.size)
    clear hB
    go_wp2_with fail
    go_ret
    exact ⟨rfl, G.out⟩
end Z
end Go.Proofs.YtbichnngepjpnaaGreat
