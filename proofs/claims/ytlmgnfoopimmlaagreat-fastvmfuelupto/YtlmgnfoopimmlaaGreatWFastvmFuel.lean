import Derived.Test.YtlmgnfoopimmlaaGreatP49
/-
  Stage 13, fastvm: Run is so many Steps: the walk.
-/
namespace Go.Proofs.YtlmgnfoopimmlaaGreat
namespace Z
open Go.RowKit
open T (Sep Ob Kp Mf FlIn boxOb)

/-- What is told of so many steps: nothing yet, or how it stands. -/
def wO (s : Fm) (j : Nat) : List Value := if j = 0 then [.int .i64 0, .int .u64 0, .int .i64 0, .int .i64 0, .int .i64 0] else s.oc
theorem wO_zero (s : Fm) : wO s 0 = [.int .i64 0, .int .u64 0, .int .i64 0, .int .i64 0, .int .i64 0] := rfl
theorem wO_succ (s : Fm) (j : Nat) : wO s (j + 1) = [Value.int .i64 s.e, .int .u64 s.v, .int .i64 s.f, .int .i64 s.g, .int .i64 s.p] := rfl
theorem wO_len (s : Fm) (j : Nat) : (wO s j).length = 5 := by unfold wO; split <;> rfl
theorem wO_at (P : Pr) (s0 : Fm) (j : Nat) (h : s0.e = 0) : (wO (stepsM P s0 j) j)[0]? = some (.int .i64 (stepsM P s0 j).e) := by
  unfold wO
  split
  · rename_i q
    subst q
    show _ = some (Value.int .i64 s0.e)
    rw [h]
    rfl
  · rfl
theorem pre_succ {f : Nat → Fm} {j : Nat} (h : ∀ i, i < j → (f i).e = 0) (hj : (f j).e = 0) : ∀ i, i < j + 1 → (f i).e = 0 := fun i hi => by
  by_cases q : i = j
  · rw [q]; exact hj
  · exact h i (by omega)
theorem tmodN (n : Int) (h : 0 ≤ n) : ∃ N : Nat, Int.tmod n 300 = (N : Int) ∧ N < 300 := by
  refine ⟨n.toNat % 300, ?_, Nat.mod_lt _ (by decide)⟩
  rw [Int.tmod_eq_emod_of_nonneg h]
  omega
theorem M2.dropO {B : Nat} {W : World} {P : Pr} {a b : Nat} {s t : Fm} {o : Ob} {l : List Ob} (h : M2 B W P a s b t (o :: l)) : M2 B W P a s b t l := by
  obtain ⟨q, ⟨q2, h1⟩, le⟩ := h
  refine ⟨q, ⟨q2, ?_⟩, le⟩
  have e : obs B a P s q2 ++ (obs B b P t q ++ o :: l) = (obs B a P s q2 ++ obs B b P t q) ++ o :: l := (List.append_assoc _ _ _).symm
  rw [e] at h1
  have h2 := sep_tail (sep_perm h1 List.perm_middle)
  rwa [List.append_assoc] at h2
set_option maxRecDepth 100000 in
set_option maxHeartbeats 8000000 in
theorem walk_FastvmFuel (R : Rp) (ca ga : Option Addr) (cc gc : Nat) (mem : List UInt8) (gate : Int) (A : List Int) (sa : Option Addr) (sc : Nat) (ia : Option Addr) (ic : Nat) (L : List Int) (fuel : Int) (w : World) (hb : Bgn w R ca ga mem A sa ia ic L) (hf : -9223372036854775808 ≤ fuel ∧ fuel < 9223372036854775808) :
    Calls Tryz.prog 5 #[.agg #[.slice ca R.code.length cc, .slice ga R.gates.length gc, .string (T.str mem), .int .i64 R.dep], .int .i64 gate, .slice sa A.length sc, .slice ia L.length ic, .int .i64 fuel] w fun x w' => x = .returned (.bool true) ∧ Below w.heap.size w w' := by
  replace hb := Hz.mk hb
  by_cases hok : R.Ok mem.length ∧ 0 ≤ gate
  · skip
    obtain ⟨ok, h0⟩ := hok
    have pok := Hz.mk (ok.pr hb.out.wd.code)
    have rr := Hz.mk hb.out.wd.rr
    have hs := Hz.mk (hb.out.okn ok gate)
    have he0 := Hz.mk (st0_e R gate A L mem)
    replace ok := Hz.mk ok
    obtain ⟨P, hPe⟩ : ∃ P, R.pr = P := ⟨_, rfl⟩
    obtain ⟨s0, hs0⟩ : ∃ s, st0 R gate A L mem = s := ⟨_, rfl⟩
    rw [hPe] at pok rr hs
    rw [hs0] at hs he0
    replace hPe := Hz.mk hPe
    replace hs0 := Hz.mk hs0
    go_enter Tryz.func5, Tryz.ntmps5
    go_upto_region 1 with fail
    refine wp_world (fun W => At W w.heap.size #[.slice ca R.code.length cc, .slice ga R.gates.length gc, .string (T.str mem), .int .i64 R.dep] ∧ Gr w W) ⟨At.new w _ _, (Gr.refl _).alloc _⟩ ?_
    rintro W ⟨hQ, G⟩
    have hkp := hQ.1
    replace hb := Hz.mk (hb.out.below G.below)
    go_wp2_with fail
    refine (examples_any W).mono ?_
    rintro r V1 ⟨rfl, hB⟩
    replace hQ := Hz.mk (at_below hQ hB hkp)
    replace hb := Hz.mk (hb.out.below hB)
    replace G := Hz.mk (G.below.trans (hB.mono (Nat.le_of_lt hkp)))
    replace hkp := Hz.mk (Nat.lt_of_lt_of_le hkp hB.size)
    clear hB
    have G1 := Hz.mk (show w.heap.size ≤ V1.heap.size from G.out.size)
    have Gw := G
    have d0 : V1.cell? ⟨w.heap.size, 0, none⟩ = some (.slice ca R.code.length cc) := hQ.out.2.1 0
    have d1 : V1.cell? ⟨w.heap.size, 1, none⟩ = some (.slice ga R.gates.length gc) := hQ.out.2.1 1
    have d2 : V1.cell? ⟨w.heap.size, 2, none⟩ = some (.string (T.str mem)) := hQ.out.2.1 2
    have d3 : V1.cell? ⟨w.heap.size, 3, none⟩ = some (.int .i64 R.dep) := hQ.out.2.1 3
    have hcl := Hz.mk (hb.out.some ok.out gate h0 cc gc sc)
    rw [hs0.out, hPe.out] at hcl
    go_wp2_with fail
    refine hcl.out.mono ?_
    rintro r V2 ⟨ax, rfl, hMx, hBV2⟩
    replace hMx := Hz.mk hMx
    replace hBV2 := Hz.mk hBV2
    clear d0 d1 d2 d3 hcl
    replace hQ := Hz.mk (at_below hQ.out hBV2.out hkp.out)
    replace hb := Hz.mk (hb.out.below hBV2.out)
    replace G := Hz.mk (G.out.trans (hBV2.out.mono (Nat.le_of_lt hkp.out)))
    replace hkp := Hz.mk (Nat.lt_of_lt_of_le hkp.out hBV2.out.size)
    have d0 : V2.cell? ⟨w.heap.size, 0, none⟩ = some (.slice ca R.code.length cc) := hQ.out.2.1 0
    have d1 : V2.cell? ⟨w.heap.size, 1, none⟩ = some (.slice ga R.gates.length gc) := hQ.out.2.1 1
    have d2 : V2.cell? ⟨w.heap.size, 2, none⟩ = some (.string (T.str mem)) := hQ.out.2.1 2
    have d3 : V2.cell? ⟨w.heap.size, 3, none⟩ = some (.int .i64 R.dep) := hQ.out.2.1 3
    have hcl := Hz.mk (hb.out.some ok.out gate h0 cc gc sc)
    rw [hs0.out, hPe.out] at hcl
    go_wp2_with fail
    refine hcl.out.mono ?_
    rintro r V3 ⟨ay, rfl, hMy, hBV3⟩
    replace hMy := Hz.mk hMy
    replace hBV3 := Hz.mk hBV3
    clear d0 d1 d2 d3 hcl
    replace hQ := Hz.mk (at_below hQ.out hBV3.out hkp.out)
    replace hb := Hz.mk (hb.out.below hBV3.out)
    replace G := Hz.mk (G.out.trans (hBV3.out.mono (Nat.le_of_lt hkp.out)))
    replace hkp := Hz.mk (Nat.lt_of_lt_of_le hkp.out hBV3.out.size)
    obtain ⟨qy, hM0⟩ := hMx.out.both hMy.out hBV3.out
    have hM := Hz.mk (show M2 V1.heap.size V3 P ax s0 ay s0 [] from ⟨qy, by simpa using hM0⟩)
    have hG := Hz.mk (hBV2.out.trans (hBV3.out.mono hBV2.out.size))
    clear hM0 hMx hMy hBV2 hBV3 hQ hb hkp ok hPe hs0
    have hBw : Hz (w.heap.size ≤ V1.heap.size) := Hz.mk (by have := G1.out; exact this)
    generalize V1.heap.size = B at *
    by_cases hfu : fuel < 0
    · have w1 : wrap64 (fuel + 1) = fuel + 1 := by unfold wrap64; omega
      have w2 : wrap64 (-(fuel + 1)) = -(fuel + 1) := by unfold wrap64; omega
      have w3 : IntKind.i64.wrap (-(fuel + 1)) = -(fuel + 1) := by rw [IntKind.wrap_i64]; omega
      obtain ⟨N, hN, hN3⟩ := tmodN (-(fuel + 1)) (by omega)
      have hN6 : N ≤ 1000000 := by omega
      go_upto_region 11 with fail
      clear w1 w2 w3 hN hfu hf
      obtain ⟨z, hz⟩ : ∃ z, runM P s0 N = z := ⟨_, rfl⟩
      have hcl := Hz.mk (hM.out.call (fun l' h => run_oc P pok.out rr.out s0 0 N hs.out (by omega) (by omega) z hz B V3 ax l' h))
      replace hz := Hz.mk hz.symm
      go_wp2_with fail
      refine hcl.out.mono ?_
      rintro r V5 ⟨rfl, hM1, hBn⟩
      clear hcl
      replace hG := Hz.mk (hG.out.trans hBn)
      replace hM := Hz.mk hM1
      clear hBn hM1
      go_upto_region 12 with fail
      refine wp_world (fun V => ∃ k, k = V5.heap.size ∧ M2 B V P ax z ay s0 [boxOb k (List.toArray [Value.int .i64 z.e, .int .u64 z.v, .int .i64 z.f, .int .i64 z.g, .int .i64 z.p])] ∧ Below B V5 V) ⟨_, rfl, hM.out.new _ _⟩ ?_
      rintro V6 ⟨ko, hkk, hM1, hBn⟩
      rw [← hkk]
      clear hkk
      replace hG := Hz.mk (hG.out.trans hBn)
      replace hM := Hz.mk hM1
      clear hBn hM1
      go_upto_region 14 with fail
      refine wp_world (fun V => ∃ k, k = V6.heap.size ∧ M2 B V P ax z ay s0 [boxOb k (wO s0 0).toArray, boxOb ko (List.toArray [Value.int .i64 z.e, .int .u64 z.v, .int .i64 z.f, .int .i64 z.g, .int .i64 z.p])] ∧ Below B V6 V) ⟨_, rfl, hM.out.new _ _⟩ ?_
      rintro V7 ⟨kw, hkk, hM1, hBn⟩
      rw [← hkk]
      clear hkk
      replace hG := Hz.mk (hG.out.trans hBn)
      replace hM := Hz.mk hM1
      clear hBn hM1
      go_loopw [16] (fun x wr => ∃ j : Nat, x = .int .i64 j ∧ j ≤ N ∧ Hz (M2 B wr P ax z ay (stepsM P s0 j) [boxOb kw (wO (stepsM P s0 j) j).toArray, boxOb ko (List.toArray [Value.int .i64 z.e, .int .u64 z.v, .int .i64 z.f, .int .i64 z.g, .int .i64 z.p])]) ∧ Hz (∀ i, i < j → (stepsM P s0 i).e = 0) ∧ Hz (Below B V1 wr)) (fun x _ => N - (intOf x).toNat)
      case atStart => exact ⟨0, rfl, Nat.zero_le _, hM, Hz.mk (fun i hi => absurd hi (Nat.not_lt_zero i)), hG⟩
      case round =>
        clear hM hG
        obtain ⟨j, rfl, hj, hM, hpre, hG⟩ := hrel
        have A1 := hM.out.there (boxOb kw (wO (stepsM P s0 j) j).toArray) (by simp)
        have y0 : wr.cell? ⟨kw, 0, none⟩ = some (.int .i64 (stepsM P s0 j).e) := by have := A1.2.1 0; rw [this, List.getElem?_toArray]; exact wO_at P s0 j he0.out
        clear A1
        have hfin : (∀ hend : stepsM P s0 N = stepsM P s0 j, True) := fun _ => trivial
        clear hfin
        by_cases hjl : j < N
        · have hjl1 : (j : Int) < (N : Int) := Int.ofNat_lt.2 hjl
          by_cases hej : (stepsM P s0 j).e = 0
          · have hej1 : ((stepsM P s0 j).e == 0) = true := by simp [hej]
            have hcl := Hz.mk (hM.out.turn.call (fun l' h => step_oc P pok.out rr.out (stepsM P s0 j) j (by have := okn_stepsM P pok.out rr.out s0 0 hs.out j; rwa [Nat.zero_add] at this) (by omega) (stepsM P s0 (j + 1)) (stepsM_one P s0 j) B wr ay l' h))
            go_upto_region 15 with fail
            clear y0
            refine wp_region_lit ?_
            refine wpList_plain rfl (fun K hK => ?_)
            go_simp
            with_reducible refine hK _ _ ?_
            clear hK K
            try simp only [Act.put, List.setIfInBounds_toArray, List.set_cons_zero, List.set_cons_succ]
            refine wpList_plain rfl (fun K hK => ?_)
            go_simp
            refine hcl.out.mono ?_
            rintro r V5 ⟨rfl, hM1, hBn⟩
            clear hcl
            replace hM1 := hM1.turn
            replace hG := Hz.mk (hG.out.trans hBn)
            with_reducible refine hK _ _ ?_
            clear hK K
            try simp only [Act.put, List.setIfInBounds_toArray, List.set_cons_zero, List.set_cons_succ]
            have A1 := hM1.there (boxOb kw (wO (stepsM P s0 j) j).toArray) (by simp)
            have hth := Hz.mk (A1.there 0 5 (by rw [wO_len]; omega))
            have hA9 := At.setAll A1 [Value.int .i64 (stepsM P s0 (j + 1)).e, .int .u64 (stepsM P s0 (j + 1)).v, .int .i64 (stepsM P s0 (j + 1)).f, .int .i64 (stepsM P s0 (j + 1)).g, .int .i64 (stepsM P s0 (j + 1)).p] (by rw [wO_len]; rfl)
            rw [← wO_succ] at hA9
            have hK9 := kp_setsZ V5 kw [Value.int .i64 (stepsM P s0 (j + 1)).e, .int .u64 (stepsM P s0 (j + 1)).v, .int .i64 (stepsM P s0 (j + 1)).f, .int .i64 (stepsM P s0 (j + 1)).g, .int .i64 (stepsM P s0 (j + 1)).p] 0
            rw [← wO_succ] at hK9
            obtain ⟨hM3, hB3⟩ := hM1.side (o' := boxOb kw (wO (stepsM P s0 (j + 1)) (j + 1)).toArray) hA9 hK9 (fun _ r => .inl r)
            replace hG := Hz.mk (hG.out.trans hB3)
            replace hM := Hz.mk hM3
            clear hM1 hM3 hA9 hK9 hB3 A1 hBn
            refine wpList_plain rfl (fun K hK => ?_)
            refine wp_store_mid _ _ _ rfl _ _ (List.toArray (wO (stepsM P s0 (j + 1)) (j + 1))) rfl rfl hth.out (by kernel_rfl) (by simp [wO_succ, Value.oneCell']) (hK _ _ ?_)
            clear hK K hth
            try simp only [Act.put]
            generalize World.setCells _ _ _ _ = V6 at *
            go_wp2_with fail
            refine ⟨⟨j + 1, ?_, hjl, hM, Hz.mk (pre_succ hpre.out hej), hG⟩, ?_⟩
            · first | rfl | rw [next_wY hjl hN6] | go_num
            · first | exact next_mY hjl | (rw [next_wY hjl hN6]; exact next_mY hjl)
          · have hej1 : ((stepsM P s0 j).e == 0) = false := beq_false_of_ne hej
            have hend : stepsM P s0 N = stepsM P s0 j := by rw [show N = j + (N - j) by omega]; exact stepsM_over P s0 j _ hej
            go_upto_region 17 with fail
            clear y0 hej1 hjl1
            have hjN : stepsM P s0 N = stepsM P s0 j := hend
            have hsz := Hz.mk (okn_runM P pok.out rr.out s0 0 hs.out N)
            rw [Nat.zero_add, ← hz.out] at hsz
            have hsu := Hz.mk (okn_stepsM P pok.out rr.out s0 0 hs.out j)
            rw [Nat.zero_add] at hsu
            have hze := Hz.mk (runM_e P s0 N)
            rw [← hz.out] at hze
            obtain ⟨b1, b2, b3, b4, b5, b6, b7⟩ := runM_as P s0 N
            rw [← hz.out, hjN] at b1 b2 b3 b4 b5 b6 b7
            have hz2 : z = if (stepsM P s0 j).e = 0 then sp (stepsM P s0 j) else stepsM P s0 j := by rw [hz.out]; unfold runM; rw [hjN]
            replace hz := Hz.mk hz2
            clear hz2
            have hw0 := Hz.mk (wO_at P s0 j he0.out)
            obtain ⟨u, hu⟩ : ∃ u, stepsM P s0 j = u := ⟨_, rfl⟩
            rw [hu] at b1 b2 b3 b4 b5 b6 b7 hM hsu hz hw0
            clear hjN
            replace hu := Hz.mk hu.symm
            have a1 := Hz.mk b1
            have a2 := Hz.mk b2
            have a3 : Hz (snV z.g z.p z.st.length z.r = snV u.g u.p u.st.length u.r) := Hz.mk (by rw [b3, b4, b5, b6])
            have a4 := Hz.mk b7
            have a5 := Hz.mk b3
            have a6 := Hz.mk b4
            have hol : Hz (z.out.length ≤ 1000000) := Hz.mk (Nat.le_trans hsz.out.ol (by omega))
            have htl : Hz (z.tc.length ≤ 1000000) := Hz.mk (Nat.le_trans hsz.out.tl (by omega))
            have hol2 : Hz (u.out.length ≤ 1000000) := Hz.mk (Nat.le_trans hsu.out.ol (by omega))
            have htl2 : Hz (u.tc.length ≤ 1000000) := Hz.mk (Nat.le_trans hsu.out.tl (by omega))
            have hlo : Hz (¬ (j : Int) < (z.out.length : Int)) := Hz.mk (by rw [b1]; have := hsu.out.ol; omega)
            have hlt : Hz (¬ (j : Int) < (z.tc.length : Int)) := Hz.mk (by rw [b2]; have := hsu.out.tl; omega)
            clear b1 b2 b3 b4 b5 b6 b7 hsu
            by_cases heN : u.e = 0
            · skip
              have e4 : z.e = 4 := by rw [hz.out]; exact congrArg Fm.e (if_pos heN)
              have e5 : z.v = 0 := by rw [hz.out]; exact congrArg Fm.v (if_pos heN)
              have e6 : z.f = 0 := by rw [hz.out]; exact congrArg Fm.f (if_pos heN)
              have A3 := hM.out.there (boxOb ko (List.toArray [Value.int .i64 z.e, .int .u64 z.v, .int .i64 z.f, .int .i64 z.g, .int .i64 z.p])) (by simp)
              have z0 : wr.cell? ⟨ko, 0, none⟩ = some (.int .i64 4) := by have := A3.2.1 0; rw [this]; simp [e4]
              clear A3
              go_upto_region 18 with fail
              clear z0
              obtain ⟨ly, hY⟩ := hM.out.turn.one
              have hsn := Hz.mk (snap_any B wr ay P u ly hY)
              clear hY
              refine wp_region_lit ?_
              refine wpList_plain rfl (fun K hK => ?_)
              go_simp
              with_reducible refine hK _ _ ?_
              clear hK K
              try simp only [Act.put, List.setIfInBounds_toArray, List.set_cons_zero, List.set_cons_succ]
              refine wpList_plain rfl (fun K hK => ?_)
              go_simp
              refine hsn.out.mono ?_
              rintro r V5 ⟨rfl, hBn⟩
              replace hG := Hz.mk (hG.out.trans (hBn.below.mono hM.out.le))
              replace hM := Hz.mk (hM.out.gr hBn.below)
              clear hBn hsn
              with_reducible refine hK _ _ ?_
              clear hK K
              try simp only [Act.put, List.setIfInBounds_toArray, List.set_cons_zero, List.set_cons_succ]
              have hth : Hz ((V5.alloc (.cells #[.int .i64 0, .int .i64 0, .int .i64 0, .int .u64 0, .int .u64 0, .int .u64 0, .int .u64 0, .int .u64 0, .int .u64 0, .int .u64 0, .int .u64 0, .int .u64 0, .int .u64 0, .int .u64 0, .int .u64 0, .int .u64 0, .int .u64 0, .int .u64 0, .int .u64 0] 33)).there V5.heap.size 0 19) := Hz.mk ((At.new V5 [Value.int .i64 0, .int .i64 0, .int .i64 0, .int .u64 0, .int .u64 0, .int .u64 0, .int .u64 0, .int .u64 0, .int .u64 0, .int .u64 0, .int .u64 0, .int .u64 0, .int .u64 0, .int .u64 0, .int .u64 0, .int .u64 0, .int .u64 0, .int .u64 0, .int .u64 0].toArray 33).there 0 19 (by simp))
              have hA9 := At.setAll (cs := [Value.int .i64 0, .int .i64 0, .int .i64 0, .int .u64 0, .int .u64 0, .int .u64 0, .int .u64 0, .int .u64 0, .int .u64 0, .int .u64 0, .int .u64 0, .int .u64 0, .int .u64 0, .int .u64 0, .int .u64 0, .int .u64 0, .int .u64 0, .int .u64 0, .int .u64 0]) (At.new V5 _ 33) (snV u.g u.p u.st.length u.r) (by rw [snV_len]; rfl)
              have hK9 := kp_setsZ (V5.alloc (.cells #[.int .i64 0, .int .i64 0, .int .i64 0, .int .u64 0, .int .u64 0, .int .u64 0, .int .u64 0, .int .u64 0, .int .u64 0, .int .u64 0, .int .u64 0, .int .u64 0, .int .u64 0, .int .u64 0, .int .u64 0, .int .u64 0, .int .u64 0, .int .u64 0, .int .u64 0] 33)) V5.heap.size (snV u.g u.p u.st.length u.r) 0
              obtain ⟨hM2, hB2⟩ := hM.out.new #[.int .i64 0, .int .i64 0, .int .i64 0, .int .u64 0, .int .u64 0, .int .u64 0, .int .u64 0, .int .u64 0, .int .u64 0, .int .u64 0, .int .u64 0, .int .u64 0, .int .u64 0, .int .u64 0, .int .u64 0, .int .u64 0, .int .u64 0, .int .u64 0, .int .u64 0] 33
              obtain ⟨hM3, hB3⟩ := hM2.side (o' := boxOb V5.heap.size (snV u.g u.p u.st.length u.r).toArray) hA9 hK9 (fun _ r => .inl r)
              replace hG := Hz.mk (hG.out.trans (hB2.trans hB3))
              replace hM := Hz.mk hM3
              clear hM2 hM3 hA9 hK9 hB2 hB3
              refine wpList_plain rfl (fun K hK => ?_)
              go_simp
              with_reducible refine hK _ _ ?_
              clear hK K
              try simp only [Act.put, List.setIfInBounds_toArray, List.set_cons_zero, List.set_cons_succ]
              refine wpList_plain rfl (fun K hK => ?_)
              refine wp_store_mid _ _ _ rfl _ _ (List.toArray (snV u.g u.p u.st.length u.r)) rfl rfl hth.out (by rw [List.size_toArray, snV_len]; kernel_rfl) (snV_one _ _ _ _) (hK _ _ ?_)
              clear hK K hth
              try simp only [Act.put]
              generalize World.setCells _ _ _ _ = V6 at *
              generalize V5.heap.size = ks at *
              have A0 := hM.out.there (boxOb ks (snV u.g u.p u.st.length u.r).toArray) (by simp)
              have A1 := hM.out.there (boxOb kw (wO u j).toArray) (by simp)
              have A3 := hM.out.there (boxOb ko (List.toArray [Value.int .i64 z.e, .int .u64 z.v, .int .i64 z.f, .int .i64 z.g, .int .i64 z.p])) (by simp)
              have x0 : V6.cell? ⟨ks, 0, none⟩ = some (.int .i64 u.g) := A0.2.1 0
              have x1 : V6.cell? ⟨ks, 1, none⟩ = some (.int .i64 u.p) := A0.2.1 1
              have y0 : V6.cell? ⟨kw, 0, none⟩ = some (.int .i64 0) := by have := A1.2.1 0; rw [this, List.getElem?_toArray, hw0.out, heN]
              have z0 : V6.cell? ⟨ko, 0, none⟩ = some (.int .i64 4) := by have := A3.2.1 0; rw [this]; simp [e4, e5, e6, a5.out, a6.out]
              have z1 : V6.cell? ⟨ko, 1, none⟩ = some (.int .u64 0) := by have := A3.2.1 1; rw [this]; simp [e4, e5, e6, a5.out, a6.out]
              have z2 : V6.cell? ⟨ko, 2, none⟩ = some (.int .i64 0) := by have := A3.2.1 2; rw [this]; simp [e4, e5, e6, a5.out, a6.out]
              have z3 : V6.cell? ⟨ko, 3, none⟩ = some (.int .i64 u.g) := by have := A3.2.1 3; rw [this]; simp [e4, e5, e6, a5.out, a6.out]
              have z4 : V6.cell? ⟨ko, 4, none⟩ = some (.int .i64 u.p) := by have := A3.2.1 4; rw [this]; simp [e4, e5, e6, a5.out, a6.out]
              clear A0 A1 A3 e5 e6
              have hq2 := oc_ne5 4 0 0 u.g u.p
              go_upto_region 23 with fail
              clear x0 x1 y0 z0 z1 z2 z3 z4 hq2 e4
              generalize (wO u j).toArray = wv at *
              replace hM := Hz.mk (hM.out.dropO)
              generalize V6 = V8 at *
              obtain ⟨lx, hX⟩ := hM.out.one
              go_wp2_with fail
              refine (outs_any B V8 ax P z lx hX hol.out).mono ?_
              rintro r V9 ⟨va1, c1, rfl, hW1, hBn⟩
              replace hW1 := Hz.mk hW1
              replace hG := Hz.mk (hG.out.trans (hBn.mono hM.out.le))
              replace hM := Hz.mk (hM.out.gr hBn)
              clear hBn
              clear hX
              obtain ⟨ly, hY⟩ := hM.out.turn.one
              go_wp2_with fail
              refine (outs_any B V9 ay P u ly hY hol2.out).mono ?_
              rintro r V10 ⟨va2, c2, rfl, hW2, hBn⟩
              replace hW2 := Hz.mk hW2
              replace hW1 := Hz.mk (hW1.out.below hBn)
              replace hG := Hz.mk (hG.out.trans (hBn.mono hM.out.le))
              replace hM := Hz.mk (hM.out.gr hBn)
              clear hBn
              clear hY
              rw [a1.out] at hW1
              go_wp2_with fail
              refine ((show Calls Tryz.prog 17 #[.slice va1 z.out.length c1, .slice va2 u.out.length c2] V10 _ by rw [a1.out]; exact sameW_self u.out va1 va2 c1 c2 V10 hW1.out hW2.out hol2.out)).mono ?_
              rintro r V11 ⟨rfl, hBn⟩
              replace hBn := hBn.below
              replace hG := Hz.mk (hG.out.trans (hBn.mono hM.out.le))
              replace hM := Hz.mk (hM.out.gr hBn)
              clear hBn hW1 hW2
              obtain ⟨lx, hX⟩ := hM.out.one
              go_wp2_with fail
              refine (tcs_any B V11 ax P z lx hX htl.out).mono ?_
              rintro r V12 ⟨va1, c1, rfl, hW1, hBn⟩
              replace hW1 := Hz.mk hW1
              replace hG := Hz.mk (hG.out.trans (hBn.mono hM.out.le))
              replace hM := Hz.mk (hM.out.gr hBn)
              clear hBn
              clear hX
              obtain ⟨ly, hY⟩ := hM.out.turn.one
              go_wp2_with fail
              refine (tcs_any B V12 ay P u ly hY htl2.out).mono ?_
              rintro r V13 ⟨va2, c2, rfl, hW2, hBn⟩
              replace hW2 := Hz.mk hW2
              replace hW1 := Hz.mk (hW1.out.below hBn)
              replace hG := Hz.mk (hG.out.trans (hBn.mono hM.out.le))
              replace hM := Hz.mk (hM.out.gr hBn)
              clear hBn
              clear hY
              rw [a2.out] at hW1
              go_wp2_with fail
              refine ((show Calls Tryz.prog 18 #[.slice va1 z.tc.length c1, .slice va2 u.tc.length c2] V13 _ by rw [a2.out]; exact sameT_self u.tc va1 va2 c1 c2 V13 hW1.out hW2.out htl2.out)).mono ?_
              rintro r V14 ⟨rfl, hBn⟩
              replace hBn := hBn.below
              replace hG := Hz.mk (hG.out.trans (hBn.mono hM.out.le))
              replace hM := Hz.mk (hM.out.gr hBn)
              clear hBn hW1 hW2
              obtain ⟨lx, hX⟩ := hM.out.one
              go_wp2_with fail
              refine (outs_any B V14 ax P z lx hX hol.out).mono ?_
              rintro r V15 ⟨va1, c1, rfl, hW1, hBn⟩
              clear hW1
              replace hG := Hz.mk (hG.out.trans (hBn.mono hM.out.le))
              replace hM := Hz.mk (hM.out.gr hBn)
              clear hBn
              clear hX
              have n1 : ¬ (j : Int) < (z.out.length : Int) := by have := hlo.out; omega
              obtain ⟨lx, hX⟩ := hM.out.one
              go_wp2_with fail
              refine (tcs_any B V15 ax P z lx hX htl.out).mono ?_
              rintro r V16 ⟨va1, c1, rfl, hW1, hBn⟩
              clear hW1
              replace hG := Hz.mk (hG.out.trans (hBn.mono hM.out.le))
              replace hM := Hz.mk (hM.out.gr hBn)
              clear hBn
              clear hX
              have n2 : ¬ (j : Int) < (z.tc.length : Int) := by have := hlt.out; omega
              obtain ⟨lx, hX⟩ := hM.out.one
              go_wp2_with fail
              refine (snap_any B V16 ax P z lx hX).mono ?_
              rintro r V17 ⟨rfl, hBn⟩
              replace hBn := hBn.below
              replace hG := Hz.mk (hG.out.trans (hBn.mono hM.out.le))
              replace hM := Hz.mk (hM.out.gr hBn)
              clear hBn
              clear hX
              obtain ⟨ly, hY⟩ := hM.out.turn.one
              go_wp2_with fail
              refine (snap_any B V17 ay P u ly hY).mono ?_
              rintro r V18 ⟨rfl, hBn⟩
              replace hBn := hBn.below
              replace hG := Hz.mk (hG.out.trans (hBn.mono hM.out.le))
              replace hM := Hz.mk (hM.out.gr hBn)
              clear hBn
              clear hY
              rw [a3.out]
              have hne := sn_neq u.g u.p u.st.length u.r
              generalize (snV u.g u.p u.st.length u.r).toArray = sv at *
              obtain ⟨lx, hX⟩ := hM.out.one
              go_wp2_with fail
              refine (memory_any B V18 ax P z lx hX).mono ?_
              rintro r V19 ⟨rfl, hBn⟩
              replace hG := Hz.mk (hG.out.trans (hBn.mono hM.out.le))
              replace hM := Hz.mk (hM.out.gr hBn)
              clear hBn
              clear hX
              obtain ⟨ly, hY⟩ := hM.out.turn.one
              go_wp2_with fail
              refine (memory_any B V19 ay P u ly hY).mono ?_
              rintro r V20 ⟨rfl, hBn⟩
              replace hG := Hz.mk (hG.out.trans (hBn.mono hM.out.le))
              replace hM := Hz.mk (hM.out.gr hBn)
              clear hBn
              clear hY
              rw [a4.out]
              generalize (ByteArray.mk (T.rowB u.m 0 65536).toArray) = mv at *
              go_upto_region 27 with fail
              clear hne n1 n2
              go_wp2_with fail
              refine (hM.out.call (fun l' h => step_oc P pok.out rr.out z N hsz.out (by omega) z (stepsM_end P z 1 hze.out) B V20 ax l' h)).mono ?_
              rintro r V21 ⟨rfl, hM1, hBn⟩
              replace hG := Hz.mk (hG.out.trans hBn)
              replace hM := Hz.mk hM1
              clear hBn hM1
              go_upto_region 28 with fail
              refine wp_world (fun V => ∃ k, k = V21.heap.size ∧ M2 B V P ax z ay u (boxOb k (List.toArray [Value.int .i64 z.e, .int .u64 z.v, .int .i64 z.f, .int .i64 z.g, .int .i64 z.p]) :: [boxOb kw wv, boxOb ko (List.toArray [Value.int .i64 z.e, .int .u64 z.v, .int .i64 z.f, .int .i64 z.g, .int .i64 z.p])]) ∧ Below B V21 V) ⟨_, rfl, hM.out.new _ _⟩ ?_
              rintro V22 ⟨k1, hkk, hM1, hBn⟩
              rw [← hkk]
              clear hkk
              replace hG := Hz.mk (hG.out.trans hBn)
              replace hM := Hz.mk hM1
              clear hBn hM1
              go_wp2_with fail
              refine (hM.out.call (fun l' h => run_oc P pok.out rr.out z N 5 hsz.out (by omega) (by omega) z (runM_end P z 5 hze.out) B V22 ax l' h)).mono ?_
              rintro r V23 ⟨rfl, hM1, hBn⟩
              replace hG := Hz.mk (hG.out.trans hBn)
              replace hM := Hz.mk hM1
              clear hBn hM1
              go_upto_region 29 with fail
              refine wp_world (fun V => ∃ k, k = V23.heap.size ∧ M2 B V P ax z ay u (boxOb k (List.toArray [Value.int .i64 z.e, .int .u64 z.v, .int .i64 z.f, .int .i64 z.g, .int .i64 z.p]) :: boxOb k1 (List.toArray [Value.int .i64 z.e, .int .u64 z.v, .int .i64 z.f, .int .i64 z.g, .int .i64 z.p]) :: [boxOb kw wv, boxOb ko (List.toArray [Value.int .i64 z.e, .int .u64 z.v, .int .i64 z.f, .int .i64 z.g, .int .i64 z.p])]) ∧ Below B V23 V) ⟨_, rfl, hM.out.new _ _⟩ ?_
              rintro V24 ⟨k2, hkk, hM1, hBn⟩
              rw [← hkk]
              clear hkk
              replace hG := Hz.mk (hG.out.trans hBn)
              replace hM := Hz.mk hM1
              clear hBn hM1
              have A1 := hM.out.there (boxOb k2 (List.toArray [Value.int .i64 z.e, .int .u64 z.v, .int .i64 z.f, .int .i64 z.g, .int .i64 z.p])) (by simp)
              have A2 := hM.out.there (boxOb k1 (List.toArray [Value.int .i64 z.e, .int .u64 z.v, .int .i64 z.f, .int .i64 z.g, .int .i64 z.p])) (by simp)
              have A3 := hM.out.there (boxOb ko (List.toArray [Value.int .i64 z.e, .int .u64 z.v, .int .i64 z.f, .int .i64 z.g, .int .i64 z.p])) (by simp)
              have x0 : V24.cell? ⟨k2, 0, none⟩ = some (.int .i64 z.e) := A1.2.1 0
              have x1 : V24.cell? ⟨k2, 1, none⟩ = some (.int .u64 z.v) := A1.2.1 1
              have x2 : V24.cell? ⟨k2, 2, none⟩ = some (.int .i64 z.f) := A1.2.1 2
              have x3 : V24.cell? ⟨k2, 3, none⟩ = some (.int .i64 z.g) := A1.2.1 3
              have x4 : V24.cell? ⟨k2, 4, none⟩ = some (.int .i64 z.p) := A1.2.1 4
              have y0 : V24.cell? ⟨k1, 0, none⟩ = some (.int .i64 z.e) := A2.2.1 0
              have y1 : V24.cell? ⟨k1, 1, none⟩ = some (.int .u64 z.v) := A2.2.1 1
              have y2 : V24.cell? ⟨k1, 2, none⟩ = some (.int .i64 z.f) := A2.2.1 2
              have y3 : V24.cell? ⟨k1, 3, none⟩ = some (.int .i64 z.g) := A2.2.1 3
              have y4 : V24.cell? ⟨k1, 4, none⟩ = some (.int .i64 z.p) := A2.2.1 4
              have z0 : V24.cell? ⟨ko, 0, none⟩ = some (.int .i64 z.e) := A3.2.1 0
              have z1 : V24.cell? ⟨ko, 1, none⟩ = some (.int .u64 z.v) := A3.2.1 1
              have z2 : V24.cell? ⟨ko, 2, none⟩ = some (.int .i64 z.f) := A3.2.1 2
              have z3 : V24.cell? ⟨ko, 3, none⟩ = some (.int .i64 z.g) := A3.2.1 3
              have z4 : V24.cell? ⟨ko, 4, none⟩ = some (.int .i64 z.p) := A3.2.1 4
              clear A1 A2 A3
              have hq1 : (z.e == 0) = false := beq_false_of_ne hze.out
              have hq2 := oc_eq5 z.e z.v z.f z.g z.p
              go_wp2_with fail
              go_ret
              exact ⟨rfl, Gw.out.trans (hG.out.mono hBw.out)⟩
            · skip
              have ez : z = u := by rw [hz.out]; exact (if_neg heN)
              have hj0 : j ≠ 0 := fun q => by apply heN; rw [hu.out, q]; exact he0.out
              have e4 : (z.e == 4) = false := beq_false_of_ne (by rw [ez, hu.out]; exact stepsM_e P s0 he0.out j)
              have A3 := hM.out.there (boxOb ko (List.toArray [Value.int .i64 z.e, .int .u64 z.v, .int .i64 z.f, .int .i64 z.g, .int .i64 z.p])) (by simp)
              have A1 := hM.out.there (boxOb kw (wO u j).toArray) (by simp)
              have ew : wO u j = [Value.int .i64 z.e, .int .u64 z.v, .int .i64 z.f, .int .i64 z.g, .int .i64 z.p] := by rw [ez]; unfold wO; rw [if_neg hj0]; rfl
              rw [ew] at A1
              have y0 : wr.cell? ⟨kw, 0, none⟩ = some (.int .i64 z.e) := A1.2.1 0
              have y1 : wr.cell? ⟨kw, 1, none⟩ = some (.int .u64 z.v) := A1.2.1 1
              have y2 : wr.cell? ⟨kw, 2, none⟩ = some (.int .i64 z.f) := A1.2.1 2
              have y3 : wr.cell? ⟨kw, 3, none⟩ = some (.int .i64 z.g) := A1.2.1 3
              have y4 : wr.cell? ⟨kw, 4, none⟩ = some (.int .i64 z.p) := A1.2.1 4
              have z0 : wr.cell? ⟨ko, 0, none⟩ = some (.int .i64 z.e) := A3.2.1 0
              have z1 : wr.cell? ⟨ko, 1, none⟩ = some (.int .u64 z.v) := A3.2.1 1
              have z2 : wr.cell? ⟨ko, 2, none⟩ = some (.int .i64 z.f) := A3.2.1 2
              have z3 : wr.cell? ⟨ko, 3, none⟩ = some (.int .i64 z.g) := A3.2.1 3
              have z4 : wr.cell? ⟨ko, 4, none⟩ = some (.int .i64 z.p) := A3.2.1 4
              clear A1 A3 ew ez hj0
              have hq2 := oc_ne5 z.e z.v z.f z.g z.p
              go_upto_region 23 with fail
              clear y0 y1 y2 y3 y4 z0 z1 z2 z3 z4 hq2 e4
              generalize (wO u j).toArray = wv at *
              generalize wr = V8 at *
              obtain ⟨lx, hX⟩ := hM.out.one
              go_wp2_with fail
              refine (outs_any B V8 ax P z lx hX hol.out).mono ?_
              rintro r V9 ⟨va1, c1, rfl, hW1, hBn⟩
              replace hW1 := Hz.mk hW1
              replace hG := Hz.mk (hG.out.trans (hBn.mono hM.out.le))
              replace hM := Hz.mk (hM.out.gr hBn)
              clear hBn
              clear hX
              obtain ⟨ly, hY⟩ := hM.out.turn.one
              go_wp2_with fail
              refine (outs_any B V9 ay P u ly hY hol2.out).mono ?_
              rintro r V10 ⟨va2, c2, rfl, hW2, hBn⟩
              replace hW2 := Hz.mk hW2
              replace hW1 := Hz.mk (hW1.out.below hBn)
              replace hG := Hz.mk (hG.out.trans (hBn.mono hM.out.le))
              replace hM := Hz.mk (hM.out.gr hBn)
              clear hBn
              clear hY
              rw [a1.out] at hW1
              go_wp2_with fail
              refine ((show Calls Tryz.prog 17 #[.slice va1 z.out.length c1, .slice va2 u.out.length c2] V10 _ by rw [a1.out]; exact sameW_self u.out va1 va2 c1 c2 V10 hW1.out hW2.out hol2.out)).mono ?_
              rintro r V11 ⟨rfl, hBn⟩
              replace hBn := hBn.below
              replace hG := Hz.mk (hG.out.trans (hBn.mono hM.out.le))
              replace hM := Hz.mk (hM.out.gr hBn)
              clear hBn hW1 hW2
              obtain ⟨lx, hX⟩ := hM.out.one
              go_wp2_with fail
              refine (tcs_any B V11 ax P z lx hX htl.out).mono ?_
              rintro r V12 ⟨va1, c1, rfl, hW1, hBn⟩
              replace hW1 := Hz.mk hW1
              replace hG := Hz.mk (hG.out.trans (hBn.mono hM.out.le))
              replace hM := Hz.mk (hM.out.gr hBn)
              clear hBn
              clear hX
              obtain ⟨ly, hY⟩ := hM.out.turn.one
              go_wp2_with fail
              refine (tcs_any B V12 ay P u ly hY htl2.out).mono ?_
              rintro r V13 ⟨va2, c2, rfl, hW2, hBn⟩
              replace hW2 := Hz.mk hW2
              replace hW1 := Hz.mk (hW1.out.below hBn)
              replace hG := Hz.mk (hG.out.trans (hBn.mono hM.out.le))
              replace hM := Hz.mk (hM.out.gr hBn)
              clear hBn
              clear hY
              rw [a2.out] at hW1
              go_wp2_with fail
              refine ((show Calls Tryz.prog 18 #[.slice va1 z.tc.length c1, .slice va2 u.tc.length c2] V13 _ by rw [a2.out]; exact sameT_self u.tc va1 va2 c1 c2 V13 hW1.out hW2.out htl2.out)).mono ?_
              rintro r V14 ⟨rfl, hBn⟩
              replace hBn := hBn.below
              replace hG := Hz.mk (hG.out.trans (hBn.mono hM.out.le))
              replace hM := Hz.mk (hM.out.gr hBn)
              clear hBn hW1 hW2
              obtain ⟨lx, hX⟩ := hM.out.one
              go_wp2_with fail
              refine (outs_any B V14 ax P z lx hX hol.out).mono ?_
              rintro r V15 ⟨va1, c1, rfl, hW1, hBn⟩
              clear hW1
              replace hG := Hz.mk (hG.out.trans (hBn.mono hM.out.le))
              replace hM := Hz.mk (hM.out.gr hBn)
              clear hBn
              clear hX
              have n1 : ¬ (j : Int) < (z.out.length : Int) := by have := hlo.out; omega
              obtain ⟨lx, hX⟩ := hM.out.one
              go_wp2_with fail
              refine (tcs_any B V15 ax P z lx hX htl.out).mono ?_
              rintro r V16 ⟨va1, c1, rfl, hW1, hBn⟩
              clear hW1
              replace hG := Hz.mk (hG.out.trans (hBn.mono hM.out.le))
              replace hM := Hz.mk (hM.out.gr hBn)
              clear hBn
              clear hX
              have n2 : ¬ (j : Int) < (z.tc.length : Int) := by have := hlt.out; omega
              obtain ⟨lx, hX⟩ := hM.out.one
              go_wp2_with fail
              refine (snap_any B V16 ax P z lx hX).mono ?_
              rintro r V17 ⟨rfl, hBn⟩
              replace hBn := hBn.below
              replace hG := Hz.mk (hG.out.trans (hBn.mono hM.out.le))
              replace hM := Hz.mk (hM.out.gr hBn)
              clear hBn
              clear hX
              obtain ⟨ly, hY⟩ := hM.out.turn.one
              go_wp2_with fail
              refine (snap_any B V17 ay P u ly hY).mono ?_
              rintro r V18 ⟨rfl, hBn⟩
              replace hBn := hBn.below
              replace hG := Hz.mk (hG.out.trans (hBn.mono hM.out.le))
              replace hM := Hz.mk (hM.out.gr hBn)
              clear hBn
              clear hY
              rw [a3.out]
              have hne := sn_neq u.g u.p u.st.length u.r
              generalize (snV u.g u.p u.st.length u.r).toArray = sv at *
              obtain ⟨lx, hX⟩ := hM.out.one
              go_wp2_with fail
              refine (memory_any B V18 ax P z lx hX).mono ?_
              rintro r V19 ⟨rfl, hBn⟩
              replace hG := Hz.mk (hG.out.trans (hBn.mono hM.out.le))
              replace hM := Hz.mk (hM.out.gr hBn)
              clear hBn
              clear hX
              obtain ⟨ly, hY⟩ := hM.out.turn.one
              go_wp2_with fail
              refine (memory_any B V19 ay P u ly hY).mono ?_
              rintro r V20 ⟨rfl, hBn⟩
              replace hG := Hz.mk (hG.out.trans (hBn.mono hM.out.le))
              replace hM := Hz.mk (hM.out.gr hBn)
              clear hBn
              clear hY
              rw [a4.out]
              generalize (ByteArray.mk (T.rowB u.m 0 65536).toArray) = mv at *
              go_upto_region 27 with fail
              clear hne n1 n2
              go_wp2_with fail
              refine (hM.out.call (fun l' h => step_oc P pok.out rr.out z N hsz.out (by omega) z (stepsM_end P z 1 hze.out) B V20 ax l' h)).mono ?_
              rintro r V21 ⟨rfl, hM1, hBn⟩
              replace hG := Hz.mk (hG.out.trans hBn)
              replace hM := Hz.mk hM1
              clear hBn hM1
              go_upto_region 28 with fail
              refine wp_world (fun V => ∃ k, k = V21.heap.size ∧ M2 B V P ax z ay u (boxOb k (List.toArray [Value.int .i64 z.e, .int .u64 z.v, .int .i64 z.f, .int .i64 z.g, .int .i64 z.p]) :: [boxOb kw wv, boxOb ko (List.toArray [Value.int .i64 z.e, .int .u64 z.v, .int .i64 z.f, .int .i64 z.g, .int .i64 z.p])]) ∧ Below B V21 V) ⟨_, rfl, hM.out.new _ _⟩ ?_
              rintro V22 ⟨k1, hkk, hM1, hBn⟩
              rw [← hkk]
              clear hkk
              replace hG := Hz.mk (hG.out.trans hBn)
              replace hM := Hz.mk hM1
              clear hBn hM1
              go_wp2_with fail
              refine (hM.out.call (fun l' h => run_oc P pok.out rr.out z N 5 hsz.out (by omega) (by omega) z (runM_end P z 5 hze.out) B V22 ax l' h)).mono ?_
              rintro r V23 ⟨rfl, hM1, hBn⟩
              replace hG := Hz.mk (hG.out.trans hBn)
              replace hM := Hz.mk hM1
              clear hBn hM1
              go_upto_region 29 with fail
              refine wp_world (fun V => ∃ k, k = V23.heap.size ∧ M2 B V P ax z ay u (boxOb k (List.toArray [Value.int .i64 z.e, .int .u64 z.v, .int .i64 z.f, .int .i64 z.g, .int .i64 z.p]) :: boxOb k1 (List.toArray [Value.int .i64 z.e, .int .u64 z.v, .int .i64 z.f, .int .i64 z.g, .int .i64 z.p]) :: [boxOb kw wv, boxOb ko (List.toArray [Value.int .i64 z.e, .int .u64 z.v, .int .i64 z.f, .int .i64 z.g, .int .i64 z.p])]) ∧ Below B V23 V) ⟨_, rfl, hM.out.new _ _⟩ ?_
              rintro V24 ⟨k2, hkk, hM1, hBn⟩
              rw [← hkk]
              clear hkk
              replace hG := Hz.mk (hG.out.trans hBn)
              replace hM := Hz.mk hM1
              clear hBn hM1
              have A1 := hM.out.there (boxOb k2 (List.toArray [Value.int .i64 z.e, .int .u64 z.v, .int .i64 z.f, .int .i64 z.g, .int .i64 z.p])) (by simp)
              have A2 := hM.out.there (boxOb k1 (List.toArray [Value.int .i64 z.e, .int .u64 z.v, .int .i64 z.f, .int .i64 z.g, .int .i64 z.p])) (by simp)
              have A3 := hM.out.there (boxOb ko (List.toArray [Value.int .i64 z.e, .int .u64 z.v, .int .i64 z.f, .int .i64 z.g, .int .i64 z.p])) (by simp)
              have x0 : V24.cell? ⟨k2, 0, none⟩ = some (.int .i64 z.e) := A1.2.1 0
              have x1 : V24.cell? ⟨k2, 1, none⟩ = some (.int .u64 z.v) := A1.2.1 1
              have x2 : V24.cell? ⟨k2, 2, none⟩ = some (.int .i64 z.f) := A1.2.1 2
              have x3 : V24.cell? ⟨k2, 3, none⟩ = some (.int .i64 z.g) := A1.2.1 3
              have x4 : V24.cell? ⟨k2, 4, none⟩ = some (.int .i64 z.p) := A1.2.1 4
              have y0 : V24.cell? ⟨k1, 0, none⟩ = some (.int .i64 z.e) := A2.2.1 0
              have y1 : V24.cell? ⟨k1, 1, none⟩ = some (.int .u64 z.v) := A2.2.1 1
              have y2 : V24.cell? ⟨k1, 2, none⟩ = some (.int .i64 z.f) := A2.2.1 2
              have y3 : V24.cell? ⟨k1, 3, none⟩ = some (.int .i64 z.g) := A2.2.1 3
              have y4 : V24.cell? ⟨k1, 4, none⟩ = some (.int .i64 z.p) := A2.2.1 4
              have z0 : V24.cell? ⟨ko, 0, none⟩ = some (.int .i64 z.e) := A3.2.1 0
              have z1 : V24.cell? ⟨ko, 1, none⟩ = some (.int .u64 z.v) := A3.2.1 1
              have z2 : V24.cell? ⟨ko, 2, none⟩ = some (.int .i64 z.f) := A3.2.1 2
              have z3 : V24.cell? ⟨ko, 3, none⟩ = some (.int .i64 z.g) := A3.2.1 3
              have z4 : V24.cell? ⟨ko, 4, none⟩ = some (.int .i64 z.p) := A3.2.1 4
              clear A1 A2 A3
              have hq1 : (z.e == 0) = false := beq_false_of_ne hze.out
              have hq2 := oc_eq5 z.e z.v z.f z.g z.p
              go_wp2_with fail
              go_ret
              exact ⟨rfl, Gw.out.trans (hG.out.mono hBw.out)⟩
        · obtain rfl : j = N := by omega
          have hjl1 : ¬ (j : Int) < (j : Int) := by omega
          have hend : stepsM P s0 j = stepsM P s0 j := rfl
          go_upto_region 17 with fail
          clear y0 hjl1
          have hjN : stepsM P s0 j = stepsM P s0 j := hend
          have hsz := Hz.mk (okn_runM P pok.out rr.out s0 0 hs.out j)
          rw [Nat.zero_add, ← hz.out] at hsz
          have hsu := Hz.mk (okn_stepsM P pok.out rr.out s0 0 hs.out j)
          rw [Nat.zero_add] at hsu
          have hze := Hz.mk (runM_e P s0 j)
          rw [← hz.out] at hze
          obtain ⟨b1, b2, b3, b4, b5, b6, b7⟩ := runM_as P s0 j
          rw [← hz.out, hjN] at b1 b2 b3 b4 b5 b6 b7
          have hz2 : z = if (stepsM P s0 j).e = 0 then sp (stepsM P s0 j) else stepsM P s0 j := by rw [hz.out]; unfold runM; rw [hjN]
          replace hz := Hz.mk hz2
          clear hz2
          have hw0 := Hz.mk (wO_at P s0 j he0.out)
          obtain ⟨u, hu⟩ : ∃ u, stepsM P s0 j = u := ⟨_, rfl⟩
          rw [hu] at b1 b2 b3 b4 b5 b6 b7 hM hsu hz hw0
          clear hjN
          replace hu := Hz.mk hu.symm
          have a1 := Hz.mk b1
          have a2 := Hz.mk b2
          have a3 : Hz (snV z.g z.p z.st.length z.r = snV u.g u.p u.st.length u.r) := Hz.mk (by rw [b3, b4, b5, b6])
          have a4 := Hz.mk b7
          have a5 := Hz.mk b3
          have a6 := Hz.mk b4
          have hol : Hz (z.out.length ≤ 1000000) := Hz.mk (Nat.le_trans hsz.out.ol (by omega))
          have htl : Hz (z.tc.length ≤ 1000000) := Hz.mk (Nat.le_trans hsz.out.tl (by omega))
          have hol2 : Hz (u.out.length ≤ 1000000) := Hz.mk (Nat.le_trans hsu.out.ol (by omega))
          have htl2 : Hz (u.tc.length ≤ 1000000) := Hz.mk (Nat.le_trans hsu.out.tl (by omega))
          have hlo : Hz (¬ (j : Int) < (z.out.length : Int)) := Hz.mk (by rw [b1]; have := hsu.out.ol; omega)
          have hlt : Hz (¬ (j : Int) < (z.tc.length : Int)) := Hz.mk (by rw [b2]; have := hsu.out.tl; omega)
          clear b1 b2 b3 b4 b5 b6 b7 hsu
          by_cases heN : u.e = 0
          · skip
            have e4 : z.e = 4 := by rw [hz.out]; exact congrArg Fm.e (if_pos heN)
            have e5 : z.v = 0 := by rw [hz.out]; exact congrArg Fm.v (if_pos heN)
            have e6 : z.f = 0 := by rw [hz.out]; exact congrArg Fm.f (if_pos heN)
            have A3 := hM.out.there (boxOb ko (List.toArray [Value.int .i64 z.e, .int .u64 z.v, .int .i64 z.f, .int .i64 z.g, .int .i64 z.p])) (by simp)
            have z0 : wr.cell? ⟨ko, 0, none⟩ = some (.int .i64 4) := by have := A3.2.1 0; rw [this]; simp [e4]
            clear A3
            go_upto_region 18 with fail
            clear z0
            obtain ⟨ly, hY⟩ := hM.out.turn.one
            have hsn := Hz.mk (snap_any B wr ay P u ly hY)
            clear hY
            refine wp_region_lit ?_
            refine wpList_plain rfl (fun K hK => ?_)
            go_simp
            with_reducible refine hK _ _ ?_
            clear hK K
            try simp only [Act.put, List.setIfInBounds_toArray, List.set_cons_zero, List.set_cons_succ]
            refine wpList_plain rfl (fun K hK => ?_)
            go_simp
            refine hsn.out.mono ?_
            rintro r V5 ⟨rfl, hBn⟩
            replace hG := Hz.mk (hG.out.trans (hBn.below.mono hM.out.le))
            replace hM := Hz.mk (hM.out.gr hBn.below)
            clear hBn hsn
            with_reducible refine hK _ _ ?_
            clear hK K
            try simp only [Act.put, List.setIfInBounds_toArray, List.set_cons_zero, List.set_cons_succ]
            have hth : Hz ((V5.alloc (.cells #[.int .i64 0, .int .i64 0, .int .i64 0, .int .u64 0, .int .u64 0, .int .u64 0, .int .u64 0, .int .u64 0, .int .u64 0, .int .u64 0, .int .u64 0, .int .u64 0, .int .u64 0, .int .u64 0, .int .u64 0, .int .u64 0, .int .u64 0, .int .u64 0, .int .u64 0] 33)).there V5.heap.size 0 19) := Hz.mk ((At.new V5 [Value.int .i64 0, .int .i64 0, .int .i64 0, .int .u64 0, .int .u64 0, .int .u64 0, .int .u64 0, .int .u64 0, .int .u64 0, .int .u64 0, .int .u64 0, .int .u64 0, .int .u64 0, .int .u64 0, .int .u64 0, .int .u64 0, .int .u64 0, .int .u64 0, .int .u64 0].toArray 33).there 0 19 (by simp))
            have hA9 := At.setAll (cs := [Value.int .i64 0, .int .i64 0, .int .i64 0, .int .u64 0, .int .u64 0, .int .u64 0, .int .u64 0, .int .u64 0, .int .u64 0, .int .u64 0, .int .u64 0, .int .u64 0, .int .u64 0, .int .u64 0, .int .u64 0, .int .u64 0, .int .u64 0, .int .u64 0, .int .u64 0]) (At.new V5 _ 33) (snV u.g u.p u.st.length u.r) (by rw [snV_len]; rfl)
            have hK9 := kp_setsZ (V5.alloc (.cells #[.int .i64 0, .int .i64 0, .int .i64 0, .int .u64 0, .int .u64 0, .int .u64 0, .int .u64 0, .int .u64 0, .int .u64 0, .int .u64 0, .int .u64 0, .int .u64 0, .int .u64 0, .int .u64 0, .int .u64 0, .int .u64 0, .int .u64 0, .int .u64 0, .int .u64 0] 33)) V5.heap.size (snV u.g u.p u.st.length u.r) 0
            obtain ⟨hM2, hB2⟩ := hM.out.new #[.int .i64 0, .int .i64 0, .int .i64 0, .int .u64 0, .int .u64 0, .int .u64 0, .int .u64 0, .int .u64 0, .int .u64 0, .int .u64 0, .int .u64 0, .int .u64 0, .int .u64 0, .int .u64 0, .int .u64 0, .int .u64 0, .int .u64 0, .int .u64 0, .int .u64 0] 33
            obtain ⟨hM3, hB3⟩ := hM2.side (o' := boxOb V5.heap.size (snV u.g u.p u.st.length u.r).toArray) hA9 hK9 (fun _ r => .inl r)
            replace hG := Hz.mk (hG.out.trans (hB2.trans hB3))
            replace hM := Hz.mk hM3
            clear hM2 hM3 hA9 hK9 hB2 hB3
            refine wpList_plain rfl (fun K hK => ?_)
            go_simp
            with_reducible refine hK _ _ ?_
            clear hK K
            try simp only [Act.put, List.setIfInBounds_toArray, List.set_cons_zero, List.set_cons_succ]
            refine wpList_plain rfl (fun K hK => ?_)
            refine wp_store_mid _ _ _ rfl _ _ (List.toArray (snV u.g u.p u.st.length u.r)) rfl rfl hth.out (by rw [List.size_toArray, snV_len]; kernel_rfl) (snV_one _ _ _ _) (hK _ _ ?_)
            clear hK K hth
            try simp only [Act.put]
            generalize World.setCells _ _ _ _ = V6 at *
            generalize V5.heap.size = ks at *
            have A0 := hM.out.there (boxOb ks (snV u.g u.p u.st.length u.r).toArray) (by simp)
            have A1 := hM.out.there (boxOb kw (wO u j).toArray) (by simp)
            have A3 := hM.out.there (boxOb ko (List.toArray [Value.int .i64 z.e, .int .u64 z.v, .int .i64 z.f, .int .i64 z.g, .int .i64 z.p])) (by simp)
            have x0 : V6.cell? ⟨ks, 0, none⟩ = some (.int .i64 u.g) := A0.2.1 0
            have x1 : V6.cell? ⟨ks, 1, none⟩ = some (.int .i64 u.p) := A0.2.1 1
            have y0 : V6.cell? ⟨kw, 0, none⟩ = some (.int .i64 0) := by have := A1.2.1 0; rw [this, List.getElem?_toArray, hw0.out, heN]
            have z0 : V6.cell? ⟨ko, 0, none⟩ = some (.int .i64 4) := by have := A3.2.1 0; rw [this]; simp [e4, e5, e6, a5.out, a6.out]
            have z1 : V6.cell? ⟨ko, 1, none⟩ = some (.int .u64 0) := by have := A3.2.1 1; rw [this]; simp [e4, e5, e6, a5.out, a6.out]
            have z2 : V6.cell? ⟨ko, 2, none⟩ = some (.int .i64 0) := by have := A3.2.1 2; rw [this]; simp [e4, e5, e6, a5.out, a6.out]
            have z3 : V6.cell? ⟨ko, 3, none⟩ = some (.int .i64 u.g) := by have := A3.2.1 3; rw [this]; simp [e4, e5, e6, a5.out, a6.out]
            have z4 : V6.cell? ⟨ko, 4, none⟩ = some (.int .i64 u.p) := by have := A3.2.1 4; rw [this]; simp [e4, e5, e6, a5.out, a6.out]
            clear A0 A1 A3 e5 e6
            have hq2 := oc_ne5 4 0 0 u.g u.p
            go_upto_region 23 with fail
            clear x0 x1 y0 z0 z1 z2 z3 z4 hq2 e4
            generalize (wO u j).toArray = wv at *
            replace hM := Hz.mk (hM.out.dropO)
            generalize V6 = V8 at *
            obtain ⟨lx, hX⟩ := hM.out.one
            go_wp2_with fail
            refine (outs_any B V8 ax P z lx hX hol.out).mono ?_
            rintro r V9 ⟨va1, c1, rfl, hW1, hBn⟩
            replace hW1 := Hz.mk hW1
            replace hG := Hz.mk (hG.out.trans (hBn.mono hM.out.le))
            replace hM := Hz.mk (hM.out.gr hBn)
            clear hBn
            clear hX
            obtain ⟨ly, hY⟩ := hM.out.turn.one
            go_wp2_with fail
            refine (outs_any B V9 ay P u ly hY hol2.out).mono ?_
            rintro r V10 ⟨va2, c2, rfl, hW2, hBn⟩
            replace hW2 := Hz.mk hW2
            replace hW1 := Hz.mk (hW1.out.below hBn)
            replace hG := Hz.mk (hG.out.trans (hBn.mono hM.out.le))
            replace hM := Hz.mk (hM.out.gr hBn)
            clear hBn
            clear hY
            rw [a1.out] at hW1
            go_wp2_with fail
            refine ((show Calls Tryz.prog 17 #[.slice va1 z.out.length c1, .slice va2 u.out.length c2] V10 _ by rw [a1.out]; exact sameW_self u.out va1 va2 c1 c2 V10 hW1.out hW2.out hol2.out)).mono ?_
            rintro r V11 ⟨rfl, hBn⟩
            replace hBn := hBn.below
            replace hG := Hz.mk (hG.out.trans (hBn.mono hM.out.le))
            replace hM := Hz.mk (hM.out.gr hBn)
            clear hBn hW1 hW2
            obtain ⟨lx, hX⟩ := hM.out.one
            go_wp2_with fail
            refine (tcs_any B V11 ax P z lx hX htl.out).mono ?_
            rintro r V12 ⟨va1, c1, rfl, hW1, hBn⟩
            replace hW1 := Hz.mk hW1
            replace hG := Hz.mk (hG.out.trans (hBn.mono hM.out.le))
            replace hM := Hz.mk (hM.out.gr hBn)
            clear hBn
            clear hX
            obtain ⟨ly, hY⟩ := hM.out.turn.one
            go_wp2_with fail
            refine (tcs_any B V12 ay P u ly hY htl2.out).mono ?_
            rintro r V13 ⟨va2, c2, rfl, hW2, hBn⟩
            replace hW2 := Hz.mk hW2
            replace hW1 := Hz.mk (hW1.out.below hBn)
            replace hG := Hz.mk (hG.out.trans (hBn.mono hM.out.le))
            replace hM := Hz.mk (hM.out.gr hBn)
            clear hBn
            clear hY
            rw [a2.out] at hW1
            go_wp2_with fail
            refine ((show Calls Tryz.prog 18 #[.slice va1 z.tc.length c1, .slice va2 u.tc.length c2] V13 _ by rw [a2.out]; exact sameT_self u.tc va1 va2 c1 c2 V13 hW1.out hW2.out htl2.out)).mono ?_
            rintro r V14 ⟨rfl, hBn⟩
            replace hBn := hBn.below
            replace hG := Hz.mk (hG.out.trans (hBn.mono hM.out.le))
            replace hM := Hz.mk (hM.out.gr hBn)
            clear hBn hW1 hW2
            obtain ⟨lx, hX⟩ := hM.out.one
            go_wp2_with fail
            refine (outs_any B V14 ax P z lx hX hol.out).mono ?_
            rintro r V15 ⟨va1, c1, rfl, hW1, hBn⟩
            clear hW1
            replace hG := Hz.mk (hG.out.trans (hBn.mono hM.out.le))
            replace hM := Hz.mk (hM.out.gr hBn)
            clear hBn
            clear hX
            have n1 : ¬ (j : Int) < (z.out.length : Int) := by have := hlo.out; omega
            obtain ⟨lx, hX⟩ := hM.out.one
            go_wp2_with fail
            refine (tcs_any B V15 ax P z lx hX htl.out).mono ?_
            rintro r V16 ⟨va1, c1, rfl, hW1, hBn⟩
            clear hW1
            replace hG := Hz.mk (hG.out.trans (hBn.mono hM.out.le))
            replace hM := Hz.mk (hM.out.gr hBn)
            clear hBn
            clear hX
            have n2 : ¬ (j : Int) < (z.tc.length : Int) := by have := hlt.out; omega
            obtain ⟨lx, hX⟩ := hM.out.one
            go_wp2_with fail
            refine (snap_any B V16 ax P z lx hX).mono ?_
            rintro r V17 ⟨rfl, hBn⟩
            replace hBn := hBn.below
            replace hG := Hz.mk (hG.out.trans (hBn.mono hM.out.le))
            replace hM := Hz.mk (hM.out.gr hBn)
            clear hBn
            clear hX
            obtain ⟨ly, hY⟩ := hM.out.turn.one
            go_wp2_with fail
            refine (snap_any B V17 ay P u ly hY).mono ?_
            rintro r V18 ⟨rfl, hBn⟩
            replace hBn := hBn.below
            replace hG := Hz.mk (hG.out.trans (hBn.mono hM.out.le))
            replace hM := Hz.mk (hM.out.gr hBn)
            clear hBn
            clear hY
            rw [a3.out]
            have hne := sn_neq u.g u.p u.st.length u.r
            generalize (snV u.g u.p u.st.length u.r).toArray = sv at *
            obtain ⟨lx, hX⟩ := hM.out.one
            go_wp2_with fail
            refine (memory_any B V18 ax P z lx hX).mono ?_
            rintro r V19 ⟨rfl, hBn⟩
            replace hG := Hz.mk (hG.out.trans (hBn.mono hM.out.le))
            replace hM := Hz.mk (hM.out.gr hBn)
            clear hBn
            clear hX
            obtain ⟨ly, hY⟩ := hM.out.turn.one
            go_wp2_with fail
            refine (memory_any B V19 ay P u ly hY).mono ?_
            rintro r V20 ⟨rfl, hBn⟩
            replace hG := Hz.mk (hG.out.trans (hBn.mono hM.out.le))
            replace hM := Hz.mk (hM.out.gr hBn)
            clear hBn
            clear hY
            rw [a4.out]
            generalize (ByteArray.mk (T.rowB u.m 0 65536).toArray) = mv at *
            go_upto_region 27 with fail
            clear hne n1 n2
            go_wp2_with fail
            refine (hM.out.call (fun l' h => step_oc P pok.out rr.out z j hsz.out (by omega) z (stepsM_end P z 1 hze.out) B V20 ax l' h)).mono ?_
            rintro r V21 ⟨rfl, hM1, hBn⟩
            replace hG := Hz.mk (hG.out.trans hBn)
            replace hM := Hz.mk hM1
            clear hBn hM1
            go_upto_region 28 with fail
            refine wp_world (fun V => ∃ k, k = V21.heap.size ∧ M2 B V P ax z ay u (boxOb k (List.toArray [Value.int .i64 z.e, .int .u64 z.v, .int .i64 z.f, .int .i64 z.g, .int .i64 z.p]) :: [boxOb kw wv, boxOb ko (List.toArray [Value.int .i64 z.e, .int .u64 z.v, .int .i64 z.f, .int .i64 z.g, .int .i64 z.p])]) ∧ Below B V21 V) ⟨_, rfl, hM.out.new _ _⟩ ?_
            rintro V22 ⟨k1, hkk, hM1, hBn⟩
            rw [← hkk]
            clear hkk
            replace hG := Hz.mk (hG.out.trans hBn)
            replace hM := Hz.mk hM1
            clear hBn hM1
            go_wp2_with fail
            refine (hM.out.call (fun l' h => run_oc P pok.out rr.out z j 5 hsz.out (by omega) (by omega) z (runM_end P z 5 hze.out) B V22 ax l' h)).mono ?_
            rintro r V23 ⟨rfl, hM1, hBn⟩
            replace hG := Hz.mk (hG.out.trans hBn)
            replace hM := Hz.mk hM1
            clear hBn hM1
            go_upto_region 29 with fail
            refine wp_world (fun V => ∃ k, k = V23.heap.size ∧ M2 B V P ax z ay u (boxOb k (List.toArray [Value.int .i64 z.e, .int .u64 z.v, .int .i64 z.f, .int .i64 z.g, .int .i64 z.p]) :: boxOb k1 (List.toArray [Value.int .i64 z.e, .int .u64 z.v, .int .i64 z.f, .int .i64 z.g, .int .i64 z.p]) :: [boxOb kw wv, boxOb ko (List.toArray [Value.int .i64 z.e, .int .u64 z.v, .int .i64 z.f, .int .i64 z.g, .int .i64 z.p])]) ∧ Below B V23 V) ⟨_, rfl, hM.out.new _ _⟩ ?_
            rintro V24 ⟨k2, hkk, hM1, hBn⟩
            rw [← hkk]
            clear hkk
            replace hG := Hz.mk (hG.out.trans hBn)
            replace hM := Hz.mk hM1
            clear hBn hM1
            have A1 := hM.out.there (boxOb k2 (List.toArray [Value.int .i64 z.e, .int .u64 z.v, .int .i64 z.f, .int .i64 z.g, .int .i64 z.p])) (by simp)
            have A2 := hM.out.there (boxOb k1 (List.toArray [Value.int .i64 z.e, .int .u64 z.v, .int .i64 z.f, .int .i64 z.g, .int .i64 z.p])) (by simp)
            have A3 := hM.out.there (boxOb ko (List.toArray [Value.int .i64 z.e, .int .u64 z.v, .int .i64 z.f, .int .i64 z.g, .int .i64 z.p])) (by simp)
            have x0 : V24.cell? ⟨k2, 0, none⟩ = some (.int .i64 z.e) := A1.2.1 0
            have x1 : V24.cell? ⟨k2, 1, none⟩ = some (.int .u64 z.v) := A1.2.1 1
            have x2 : V24.cell? ⟨k2, 2, none⟩ = some (.int .i64 z.f) := A1.2.1 2
            have x3 : V24.cell? ⟨k2, 3, none⟩ = some (.int .i64 z.g) := A1.2.1 3
            have x4 : V24.cell? ⟨k2, 4, none⟩ = some (.int .i64 z.p) := A1.2.1 4
            have y0 : V24.cell? ⟨k1, 0, none⟩ = some (.int .i64 z.e) := A2.2.1 0
            have y1 : V24.cell? ⟨k1, 1, none⟩ = some (.int .u64 z.v) := A2.2.1 1
            have y2 : V24.cell? ⟨k1, 2, none⟩ = some (.int .i64 z.f) := A2.2.1 2
            have y3 : V24.cell? ⟨k1, 3, none⟩ = some (.int .i64 z.g) := A2.2.1 3
            have y4 : V24.cell? ⟨k1, 4, none⟩ = some (.int .i64 z.p) := A2.2.1 4
            have z0 : V24.cell? ⟨ko, 0, none⟩ = some (.int .i64 z.e) := A3.2.1 0
            have z1 : V24.cell? ⟨ko, 1, none⟩ = some (.int .u64 z.v) := A3.2.1 1
            have z2 : V24.cell? ⟨ko, 2, none⟩ = some (.int .i64 z.f) := A3.2.1 2
            have z3 : V24.cell? ⟨ko, 3, none⟩ = some (.int .i64 z.g) := A3.2.1 3
            have z4 : V24.cell? ⟨ko, 4, none⟩ = some (.int .i64 z.p) := A3.2.1 4
            clear A1 A2 A3
            have hq1 : (z.e == 0) = false := beq_false_of_ne hze.out
            have hq2 := oc_eq5 z.e z.v z.f z.g z.p
            go_wp2_with fail
            go_ret
            exact ⟨rfl, Gw.out.trans (hG.out.mono hBw.out)⟩
          · skip
            have ez : z = u := by rw [hz.out]; exact (if_neg heN)
            have hj0 : j ≠ 0 := fun q => by apply heN; rw [hu.out, q]; exact he0.out
            have e4 : (z.e == 4) = false := beq_false_of_ne (by rw [ez, hu.out]; exact stepsM_e P s0 he0.out j)
            have A3 := hM.out.there (boxOb ko (List.toArray [Value.int .i64 z.e, .int .u64 z.v, .int .i64 z.f, .int .i64 z.g, .int .i64 z.p])) (by simp)
            have A1 := hM.out.there (boxOb kw (wO u j).toArray) (by simp)
            have ew : wO u j = [Value.int .i64 z.e, .int .u64 z.v, .int .i64 z.f, .int .i64 z.g, .int .i64 z.p] := by rw [ez]; unfold wO; rw [if_neg hj0]; rfl
            rw [ew] at A1
            have y0 : wr.cell? ⟨kw, 0, none⟩ = some (.int .i64 z.e) := A1.2.1 0
            have y1 : wr.cell? ⟨kw, 1, none⟩ = some (.int .u64 z.v) := A1.2.1 1
            have y2 : wr.cell? ⟨kw, 2, none⟩ = some (.int .i64 z.f) := A1.2.1 2
            have y3 : wr.cell? ⟨kw, 3, none⟩ = some (.int .i64 z.g) := A1.2.1 3
            have y4 : wr.cell? ⟨kw, 4, none⟩ = some (.int .i64 z.p) := A1.2.1 4
            have z0 : wr.cell? ⟨ko, 0, none⟩ = some (.int .i64 z.e) := A3.2.1 0
            have z1 : wr.cell? ⟨ko, 1, none⟩ = some (.int .u64 z.v) := A3.2.1 1
            have z2 : wr.cell? ⟨ko, 2, none⟩ = some (.int .i64 z.f) := A3.2.1 2
            have z3 : wr.cell? ⟨ko, 3, none⟩ = some (.int .i64 z.g) := A3.2.1 3
            have z4 : wr.cell? ⟨ko, 4, none⟩ = some (.int .i64 z.p) := A3.2.1 4
            clear A1 A3 ew ez hj0
            have hq2 := oc_ne5 z.e z.v z.f z.g z.p
            go_upto_region 23 with fail
            clear y0 y1 y2 y3 y4 z0 z1 z2 z3 z4 hq2 e4
            generalize (wO u j).toArray = wv at *
            generalize wr = V8 at *
            obtain ⟨lx, hX⟩ := hM.out.one
            go_wp2_with fail
            refine (outs_any B V8 ax P z lx hX hol.out).mono ?_
            rintro r V9 ⟨va1, c1, rfl, hW1, hBn⟩
            replace hW1 := Hz.mk hW1
            replace hG := Hz.mk (hG.out.trans (hBn.mono hM.out.le))
            replace hM := Hz.mk (hM.out.gr hBn)
            clear hBn
            clear hX
            obtain ⟨ly, hY⟩ := hM.out.turn.one
            go_wp2_with fail
            refine (outs_any B V9 ay P u ly hY hol2.out).mono ?_
            rintro r V10 ⟨va2, c2, rfl, hW2, hBn⟩
            replace hW2 := Hz.mk hW2
            replace hW1 := Hz.mk (hW1.out.below hBn)
            replace hG := Hz.mk (hG.out.trans (hBn.mono hM.out.le))
            replace hM := Hz.mk (hM.out.gr hBn)
            clear hBn
            clear hY
            rw [a1.out] at hW1
            go_wp2_with fail
            refine ((show Calls Tryz.prog 17 #[.slice va1 z.out.length c1, .slice va2 u.out.length c2] V10 _ by rw [a1.out]; exact sameW_self u.out va1 va2 c1 c2 V10 hW1.out hW2.out hol2.out)).mono ?_
            rintro r V11 ⟨rfl, hBn⟩
            replace hBn := hBn.below
            replace hG := Hz.mk (hG.out.trans (hBn.mono hM.out.le))
            replace hM := Hz.mk (hM.out.gr hBn)
            clear hBn hW1 hW2
            obtain ⟨lx, hX⟩ := hM.out.one
            go_wp2_with fail
            refine (tcs_any B V11 ax P z lx hX htl.out).mono ?_
            rintro r V12 ⟨va1, c1, rfl, hW1, hBn⟩
            replace hW1 := Hz.mk hW1
            replace hG := Hz.mk (hG.out.trans (hBn.mono hM.out.le))
            replace hM := Hz.mk (hM.out.gr hBn)
            clear hBn
            clear hX
            obtain ⟨ly, hY⟩ := hM.out.turn.one
            go_wp2_with fail
            refine (tcs_any B V12 ay P u ly hY htl2.out).mono ?_
            rintro r V13 ⟨va2, c2, rfl, hW2, hBn⟩
            replace hW2 := Hz.mk hW2
            replace hW1 := Hz.mk (hW1.out.below hBn)
            replace hG := Hz.mk (hG.out.trans (hBn.mono hM.out.le))
            replace hM := Hz.mk (hM.out.gr hBn)
            clear hBn
            clear hY
            rw [a2.out] at hW1
            go_wp2_with fail
            refine ((show Calls Tryz.prog 18 #[.slice va1 z.tc.length c1, .slice va2 u.tc.length c2] V13 _ by rw [a2.out]; exact sameT_self u.tc va1 va2 c1 c2 V13 hW1.out hW2.out htl2.out)).mono ?_
            rintro r V14 ⟨rfl, hBn⟩
            replace hBn := hBn.below
            replace hG := Hz.mk (hG.out.trans (hBn.mono hM.out.le))
            replace hM := Hz.mk (hM.out.gr hBn)
            clear hBn hW1 hW2
            obtain ⟨lx, hX⟩ := hM.out.one
            go_wp2_with fail
            refine (outs_any B V14 ax P z lx hX hol.out).mono ?_
            rintro r V15 ⟨va1, c1, rfl, hW1, hBn⟩
            clear hW1
            replace hG := Hz.mk (hG.out.trans (hBn.mono hM.out.le))
            replace hM := Hz.mk (hM.out.gr hBn)
            clear hBn
            clear hX
            have n1 : ¬ (j : Int) < (z.out.length : Int) := by have := hlo.out; omega
            obtain ⟨lx, hX⟩ := hM.out.one
            go_wp2_with fail
            refine (tcs_any B V15 ax P z lx hX htl.out).mono ?_
            rintro r V16 ⟨va1, c1, rfl, hW1, hBn⟩
            clear hW1
            replace hG := Hz.mk (hG.out.trans (hBn.mono hM.out.le))
            replace hM := Hz.mk (hM.out.gr hBn)
            clear hBn
            clear hX
            have n2 : ¬ (j : Int) < (z.tc.length : Int) := by have := hlt.out; omega
            obtain ⟨lx, hX⟩ := hM.out.one
            go_wp2_with fail
            refine (snap_any B V16 ax P z lx hX).mono ?_
            rintro r V17 ⟨rfl, hBn⟩
            replace hBn := hBn.below
            replace hG := Hz.mk (hG.out.trans (hBn.mono hM.out.le))
            replace hM := Hz.mk (hM.out.gr hBn)
            clear hBn
            clear hX
            obtain ⟨ly, hY⟩ := hM.out.turn.one
            go_wp2_with fail
            refine (snap_any B V17 ay P u ly hY).mono ?_
            rintro r V18 ⟨rfl, hBn⟩
            replace hBn := hBn.below
            replace hG := Hz.mk (hG.out.trans (hBn.mono hM.out.le))
            replace hM := Hz.mk (hM.out.gr hBn)
            clear hBn
            clear hY
            rw [a3.out]
            have hne := sn_neq u.g u.p u.st.length u.r
            generalize (snV u.g u.p u.st.length u.r).toArray = sv at *
            obtain ⟨lx, hX⟩ := hM.out.one
            go_wp2_with fail
            refine (memory_any B V18 ax P z lx hX).mono ?_
            rintro r V19 ⟨rfl, hBn⟩
            replace hG := Hz.mk (hG.out.trans (hBn.mono hM.out.le))
            replace hM := Hz.mk (hM.out.gr hBn)
            clear hBn
            clear hX
            obtain ⟨ly, hY⟩ := hM.out.turn.one
            go_wp2_with fail
            refine (memory_any B V19 ay P u ly hY).mono ?_
            rintro r V20 ⟨rfl, hBn⟩
            replace hG := Hz.mk (hG.out.trans (hBn.mono hM.out.le))
            replace hM := Hz.mk (hM.out.gr hBn)
            clear hBn
            clear hY
            rw [a4.out]
            generalize (ByteArray.mk (T.rowB u.m 0 65536).toArray) = mv at *
            go_upto_region 27 with fail
            clear hne n1 n2
            go_wp2_with fail
            refine (hM.out.call (fun l' h => step_oc P pok.out rr.out z j hsz.out (by omega) z (stepsM_end P z 1 hze.out) B V20 ax l' h)).mono ?_
            rintro r V21 ⟨rfl, hM1, hBn⟩
            replace hG := Hz.mk (hG.out.trans hBn)
            replace hM := Hz.mk hM1
            clear hBn hM1
            go_upto_region 28 with fail
            refine wp_world (fun V => ∃ k, k = V21.heap.size ∧ M2 B V P ax z ay u (boxOb k (List.toArray [Value.int .i64 z.e, .int .u64 z.v, .int .i64 z.f, .int .i64 z.g, .int .i64 z.p]) :: [boxOb kw wv, boxOb ko (List.toArray [Value.int .i64 z.e, .int .u64 z.v, .int .i64 z.f, .int .i64 z.g, .int .i64 z.p])]) ∧ Below B V21 V) ⟨_, rfl, hM.out.new _ _⟩ ?_
            rintro V22 ⟨k1, hkk, hM1, hBn⟩
            rw [← hkk]
            clear hkk
            replace hG := Hz.mk (hG.out.trans hBn)
            replace hM := Hz.mk hM1
            clear hBn hM1
            go_wp2_with fail
            refine (hM.out.call (fun l' h => run_oc P pok.out rr.out z j 5 hsz.out (by omega) (by omega) z (runM_end P z 5 hze.out) B V22 ax l' h)).mono ?_
            rintro r V23 ⟨rfl, hM1, hBn⟩
            replace hG := Hz.mk (hG.out.trans hBn)
            replace hM := Hz.mk hM1
            clear hBn hM1
            go_upto_region 29 with fail
            refine wp_world (fun V => ∃ k, k = V23.heap.size ∧ M2 B V P ax z ay u (boxOb k (List.toArray [Value.int .i64 z.e, .int .u64 z.v, .int .i64 z.f, .int .i64 z.g, .int .i64 z.p]) :: boxOb k1 (List.toArray [Value.int .i64 z.e, .int .u64 z.v, .int .i64 z.f, .int .i64 z.g, .int .i64 z.p]) :: [boxOb kw wv, boxOb ko (List.toArray [Value.int .i64 z.e, .int .u64 z.v, .int .i64 z.f, .int .i64 z.g, .int .i64 z.p])]) ∧ Below B V23 V) ⟨_, rfl, hM.out.new _ _⟩ ?_
            rintro V24 ⟨k2, hkk, hM1, hBn⟩
            rw [← hkk]
            clear hkk
            replace hG := Hz.mk (hG.out.trans hBn)
            replace hM := Hz.mk hM1
            clear hBn hM1
            have A1 := hM.out.there (boxOb k2 (List.toArray [Value.int .i64 z.e, .int .u64 z.v, .int .i64 z.f, .int .i64 z.g, .int .i64 z.p])) (by simp)
            have A2 := hM.out.there (boxOb k1 (List.toArray [Value.int .i64 z.e, .int .u64 z.v, .int .i64 z.f, .int .i64 z.g, .int .i64 z.p])) (by simp)
            have A3 := hM.out.there (boxOb ko (List.toArray [Value.int .i64 z.e, .int .u64 z.v, .int .i64 z.f, .int .i64 z.g, .int .i64 z.p])) (by simp)
            have x0 : V24.cell? ⟨k2, 0, none⟩ = some (.int .i64 z.e) := A1.2.1 0
            have x1 : V24.cell? ⟨k2, 1, none⟩ = some (.int .u64 z.v) := A1.2.1 1
            have x2 : V24.cell? ⟨k2, 2, none⟩ = some (.int .i64 z.f) := A1.2.1 2
            have x3 : V24.cell? ⟨k2, 3, none⟩ = some (.int .i64 z.g) := A1.2.1 3
            have x4 : V24.cell? ⟨k2, 4, none⟩ = some (.int .i64 z.p) := A1.2.1 4
            have y0 : V24.cell? ⟨k1, 0, none⟩ = some (.int .i64 z.e) := A2.2.1 0
            have y1 : V24.cell? ⟨k1, 1, none⟩ = some (.int .u64 z.v) := A2.2.1 1
            have y2 : V24.cell? ⟨k1, 2, none⟩ = some (.int .i64 z.f) := A2.2.1 2
            have y3 : V24.cell? ⟨k1, 3, none⟩ = some (.int .i64 z.g) := A2.2.1 3
            have y4 : V24.cell? ⟨k1, 4, none⟩ = some (.int .i64 z.p) := A2.2.1 4
            have z0 : V24.cell? ⟨ko, 0, none⟩ = some (.int .i64 z.e) := A3.2.1 0
            have z1 : V24.cell? ⟨ko, 1, none⟩ = some (.int .u64 z.v) := A3.2.1 1
            have z2 : V24.cell? ⟨ko, 2, none⟩ = some (.int .i64 z.f) := A3.2.1 2
            have z3 : V24.cell? ⟨ko, 3, none⟩ = some (.int .i64 z.g) := A3.2.1 3
            have z4 : V24.cell? ⟨ko, 4, none⟩ = some (.int .i64 z.p) := A3.2.1 4
            clear A1 A2 A3
            have hq1 : (z.e == 0) = false := beq_false_of_ne hze.out
            have hq2 := oc_eq5 z.e z.v z.f z.g z.p
            go_wp2_with fail
            go_ret
            exact ⟨rfl, Gw.out.trans (hG.out.mono hBw.out)⟩
    · obtain ⟨N, hN, hN3⟩ := tmodN fuel (by omega)
      have hN6 : N ≤ 1000000 := by omega
      go_upto_region 11 with fail
      clear hN hfu hf
      obtain ⟨z, hz⟩ : ∃ z, runM P s0 N = z := ⟨_, rfl⟩
      have hcl := Hz.mk (hM.out.call (fun l' h => run_oc P pok.out rr.out s0 0 N hs.out (by omega) (by omega) z hz B V3 ax l' h))
      replace hz := Hz.mk hz.symm
      go_wp2_with fail
      refine hcl.out.mono ?_
      rintro r V5 ⟨rfl, hM1, hBn⟩
      clear hcl
      replace hG := Hz.mk (hG.out.trans hBn)
      replace hM := Hz.mk hM1
      clear hBn hM1
      go_upto_region 12 with fail
      refine wp_world (fun V => ∃ k, k = V5.heap.size ∧ M2 B V P ax z ay s0 [boxOb k (List.toArray [Value.int .i64 z.e, .int .u64 z.v, .int .i64 z.f, .int .i64 z.g, .int .i64 z.p])] ∧ Below B V5 V) ⟨_, rfl, hM.out.new _ _⟩ ?_
      rintro V6 ⟨ko, hkk, hM1, hBn⟩
      rw [← hkk]
      clear hkk
      replace hG := Hz.mk (hG.out.trans hBn)
      replace hM := Hz.mk hM1
      clear hBn hM1
      go_upto_region 14 with fail
      refine wp_world (fun V => ∃ k, k = V6.heap.size ∧ M2 B V P ax z ay s0 [boxOb k (wO s0 0).toArray, boxOb ko (List.toArray [Value.int .i64 z.e, .int .u64 z.v, .int .i64 z.f, .int .i64 z.g, .int .i64 z.p])] ∧ Below B V6 V) ⟨_, rfl, hM.out.new _ _⟩ ?_
      rintro V7 ⟨kw, hkk, hM1, hBn⟩
      rw [← hkk]
      clear hkk
      replace hG := Hz.mk (hG.out.trans hBn)
      replace hM := Hz.mk hM1
      clear hBn hM1
      go_loopw [16] (fun x wr => ∃ j : Nat, x = .int .i64 j ∧ j ≤ N ∧ Hz (M2 B wr P ax z ay (stepsM P s0 j) [boxOb kw (wO (stepsM P s0 j) j).toArray, boxOb ko (List.toArray [Value.int .i64 z.e, .int .u64 z.v, .int .i64 z.f, .int .i64 z.g, .int .i64 z.p])]) ∧ Hz (∀ i, i < j → (stepsM P s0 i).e = 0) ∧ Hz (Below B V1 wr)) (fun x _ => N - (intOf x).toNat)
      case atStart => exact ⟨0, rfl, Nat.zero_le _, hM, Hz.mk (fun i hi => absurd hi (Nat.not_lt_zero i)), hG⟩
      case round =>
        clear hM hG
        obtain ⟨j, rfl, hj, hM, hpre, hG⟩ := hrel
        have A1 := hM.out.there (boxOb kw (wO (stepsM P s0 j) j).toArray) (by simp)
        have y0 : wr.cell? ⟨kw, 0, none⟩ = some (.int .i64 (stepsM P s0 j).e) := by have := A1.2.1 0; rw [this, List.getElem?_toArray]; exact wO_at P s0 j he0.out
        clear A1
        have hfin : (∀ hend : stepsM P s0 N = stepsM P s0 j, True) := fun _ => trivial
        clear hfin
        by_cases hjl : j < N
        · have hjl1 : (j : Int) < (N : Int) := Int.ofNat_lt.2 hjl
          by_cases hej : (stepsM P s0 j).e = 0
          · have hej1 : ((stepsM P s0 j).e == 0) = true := by simp [hej]
            have hcl := Hz.mk (hM.out.turn.call (fun l' h => step_oc P pok.out rr.out (stepsM P s0 j) j (by have := okn_stepsM P pok.out rr.out s0 0 hs.out j; rwa [Nat.zero_add] at this) (by omega) (stepsM P s0 (j + 1)) (stepsM_one P s0 j) B wr ay l' h))
            go_upto_region 15 with fail
            clear y0
            refine wp_region_lit ?_
            refine wpList_plain rfl (fun K hK => ?_)
            go_simp
            with_reducible refine hK _ _ ?_
            clear hK K
            try simp only [Act.put, List.setIfInBounds_toArray, List.set_cons_zero, List.set_cons_succ]
            refine wpList_plain rfl (fun K hK => ?_)
            go_simp
            refine hcl.out.mono ?_
            rintro r V5 ⟨rfl, hM1, hBn⟩
            clear hcl
            replace hM1 := hM1.turn
            replace hG := Hz.mk (hG.out.trans hBn)
            with_reducible refine hK _ _ ?_
            clear hK K
            try simp only [Act.put, List.setIfInBounds_toArray, List.set_cons_zero, List.set_cons_succ]
            have A1 := hM1.there (boxOb kw (wO (stepsM P s0 j) j).toArray) (by simp)
            have hth := Hz.mk (A1.there 0 5 (by rw [wO_len]; omega))
            have hA9 := At.setAll A1 [Value.int .i64 (stepsM P s0 (j + 1)).e, .int .u64 (stepsM P s0 (j + 1)).v, .int .i64 (stepsM P s0 (j + 1)).f, .int .i64 (stepsM P s0 (j + 1)).g, .int .i64 (stepsM P s0 (j + 1)).p] (by rw [wO_len]; rfl)
            rw [← wO_succ] at hA9
            have hK9 := kp_setsZ V5 kw [Value.int .i64 (stepsM P s0 (j + 1)).e, .int .u64 (stepsM P s0 (j + 1)).v, .int .i64 (stepsM P s0 (j + 1)).f, .int .i64 (stepsM P s0 (j + 1)).g, .int .i64 (stepsM P s0 (j + 1)).p] 0
            rw [← wO_succ] at hK9
            obtain ⟨hM3, hB3⟩ := hM1.side (o' := boxOb kw (wO (stepsM P s0 (j + 1)) (j + 1)).toArray) hA9 hK9 (fun _ r => .inl r)
            replace hG := Hz.mk (hG.out.trans hB3)
            replace hM := Hz.mk hM3
            clear hM1 hM3 hA9 hK9 hB3 A1 hBn
            refine wpList_plain rfl (fun K hK => ?_)
            refine wp_store_mid _ _ _ rfl _ _ (List.toArray (wO (stepsM P s0 (j + 1)) (j + 1))) rfl rfl hth.out (by kernel_rfl) (by simp [wO_succ, Value.oneCell']) (hK _ _ ?_)
            clear hK K hth
            try simp only [Act.put]
            generalize World.setCells _ _ _ _ = V6 at *
            go_wp2_with fail
            refine ⟨⟨j + 1, ?_, hjl, hM, Hz.mk (pre_succ hpre.out hej), hG⟩, ?_⟩
            · first | rfl | rw [next_wY hjl hN6] | go_num
            · first | exact next_mY hjl | (rw [next_wY hjl hN6]; exact next_mY hjl)
          · have hej1 : ((stepsM P s0 j).e == 0) = false := beq_false_of_ne hej
            have hend : stepsM P s0 N = stepsM P s0 j := by rw [show N = j + (N - j) by omega]; exact stepsM_over P s0 j _ hej
            go_upto_region 17 with fail
            clear y0 hej1 hjl1
            have hjN : stepsM P s0 N = stepsM P s0 j := hend
            have hsz := Hz.mk (okn_runM P pok.out rr.out s0 0 hs.out N)
            rw [Nat.zero_add, ← hz.out] at hsz
            have hsu := Hz.mk (okn_stepsM P pok.out rr.out s0 0 hs.out j)
            rw [Nat.zero_add] at hsu
            have hze := Hz.mk (runM_e P s0 N)
            rw [← hz.out] at hze
            obtain ⟨b1, b2, b3, b4, b5, b6, b7⟩ := runM_as P s0 N
            rw [← hz.out, hjN] at b1 b2 b3 b4 b5 b6 b7
            have hz2 : z = if (stepsM P s0 j).e = 0 then sp (stepsM P s0 j) else stepsM P s0 j := by rw [hz.out]; unfold runM; rw [hjN]
            replace hz := Hz.mk hz2
            clear hz2
            have hw0 := Hz.mk (wO_at P s0 j he0.out)
            obtain ⟨u, hu⟩ : ∃ u, stepsM P s0 j = u := ⟨_, rfl⟩
            rw [hu] at b1 b2 b3 b4 b5 b6 b7 hM hsu hz hw0
            clear hjN
            replace hu := Hz.mk hu.symm
            have a1 := Hz.mk b1
            have a2 := Hz.mk b2
            have a3 : Hz (snV z.g z.p z.st.length z.r = snV u.g u.p u.st.length u.r) := Hz.mk (by rw [b3, b4, b5, b6])
            have a4 := Hz.mk b7
            have a5 := Hz.mk b3
            have a6 := Hz.mk b4
            have hol : Hz (z.out.length ≤ 1000000) := Hz.mk (Nat.le_trans hsz.out.ol (by omega))
            have htl : Hz (z.tc.length ≤ 1000000) := Hz.mk (Nat.le_trans hsz.out.tl (by omega))
            have hol2 : Hz (u.out.length ≤ 1000000) := Hz.mk (Nat.le_trans hsu.out.ol (by omega))
            have htl2 : Hz (u.tc.length ≤ 1000000) := Hz.mk (Nat.le_trans hsu.out.tl (by omega))
            have hlo : Hz (¬ (j : Int) < (z.out.length : Int)) := Hz.mk (by rw [b1]; have := hsu.out.ol; omega)
            have hlt : Hz (¬ (j : Int) < (z.tc.length : Int)) := Hz.mk (by rw [b2]; have := hsu.out.tl; omega)
            clear b1 b2 b3 b4 b5 b6 b7 hsu
            by_cases heN : u.e = 0
            · skip
              have e4 : z.e = 4 := by rw [hz.out]; exact congrArg Fm.e (if_pos heN)
              have e5 : z.v = 0 := by rw [hz.out]; exact congrArg Fm.v (if_pos heN)
              have e6 : z.f = 0 := by rw [hz.out]; exact congrArg Fm.f (if_pos heN)
              have A3 := hM.out.there (boxOb ko (List.toArray [Value.int .i64 z.e, .int .u64 z.v, .int .i64 z.f, .int .i64 z.g, .int .i64 z.p])) (by simp)
              have z0 : wr.cell? ⟨ko, 0, none⟩ = some (.int .i64 4) := by have := A3.2.1 0; rw [this]; simp [e4]
              clear A3
              go_upto_region 18 with fail
              clear z0
              obtain ⟨ly, hY⟩ := hM.out.turn.one
              have hsn := Hz.mk (snap_any B wr ay P u ly hY)
              clear hY
              refine wp_region_lit ?_
              refine wpList_plain rfl (fun K hK => ?_)
              go_simp
              with_reducible refine hK _ _ ?_
              clear hK K
              try simp only [Act.put, List.setIfInBounds_toArray, List.set_cons_zero, List.set_cons_succ]
              refine wpList_plain rfl (fun K hK => ?_)
              go_simp
              refine hsn.out.mono ?_
              rintro r V5 ⟨rfl, hBn⟩
              replace hG := Hz.mk (hG.out.trans (hBn.below.mono hM.out.le))
              replace hM := Hz.mk (hM.out.gr hBn.below)
              clear hBn hsn
              with_reducible refine hK _ _ ?_
              clear hK K
              try simp only [Act.put, List.setIfInBounds_toArray, List.set_cons_zero, List.set_cons_succ]
              have hth : Hz ((V5.alloc (.cells #[.int .i64 0, .int .i64 0, .int .i64 0, .int .u64 0, .int .u64 0, .int .u64 0, .int .u64 0, .int .u64 0, .int .u64 0, .int .u64 0, .int .u64 0, .int .u64 0, .int .u64 0, .int .u64 0, .int .u64 0, .int .u64 0, .int .u64 0, .int .u64 0, .int .u64 0] 33)).there V5.heap.size 0 19) := Hz.mk ((At.new V5 [Value.int .i64 0, .int .i64 0, .int .i64 0, .int .u64 0, .int .u64 0, .int .u64 0, .int .u64 0, .int .u64 0, .int .u64 0, .int .u64 0, .int .u64 0, .int .u64 0, .int .u64 0, .int .u64 0, .int .u64 0, .int .u64 0, .int .u64 0, .int .u64 0, .int .u64 0].toArray 33).there 0 19 (by simp))
              have hA9 := At.setAll (cs := [Value.int .i64 0, .int .i64 0, .int .i64 0, .int .u64 0, .int .u64 0, .int .u64 0, .int .u64 0, .int .u64 0, .int .u64 0, .int .u64 0, .int .u64 0, .int .u64 0, .int .u64 0, .int .u64 0, .int .u64 0, .int .u64 0, .int .u64 0, .int .u64 0, .int .u64 0]) (At.new V5 _ 33) (snV u.g u.p u.st.length u.r) (by rw [snV_len]; rfl)
              have hK9 := kp_setsZ (V5.alloc (.cells #[.int .i64 0, .int .i64 0, .int .i64 0, .int .u64 0, .int .u64 0, .int .u64 0, .int .u64 0, .int .u64 0, .int .u64 0, .int .u64 0, .int .u64 0, .int .u64 0, .int .u64 0, .int .u64 0, .int .u64 0, .int .u64 0, .int .u64 0, .int .u64 0, .int .u64 0] 33)) V5.heap.size (snV u.g u.p u.st.length u.r) 0
              obtain ⟨hM2, hB2⟩ := hM.out.new #[.int .i64 0, .int .i64 0, .int .i64 0, .int .u64 0, .int .u64 0, .int .u64 0, .int .u64 0, .int .u64 0, .int .u64 0, .int .u64 0, .int .u64 0, .int .u64 0, .int .u64 0, .int .u64 0, .int .u64 0, .int .u64 0, .int .u64 0, .int .u64 0, .int .u64 0] 33
              obtain ⟨hM3, hB3⟩ := hM2.side (o' := boxOb V5.heap.size (snV u.g u.p u.st.length u.r).toArray) hA9 hK9 (fun _ r => .inl r)
              replace hG := Hz.mk (hG.out.trans (hB2.trans hB3))
              replace hM := Hz.mk hM3
              clear hM2 hM3 hA9 hK9 hB2 hB3
              refine wpList_plain rfl (fun K hK => ?_)
              go_simp
              with_reducible refine hK _ _ ?_
              clear hK K
              try simp only [Act.put, List.setIfInBounds_toArray, List.set_cons_zero, List.set_cons_succ]
              refine wpList_plain rfl (fun K hK => ?_)
              refine wp_store_mid _ _ _ rfl _ _ (List.toArray (snV u.g u.p u.st.length u.r)) rfl rfl hth.out (by rw [List.size_toArray, snV_len]; kernel_rfl) (snV_one _ _ _ _) (hK _ _ ?_)
              clear hK K hth
              try simp only [Act.put]
              generalize World.setCells _ _ _ _ = V6 at *
              generalize V5.heap.size = ks at *
              have A0 := hM.out.there (boxOb ks (snV u.g u.p u.st.length u.r).toArray) (by simp)
              have A1 := hM.out.there (boxOb kw (wO u j).toArray) (by simp)
              have A3 := hM.out.there (boxOb ko (List.toArray [Value.int .i64 z.e, .int .u64 z.v, .int .i64 z.f, .int .i64 z.g, .int .i64 z.p])) (by simp)
              have x0 : V6.cell? ⟨ks, 0, none⟩ = some (.int .i64 u.g) := A0.2.1 0
              have x1 : V6.cell? ⟨ks, 1, none⟩ = some (.int .i64 u.p) := A0.2.1 1
              have y0 : V6.cell? ⟨kw, 0, none⟩ = some (.int .i64 0) := by have := A1.2.1 0; rw [this, List.getElem?_toArray, hw0.out, heN]
              have z0 : V6.cell? ⟨ko, 0, none⟩ = some (.int .i64 4) := by have := A3.2.1 0; rw [this]; simp [e4, e5, e6, a5.out, a6.out]
              have z1 : V6.cell? ⟨ko, 1, none⟩ = some (.int .u64 0) := by have := A3.2.1 1; rw [this]; simp [e4, e5, e6, a5.out, a6.out]
              have z2 : V6.cell? ⟨ko, 2, none⟩ = some (.int .i64 0) := by have := A3.2.1 2; rw [this]; simp [e4, e5, e6, a5.out, a6.out]
              have z3 : V6.cell? ⟨ko, 3, none⟩ = some (.int .i64 u.g) := by have := A3.2.1 3; rw [this]; simp [e4, e5, e6, a5.out, a6.out]
              have z4 : V6.cell? ⟨ko, 4, none⟩ = some (.int .i64 u.p) := by have := A3.2.1 4; rw [this]; simp [e4, e5, e6, a5.out, a6.out]
              clear A0 A1 A3 e5 e6
              have hq2 := oc_ne5 4 0 0 u.g u.p
              go_upto_region 23 with fail
              clear x0 x1 y0 z0 z1 z2 z3 z4 hq2 e4
              generalize (wO u j).toArray = wv at *
              replace hM := Hz.mk (hM.out.dropO)
              generalize V6 = V8 at *
              obtain ⟨lx, hX⟩ := hM.out.one
              go_wp2_with fail
              refine (outs_any B V8 ax P z lx hX hol.out).mono ?_
              rintro r V9 ⟨va1, c1, rfl, hW1, hBn⟩
              replace hW1 := Hz.mk hW1
              replace hG := Hz.mk (hG.out.trans (hBn.mono hM.out.le))
              replace hM := Hz.mk (hM.out.gr hBn)
              clear hBn
              clear hX
              obtain ⟨ly, hY⟩ := hM.out.turn.one
              go_wp2_with fail
              refine (outs_any B V9 ay P u ly hY hol2.out).mono ?_
              rintro r V10 ⟨va2, c2, rfl, hW2, hBn⟩
              replace hW2 := Hz.mk hW2
              replace hW1 := Hz.mk (hW1.out.below hBn)
              replace hG := Hz.mk (hG.out.trans (hBn.mono hM.out.le))
              replace hM := Hz.mk (hM.out.gr hBn)
              clear hBn
              clear hY
              rw [a1.out] at hW1
              go_wp2_with fail
              refine ((show Calls Tryz.prog 17 #[.slice va1 z.out.length c1, .slice va2 u.out.length c2] V10 _ by rw [a1.out]; exact sameW_self u.out va1 va2 c1 c2 V10 hW1.out hW2.out hol2.out)).mono ?_
              rintro r V11 ⟨rfl, hBn⟩
              replace hBn := hBn.below
              replace hG := Hz.mk (hG.out.trans (hBn.mono hM.out.le))
              replace hM := Hz.mk (hM.out.gr hBn)
              clear hBn hW1 hW2
              obtain ⟨lx, hX⟩ := hM.out.one
              go_wp2_with fail
              refine (tcs_any B V11 ax P z lx hX htl.out).mono ?_
              rintro r V12 ⟨va1, c1, rfl, hW1, hBn⟩
              replace hW1 := Hz.mk hW1
              replace hG := Hz.mk (hG.out.trans (hBn.mono hM.out.le))
              replace hM := Hz.mk (hM.out.gr hBn)
              clear hBn
              clear hX
              obtain ⟨ly, hY⟩ := hM.out.turn.one
              go_wp2_with fail
              refine (tcs_any B V12 ay P u ly hY htl2.out).mono ?_
              rintro r V13 ⟨va2, c2, rfl, hW2, hBn⟩
              replace hW2 := Hz.mk hW2
              replace hW1 := Hz.mk (hW1.out.below hBn)
              replace hG := Hz.mk (hG.out.trans (hBn.mono hM.out.le))
              replace hM := Hz.mk (hM.out.gr hBn)
              clear hBn
              clear hY
              rw [a2.out] at hW1
              go_wp2_with fail
              refine ((show Calls Tryz.prog 18 #[.slice va1 z.tc.length c1, .slice va2 u.tc.length c2] V13 _ by rw [a2.out]; exact sameT_self u.tc va1 va2 c1 c2 V13 hW1.out hW2.out htl2.out)).mono ?_
              rintro r V14 ⟨rfl, hBn⟩
              replace hBn := hBn.below
              replace hG := Hz.mk (hG.out.trans (hBn.mono hM.out.le))
              replace hM := Hz.mk (hM.out.gr hBn)
              clear hBn hW1 hW2
              obtain ⟨lx, hX⟩ := hM.out.one
              go_wp2_with fail
              refine (outs_any B V14 ax P z lx hX hol.out).mono ?_
              rintro r V15 ⟨va1, c1, rfl, hW1, hBn⟩
              clear hW1
              replace hG := Hz.mk (hG.out.trans (hBn.mono hM.out.le))
              replace hM := Hz.mk (hM.out.gr hBn)
              clear hBn
              clear hX
              have n1 : ¬ (j : Int) < (z.out.length : Int) := by have := hlo.out; omega
              obtain ⟨lx, hX⟩ := hM.out.one
              go_wp2_with fail
              refine (tcs_any B V15 ax P z lx hX htl.out).mono ?_
              rintro r V16 ⟨va1, c1, rfl, hW1, hBn⟩
              clear hW1
              replace hG := Hz.mk (hG.out.trans (hBn.mono hM.out.le))
              replace hM := Hz.mk (hM.out.gr hBn)
              clear hBn
              clear hX
              have n2 : ¬ (j : Int) < (z.tc.length : Int) := by have := hlt.out; omega
              obtain ⟨lx, hX⟩ := hM.out.one
              go_wp2_with fail
              refine (snap_any B V16 ax P z lx hX).mono ?_
              rintro r V17 ⟨rfl, hBn⟩
              replace hBn := hBn.below
              replace hG := Hz.mk (hG.out.trans (hBn.mono hM.out.le))
              replace hM := Hz.mk (hM.out.gr hBn)
              clear hBn
              clear hX
              obtain ⟨ly, hY⟩ := hM.out.turn.one
              go_wp2_with fail
              refine (snap_any B V17 ay P u ly hY).mono ?_
              rintro r V18 ⟨rfl, hBn⟩
              replace hBn := hBn.below
              replace hG := Hz.mk (hG.out.trans (hBn.mono hM.out.le))
              replace hM := Hz.mk (hM.out.gr hBn)
              clear hBn
              clear hY
              rw [a3.out]
              have hne := sn_neq u.g u.p u.st.length u.r
              generalize (snV u.g u.p u.st.length u.r).toArray = sv at *
              obtain ⟨lx, hX⟩ := hM.out.one
              go_wp2_with fail
              refine (memory_any B V18 ax P z lx hX).mono ?_
              rintro r V19 ⟨rfl, hBn⟩
              replace hG := Hz.mk (hG.out.trans (hBn.mono hM.out.le))
              replace hM := Hz.mk (hM.out.gr hBn)
              clear hBn
              clear hX
              obtain ⟨ly, hY⟩ := hM.out.turn.one
              go_wp2_with fail
              refine (memory_any B V19 ay P u ly hY).mono ?_
              rintro r V20 ⟨rfl, hBn⟩
              replace hG := Hz.mk (hG.out.trans (hBn.mono hM.out.le))
              replace hM := Hz.mk (hM.out.gr hBn)
              clear hBn
              clear hY
              rw [a4.out]
              generalize (ByteArray.mk (T.rowB u.m 0 65536).toArray) = mv at *
              go_upto_region 27 with fail
              clear hne n1 n2
              go_wp2_with fail
              refine (hM.out.call (fun l' h => step_oc P pok.out rr.out z N hsz.out (by omega) z (stepsM_end P z 1 hze.out) B V20 ax l' h)).mono ?_
              rintro r V21 ⟨rfl, hM1, hBn⟩
              replace hG := Hz.mk (hG.out.trans hBn)
              replace hM := Hz.mk hM1
              clear hBn hM1
              go_upto_region 28 with fail
              refine wp_world (fun V => ∃ k, k = V21.heap.size ∧ M2 B V P ax z ay u (boxOb k (List.toArray [Value.int .i64 z.e, .int .u64 z.v, .int .i64 z.f, .int .i64 z.g, .int .i64 z.p]) :: [boxOb kw wv, boxOb ko (List.toArray [Value.int .i64 z.e, .int .u64 z.v, .int .i64 z.f, .int .i64 z.g, .int .i64 z.p])]) ∧ Below B V21 V) ⟨_, rfl, hM.out.new _ _⟩ ?_
              rintro V22 ⟨k1, hkk, hM1, hBn⟩
              rw [← hkk]
              clear hkk
              replace hG := Hz.mk (hG.out.trans hBn)
              replace hM := Hz.mk hM1
              clear hBn hM1
              go_wp2_with fail
              refine (hM.out.call (fun l' h => run_oc P pok.out rr.out z N 5 hsz.out (by omega) (by omega) z (runM_end P z 5 hze.out) B V22 ax l' h)).mono ?_
              rintro r V23 ⟨rfl, hM1, hBn⟩
              replace hG := Hz.mk (hG.out.trans hBn)
              replace hM := Hz.mk hM1
              clear hBn hM1
              go_upto_region 29 with fail
              refine wp_world (fun V => ∃ k, k = V23.heap.size ∧ M2 B V P ax z ay u (boxOb k (List.toArray [Value.int .i64 z.e, .int .u64 z.v, .int .i64 z.f, .int .i64 z.g, .int .i64 z.p]) :: boxOb k1 (List.toArray [Value.int .i64 z.e, .int .u64 z.v, .int .i64 z.f, .int .i64 z.g, .int .i64 z.p]) :: [boxOb kw wv, boxOb ko (List.toArray [Value.int .i64 z.e, .int .u64 z.v, .int .i64 z.f, .int .i64 z.g, .int .i64 z.p])]) ∧ Below B V23 V) ⟨_, rfl, hM.out.new _ _⟩ ?_
              rintro V24 ⟨k2, hkk, hM1, hBn⟩
              rw [← hkk]
              clear hkk
              replace hG := Hz.mk (hG.out.trans hBn)
              replace hM := Hz.mk hM1
              clear hBn hM1
              have A1 := hM.out.there (boxOb k2 (List.toArray [Value.int .i64 z.e, .int .u64 z.v, .int .i64 z.f, .int .i64 z.g, .int .i64 z.p])) (by simp)
              have A2 := hM.out.there (boxOb k1 (List.toArray [Value.int .i64 z.e, .int .u64 z.v, .int .i64 z.f, .int .i64 z.g, .int .i64 z.p])) (by simp)
              have A3 := hM.out.there (boxOb ko (List.toArray [Value.int .i64 z.e, .int .u64 z.v, .int .i64 z.f, .int .i64 z.g, .int .i64 z.p])) (by simp)
              have x0 : V24.cell? ⟨k2, 0, none⟩ = some (.int .i64 z.e) := A1.2.1 0
              have x1 : V24.cell? ⟨k2, 1, none⟩ = some (.int .u64 z.v) := A1.2.1 1
              have x2 : V24.cell? ⟨k2, 2, none⟩ = some (.int .i64 z.f) := A1.2.1 2
              have x3 : V24.cell? ⟨k2, 3, none⟩ = some (.int .i64 z.g) := A1.2.1 3
              have x4 : V24.cell? ⟨k2, 4, none⟩ = some (.int .i64 z.p) := A1.2.1 4
              have y0 : V24.cell? ⟨k1, 0, none⟩ = some (.int .i64 z.e) := A2.2.1 0
              have y1 : V24.cell? ⟨k1, 1, none⟩ = some (.int .u64 z.v) := A2.2.1 1
              have y2 : V24.cell? ⟨k1, 2, none⟩ = some (.int .i64 z.f) := A2.2.1 2
              have y3 : V24.cell? ⟨k1, 3, none⟩ = some (.int .i64 z.g) := A2.2.1 3
              have y4 : V24.cell? ⟨k1, 4, none⟩ = some (.int .i64 z.p) := A2.2.1 4
              have z0 : V24.cell? ⟨ko, 0, none⟩ = some (.int .i64 z.e) := A3.2.1 0
              have z1 : V24.cell? ⟨ko, 1, none⟩ = some (.int .u64 z.v) := A3.2.1 1
              have z2 : V24.cell? ⟨ko, 2, none⟩ = some (.int .i64 z.f) := A3.2.1 2
              have z3 : V24.cell? ⟨ko, 3, none⟩ = some (.int .i64 z.g) := A3.2.1 3
              have z4 : V24.cell? ⟨ko, 4, none⟩ = some (.int .i64 z.p) := A3.2.1 4
              clear A1 A2 A3
              have hq1 : (z.e == 0) = false := beq_false_of_ne hze.out
              have hq2 := oc_eq5 z.e z.v z.f z.g z.p
              go_wp2_with fail
              go_ret
              exact ⟨rfl, Gw.out.trans (hG.out.mono hBw.out)⟩
            · skip
              have ez : z = u := by rw [hz.out]; exact (if_neg heN)
              have hj0 : j ≠ 0 := fun q => by apply heN; rw [hu.out, q]; exact he0.out
              have e4 : (z.e == 4) = false := beq_false_of_ne (by rw [ez, hu.out]; exact stepsM_e P s0 he0.out j)
              have A3 := hM.out.there (boxOb ko (List.toArray [Value.int .i64 z.e, .int .u64 z.v, .int .i64 z.f, .int .i64 z.g, .int .i64 z.p])) (by simp)
              have A1 := hM.out.there (boxOb kw (wO u j).toArray) (by simp)
              have ew : wO u j = [Value.int .i64 z.e, .int .u64 z.v, .int .i64 z.f, .int .i64 z.g, .int .i64 z.p] := by rw [ez]; unfold wO; rw [if_neg hj0]; rfl
              rw [ew] at A1
              have y0 : wr.cell? ⟨kw, 0, none⟩ = some (.int .i64 z.e) := A1.2.1 0
              have y1 : wr.cell? ⟨kw, 1, none⟩ = some (.int .u64 z.v) := A1.2.1 1
              have y2 : wr.cell? ⟨kw, 2, none⟩ = some (.int .i64 z.f) := A1.2.1 2
              have y3 : wr.cell? ⟨kw, 3, none⟩ = some (.int .i64 z.g) := A1.2.1 3
              have y4 : wr.cell? ⟨kw, 4, none⟩ = some (.int .i64 z.p) := A1.2.1 4
              have z0 : wr.cell? ⟨ko, 0, none⟩ = some (.int .i64 z.e) := A3.2.1 0
              have z1 : wr.cell? ⟨ko, 1, none⟩ = some (.int .u64 z.v) := A3.2.1 1
              have z2 : wr.cell? ⟨ko, 2, none⟩ = some (.int .i64 z.f) := A3.2.1 2
              have z3 : wr.cell? ⟨ko, 3, none⟩ = some (.int .i64 z.g) := A3.2.1 3
              have z4 : wr.cell? ⟨ko, 4, none⟩ = some (.int .i64 z.p) := A3.2.1 4
              clear A1 A3 ew ez hj0
              have hq2 := oc_ne5 z.e z.v z.f z.g z.p
              go_upto_region 23 with fail
              clear y0 y1 y2 y3 y4 z0 z1 z2 z3 z4 hq2 e4
              generalize (wO u j).toArray = wv at *
              generalize wr = V8 at *
              obtain ⟨lx, hX⟩ := hM.out.one
              go_wp2_with fail
              refine (outs_any B V8 ax P z lx hX hol.out).mono ?_
              rintro r V9 ⟨va1, c1, rfl, hW1, hBn⟩
              replace hW1 := Hz.mk hW1
              replace hG := Hz.mk (hG.out.trans (hBn.mono hM.out.le))
              replace hM := Hz.mk (hM.out.gr hBn)
              clear hBn
              clear hX
              obtain ⟨ly, hY⟩ := hM.out.turn.one
              go_wp2_with fail
              refine (outs_any B V9 ay P u ly hY hol2.out).mono ?_
              rintro r V10 ⟨va2, c2, rfl, hW2, hBn⟩
              replace hW2 := Hz.mk hW2
              replace hW1 := Hz.mk (hW1.out.below hBn)
              replace hG := Hz.mk (hG.out.trans (hBn.mono hM.out.le))
              replace hM := Hz.mk (hM.out.gr hBn)
              clear hBn
              clear hY
              rw [a1.out] at hW1
              go_wp2_with fail
              refine ((show Calls Tryz.prog 17 #[.slice va1 z.out.length c1, .slice va2 u.out.length c2] V10 _ by rw [a1.out]; exact sameW_self u.out va1 va2 c1 c2 V10 hW1.out hW2.out hol2.out)).mono ?_
              rintro r V11 ⟨rfl, hBn⟩
              replace hBn := hBn.below
              replace hG := Hz.mk (hG.out.trans (hBn.mono hM.out.le))
              replace hM := Hz.mk (hM.out.gr hBn)
              clear hBn hW1 hW2
              obtain ⟨lx, hX⟩ := hM.out.one
              go_wp2_with fail
              refine (tcs_any B V11 ax P z lx hX htl.out).mono ?_
              rintro r V12 ⟨va1, c1, rfl, hW1, hBn⟩
              replace hW1 := Hz.mk hW1
              replace hG := Hz.mk (hG.out.trans (hBn.mono hM.out.le))
              replace hM := Hz.mk (hM.out.gr hBn)
              clear hBn
              clear hX
              obtain ⟨ly, hY⟩ := hM.out.turn.one
              go_wp2_with fail
              refine (tcs_any B V12 ay P u ly hY htl2.out).mono ?_
              rintro r V13 ⟨va2, c2, rfl, hW2, hBn⟩
              replace hW2 := Hz.mk hW2
              replace hW1 := Hz.mk (hW1.out.below hBn)
              replace hG := Hz.mk (hG.out.trans (hBn.mono hM.out.le))
              replace hM := Hz.mk (hM.out.gr hBn)
              clear hBn
              clear hY
              rw [a2.out] at hW1
              go_wp2_with fail
              refine ((show Calls Tryz.prog 18 #[.slice va1 z.tc.length c1, .slice va2 u.tc.length c2] V13 _ by rw [a2.out]; exact sameT_self u.tc va1 va2 c1 c2 V13 hW1.out hW2.out htl2.out)).mono ?_
              rintro r V14 ⟨rfl, hBn⟩
              replace hBn := hBn.below
              replace hG := Hz.mk (hG.out.trans (hBn.mono hM.out.le))
              replace hM := Hz.mk (hM.out.gr hBn)
              clear hBn hW1 hW2
              obtain ⟨lx, hX⟩ := hM.out.one
              go_wp2_with fail
              refine (outs_any B V14 ax P z lx hX hol.out).mono ?_
              rintro r V15 ⟨va1, c1, rfl, hW1, hBn⟩
              clear hW1
              replace hG := Hz.mk (hG.out.trans (hBn.mono hM.out.le))
              replace hM := Hz.mk (hM.out.gr hBn)
              clear hBn
              clear hX
              have n1 : ¬ (j : Int) < (z.out.length : Int) := by have := hlo.out; omega
              obtain ⟨lx, hX⟩ := hM.out.one
              go_wp2_with fail
              refine (tcs_any B V15 ax P z lx hX htl.out).mono ?_
              rintro r V16 ⟨va1, c1, rfl, hW1, hBn⟩
              clear hW1
              replace hG := Hz.mk (hG.out.trans (hBn.mono hM.out.le))
              replace hM := Hz.mk (hM.out.gr hBn)
              clear hBn
              clear hX
              have n2 : ¬ (j : Int) < (z.tc.length : Int) := by have := hlt.out; omega
              obtain ⟨lx, hX⟩ := hM.out.one
              go_wp2_with fail
              refine (snap_any B V16 ax P z lx hX).mono ?_
              rintro r V17 ⟨rfl, hBn⟩
              replace hBn := hBn.below
              replace hG := Hz.mk (hG.out.trans (hBn.mono hM.out.le))
              replace hM := Hz.mk (hM.out.gr hBn)
              clear hBn
              clear hX
              obtain ⟨ly, hY⟩ := hM.out.turn.one
              go_wp2_with fail
              refine (snap_any B V17 ay P u ly hY).mono ?_
              rintro r V18 ⟨rfl, hBn⟩
              replace hBn := hBn.below
              replace hG := Hz.mk (hG.out.trans (hBn.mono hM.out.le))
              replace hM := Hz.mk (hM.out.gr hBn)
              clear hBn
              clear hY
              rw [a3.out]
              have hne := sn_neq u.g u.p u.st.length u.r
              generalize (snV u.g u.p u.st.length u.r).toArray = sv at *
              obtain ⟨lx, hX⟩ := hM.out.one
              go_wp2_with fail
              refine (memory_any B V18 ax P z lx hX).mono ?_
              rintro r V19 ⟨rfl, hBn⟩
              replace hG := Hz.mk (hG.out.trans (hBn.mono hM.out.le))
              replace hM := Hz.mk (hM.out.gr hBn)
              clear hBn
              clear hX
              obtain ⟨ly, hY⟩ := hM.out.turn.one
              go_wp2_with fail
              refine (memory_any B V19 ay P u ly hY).mono ?_
              rintro r V20 ⟨rfl, hBn⟩
              replace hG := Hz.mk (hG.out.trans (hBn.mono hM.out.le))
              replace hM := Hz.mk (hM.out.gr hBn)
              clear hBn
              clear hY
              rw [a4.out]
              generalize (ByteArray.mk (T.rowB u.m 0 65536).toArray) = mv at *
              go_upto_region 27 with fail
              clear hne n1 n2
              go_wp2_with fail
              refine (hM.out.call (fun l' h => step_oc P pok.out rr.out z N hsz.out (by omega) z (stepsM_end P z 1 hze.out) B V20 ax l' h)).mono ?_
              rintro r V21 ⟨rfl, hM1, hBn⟩
              replace hG := Hz.mk (hG.out.trans hBn)
              replace hM := Hz.mk hM1
              clear hBn hM1
              go_upto_region 28 with fail
              refine wp_world (fun V => ∃ k, k = V21.heap.size ∧ M2 B V P ax z ay u (boxOb k (List.toArray [Value.int .i64 z.e, .int .u64 z.v, .int .i64 z.f, .int .i64 z.g, .int .i64 z.p]) :: [boxOb kw wv, boxOb ko (List.toArray [Value.int .i64 z.e, .int .u64 z.v, .int .i64 z.f, .int .i64 z.g, .int .i64 z.p])]) ∧ Below B V21 V) ⟨_, rfl, hM.out.new _ _⟩ ?_
              rintro V22 ⟨k1, hkk, hM1, hBn⟩
              rw [← hkk]
              clear hkk
              replace hG := Hz.mk (hG.out.trans hBn)
              replace hM := Hz.mk hM1
              clear hBn hM1
              go_wp2_with fail
              refine (hM.out.call (fun l' h => run_oc P pok.out rr.out z N 5 hsz.out (by omega) (by omega) z (runM_end P z 5 hze.out) B V22 ax l' h)).mono ?_
              rintro r V23 ⟨rfl, hM1, hBn⟩
              replace hG := Hz.mk (hG.out.trans hBn)
              replace hM := Hz.mk hM1
              clear hBn hM1
              go_upto_region 29 with fail
              refine wp_world (fun V => ∃ k, k = V23.heap.size ∧ M2 B V P ax z ay u (boxOb k (List.toArray [Value.int .i64 z.e, .int .u64 z.v, .int .i64 z.f, .int .i64 z.g, .int .i64 z.p]) :: boxOb k1 (List.toArray [Value.int .i64 z.e, .int .u64 z.v, .int .i64 z.f, .int .i64 z.g, .int .i64 z.p]) :: [boxOb kw wv, boxOb ko (List.toArray [Value.int .i64 z.e, .int .u64 z.v, .int .i64 z.f, .int .i64 z.g, .int .i64 z.p])]) ∧ Below B V23 V) ⟨_, rfl, hM.out.new _ _⟩ ?_
              rintro V24 ⟨k2, hkk, hM1, hBn⟩
              rw [← hkk]
              clear hkk
              replace hG := Hz.mk (hG.out.trans hBn)
              replace hM := Hz.mk hM1
              clear hBn hM1
              have A1 := hM.out.there (boxOb k2 (List.toArray [Value.int .i64 z.e, .int .u64 z.v, .int .i64 z.f, .int .i64 z.g, .int .i64 z.p])) (by simp)
              have A2 := hM.out.there (boxOb k1 (List.toArray [Value.int .i64 z.e, .int .u64 z.v, .int .i64 z.f, .int .i64 z.g, .int .i64 z.p])) (by simp)
              have A3 := hM.out.there (boxOb ko (List.toArray [Value.int .i64 z.e, .int .u64 z.v, .int .i64 z.f, .int .i64 z.g, .int .i64 z.p])) (by simp)
              have x0 : V24.cell? ⟨k2, 0, none⟩ = some (.int .i64 z.e) := A1.2.1 0
              have x1 : V24.cell? ⟨k2, 1, none⟩ = some (.int .u64 z.v) := A1.2.1 1
              have x2 : V24.cell? ⟨k2, 2, none⟩ = some (.int .i64 z.f) := A1.2.1 2
              have x3 : V24.cell? ⟨k2, 3, none⟩ = some (.int .i64 z.g) := A1.2.1 3
              have x4 : V24.cell? ⟨k2, 4, none⟩ = some (.int .i64 z.p) := A1.2.1 4
              have y0 : V24.cell? ⟨k1, 0, none⟩ = some (.int .i64 z.e) := A2.2.1 0
              have y1 : V24.cell? ⟨k1, 1, none⟩ = some (.int .u64 z.v) := A2.2.1 1
              have y2 : V24.cell? ⟨k1, 2, none⟩ = some (.int .i64 z.f) := A2.2.1 2
              have y3 : V24.cell? ⟨k1, 3, none⟩ = some (.int .i64 z.g) := A2.2.1 3
              have y4 : V24.cell? ⟨k1, 4, none⟩ = some (.int .i64 z.p) := A2.2.1 4
              have z0 : V24.cell? ⟨ko, 0, none⟩ = some (.int .i64 z.e) := A3.2.1 0
              have z1 : V24.cell? ⟨ko, 1, none⟩ = some (.int .u64 z.v) := A3.2.1 1
              have z2 : V24.cell? ⟨ko, 2, none⟩ = some (.int .i64 z.f) := A3.2.1 2
              have z3 : V24.cell? ⟨ko, 3, none⟩ = some (.int .i64 z.g) := A3.2.1 3
              have z4 : V24.cell? ⟨ko, 4, none⟩ = some (.int .i64 z.p) := A3.2.1 4
              clear A1 A2 A3
              have hq1 : (z.e == 0) = false := beq_false_of_ne hze.out
              have hq2 := oc_eq5 z.e z.v z.f z.g z.p
              go_wp2_with fail
              go_ret
              exact ⟨rfl, Gw.out.trans (hG.out.mono hBw.out)⟩
        · obtain rfl : j = N := by omega
          have hjl1 : ¬ (j : Int) < (j : Int) := by omega
          have hend : stepsM P s0 j = stepsM P s0 j := rfl
          go_upto_region 17 with fail
          clear y0 hjl1
          have hjN : stepsM P s0 j = stepsM P s0 j := hend
          have hsz := Hz.mk (okn_runM P pok.out rr.out s0 0 hs.out j)
          rw [Nat.zero_add, ← hz.out] at hsz
          have hsu := Hz.mk (okn_stepsM P pok.out rr.out s0 0 hs.out j)
          rw [Nat.zero_add] at hsu
          have hze := Hz.mk (runM_e P s0 j)
          rw [← hz.out] at hze
          obtain ⟨b1, b2, b3, b4, b5, b6, b7⟩ := runM_as P s0 j
          rw [← hz.out, hjN] at b1 b2 b3 b4 b5 b6 b7
          have hz2 : z = if (stepsM P s0 j).e = 0 then sp (stepsM P s0 j) else stepsM P s0 j := by rw [hz.out]; unfold runM; rw [hjN]
          replace hz := Hz.mk hz2
          clear hz2
          have hw0 := Hz.mk (wO_at P s0 j he0.out)
          obtain ⟨u, hu⟩ : ∃ u, stepsM P s0 j = u := ⟨_, rfl⟩
          rw [hu] at b1 b2 b3 b4 b5 b6 b7 hM hsu hz hw0
          clear hjN
          replace hu := Hz.mk hu.symm
          have a1 := Hz.mk b1
          have a2 := Hz.mk b2
          have a3 : Hz (snV z.g z.p z.st.length z.r = snV u.g u.p u.st.length u.r) := Hz.mk (by rw [b3, b4, b5, b6])
          have a4 := Hz.mk b7
          have a5 := Hz.mk b3
          have a6 := Hz.mk b4
          have hol : Hz (z.out.length ≤ 1000000) := Hz.mk (Nat.le_trans hsz.out.ol (by omega))
          have htl : Hz (z.tc.length ≤ 1000000) := Hz.mk (Nat.le_trans hsz.out.tl (by omega))
          have hol2 : Hz (u.out.length ≤ 1000000) := Hz.mk (Nat.le_trans hsu.out.ol (by omega))
          have htl2 : Hz (u.tc.length ≤ 1000000) := Hz.mk (Nat.le_trans hsu.out.tl (by omega))
          have hlo : Hz (¬ (j : Int) < (z.out.length : Int)) := Hz.mk (by rw [b1]; have := hsu.out.ol; omega)
          have hlt : Hz (¬ (j : Int) < (z.tc.length : Int)) := Hz.mk (by rw [b2]; have := hsu.out.tl; omega)
          clear b1 b2 b3 b4 b5 b6 b7 hsu
          by_cases heN : u.e = 0
          · skip
            have e4 : z.e = 4 := by rw [hz.out]; exact congrArg Fm.e (if_pos heN)
            have e5 : z.v = 0 := by rw [hz.out]; exact congrArg Fm.v (if_pos heN)
            have e6 : z.f = 0 := by rw [hz.out]; exact congrArg Fm.f (if_pos heN)
            have A3 := hM.out.there (boxOb ko (List.toArray [Value.int .i64 z.e, .int .u64 z.v, .int .i64 z.f, .int .i64 z.g, .int .i64 z.p])) (by simp)
            have z0 : wr.cell? ⟨ko, 0, none⟩ = some (.int .i64 4) := by have := A3.2.1 0; rw [this]; simp [e4]
            clear A3
            go_upto_region 18 with fail
            clear z0
            obtain ⟨ly, hY⟩ := hM.out.turn.one
            have hsn := Hz.mk (snap_any B wr ay P u ly hY)
            clear hY
            refine wp_region_lit ?_
            refine wpList_plain rfl (fun K hK => ?_)
            go_simp
            with_reducible refine hK _ _ ?_
            clear hK K
            try simp only [Act.put, List.setIfInBounds_toArray, List.set_cons_zero, List.set_cons_succ]
            refine wpList_plain rfl (fun K hK => ?_)
            go_simp
            refine hsn.out.mono ?_
            rintro r V5 ⟨rfl, hBn⟩
            replace hG := Hz.mk (hG.out.trans (hBn.below.mono hM.out.le))
            replace hM := Hz.mk (hM.out.gr hBn.below)
            clear hBn hsn
            with_reducible refine hK _ _ ?_
            clear hK K
            try simp only [Act.put, List.setIfInBounds_toArray, List.set_cons_zero, List.set_cons_succ]
            have hth : Hz ((V5.alloc (.cells #[.int .i64 0, .int .i64 0, .int .i64 0, .int .u64 0, .int .u64 0, .int .u64 0, .int .u64 0, .int .u64 0, .int .u64 0, .int .u64 0, .int .u64 0, .int .u64 0, .int .u64 0, .int .u64 0, .int .u64 0, .int .u64 0, .int .u64 0, .int .u64 0, .int .u64 0] 33)).there V5.heap.size 0 19) := Hz.mk ((At.new V5 [Value.int .i64 0, .int .i64 0, .int .i64 0, .int .u64 0, .int .u64 0, .int .u64 0, .int .u64 0, .int .u64 0, .int .u64 0, .int .u64 0, .int .u64 0, .int .u64 0, .int .u64 0, .int .u64 0, .int .u64 0, .int .u64 0, .int .u64 0, .int .u64 0, .int .u64 0].toArray 33).there 0 19 (by simp))
            have hA9 := At.setAll (cs := [Value.int .i64 0, .int .i64 0, .int .i64 0, .int .u64 0, .int .u64 0, .int .u64 0, .int .u64 0, .int .u64 0, .int .u64 0, .int .u64 0, .int .u64 0, .int .u64 0, .int .u64 0, .int .u64 0, .int .u64 0, .int .u64 0, .int .u64 0, .int .u64 0, .int .u64 0]) (At.new V5 _ 33) (snV u.g u.p u.st.length u.r) (by rw [snV_len]; rfl)
            have hK9 := kp_setsZ (V5.alloc (.cells #[.int .i64 0, .int .i64 0, .int .i64 0, .int .u64 0, .int .u64 0, .int .u64 0, .int .u64 0, .int .u64 0, .int .u64 0, .int .u64 0, .int .u64 0, .int .u64 0, .int .u64 0, .int .u64 0, .int .u64 0, .int .u64 0, .int .u64 0, .int .u64 0, .int .u64 0] 33)) V5.heap.size (snV u.g u.p u.st.length u.r) 0
            obtain ⟨hM2, hB2⟩ := hM.out.new #[.int .i64 0, .int .i64 0, .int .i64 0, .int .u64 0, .int .u64 0, .int .u64 0, .int .u64 0, .int .u64 0, .int .u64 0, .int .u64 0, .int .u64 0, .int .u64 0, .int .u64 0, .int .u64 0, .int .u64 0, .int .u64 0, .int .u64 0, .int .u64 0, .int .u64 0] 33
            obtain ⟨hM3, hB3⟩ := hM2.side (o' := boxOb V5.heap.size (snV u.g u.p u.st.length u.r).toArray) hA9 hK9 (fun _ r => .inl r)
            replace hG := Hz.mk (hG.out.trans (hB2.trans hB3))
            replace hM := Hz.mk hM3
            clear hM2 hM3 hA9 hK9 hB2 hB3
            refine wpList_plain rfl (fun K hK => ?_)
            go_simp
            with_reducible refine hK _ _ ?_
            clear hK K
            try simp only [Act.put, List.setIfInBounds_toArray, List.set_cons_zero, List.set_cons_succ]
            refine wpList_plain rfl (fun K hK => ?_)
            refine wp_store_mid _ _ _ rfl _ _ (List.toArray (snV u.g u.p u.st.length u.r)) rfl rfl hth.out (by rw [List.size_toArray, snV_len]; kernel_rfl) (snV_one _ _ _ _) (hK _ _ ?_)
            clear hK K hth
            try simp only [Act.put]
            generalize World.setCells _ _ _ _ = V6 at *
            generalize V5.heap.size = ks at *
            have A0 := hM.out.there (boxOb ks (snV u.g u.p u.st.length u.r).toArray) (by simp)
            have A1 := hM.out.there (boxOb kw (wO u j).toArray) (by simp)
            have A3 := hM.out.there (boxOb ko (List.toArray [Value.int .i64 z.e, .int .u64 z.v, .int .i64 z.f, .int .i64 z.g, .int .i64 z.p])) (by simp)
            have x0 : V6.cell? ⟨ks, 0, none⟩ = some (.int .i64 u.g) := A0.2.1 0
            have x1 : V6.cell? ⟨ks, 1, none⟩ = some (.int .i64 u.p) := A0.2.1 1
            have y0 : V6.cell? ⟨kw, 0, none⟩ = some (.int .i64 0) := by have := A1.2.1 0; rw [this, List.getElem?_toArray, hw0.out, heN]
            have z0 : V6.cell? ⟨ko, 0, none⟩ = some (.int .i64 4) := by have := A3.2.1 0; rw [this]; simp [e4, e5, e6, a5.out, a6.out]
            have z1 : V6.cell? ⟨ko, 1, none⟩ = some (.int .u64 0) := by have := A3.2.1 1; rw [this]; simp [e4, e5, e6, a5.out, a6.out]
            have z2 : V6.cell? ⟨ko, 2, none⟩ = some (.int .i64 0) := by have := A3.2.1 2; rw [this]; simp [e4, e5, e6, a5.out, a6.out]
            have z3 : V6.cell? ⟨ko, 3, none⟩ = some (.int .i64 u.g) := by have := A3.2.1 3; rw [this]; simp [e4, e5, e6, a5.out, a6.out]
            have z4 : V6.cell? ⟨ko, 4, none⟩ = some (.int .i64 u.p) := by have := A3.2.1 4; rw [this]; simp [e4, e5, e6, a5.out, a6.out]
            clear A0 A1 A3 e5 e6
            have hq2 := oc_ne5 4 0 0 u.g u.p
            go_upto_region 23 with fail
            clear x0 x1 y0 z0 z1 z2 z3 z4 hq2 e4
            generalize (wO u j).toArray = wv at *
            replace hM := Hz.mk (hM.out.dropO)
            generalize V6 = V8 at *
            obtain ⟨lx, hX⟩ := hM.out.one
            go_wp2_with fail
            refine (outs_any B V8 ax P z lx hX hol.out).mono ?_
            rintro r V9 ⟨va1, c1, rfl, hW1, hBn⟩
            replace hW1 := Hz.mk hW1
            replace hG := Hz.mk (hG.out.trans (hBn.mono hM.out.le))
            replace hM := Hz.mk (hM.out.gr hBn)
            clear hBn
            clear hX
            obtain ⟨ly, hY⟩ := hM.out.turn.one
            go_wp2_with fail
            refine (outs_any B V9 ay P u ly hY hol2.out).mono ?_
            rintro r V10 ⟨va2, c2, rfl, hW2, hBn⟩
            replace hW2 := Hz.mk hW2
            replace hW1 := Hz.mk (hW1.out.below hBn)
            replace hG := Hz.mk (hG.out.trans (hBn.mono hM.out.le))
            replace hM := Hz.mk (hM.out.gr hBn)
            clear hBn
            clear hY
            rw [a1.out] at hW1
            go_wp2_with fail
            refine ((show Calls Tryz.prog 17 #[.slice va1 z.out.length c1, .slice va2 u.out.length c2] V10 _ by rw [a1.out]; exact sameW_self u.out va1 va2 c1 c2 V10 hW1.out hW2.out hol2.out)).mono ?_
            rintro r V11 ⟨rfl, hBn⟩
            replace hBn := hBn.below
            replace hG := Hz.mk (hG.out.trans (hBn.mono hM.out.le))
            replace hM := Hz.mk (hM.out.gr hBn)
            clear hBn hW1 hW2
            obtain ⟨lx, hX⟩ := hM.out.one
            go_wp2_with fail
            refine (tcs_any B V11 ax P z lx hX htl.out).mono ?_
            rintro r V12 ⟨va1, c1, rfl, hW1, hBn⟩
            replace hW1 := Hz.mk hW1
            replace hG := Hz.mk (hG.out.trans (hBn.mono hM.out.le))
            replace hM := Hz.mk (hM.out.gr hBn)
            clear hBn
            clear hX
            obtain ⟨ly, hY⟩ := hM.out.turn.one
            go_wp2_with fail
            refine (tcs_any B V12 ay P u ly hY htl2.out).mono ?_
            rintro r V13 ⟨va2, c2, rfl, hW2, hBn⟩
            replace hW2 := Hz.mk hW2
            replace hW1 := Hz.mk (hW1.out.below hBn)
            replace hG := Hz.mk (hG.out.trans (hBn.mono hM.out.le))
            replace hM := Hz.mk (hM.out.gr hBn)
            clear hBn
            clear hY
            rw [a2.out] at hW1
            go_wp2_with fail
            refine ((show Calls Tryz.prog 18 #[.slice va1 z.tc.length c1, .slice va2 u.tc.length c2] V13 _ by rw [a2.out]; exact sameT_self u.tc va1 va2 c1 c2 V13 hW1.out hW2.out htl2.out)).mono ?_
            rintro r V14 ⟨rfl, hBn⟩
            replace hBn := hBn.below
            replace hG := Hz.mk (hG.out.trans (hBn.mono hM.out.le))
            replace hM := Hz.mk (hM.out.gr hBn)
            clear hBn hW1 hW2
            obtain ⟨lx, hX⟩ := hM.out.one
            go_wp2_with fail
            refine (outs_any B V14 ax P z lx hX hol.out).mono ?_
            rintro r V15 ⟨va1, c1, rfl, hW1, hBn⟩
            clear hW1
            replace hG := Hz.mk (hG.out.trans (hBn.mono hM.out.le))
            replace hM := Hz.mk (hM.out.gr hBn)
            clear hBn
            clear hX
            have n1 : ¬ (j : Int) < (z.out.length : Int) := by have := hlo.out; omega
            obtain ⟨lx, hX⟩ := hM.out.one
            go_wp2_with fail
            refine (tcs_any B V15 ax P z lx hX htl.out).mono ?_
            rintro r V16 ⟨va1, c1, rfl, hW1, hBn⟩
            clear hW1
            replace hG := Hz.mk (hG.out.trans (hBn.mono hM.out.le))
            replace hM := Hz.mk (hM.out.gr hBn)
            clear hBn
            clear hX
            have n2 : ¬ (j : Int) < (z.tc.length : Int) := by have := hlt.out; omega
            obtain ⟨lx, hX⟩ := hM.out.one
            go_wp2_with fail
            refine (snap_any B V16 ax P z lx hX).mono ?_
            rintro r V17 ⟨rfl, hBn⟩
            replace hBn := hBn.below
            replace hG := Hz.mk (hG.out.trans (hBn.mono hM.out.le))
            replace hM := Hz.mk (hM.out.gr hBn)
            clear hBn
            clear hX
            obtain ⟨ly, hY⟩ := hM.out.turn.one
            go_wp2_with fail
            refine (snap_any B V17 ay P u ly hY).mono ?_
            rintro r V18 ⟨rfl, hBn⟩
            replace hBn := hBn.below
            replace hG := Hz.mk (hG.out.trans (hBn.mono hM.out.le))
            replace hM := Hz.mk (hM.out.gr hBn)
            clear hBn
            clear hY
            rw [a3.out]
            have hne := sn_neq u.g u.p u.st.length u.r
            generalize (snV u.g u.p u.st.length u.r).toArray = sv at *
            obtain ⟨lx, hX⟩ := hM.out.one
            go_wp2_with fail
            refine (memory_any B V18 ax P z lx hX).mono ?_
            rintro r V19 ⟨rfl, hBn⟩
            replace hG := Hz.mk (hG.out.trans (hBn.mono hM.out.le))
            replace hM := Hz.mk (hM.out.gr hBn)
            clear hBn
            clear hX
            obtain ⟨ly, hY⟩ := hM.out.turn.one
            go_wp2_with fail
            refine (memory_any B V19 ay P u ly hY).mono ?_
            rintro r V20 ⟨rfl, hBn⟩
            replace hG := Hz.mk (hG.out.trans (hBn.mono hM.out.le))
            replace hM := Hz.mk (hM.out.gr hBn)
            clear hBn
            clear hY
            rw [a4.out]
            generalize (ByteArray.mk (T.rowB u.m 0 65536).toArray) = mv at *
            go_upto_region 27 with fail
            clear hne n1 n2
            go_wp2_with fail
            refine (hM.out.call (fun l' h => step_oc P pok.out rr.out z j hsz.out (by omega) z (stepsM_end P z 1 hze.out) B V20 ax l' h)).mono ?_
            rintro r V21 ⟨rfl, hM1, hBn⟩
            replace hG := Hz.mk (hG.out.trans hBn)
            replace hM := Hz.mk hM1
            clear hBn hM1
            go_upto_region 28 with fail
            refine wp_world (fun V => ∃ k, k = V21.heap.size ∧ M2 B V P ax z ay u (boxOb k (List.toArray [Value.int .i64 z.e, .int .u64 z.v, .int .i64 z.f, .int .i64 z.g, .int .i64 z.p]) :: [boxOb kw wv, boxOb ko (List.toArray [Value.int .i64 z.e, .int .u64 z.v, .int .i64 z.f, .int .i64 z.g, .int .i64 z.p])]) ∧ Below B V21 V) ⟨_, rfl, hM.out.new _ _⟩ ?_
            rintro V22 ⟨k1, hkk, hM1, hBn⟩
            rw [← hkk]
            clear hkk
            replace hG := Hz.mk (hG.out.trans hBn)
            replace hM := Hz.mk hM1
            clear hBn hM1
            go_wp2_with fail
            refine (hM.out.call (fun l' h => run_oc P pok.out rr.out z j 5 hsz.out (by omega) (by omega) z (runM_end P z 5 hze.out) B V22 ax l' h)).mono ?_
            rintro r V23 ⟨rfl, hM1, hBn⟩
            replace hG := Hz.mk (hG.out.trans hBn)
            replace hM := Hz.mk hM1
            clear hBn hM1
            go_upto_region 29 with fail
            refine wp_world (fun V => ∃ k, k = V23.heap.size ∧ M2 B V P ax z ay u (boxOb k (List.toArray [Value.int .i64 z.e, .int .u64 z.v, .int .i64 z.f, .int .i64 z.g, .int .i64 z.p]) :: boxOb k1 (List.toArray [Value.int .i64 z.e, .int .u64 z.v, .int .i64 z.f, .int .i64 z.g, .int .i64 z.p]) :: [boxOb kw wv, boxOb ko (List.toArray [Value.int .i64 z.e, .int .u64 z.v, .int .i64 z.f, .int .i64 z.g, .int .i64 z.p])]) ∧ Below B V23 V) ⟨_, rfl, hM.out.new _ _⟩ ?_
            rintro V24 ⟨k2, hkk, hM1, hBn⟩
            rw [← hkk]
            clear hkk
            replace hG := Hz.mk (hG.out.trans hBn)
            replace hM := Hz.mk hM1
            clear hBn hM1
            have A1 := hM.out.there (boxOb k2 (List.toArray [Value.int .i64 z.e, .int .u64 z.v, .int .i64 z.f, .int .i64 z.g, .int .i64 z.p])) (by simp)
            have A2 := hM.out.there (boxOb k1 (List.toArray [Value.int .i64 z.e, .int .u64 z.v, .int .i64 z.f, .int .i64 z.g, .int .i64 z.p])) (by simp)
            have A3 := hM.out.there (boxOb ko (List.toArray [Value.int .i64 z.e, .int .u64 z.v, .int .i64 z.f, .int .i64 z.g, .int .i64 z.p])) (by simp)
            have x0 : V24.cell? ⟨k2, 0, none⟩ = some (.int .i64 z.e) := A1.2.1 0
            have x1 : V24.cell? ⟨k2, 1, none⟩ = some (.int .u64 z.v) := A1.2.1 1
            have x2 : V24.cell? ⟨k2, 2, none⟩ = some (.int .i64 z.f) := A1.2.1 2
            have x3 : V24.cell? ⟨k2, 3, none⟩ = some (.int .i64 z.g) := A1.2.1 3
            have x4 : V24.cell? ⟨k2, 4, none⟩ = some (.int .i64 z.p) := A1.2.1 4
            have y0 : V24.cell? ⟨k1, 0, none⟩ = some (.int .i64 z.e) := A2.2.1 0
            have y1 : V24.cell? ⟨k1, 1, none⟩ = some (.int .u64 z.v) := A2.2.1 1
            have y2 : V24.cell? ⟨k1, 2, none⟩ = some (.int .i64 z.f) := A2.2.1 2
            have y3 : V24.cell? ⟨k1, 3, none⟩ = some (.int .i64 z.g) := A2.2.1 3
            have y4 : V24.cell? ⟨k1, 4, none⟩ = some (.int .i64 z.p) := A2.2.1 4
            have z0 : V24.cell? ⟨ko, 0, none⟩ = some (.int .i64 z.e) := A3.2.1 0
            have z1 : V24.cell? ⟨ko, 1, none⟩ = some (.int .u64 z.v) := A3.2.1 1
            have z2 : V24.cell? ⟨ko, 2, none⟩ = some (.int .i64 z.f) := A3.2.1 2
            have z3 : V24.cell? ⟨ko, 3, none⟩ = some (.int .i64 z.g) := A3.2.1 3
            have z4 : V24.cell? ⟨ko, 4, none⟩ = some (.int .i64 z.p) := A3.2.1 4
            clear A1 A2 A3
            have hq1 : (z.e == 0) = false := beq_false_of_ne hze.out
            have hq2 := oc_eq5 z.e z.v z.f z.g z.p
            go_wp2_with fail
            go_ret
            exact ⟨rfl, Gw.out.trans (hG.out.mono hBw.out)⟩
          · skip
            have ez : z = u := by rw [hz.out]; exact (if_neg heN)
            have hj0 : j ≠ 0 := fun q => by apply heN; rw [hu.out, q]; exact he0.out
            have e4 : (z.e == 4) = false := beq_false_of_ne (by rw [ez, hu.out]; exact stepsM_e P s0 he0.out j)
            have A3 := hM.out.there (boxOb ko (List.toArray [Value.int .i64 z.e, .int .u64 z.v, .int .i64 z.f, .int .i64 z.g, .int .i64 z.p])) (by simp)
            have A1 := hM.out.there (boxOb kw (wO u j).toArray) (by simp)
            have ew : wO u j = [Value.int .i64 z.e, .int .u64 z.v, .int .i64 z.f, .int .i64 z.g, .int .i64 z.p] := by rw [ez]; unfold wO; rw [if_neg hj0]; rfl
            rw [ew] at A1
            have y0 : wr.cell? ⟨kw, 0, none⟩ = some (.int .i64 z.e) := A1.2.1 0
            have y1 : wr.cell? ⟨kw, 1, none⟩ = some (.int .u64 z.v) := A1.2.1 1
            have y2 : wr.cell? ⟨kw, 2, none⟩ = some (.int .i64 z.f) := A1.2.1 2
            have y3 : wr.cell? ⟨kw, 3, none⟩ = some (.int .i64 z.g) := A1.2.1 3
            have y4 : wr.cell? ⟨kw, 4, none⟩ = some (.int .i64 z.p) := A1.2.1 4
            have z0 : wr.cell? ⟨ko, 0, none⟩ = some (.int .i64 z.e) := A3.2.1 0
            have z1 : wr.cell? ⟨ko, 1, none⟩ = some (.int .u64 z.v) := A3.2.1 1
            have z2 : wr.cell? ⟨ko, 2, none⟩ = some (.int .i64 z.f) := A3.2.1 2
            have z3 : wr.cell? ⟨ko, 3, none⟩ = some (.int .i64 z.g) := A3.2.1 3
            have z4 : wr.cell? ⟨ko, 4, none⟩ = some (.int .i64 z.p) := A3.2.1 4
            clear A1 A3 ew ez hj0
            have hq2 := oc_ne5 z.e z.v z.f z.g z.p
            go_upto_region 23 with fail
            clear y0 y1 y2 y3 y4 z0 z1 z2 z3 z4 hq2 e4
            generalize (wO u j).toArray = wv at *
            generalize wr = V8 at *
            obtain ⟨lx, hX⟩ := hM.out.one
            go_wp2_with fail
            refine (outs_any B V8 ax P z lx hX hol.out).mono ?_
            rintro r V9 ⟨va1, c1, rfl, hW1, hBn⟩
            replace hW1 := Hz.mk hW1
            replace hG := Hz.mk (hG.out.trans (hBn.mono hM.out.le))
            replace hM := Hz.mk (hM.out.gr hBn)
            clear hBn
            clear hX
            obtain ⟨ly, hY⟩ := hM.out.turn.one
            go_wp2_with fail
            refine (outs_any B V9 ay P u ly hY hol2.out).mono ?_
            rintro r V10 ⟨va2, c2, rfl, hW2, hBn⟩
            replace hW2 := Hz.mk hW2
            replace hW1 := Hz.mk (hW1.out.below hBn)
            replace hG := Hz.mk (hG.out.trans (hBn.mono hM.out.le))
            replace hM := Hz.mk (hM.out.gr hBn)
            clear hBn
            clear hY
            rw [a1.out] at hW1
            go_wp2_with fail
            refine ((show Calls Tryz.prog 17 #[.slice va1 z.out.length c1, .slice va2 u.out.length c2] V10 _ by rw [a1.out]; exact sameW_self u.out va1 va2 c1 c2 V10 hW1.out hW2.out hol2.out)).mono ?_
            rintro r V11 ⟨rfl, hBn⟩
            replace hBn := hBn.below
            replace hG := Hz.mk (hG.out.trans (hBn.mono hM.out.le))
            replace hM := Hz.mk (hM.out.gr hBn)
            clear hBn hW1 hW2
            obtain ⟨lx, hX⟩ := hM.out.one
            go_wp2_with fail
            refine (tcs_any B V11 ax P z lx hX htl.out).mono ?_
            rintro r V12 ⟨va1, c1, rfl, hW1, hBn⟩
            replace hW1 := Hz.mk hW1
            replace hG := Hz.mk (hG.out.trans (hBn.mono hM.out.le))
            replace hM := Hz.mk (hM.out.gr hBn)
            clear hBn
            clear hX
            obtain ⟨ly, hY⟩ := hM.out.turn.one
            go_wp2_with fail
            refine (tcs_any B V12 ay P u ly hY htl2.out).mono ?_
            rintro r V13 ⟨va2, c2, rfl, hW2, hBn⟩
            replace hW2 := Hz.mk hW2
            replace hW1 := Hz.mk (hW1.out.below hBn)
            replace hG := Hz.mk (hG.out.trans (hBn.mono hM.out.le))
            replace hM := Hz.mk (hM.out.gr hBn)
            clear hBn
            clear hY
            rw [a2.out] at hW1
            go_wp2_with fail
            refine ((show Calls Tryz.prog 18 #[.slice va1 z.tc.length c1, .slice va2 u.tc.length c2] V13 _ by rw [a2.out]; exact sameT_self u.tc va1 va2 c1 c2 V13 hW1.out hW2.out htl2.out)).mono ?_
            rintro r V14 ⟨rfl, hBn⟩
            replace hBn := hBn.below
            replace hG := Hz.mk (hG.out.trans (hBn.mono hM.out.le))
            replace hM := Hz.mk (hM.out.gr hBn)
            clear hBn hW1 hW2
            obtain ⟨lx, hX⟩ := hM.out.one
            go_wp2_with fail
            refine (outs_any B V14 ax P z lx hX hol.out).mono ?_
            rintro r V15 ⟨va1, c1, rfl, hW1, hBn⟩
            clear hW1
            replace hG := Hz.mk (hG.out.trans (hBn.mono hM.out.le))
            replace hM := Hz.mk (hM.out.gr hBn)
            clear hBn
            clear hX
            have n1 : ¬ (j : Int) < (z.out.length : Int) := by have := hlo.out; omega
            obtain ⟨lx, hX⟩ := hM.out.one
            go_wp2_with fail
            refine (tcs_any B V15 ax P z lx hX htl.out).mono ?_
            rintro r V16 ⟨va1, c1, rfl, hW1, hBn⟩
            clear hW1
            replace hG := Hz.mk (hG.out.trans (hBn.mono hM.out.le))
            replace hM := Hz.mk (hM.out.gr hBn)
            clear hBn
            clear hX
            have n2 : ¬ (j : Int) < (z.tc.length : Int) := by have := hlt.out; omega
            obtain ⟨lx, hX⟩ := hM.out.one
            go_wp2_with fail
            refine (snap_any B V16 ax P z lx hX).mono ?_
            rintro r V17 ⟨rfl, hBn⟩
            replace hBn := hBn.below
            replace hG := Hz.mk (hG.out.trans (hBn.mono hM.out.le))
            replace hM := Hz.mk (hM.out.gr hBn)
            clear hBn
            clear hX
            obtain ⟨ly, hY⟩ := hM.out.turn.one
            go_wp2_with fail
            refine (snap_any B V17 ay P u ly hY).mono ?_
            rintro r V18 ⟨rfl, hBn⟩
            replace hBn := hBn.below
            replace hG := Hz.mk (hG.out.trans (hBn.mono hM.out.le))
            replace hM := Hz.mk (hM.out.gr hBn)
            clear hBn
            clear hY
            rw [a3.out]
            have hne := sn_neq u.g u.p u.st.length u.r
            generalize (snV u.g u.p u.st.length u.r).toArray = sv at *
            obtain ⟨lx, hX⟩ := hM.out.one
            go_wp2_with fail
            refine (memory_any B V18 ax P z lx hX).mono ?_
            rintro r V19 ⟨rfl, hBn⟩
            replace hG := Hz.mk (hG.out.trans (hBn.mono hM.out.le))
            replace hM := Hz.mk (hM.out.gr hBn)
            clear hBn
            clear hX
            obtain ⟨ly, hY⟩ := hM.out.turn.one
            go_wp2_with fail
            refine (memory_any B V19 ay P u ly hY).mono ?_
            rintro r V20 ⟨rfl, hBn⟩
            replace hG := Hz.mk (hG.out.trans (hBn.mono hM.out.le))
            replace hM := Hz.mk (hM.out.gr hBn)
            clear hBn
            clear hY
            rw [a4.out]
            generalize (ByteArray.mk (T.rowB u.m 0 65536).toArray) = mv at *
            go_upto_region 27 with fail
            clear hne n1 n2
            go_wp2_with fail
            refine (hM.out.call (fun l' h => step_oc P pok.out rr.out z j hsz.out (by omega) z (stepsM_end P z 1 hze.out) B V20 ax l' h)).mono ?_
            rintro r V21 ⟨rfl, hM1, hBn⟩
            replace hG := Hz.mk (hG.out.trans hBn)
            replace hM := Hz.mk hM1
            clear hBn hM1
            go_upto_region 28 with fail
            refine wp_world (fun V => ∃ k, k = V21.heap.size ∧ M2 B V P ax z ay u (boxOb k (List.toArray [Value.int .i64 z.e, .int .u64 z.v, .int .i64 z.f, .int .i64 z.g, .int .i64 z.p]) :: [boxOb kw wv, boxOb ko (List.toArray [Value.int .i64 z.e, .int .u64 z.v, .int .i64 z.f, .int .i64 z.g, .int .i64 z.p])]) ∧ Below B V21 V) ⟨_, rfl, hM.out.new _ _⟩ ?_
            rintro V22 ⟨k1, hkk, hM1, hBn⟩
            rw [← hkk]
            clear hkk
            replace hG := Hz.mk (hG.out.trans hBn)
            replace hM := Hz.mk hM1
            clear hBn hM1
            go_wp2_with fail
            refine (hM.out.call (fun l' h => run_oc P pok.out rr.out z j 5 hsz.out (by omega) (by omega) z (runM_end P z 5 hze.out) B V22 ax l' h)).mono ?_
            rintro r V23 ⟨rfl, hM1, hBn⟩
            replace hG := Hz.mk (hG.out.trans hBn)
            replace hM := Hz.mk hM1
            clear hBn hM1
            go_upto_region 29 with fail
            refine wp_world (fun V => ∃ k, k = V23.heap.size ∧ M2 B V P ax z ay u (boxOb k (List.toArray [Value.int .i64 z.e, .int .u64 z.v, .int .i64 z.f, .int .i64 z.g, .int .i64 z.p]) :: boxOb k1 (List.toArray [Value.int .i64 z.e, .int .u64 z.v, .int .i64 z.f, .int .i64 z.g, .int .i64 z.p]) :: [boxOb kw wv, boxOb ko (List.toArray [Value.int .i64 z.e, .int .u64 z.v, .int .i64 z.f, .int .i64 z.g, .int .i64 z.p])]) ∧ Below B V23 V) ⟨_, rfl, hM.out.new _ _⟩ ?_
            rintro V24 ⟨k2, hkk, hM1, hBn⟩
            rw [← hkk]
            clear hkk
            replace hG := Hz.mk (hG.out.trans hBn)
            replace hM := Hz.mk hM1
            clear hBn hM1
            have A1 := hM.out.there (boxOb k2 (List.toArray [Value.int .i64 z.e, .int .u64 z.v, .int .i64 z.f, .int .i64 z.g, .int .i64 z.p])) (by simp)
            have A2 := hM.out.there (boxOb k1 (List.toArray [Value.int .i64 z.e, .int .u64 z.v, .int .i64 z.f, .int .i64 z.g, .int .i64 z.p])) (by simp)
            have A3 := hM.out.there (boxOb ko (List.toArray [Value.int .i64 z.e, .int .u64 z.v, .int .i64 z.f, .int .i64 z.g, .int .i64 z.p])) (by simp)
            have x0 : V24.cell? ⟨k2, 0, none⟩ = some (.int .i64 z.e) := A1.2.1 0
            have x1 : V24.cell? ⟨k2, 1, none⟩ = some (.int .u64 z.v) := A1.2.1 1
            have x2 : V24.cell? ⟨k2, 2, none⟩ = some (.int .i64 z.f) := A1.2.1 2
            have x3 : V24.cell? ⟨k2, 3, none⟩ = some (.int .i64 z.g) := A1.2.1 3
            have x4 : V24.cell? ⟨k2, 4, none⟩ = some (.int .i64 z.p) := A1.2.1 4
            have y0 : V24.cell? ⟨k1, 0, none⟩ = some (.int .i64 z.e) := A2.2.1 0
            have y1 : V24.cell? ⟨k1, 1, none⟩ = some (.int .u64 z.v) := A2.2.1 1
            have y2 : V24.cell? ⟨k1, 2, none⟩ = some (.int .i64 z.f) := A2.2.1 2
            have y3 : V24.cell? ⟨k1, 3, none⟩ = some (.int .i64 z.g) := A2.2.1 3
            have y4 : V24.cell? ⟨k1, 4, none⟩ = some (.int .i64 z.p) := A2.2.1 4
            have z0 : V24.cell? ⟨ko, 0, none⟩ = some (.int .i64 z.e) := A3.2.1 0
            have z1 : V24.cell? ⟨ko, 1, none⟩ = some (.int .u64 z.v) := A3.2.1 1
            have z2 : V24.cell? ⟨ko, 2, none⟩ = some (.int .i64 z.f) := A3.2.1 2
            have z3 : V24.cell? ⟨ko, 3, none⟩ = some (.int .i64 z.g) := A3.2.1 3
            have z4 : V24.cell? ⟨ko, 4, none⟩ = some (.int .i64 z.p) := A3.2.1 4
            clear A1 A2 A3
            have hq1 : (z.e == 0) = false := beq_false_of_ne hze.out
            have hq2 := oc_eq5 z.e z.v z.f z.g z.p
            go_wp2_with fail
            go_ret
            exact ⟨rfl, Gw.out.trans (hG.out.mono hBw.out)⟩
  · have hno := hok
    clear hok
    replace hno := Hz.mk hno
    go_enter Tryz.func5, Tryz.ntmps5
    go_upto_region 1 with fail
    refine wp_world (fun W => At W w.heap.size #[.slice ca R.code.length cc, .slice ga R.gates.length gc, .string (T.str mem), .int .i64 R.dep] ∧ Gr w W) ⟨At.new w _ _, (Gr.refl _).alloc _⟩ ?_
    rintro W ⟨hQ, G⟩
    have hkp := hQ.1
    replace hb := Hz.mk (hb.out.below G.below)
    go_wp2_with fail
    refine (examples_any W).mono ?_
    rintro r V1 ⟨rfl, hB⟩
    replace hQ := Hz.mk (at_below hQ hB hkp)
    replace hb := Hz.mk (hb.out.below hB)
    replace G := Hz.mk (G.below.trans (hB.mono (Nat.le_of_lt hkp)))
    replace hkp := Hz.mk (Nat.lt_of_lt_of_le hkp hB.size)
    clear hB
    have d0 : V1.cell? ⟨w.heap.size, 0, none⟩ = some (.slice ca R.code.length cc) := hQ.out.2.1 0
    have d1 : V1.cell? ⟨w.heap.size, 1, none⟩ = some (.slice ga R.gates.length gc) := hQ.out.2.1 1
    have d2 : V1.cell? ⟨w.heap.size, 2, none⟩ = some (.string (T.str mem)) := hQ.out.2.1 2
    have d3 : V1.cell? ⟨w.heap.size, 3, none⟩ = some (.int .i64 R.dep) := hQ.out.2.1 3
    have hcl := Hz.mk (hb.out.none gate hno.out cc gc sc)
    go_wp2_with fail
    refine hcl.out.mono ?_
    rintro r V2 ⟨rfl, hB⟩
    clear d0 d1 d2 d3 hcl
    replace hQ := Hz.mk (at_below hQ.out hB hkp.out)
    replace hb := Hz.mk (hb.out.below hB)
    replace G := Hz.mk (G.out.trans (hB.mono (Nat.le_of_lt hkp.out)))
    replace hkp := Hz.mk (Nat.lt_of_lt_of_le hkp.out hB.size)
    clear hB
    have d0 : V2.cell? ⟨w.heap.size, 0, none⟩ = some (.slice ca R.code.length cc) := hQ.out.2.1 0
    have d1 : V2.cell? ⟨w.heap.size, 1, none⟩ = some (.slice ga R.gates.length gc) := hQ.out.2.1 1
    have d2 : V2.cell? ⟨w.heap.size, 2, none⟩ = some (.string (T.str mem)) := hQ.out.2.1 2
    have d3 : V2.cell? ⟨w.heap.size, 3, none⟩ = some (.int .i64 R.dep) := hQ.out.2.1 3
    have hcl := Hz.mk (hb.out.none gate hno.out cc gc sc)
    go_wp2_with fail
    refine hcl.out.mono ?_
    rintro r V3 ⟨rfl, hB⟩
    clear d0 d1 d2 d3 hcl
    replace hQ := Hz.mk (at_below hQ.out hB hkp.out)
    replace hb := Hz.mk (hb.out.below hB)
    replace G := Hz.mk (G.out.trans (hB.mono (Nat.le_of_lt hkp.out)))
    replace hkp := Hz.mk (Nat.lt_of_lt_of_le hkp.out hB.size)
    clear hB
    go_wp2_with fail
    go_ret
    exact ⟨rfl, G.out⟩
end Z
end Go.Proofs.YtlmgnfoopimmlaaGreat
