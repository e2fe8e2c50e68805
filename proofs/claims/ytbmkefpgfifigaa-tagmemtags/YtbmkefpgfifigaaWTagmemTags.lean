/-
  Stage 6, tagmem: TagmemTags.
-/
import Derived.Test.YtbmkefpgfifigaaTRows
namespace Go.Proofs.Ytbmkefpgfifigaa
open Go.RowKit

set_option maxRecDepth 100000 in
set_option maxHeartbeats 4000000 in
theorem walk_TagmemTags (L : List T.Wr) (la : Option Addr) (lc : Nat) (w : World) (hL : (∀ y ∈ L, y.Ok) ∧ T.EIn 8 T.Wr.vals w la L) (hl : L.length ≤ maxLen) :
    Calls Try.prog 5 #[.slice la L.length lc] w fun r w' => r = .returned (.bool true) ∧ Below w.heap.size w w' := by
  unfold maxLen at hl
  have hN := T.newTagged_none
  have hF := T.newFlat_none
  replace hL := T.Hid.mk hL
  go_enter Try.func5, Try.ntmps5
  go_wp2_with fail
  refine (hN _).mono ?_
  rintro r w1 ⟨rfl, h1, hb1⟩
  replace h1 := T.Hid.mk h1
  replace hb1 := T.Hid.mk hb1
  go_wp2_with fail
  refine (hF _).mono ?_
  rintro r w2 ⟨rfl, F, h2, hF2, hb2⟩
  have hD : T.Tt w ((w2.alloc (.cells T.rowBool 4)).alloc (.cells T.rowCap 26)) (w.heap.size + 1) w1.heap.size w2.heap.size (w2.heap.size + 1) (T.runB (L.take 0)) (T.runT (L.take 0)) (T.runG (L.take 0)) (T.runC (L.take 0)) := by
    obtain ⟨S, q1, q2, q3⟩ := (T.Ld.begin L h1.out hb1.out h2 hF2 hb2).go
    have B1 := T.BRow.new w2 4
    have B2 := T.CRow.new (w2.alloc (.cells T.rowBool 4)) 26
    rw [World.size_alloc] at B2
    have g1 : Below w2.heap.size w2 (w2.alloc (.cells T.rowBool 4)) := (Below.refl _ _).alloc (Nat.le_refl _) _
    have g2 : Below (w2.heap.size + 1) (w2.alloc (.cells T.rowBool 4)) ((w2.alloc (.cells T.rowBool 4)).alloc (.cells T.rowCap 26)) := (Below.refl _ _).alloc (by simp) _
    have g3 := g1.trans (g2.mono (by omega))
    have := q3.size
    exact ⟨⟨S, q1.gr g3, fun k q => by have := q1.lt k q; have := q2 k q; omega⟩, B1.block g2.size (g2.block _ (by omega)), B2, ⟨by omega, by omega, by omega⟩, q3.trans (g3.mono (by omega))⟩
  have mB := T.make_bool
  have mC := T.make_cap
  replace hD := T.Hid.mk hD
  clear h1 hb1 h2 hF2 hb2 hN hF
  go_wp2_with fail
  clear mB mC
  go_loopw [7] (fun v wr => ∃ i : Nat, v = .int .i64 i ∧ i ≤ L.length ∧ T.Tt w wr (w.heap.size + 1) w1.heap.size w2.heap.size (w2.heap.size + 1) (T.runB (L.take i)) (T.runT (L.take i)) (T.runG (L.take i)) (T.runC (L.take i))) (fun v _ => L.length - (intOf v).toNat)
  case atStart => exact ⟨0, rfl, by omega, hD.out⟩
  case round =>
    clear hD
    obtain ⟨i, rfl, hi, hD⟩ := hrel
    by_cases hlt : i < L.length
    · have jl : (i : Int) < L.length := by omega
      have hok := hL.out.1 _ (List.getElem_mem hlt)
      have hS := hD.step L[i] hok
      obtain ⟨bb, off, rfl, hbw, hcells⟩ := T.eightAt hL.out.2 i hlt
      obtain ⟨c0, c1, c2, c3, c4, c5, c6, c7⟩ := hcells wr hD.be
      unfold T.Wr.cells at hS
      rw [T.runB_snoc L i hlt, T.runT_snoc L i hlt] at hS
      have eG := T.runG_snoc L i hlt
      have eC := T.runC_snoc L i hlt
      rw [T.tbG_eq] at eG
      rw [T.tbC_eq] at eC
      generalize L[i] = y at *
      have hp1 : ∀ W, Calls Try.prog 13 #[.int .i64 y.a, .int .i64 65536] W fun r w' => r = .returned (.int .i64 y.at) ∧ w' = W := fun W => T.pick_any y.a 65536 W hok.ra (by omega) (by omega)
      have hp2 : ∀ W, Calls Try.prog 13 #[.int .i64 y.k, .int .i64 4] W fun r w' => r = .returned (.int .i64 y.kind) ∧ w' = W := fun W => T.pick_any y.k 4 W hok.rk (by omega) (by omega)
      have ha := y.at_lt
      have hk := y.kind_lt
      have hne := hD.ne
      have n1 : ¬ w2.heap.size = bb := by omega
      have n2 : ¬ w2.heap.size + 1 = bb := by omega
      replace hD := T.Hid.mk hD
      replace hcells := T.Hid.mk hcells
      replace eG := T.Hid.mk eG
      replace eC := T.Hid.mk eC
      replace hne := T.Hid.mk hne
      go_wp2_with fail
      refine hS.mono ?_
      rintro r w3 ⟨rfl, hD2⟩
      obtain ⟨d0, d1, d2, d3, d4, d5, d6, d7⟩ := hcells.out w3 hD2.be
      clear c0 c1 c2 c3 c4 c5 c6 c7 hS
      replace hD2 := T.Hid.mk hD2
      go_wp2_with fail
      refine (hp1 _).mono ?_
      rintro r w4 ⟨rfl, rfl⟩
      rcases (by omega : y.kind = 0 ∨ y.kind = 1 ∨ y.kind = 2 ∨ y.kind = 3) with hkd | hkd | hkd | hkd
      · have hadE : y.ad = y.at := by unfold T.Wr.ad; rw [if_neg (by omega)]
        rw [hkd] at hp2
        have eG' := eG.out
        have eC' := eC.out
        rw [hadE, hkd] at eG'
        rw [hadE] at eC'
        simp only [show ¬ (0 : Nat) = 1 by omega, if_false] at eG'
        have hfin := (hD2.out.setG (y.at / 16) false (by omega)).setC (y.at / 16) y.c (by omega)
        rw [show decide (((0 : Nat)) = 2) = false from by decide] at eG'
        rw [eG', eC'] at hfin
        obtain ⟨q0, qf⟩ := hD2.out.br.at_ (y.at / 16) (by omega)
        obtain ⟨r0, r1, r2, r3, r4⟩ := hD2.out.cr.at_ (y.at / 16) (by omega)
        have rf := hD2.out.cr.fr
        replace hfin := T.Hid.mk hfin
        clear eG eC eG' eC' hadE
        go_wp2_with fail
        refine (hp2 _).mono ?_
        rintro r w4 ⟨rfl, rfl⟩
        go_wp2_with fail
        exact ⟨⟨i + 1, by go_num, by omega, hfin.out⟩, by simp [intOf]; omega⟩
      · by_cases hlo : y.at ≤ 65528
        · have hadE : y.ad = y.at := by unfold T.Wr.ad T.Wr.low; rw [if_pos hkd, if_pos hlo]
          rw [hkd] at hp2
          have eG' := eG.out
          have eC' := eC.out
          rw [hadE, hkd] at eG'
          rw [hadE] at eC'
          simp only [if_true] at eG'
          have d1 : ¬ (65528 : Int) < y.at := by omega
          have hmid := (hD2.out.setG (y.at / 16) false (by omega)).setC (y.at / 16) y.c (by omega)
          rw [eC'] at hmid
          obtain ⟨q0, qf⟩ := hD2.out.br.at_ (y.at / 16) (by omega)
          obtain ⟨r0, r1, r2, r3, r4⟩ := hD2.out.cr.at_ (y.at / 16) (by omega)
          have rf := hD2.out.cr.fr
          have m7 : IntKind.i64.wrap (((y.at : Int)) + 7) = ((y.at : Int)) + 7 := by rw [IntKind.wrap_i64]; omega
          replace hmid := T.Hid.mk hmid
          replace eG' := T.Hid.mk eG'
          clear eG eC eC' hadE
          go_wp2_with fail
          refine (hp2 _).mono ?_
          rintro r w4 ⟨rfl, rfl⟩
          go_upto_region 20 with fail
          refine wp_world (fun W => T.Hid (T.Tt w W (w.heap.size + 1) w1.heap.size w2.heap.size (w2.heap.size + 1) (T.runB (L.take (i + 1))) (T.runT (L.take (i + 1))) (T.updG (T.runG (L.take i)) (y.at / 16) false) (T.runC (L.take (i + 1))))) hmid ?_
          intro W hM
          obtain ⟨p0, pf⟩ := hM.out.br.at_ ((y.at + 7) / 16) (by omega)
          have hfin := hM.out.setG ((y.at + 7) / 16) false (by omega)
          rw [eG'.out] at hfin
          replace hfin := T.Hid.mk hfin
          clear hmid q0 qf r0 r1 r2 r3 r4 rf
          go_wp2_with fail
          exact ⟨⟨i + 1, by go_num, by omega, hfin.out⟩, by simp [intOf]; omega⟩
        · have hadE : y.ad = 65528 := by unfold T.Wr.ad T.Wr.low; rw [if_pos hkd, if_neg hlo]
          rw [hkd] at hp2
          have eG' := eG.out
          have eC' := eC.out
          rw [hadE, hkd] at eG'
          rw [hadE] at eC'
          simp only [if_true] at eG'
          have d1 : (65528 : Int) < y.at := by omega
          have hmid := (hD2.out.setG (65528 / 16) false (by omega)).setC (65528 / 16) y.c (by omega)
          rw [eC'] at hmid
          obtain ⟨q0, qf⟩ := hD2.out.br.at_ (65528 / 16) (by omega)
          obtain ⟨r0, r1, r2, r3, r4⟩ := hD2.out.cr.at_ (65528 / 16) (by omega)
          have rf := hD2.out.cr.fr
          have m7 : IntKind.i64.wrap ((65528) + 7) = (65528) + 7 := by rw [IntKind.wrap_i64]; omega
          replace hmid := T.Hid.mk hmid
          replace eG' := T.Hid.mk eG'
          clear eG eC eC' hadE
          go_wp2_with fail
          refine (hp2 _).mono ?_
          rintro r w4 ⟨rfl, rfl⟩
          go_upto_region 20 with fail
          refine wp_world (fun W => T.Hid (T.Tt w W (w.heap.size + 1) w1.heap.size w2.heap.size (w2.heap.size + 1) (T.runB (L.take (i + 1))) (T.runT (L.take (i + 1))) (T.updG (T.runG (L.take i)) (65528 / 16) false) (T.runC (L.take (i + 1))))) hmid ?_
          intro W hM
          obtain ⟨p0, pf⟩ := hM.out.br.at_ ((65528 + 7) / 16) (by omega)
          have hfin := hM.out.setG ((65528 + 7) / 16) false (by omega)
          rw [eG'.out] at hfin
          replace hfin := T.Hid.mk hfin
          clear hmid q0 qf r0 r1 r2 r3 r4 rf
          go_wp2_with fail
          exact ⟨⟨i + 1, by go_num, by omega, hfin.out⟩, by simp [intOf]; omega⟩
      · have hadE : y.ad = y.at := by unfold T.Wr.ad; rw [if_neg (by omega)]
        rw [hkd] at hp2
        have eG' := eG.out
        have eC' := eC.out
        rw [hadE, hkd] at eG'
        rw [hadE] at eC'
        simp only [show ¬ (2 : Nat) = 1 by omega, if_false] at eG'
        have hfin := (hD2.out.setG (y.at / 16) true (by omega)).setC (y.at / 16) y.c (by omega)
        simp only [decide_true] at eG'
        rw [eG', eC'] at hfin
        obtain ⟨q0, qf⟩ := hD2.out.br.at_ (y.at / 16) (by omega)
        obtain ⟨r0, r1, r2, r3, r4⟩ := hD2.out.cr.at_ (y.at / 16) (by omega)
        have rf := hD2.out.cr.fr
        replace hfin := T.Hid.mk hfin
        clear eG eC eG' eC' hadE
        go_wp2_with fail
        refine (hp2 _).mono ?_
        rintro r w4 ⟨rfl, rfl⟩
        go_wp2_with fail
        exact ⟨⟨i + 1, by go_num, by omega, hfin.out⟩, by simp [intOf]; omega⟩
      · have hadE : y.ad = y.at := by unfold T.Wr.ad; rw [if_neg (by omega)]
        rw [hkd] at hp2
        have eG' := eG.out
        have eC' := eC.out
        rw [hadE, hkd] at eG'
        rw [hadE] at eC'
        simp only [show ¬ (3 : Nat) = 1 by omega, if_false] at eG'
        have hfin := (hD2.out.setG (y.at / 16) false (by omega)).setC (y.at / 16) y.c (by omega)
        rw [show decide (((3 : Nat)) = 2) = false from by decide] at eG'
        rw [eG', eC'] at hfin
        obtain ⟨q0, qf⟩ := hD2.out.br.at_ (y.at / 16) (by omega)
        obtain ⟨r0, r1, r2, r3, r4⟩ := hD2.out.cr.at_ (y.at / 16) (by omega)
        have rf := hD2.out.cr.fr
        replace hfin := T.Hid.mk hfin
        clear eG eC eG' eC' hadE
        go_wp2_with fail
        refine (hp2 _).mono ?_
        rintro r w4 ⟨rfl, rfl⟩
        go_wp2_with fail
        exact ⟨⟨i + 1, by go_num, by omega, hfin.out⟩, by simp [intOf]; omega⟩
    · have jl : ¬ (i : Int) < L.length := by omega
      have : i = L.length := by omega
      subst this
      have hrel2 := T.rel_run (L.take L.length)
      have hcur := T.curs_run (L.take L.length) (fun y hy => hL.out.1 y (List.mem_of_mem_take hy))
      have hpos := T.runC_pos (L.take L.length) (fun y hy => hL.out.1 y (List.mem_of_mem_take hy))
      generalize T.runB (L.take L.length) = b at *
      generalize T.runT (L.take L.length) = t at *
      generalize T.runG (L.take L.length) = tg at *
      generalize T.runC (L.take L.length) = cp at *
      replace hD := T.Hid.mk hD
      replace hrel2 := T.Hid.mk hrel2
      replace hcur := T.Hid.mk hcur
      replace hpos := T.Hid.mk hpos
      generalize wr = W2 at *
      go_wp2_with fail
      go_loopw [11, 12] (fun l v wq => ∃ k : Nat, v = .int .i64 k ∧ k ≤ 4096 ∧ T.UOwn wq W2.heap.size l (T.tagsL t k) ∧ Below W2.heap.size W2 wq) (fun _ v _ => 4096 - (intOf v).toNat)
      case atStart => exact ⟨0, rfl, by omega, T.UOwn.nil _ _, Below.refl _ _⟩
      case round =>
        obtain ⟨k, rfl, hk, hO, hB⟩ := hrel
        obtain ⟨oa, oc, rfl, ho⟩ := hO.form
        clear ho
        by_cases hkt : k < 4096
        · have jl2 : (k : Int) < 4096 := by omega
          cases htg : tg k with
          | false =>
            have hr := hrel2.out k
            rw [htg] at hr
            simp only [Bool.false_eq_true, if_false] at hr
            have hl1 : T.lcV b t (16 * k) = ⟨false, T.leB b (16 * k) 8, T.Cp.zero⟩ := by
              unfold T.lcV
              rw [T.granB_mul k hkt, show 16 * k / 16 = k by omega, hr]
              rfl
            have hl0 : T.lcE (16 * k) = 0 := by unfold T.lcE; rw [T.granB_mul k hkt]; rfl
            have hl2 : T.ldV b (16 * k) 8 = T.leB b (16 * k) 8 := by
              unfold T.ldV
              rw [T.word8 (by omega)]
              simp only [if_true]
            have hl3 : T.ldE (16 * k) 8 = 0 := by unfold T.ldE; rw [T.word8 (by omega)]; rfl
            have hTt := hD.out.gr hB
            obtain ⟨P, hP⟩ := hTt.tg
            have hA := T.tgLoadCap_any P (w.heap.size + 1) (16 * k) b t wr hP (by omega)
            have hG := fun W (q : T.Tt w W (w.heap.size + 1) w1.heap.size w2.heap.size (w2.heap.size + 1) b t tg cp) => (show ∃ P, T.TgIn P W (w.heap.size + 1) b t from q.tg).elim fun P hP => T.tgLoad_any P (w.heap.size + 1) (16 * k) 8 b t W hP (by omega) (by omega)
            rw [hl1, hl0] at hA
            rw [hl2, hl3] at hG
            have ep : ((16 * k : Nat) : Int) = 16 * (k : Int) := by omega
            simp only [ep, T.Vl.agg] at hA
            simp only [ep] at hG
            have hnx : T.tagsL t (k + 1) = T.tagsL t k ++ if T.plTag (t k) then [k * 16] else [] := rfl
            rw [hr] at hnx
            simp only [T.plTag, Bool.false_eq_true, if_false, List.append_nil] at hnx
            simp only [T.Cp.zero] at hA
            have m1 : IntKind.i64.wrap (16 * (k : Int)) = 16 * (k : Int) := by rw [IntKind.wrap_i64]; omega
            have m2 : IntKind.u64.wrap (16 * (k : Int)) = 16 * (k : Int) := by rw [IntKind.wrap_u64]; omega
            replace hG := T.Hid.mk hG
            replace hnx := T.Hid.mk hnx
            replace hTt := T.Hid.mk hTt
            replace hO := T.Hid.mk hO
            replace hB := T.Hid.mk hB
            clear hl0 hl1 hl2 hl3 ep hP
            go_wp2_with fail
            refine hA.mono ?_
            rintro r w5 ⟨rfl, hb5⟩
            have hb5s := hb5.size
            replace hb5s := T.Hid.mk hb5s
            replace hb5 := T.Hid.mk hb5
            clear hA
            go_wp2_with fail
            refine (hG.out _ (hTt.out.gr (hb5.out.alloc hb5.out.size _))).mono ?_
            rintro r w6 ⟨rfl, hb6⟩
            have A6 := T.at_below (At.new w5 _ _) hb6 (by simp)
            have hb7 := (hb5.out.alloc hb5.out.size _).trans (hb6.mono (by have := hb5.out.size; simp; omega))
            have hT6 := hTt.out.gr hb7
            have q0 := (hT6.br.at_ k hkt).1
            rw [htg] at q0
            obtain ⟨r0, r1, r2, r3, r4⟩ := hT6.cr.at_ k hkt
            have y0 : w6.cell? ⟨w5.heap.size, 0, none⟩ = some (.bool false) := A6.2.1 0
            have y1 : w6.cell? ⟨w5.heap.size, 1, none⟩ = some (.int .u64 (T.leB b (16 * k) 8)) := A6.2.1 1
            have y2 : w6.cell? ⟨w5.heap.size, 2, none⟩ = some (.int .u64 0) := A6.2.1 2
            have y3 : w6.cell? ⟨w5.heap.size, 3, none⟩ = some (.int .u64 0) := A6.2.1 3
            have y4 : w6.cell? ⟨w5.heap.size, 4, none⟩ = some (.int .u64 0) := A6.2.1 4
            have y5 : w6.cell? ⟨w5.heap.size, 5, none⟩ = some (.int .u8 0) := A6.2.1 5
            have y6 : w6.cell? ⟨w5.heap.size, 6, none⟩ = some (.int .i64 0) := A6.2.1 6
            replace A6 := T.Hid.mk A6
            replace hb7 := T.Hid.mk hb7
            replace hT6 := T.Hid.mk hT6
            clear hb5 hb6 hTt hG
            go_wp2_with fail
            go_quiet (fail)
            go_wp2_with fail
            have hb8 := hb7.out.trans ((T.drewN_below w6 nq).mono hb7.out.size)
            exact ⟨⟨k + 1, by go_num, by omega, by rw [hnx.out]; exact hO.out.below hb8, hB.out.trans (hb8.mono hB.out.size)⟩, by simp [intOf]; omega⟩
          | true =>
            have hr := hrel2.out k
            rw [htg] at hr
            simp only [if_true] at hr
            have hl1 : T.lcV b t (16 * k) = ⟨true, 0, cp k⟩ := by
              unfold T.lcV
              rw [T.granB_mul k hkt, show 16 * k / 16 = k by omega, hr]
              rfl
            have hl0 : T.lcE (16 * k) = 0 := by unfold T.lcE; rw [T.granB_mul k hkt]; rfl
            have hl2 : T.ldV b (16 * k) 8 = (cp k).c.toNat := by
              unfold T.ldV
              rw [T.word8 (by omega)]
              simp only [if_true]
              rw [show 16 * k = k * 16 by omega]
              exact hcur.out k (cp k) hr
            have hl3 : T.ldE (16 * k) 8 = 0 := by unfold T.ldE; rw [T.word8 (by omega)]; rfl
            have hTt := hD.out.gr hB
            obtain ⟨P, hP⟩ := hTt.tg
            have hA := T.tgLoadCap_any P (w.heap.size + 1) (16 * k) b t wr hP (by omega)
            have hG := fun W (q : T.Tt w W (w.heap.size + 1) w1.heap.size w2.heap.size (w2.heap.size + 1) b t tg cp) => (show ∃ P, T.TgIn P W (w.heap.size + 1) b t from q.tg).elim fun P hP => T.tgLoad_any P (w.heap.size + 1) (16 * k) 8 b t W hP (by omega) (by omega)
            rw [hl1, hl0] at hA
            rw [hl2, hl3] at hG
            have ep : ((16 * k : Nat) : Int) = 16 * (k : Int) := by omega
            simp only [ep, T.Vl.agg] at hA
            simp only [ep] at hG
            have hnx : T.tagsL t (k + 1) = T.tagsL t k ++ if T.plTag (t k) then [k * 16] else [] := rfl
            rw [hr] at hnx
            simp only [T.plTag, if_true] at hnx
            have hcn : (((cp k).c.toNat : Nat) : Int) = (cp k).c := by have := hpos.out k; omega
            simp only [hcn] at hG
            have m1 : IntKind.i64.wrap (16 * (k : Int)) = 16 * (k : Int) := by rw [IntKind.wrap_i64]; omega
            have m2 : IntKind.u64.wrap (16 * (k : Int)) = 16 * (k : Int) := by rw [IntKind.wrap_u64]; omega
            replace hG := T.Hid.mk hG
            replace hnx := T.Hid.mk hnx
            replace hTt := T.Hid.mk hTt
            replace hO := T.Hid.mk hO
            replace hB := T.Hid.mk hB
            clear hl0 hl1 hl2 hl3 ep hP
            go_wp2_with fail
            refine hA.mono ?_
            rintro r w5 ⟨rfl, hb5⟩
            have hb5s := hb5.size
            replace hb5s := T.Hid.mk hb5s
            replace hb5 := T.Hid.mk hb5
            clear hA
            go_wp2_with fail
            refine (hG.out _ (hTt.out.gr (hb5.out.alloc hb5.out.size _))).mono ?_
            rintro r w6 ⟨rfl, hb6⟩
            have A6 := T.at_below (At.new w5 _ _) hb6 (by simp)
            have hb7 := (hb5.out.alloc hb5.out.size _).trans (hb6.mono (by have := hb5.out.size; simp; omega))
            have hT6 := hTt.out.gr hb7
            have q0 := (hT6.br.at_ k hkt).1
            rw [htg] at q0
            obtain ⟨r0, r1, r2, r3, r4⟩ := hT6.cr.at_ k hkt
            have y0 : w6.cell? ⟨w5.heap.size, 0, none⟩ = some (.bool true) := A6.2.1 0
            have y1 : w6.cell? ⟨w5.heap.size, 1, none⟩ = some (.int .u64 0) := A6.2.1 1
            have y2 : w6.cell? ⟨w5.heap.size, 2, none⟩ = some (.int .u64 (cp k).b) := A6.2.1 2
            have y3 : w6.cell? ⟨w5.heap.size, 3, none⟩ = some (.int .u64 (cp k).e) := A6.2.1 3
            have y4 : w6.cell? ⟨w5.heap.size, 4, none⟩ = some (.int .u64 (cp k).c) := A6.2.1 4
            have y5 : w6.cell? ⟨w5.heap.size, 5, none⟩ = some (.int .u8 (cp k).p) := A6.2.1 5
            have y6 : w6.cell? ⟨w5.heap.size, 6, none⟩ = some (.int .i64 (cp k).s) := A6.2.1 6
            replace A6 := T.Hid.mk A6
            replace hb7 := T.Hid.mk hb7
            replace hT6 := T.Hid.mk hT6
            clear hb5 hb6 hTt hG
            go_wp2_with fail
            have hlen := T.tagsL_len t k
            replace hlen := T.Hid.mk hlen
            go_quiet (fail)
            have hb8 := hb7.out.trans ((T.drewN_below w6 nq).mono hb7.out.size)
            have A8 := T.at_below A6.out (T.drewN_below w6 nq) A6.out.1
            have hsz8 : (w6.drewN nq).heap.size = w6.heap.size := T.drewN_size w6 nq
            replace hb8 := T.Hid.mk hb8
            replace A8 := T.Hid.mk A8
            have hbase : W2.heap.size ≤ w6.heap.size := by have := hB.out.size; have := hb7.out.size; omega
            replace hsz8 := T.Hid.mk hsz8
            replace hbase := T.Hid.mk hbase
            have ey : ((k * 16 : Nat) : Int) = 16 * (k : Int) := by omega
            replace ey := T.Hid.mk ey
            clear y0 y1 y2 y3 y4 y5 y6 r0 r1 r2 r3 r4
            go_wp2_with (at_builtin; refine T.wpList_append_num rfl (.tmp 122) (.tmp 126) rfl W2.heap.size (.slice oa (T.tagsL t k).length oc) (T.tagsL t k) (k * 16) rfl (hO.out.below (hb8.out.alloc hb8.out.size _)) w6.heap.size rfl (by rw [ey.out]; exact At.at_ _ _ _ hsz8.out) (by have := hlen.out; omega) (by have h1 := hbase.out; have h2 := hsz8.out; rw [World.size_alloc, h2]; omega) ?_)
            intro gg cap w7 hO7 hg
            have hbW := (hB.out.trans ((hb8.out.alloc hb8.out.size _).mono hB.out.size)).trans (T.Below.of_grown hg (by have h1 := hbase.out; have h2 := hsz8.out; rw [World.size_alloc, h2]; omega) (fun q hq => (hO.out.block q hq).1))
            have A9 := T.at_grown (A8.out.alloc _) hg (fun e => by have := (hO.out.block _ e).2; have := hb5s.out; omega)
            obtain ⟨r0, r1, r2, r3, r4⟩ := (hD.out.gr hbW).cr.at_ k hkt
            have y0 : w7.cell? ⟨w5.heap.size, 0, none⟩ = some (.bool true) := A9.2.1 0
            have y1 : w7.cell? ⟨w5.heap.size, 1, none⟩ = some (.int .u64 0) := A9.2.1 1
            have y2 : w7.cell? ⟨w5.heap.size, 2, none⟩ = some (.int .u64 (cp k).b) := A9.2.1 2
            have y3 : w7.cell? ⟨w5.heap.size, 3, none⟩ = some (.int .u64 (cp k).e) := A9.2.1 3
            have y4 : w7.cell? ⟨w5.heap.size, 4, none⟩ = some (.int .u64 (cp k).c) := A9.2.1 4
            have y5 : w7.cell? ⟨w5.heap.size, 5, none⟩ = some (.int .u8 (cp k).p) := A9.2.1 5
            have y6 : w7.cell? ⟨w5.heap.size, 6, none⟩ = some (.int .i64 (cp k).s) := A9.2.1 6
            replace A9 := T.Hid.mk A9
            replace hbW := T.Hid.mk hbW
            replace hO7 := T.Hid.mk hO7
            clear hg A8 hb8 A6 hb7 hT6 q0
            go_wp2_with fail
            go_quiet (fail)
            go_wp2_with fail
            exact ⟨⟨k + 1, by go_num, by omega, by rw [hnx.out]; exact hO7.out.below (T.drewN_below _ _), hbW.out.trans ((T.drewN_below _ _).mono hbW.out.size)⟩, by simp [intOf]; omega⟩
        · have jl2 : ¬ (k : Int) < 4096 := by omega
          have : k = 4096 := by omega
          subst this
          have hTt := hD.out.gr hB
          obtain ⟨P, hP⟩ := hTt.tg
          have hG := T.tgTags_any P (w.heap.size + 1) b t wr hP
          have hlen := T.tagsL_len t 4096
          generalize T.tagsL t 4096 = TL at *
          have hbe := hTt.be
          replace hO := T.Hid.mk hO
          replace hB := T.Hid.mk hB
          replace hTt := T.Hid.mk hTt
          replace hbe := T.Hid.mk hbe
          replace hlen := T.Hid.mk hlen
          clear hP
          go_wp2_with fail
          refine hG.mono ?_
          rintro r w5 ⟨tv, rfl, hO5, hb5⟩
          obtain ⟨ta, tc, rfl, u5⟩ := hO5.uin
          obtain ⟨xa, xc, hxe, u6⟩ := (hO.out.below hb5).uin
          obtain ⟨rfl, rfl⟩ : oa = xa ∧ oc = xc := by simpa using hxe
          have hS := T.same_eq TL ta oa tc oc w5 u5 u6 (by have := hlen.out; omega)
          have hb6 := hbe.out.trans (hb5.mono hbe.out.size)
          replace hb6 := T.Hid.mk hb6
          clear hO5 hb5 u5 u6 hxe hG
          go_wp2_with fail
          refine hS.mono ?_
          rintro r w6 ⟨rfl, hb7⟩
          replace hb7 := T.Hid.mk (hb6.out.trans (hb7.mono hb6.out.size))
          clear hS
          go_wp2_with fail
          go_ret
          exact ⟨rfl, hb7.out⟩
end Go.Proofs.Ytbmkefpgfifigaa
