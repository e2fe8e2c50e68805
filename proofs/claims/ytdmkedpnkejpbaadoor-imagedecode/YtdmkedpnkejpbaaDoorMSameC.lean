import Derived.Test.YtdmkedpnkejpbaaDoorP48
import Derived.Deep.RegionHeld3
/-
  Stage 4, image: two programs, compared, as the document has it.
-/
namespace Go.Proofs.YtdmkedpnkejpbaaDoor
open Go.RowKit

set_option maxRecDepth 10000 in
set_option maxHeartbeats 8000000 in
theorem same_any (x y : PImg) (ra ca ga ra' ca' ga' : Option Addr) (rc cc gc rc' cc' gc' : Nat) (w : World) (hX : ImgIn w.heap.size w ra ca ga x) (hY : ImgIn w.heap.size w ra' ca' ga' y) (hr : x.Rng) :
    Calls Tryd.prog 7 #[.agg #[.slice ra x.regs.length rc, .slice ca x.comps.length cc, .slice ga x.gates.length gc, .int .i64 x.depth], .agg #[.slice ra' y.regs.length rc', .slice ca' y.comps.length cc', .slice ga' y.gates.length gc', .int .i64 y.depth]] w fun r w' => r = .returned (.bool (x.eqB y)) ∧ Gr w w' := by
  obtain ⟨X1, X2, X3, dx⟩ := x
  obtain ⟨Y1, Y2, Y3, dy⟩ := y
  simp only at *
  have hl1 : (X1.length : Int) ≤ 140737488355328 := by have := hr.regs.1; simp only at this; unfold maxG at this; omega
  have hl2 : (X2.length : Int) ≤ 140737488355328 := by have := hr.comps.1; simp only at this; unfold maxG at this; omega
  have hl3 : (X3.length : Int) ≤ 140737488355328 := by have := hr.gates.1; simp only at this; unfold maxG at this; omega
  replace hX := Hid.mk hX
  replace hY := Hid.mk hY
  replace hr := Hid.mk hr
  by_cases h1 : X1.length = Y1.length
  case neg =>
    have g1 : ((X1.length : Int) != Y1.length) = true := by simp; omega
    have e : X1 ≠ Y1 := fun e => h1 (by rw [e])
    replace h1 := Hid.mk h1
    replace e := Hid.mk e
    go_enter Tryd.func7, Tryd.ntmps7
    go_wp2_with fail
    go_ret
    exact ⟨eqb_no PImg.eqB_iff (fun q => e.out (congrArg PImg.regs q)), ((Gr.refl w).alloc _).alloc _⟩
  have g1 : ((X1.length : Int) != Y1.length) = false := by simp; omega
  replace h1 := Hid.mk h1
  by_cases h2 : X2.length = Y2.length
  case neg =>
    have g2 : ((X2.length : Int) != Y2.length) = true := by simp; omega
    have e : X2 ≠ Y2 := fun e => h2 (by rw [e])
    replace h2 := Hid.mk h2
    replace e := Hid.mk e
    go_enter Tryd.func7, Tryd.ntmps7
    go_wp2_with fail
    go_ret
    exact ⟨eqb_no PImg.eqB_iff (fun q => e.out (congrArg PImg.comps q)), ((Gr.refl w).alloc _).alloc _⟩
  have g2 : ((X2.length : Int) != Y2.length) = false := by simp; omega
  replace h2 := Hid.mk h2
  by_cases h3 : X3.length = Y3.length
  case neg =>
    have g3 : ((X3.length : Int) != Y3.length) = true := by simp; omega
    have e : X3 ≠ Y3 := fun e => h3 (by rw [e])
    replace h3 := Hid.mk h3
    replace e := Hid.mk e
    go_enter Tryd.func7, Tryd.ntmps7
    go_wp2_with fail
    go_ret
    exact ⟨eqb_no PImg.eqB_iff (fun q => e.out (congrArg PImg.gates q)), ((Gr.refl w).alloc _).alloc _⟩
  have g3 : ((X3.length : Int) != Y3.length) = false := by simp; omega
  replace h3 := Hid.mk h3
  by_cases h4 : dx = dy
  case neg =>
    have g4 : (dx != dy) = true := by simpa using h4
    replace h4 := Hid.mk h4
    go_enter Tryd.func7, Tryd.ntmps7
    go_wp2_with fail
    go_ret
    exact ⟨eqb_no PImg.eqB_iff (fun q => h4.out (congrArg PImg.depth q)), ((Gr.refl w).alloc _).alloc _⟩
  have g4 : (dx != dy) = false := by simpa using h4
  replace h4 := Hid.mk h4
  have hGR : Gr w ((w.alloc (.cells #[.slice ra X1.length rc, .slice ca X2.length cc, .slice ga X3.length gc, .int .i64 dx] 27)).alloc (.cells #[.slice ra' Y1.length rc', .slice ca' Y2.length cc', .slice ga' Y3.length gc', .int .i64 dy] 27)) := ((Gr.refl w).alloc _).alloc _
  have BA : Box ((w.alloc (.cells #[.slice ra X1.length rc, .slice ca X2.length cc, .slice ga X3.length gc, .int .i64 dx] 27)).alloc (.cells #[.slice ra' Y1.length rc', .slice ca' Y2.length cc', .slice ga' Y3.length gc', .int .i64 dy] 27)) w.heap.size #[.slice ra X1.length rc, .slice ca X2.length cc, .slice ga X3.length gc, .int .i64 dx] 27 := (Box.new w _ _).alloc _
  have BB : Box ((w.alloc (.cells #[.slice ra X1.length rc, .slice ca X2.length cc, .slice ga X3.length gc, .int .i64 dx] 27)).alloc (.cells #[.slice ra' Y1.length rc', .slice ca' Y2.length cc', .slice ga' Y3.length gc', .int .i64 dy] 27)) (w.heap.size + 1) #[.slice ra' Y1.length rc', .slice ca' Y2.length cc', .slice ga' Y3.length gc', .int .i64 dy] 27 := Box.next _ _ _ _
  replace hGR := Hid.mk hGR
  replace BA := Hid.mk BA
  replace BB := Hid.mk BB
  go_enter Tryd.func7, Tryd.ntmps7
  go_wp2_with fail
  generalize (w.alloc (.cells #[.slice ra X1.length rc, .slice ca X2.length cc, .slice ga X3.length gc, .int .i64 dx] 27)).alloc (.cells #[.slice ra' Y1.length rc', .slice ca' Y2.length cc', .slice ga' Y3.length gc', .int .i64 dy] 27) = R0 at *
  replace hX := Hid.mk ((hX.out.below hGR.out.below).mono (gr_size hGR.out))
  replace hY := Hid.mk ((hY.out.below hGR.out.below).mono (gr_size hGR.out))
  clear g1 g2 g3 g4
  go_loopw [5] (fun i wr => ∃ j : Nat, i = .int .i64 j ∧ j ≤ X1.length ∧ Hid (X1.take j = Y1.take j ∧ Gr R0 wr)) (fun i _ => X1.length - (intOf i).toNat)
  case atStart => exact ⟨0, rfl, by omega, ⟨rfl, Gr.refl _⟩⟩
  case round =>
    obtain ⟨j, rfl, hj, ⟨hf, hG⟩⟩ := hrel
    have BA1 := BA.out.gr hG
    have BB1 := BB.out.gr hG
    have ⟨z0, p0, f0⟩ := BA1.at
    have ⟨z1, p1, f1⟩ := BB1.at
    replace BA1 := Hid.mk BA1
    replace BB1 := Hid.mk BB1
    by_cases hlt : j < X1.length
    · have jl : (j : Int) < X1.length := by omega
      have hltm : j < Y1.length := by have := h1.out; omega
      have jm : (j : Int) < Y1.length := by omega
      obtain ⟨b, off, sa, sc, rfl, hb, hb2, c0, c1, c2, c3, hs⟩ := (hX.out.below hG.below).regs j hlt
      obtain ⟨b', off', sa', sc', rfl, hb', hb2', d0, d1, d2, d3, hs'⟩ := (hY.out.below hG.below).regs j hltm
      have hsl := (hr.out.regs.2 X1[j] (List.getElem_mem hlt)).2.2.2.1
      have hc := fun W (h1 : Gr wr W) => sameRegion_any X1[j] Y1[j] sc sc' sa sa' W ((hs.below (h1.below.mono (gr_size hG))).mono (Nat.le_trans (gr_size hG) (gr_size h1))) ((hs'.below (h1.below.mono (gr_size hG))).mono (Nat.le_trans (gr_size hG) (gr_size h1))) hsl
      clear hs hs' hsl
      have hnx : X1[j] = Y1[j] → X1.take (j + 1) = Y1.take (j + 1) := fun h => by
        rw [List.take_succ_eq_append_getElem hlt, List.take_succ_eq_append_getElem hltm, hf, h]
      have hne : X1[j] ≠ Y1[j] → X1 ≠ Y1 := fun h e => h (by simp only [e])
      simp only at c0 c1 c2 c3 d0 d1 d2 d3
      generalize X1[j] = k at *
      generalize Y1[j] = m at *
      have KS : ∀ W, Gr wr W → W.cell? ⟨w.heap.size, 0, none⟩ = some (.slice (some ⟨b, off, none⟩) X1.length rc) ∧ W.cell? ⟨w.heap.size + 1, 0, none⟩ = some (.slice (some ⟨b', off', none⟩) Y1.length rc') ∧ W.cell? ⟨b, off + j * 4, none⟩ = some (.int .u64 k.b) ∧ W.cell? ⟨b, off + j * 4 + 1, none⟩ = some (.int .u64 k.n) ∧ W.cell? ⟨b, off + j * 4 + 1 + 1, none⟩ = some (.string (str k.data)) ∧ W.cell? ⟨b, off + j * 4 + 1 + 1 + 1, none⟩ = some (.slice sa k.slots.length sc) ∧ W.cell? ⟨b', off' + j * 4, none⟩ = some (.int .u64 m.b) ∧ W.cell? ⟨b', off' + j * 4 + 1, none⟩ = some (.int .u64 m.n) ∧ W.cell? ⟨b', off' + j * 4 + 1 + 1, none⟩ = some (.string (str m.data)) ∧ W.cell? ⟨b', off' + j * 4 + 1 + 1 + 1, none⟩ = some (.slice sa' m.slots.length sc') := fun W hW => ⟨(hW.cell z0 0).trans (p0 0), (hW.cell z1 0).trans (p1 0), (hW.cell hb2 _).trans c0, (hW.cell hb2 _).trans c1, (hW.cell hb2 _).trans c2, (hW.cell hb2 _).trans c3, (hW.cell hb2' _).trans d0, (hW.cell hb2' _).trans d1, (hW.cell hb2' _).trans d2, (hW.cell hb2' _).trans d3⟩
      replace KS := Hid.mk KS
      replace hf := Hid.mk hf
      cases hq : PReg.eqB k m with
      | true =>
        replace hnx := Hid.mk (hnx ((PReg.eqB_iff k m).1 hq))
        rw [hq] at hc
        clear hne
        replace hq := Hid.mk hq
        replace hc := Hid.mk hc
        replace hG := Hid.mk hG
        go_wp2_with fail
        clear z0 p0 f0 z1 p1 f1 c0 c1 c2 c3 d0 d1 d2 d3 hb hb2 hb' hb2'
        have L1 := grow_cell; have L2 := grow_frozen; have L3 := grow_set; have L4 := grow_lt; have L5 := glt1; have L6 := glt2; have L7 := glt3; have L8 := glt4; have L9 := glt5; have L10 := glt6; have L11 := lt1; have L12 := lt2; have L13 := lt3; have L14 := lt4; have L15 := lt5; have L16 := lt6; have L17 := lt7; have L18 := lt8
        first | (go_region_held3 (fun W => W.cell? ⟨w.heap.size, 0, none⟩ = some (.slice (some ⟨b, off, none⟩) X1.length rc) ∧ W.cell? ⟨w.heap.size + 1, 0, none⟩ = some (.slice (some ⟨b', off', none⟩) Y1.length rc') ∧ W.cell? ⟨b, off + j * 4, none⟩ = some (.int .u64 k.b) ∧ W.cell? ⟨b, off + j * 4 + 1, none⟩ = some (.int .u64 k.n) ∧ W.cell? ⟨b, off + j * 4 + 1 + 1, none⟩ = some (.string (str k.data)) ∧ W.cell? ⟨b, off + j * 4 + 1 + 1 + 1, none⟩ = some (.slice sa k.slots.length sc) ∧ W.cell? ⟨b', off' + j * 4, none⟩ = some (.int .u64 m.b) ∧ W.cell? ⟨b', off' + j * 4 + 1, none⟩ = some (.int .u64 m.n) ∧ W.cell? ⟨b', off' + j * 4 + 1 + 1, none⟩ = some (.string (str m.data)) ∧ W.cell? ⟨b', off' + j * 4 + 1 + 1 + 1, none⟩ = some (.slice sa' m.slots.length sc')) ((refine KS.out _ ?_; (with_reducible repeat (first | exact Gr.refl _ | refine Gr.alloc ?_ _ | refine Gr.grow ?_ _ | refine Gr.drew ?_ | refine Gr.setCell ?_ _ _ _ (gr_size ?_))))) (first | (go_at_call 20; refine (hc.out _ (by (with_reducible repeat (first | exact Gr.refl _ | refine Gr.alloc ?_ _ | refine Gr.grow ?_ _ | refine Gr.drew ?_ | refine Gr.setCell ?_ _ _ _ (gr_size ?_))))).mono ?_; rintro x w' ⟨rfl, hG⟩; (repeat (replace hG := Gr.of_grow hG)); obtain ⟨l, rfl⟩ := hG))) | fail
        all_goals
          clear KS hc
          go_wp2_with fail
          clear L1 L2 L3 L4 L5 L6 L7 L8 L9 L10 L11 L12 L13 L14 L15 L16 L17 L18
          go_roundw
          case rel => exact ⟨j + 1, by simp, by omega, ⟨hnx.out, hG.out.trans (by (with_reducible repeat (first | exact Gr.refl _ | refine Gr.alloc ?_ _ | refine Gr.grow ?_ _ | refine Gr.drew ?_ | refine Gr.setCell ?_ _ _ _ (gr_size ?_))))⟩⟩
          case measure => simp [intOf]; omega
      | false =>
        replace hne := Hid.mk (hne (fun h => by rw [(PReg.eqB_iff k m).2 h] at hq; cases hq))
        rw [hq] at hc
        clear hnx
        replace hq := Hid.mk hq
        replace hc := Hid.mk hc
        replace hG := Hid.mk hG
        go_wp2_with fail
        clear z0 p0 f0 z1 p1 f1 c0 c1 c2 c3 d0 d1 d2 d3 hb hb2 hb' hb2'
        have L1 := grow_cell; have L2 := grow_frozen; have L3 := grow_set; have L4 := grow_lt; have L5 := glt1; have L6 := glt2; have L7 := glt3; have L8 := glt4; have L9 := glt5; have L10 := glt6; have L11 := lt1; have L12 := lt2; have L13 := lt3; have L14 := lt4; have L15 := lt5; have L16 := lt6; have L17 := lt7; have L18 := lt8
        first | (go_region_held3 (fun W => W.cell? ⟨w.heap.size, 0, none⟩ = some (.slice (some ⟨b, off, none⟩) X1.length rc) ∧ W.cell? ⟨w.heap.size + 1, 0, none⟩ = some (.slice (some ⟨b', off', none⟩) Y1.length rc') ∧ W.cell? ⟨b, off + j * 4, none⟩ = some (.int .u64 k.b) ∧ W.cell? ⟨b, off + j * 4 + 1, none⟩ = some (.int .u64 k.n) ∧ W.cell? ⟨b, off + j * 4 + 1 + 1, none⟩ = some (.string (str k.data)) ∧ W.cell? ⟨b, off + j * 4 + 1 + 1 + 1, none⟩ = some (.slice sa k.slots.length sc) ∧ W.cell? ⟨b', off' + j * 4, none⟩ = some (.int .u64 m.b) ∧ W.cell? ⟨b', off' + j * 4 + 1, none⟩ = some (.int .u64 m.n) ∧ W.cell? ⟨b', off' + j * 4 + 1 + 1, none⟩ = some (.string (str m.data)) ∧ W.cell? ⟨b', off' + j * 4 + 1 + 1 + 1, none⟩ = some (.slice sa' m.slots.length sc')) ((refine KS.out _ ?_; (with_reducible repeat (first | exact Gr.refl _ | refine Gr.alloc ?_ _ | refine Gr.grow ?_ _ | refine Gr.drew ?_ | refine Gr.setCell ?_ _ _ _ (gr_size ?_))))) (first | (go_at_call 20; refine (hc.out _ (by (with_reducible repeat (first | exact Gr.refl _ | refine Gr.alloc ?_ _ | refine Gr.grow ?_ _ | refine Gr.drew ?_ | refine Gr.setCell ?_ _ _ _ (gr_size ?_))))).mono ?_; rintro x w' ⟨rfl, hG⟩; (repeat (replace hG := Gr.of_grow hG)); obtain ⟨l, rfl⟩ := hG))) | fail
        all_goals
          clear KS hc
          go_wp2_with fail
          clear L1 L2 L3 L4 L5 L6 L7 L8 L9 L10 L11 L12 L13 L14 L15 L16 L17 L18
          go_ret
          exact ⟨eqb_no PImg.eqB_iff (fun e => hne.out (congrArg PImg.regs e)), hGR.out.trans (hG.out.trans (by (with_reducible repeat (first | exact Gr.refl _ | refine Gr.alloc ?_ _ | refine Gr.grow ?_ _ | refine Gr.drew ?_ | refine Gr.setCell ?_ _ _ _ (gr_size ?_)))))⟩
    · have jl : ¬ (j : Int) < X1.length := by omega
      have e0 : X1 = Y1 := by
        rw [List.take_of_length_le (by omega), List.take_of_length_le (by have := h1.out; omega)] at hf
        exact hf
      replace e0 := Hid.mk e0
      clear hf hlt hj
      replace hG := Hid.mk hG
      go_wp2_with fail
      clear BA BB z0 p0 f0 z1 p1 f1 jl
      have BA := BA1
      have BB := BB1
      clear BA1 BB1
      replace hX := Hid.mk ((hX.out.below hG.out.below).mono (gr_size hG.out))
      replace hY := Hid.mk ((hY.out.below hG.out.below).mono (gr_size hG.out))
      replace hGR := Hid.mk (hGR.out.trans hG.out)
      clear hG
      generalize wr = R1 at *
      go_loopw [7] (fun i wr => ∃ j : Nat, i = .int .i64 j ∧ j ≤ X2.length ∧ Hid (X2.take j = Y2.take j ∧ Gr R1 wr)) (fun i _ => X2.length - (intOf i).toNat)
      case atStart => exact ⟨0, rfl, by omega, ⟨rfl, Gr.refl _⟩⟩
      case round =>
        obtain ⟨j, rfl, hj, ⟨hf, hG⟩⟩ := hrel
        have BA1 := BA.out.gr hG
        have BB1 := BB.out.gr hG
        have ⟨z0, p0, f0⟩ := BA1.at
        have ⟨z1, p1, f1⟩ := BB1.at
        replace BA1 := Hid.mk BA1
        replace BB1 := Hid.mk BB1
        by_cases hlt : j < X2.length
        · have jl : (j : Int) < X2.length := by omega
          have hltm : j < Y2.length := by have := h2.out; omega
          have jm : (j : Int) < Y2.length := by omega
          obtain ⟨b, off, ra1, rc1, ka1, kc1, rfl, hb, hb2, c0, c1, hs, ht⟩ := (hX.out.below hG.below).comps j hlt
          obtain ⟨b', off', ra2, rc2, ka2, kc2, rfl, hb', hb2', d0, d1, hs', ht'⟩ := (hY.out.below hG.below).comps j hltm
          have hsl := hr.out.comps.2 X2[j] (List.getElem_mem hlt)
          have hc := fun W (h1 : Gr wr W) => sameComp_any X2[j] Y2[j] rc1 rc2 kc1 kc2 ra1 ra2 ka1 ka2 W ((hs.below (h1.below.mono (gr_size hG))).mono (Nat.le_trans (gr_size hG) (gr_size h1))) ((hs'.below (h1.below.mono (gr_size hG))).mono (Nat.le_trans (gr_size hG) (gr_size h1))) ((ht.below (h1.below.mono (gr_size hG))).mono (Nat.le_trans (gr_size hG) (gr_size h1))) ((ht'.below (h1.below.mono (gr_size hG))).mono (Nat.le_trans (gr_size hG) (gr_size h1))) hsl.1 hsl.2.1
          clear hs hs' ht ht' hsl
          have hnx : X2[j] = Y2[j] → X2.take (j + 1) = Y2.take (j + 1) := fun h => by
            rw [List.take_succ_eq_append_getElem hlt, List.take_succ_eq_append_getElem hltm, hf, h]
          have hne : X2[j] ≠ Y2[j] → X2 ≠ Y2 := fun h e => h (by simp only [e])
          simp only at c0 c1 d0 d1
          generalize X2[j] = k at *
          generalize Y2[j] = m at *
          have KS : ∀ W, Gr wr W → W.cell? ⟨w.heap.size, 1, none⟩ = some (.slice (some ⟨b, off, none⟩) X2.length cc) ∧ W.cell? ⟨w.heap.size + 1, 1, none⟩ = some (.slice (some ⟨b', off', none⟩) Y2.length cc') ∧ W.cell? ⟨b, off + j * 2, none⟩ = some (.slice ra1 k.roots.length rc1) ∧ W.cell? ⟨b, off + j * 2 + 1, none⟩ = some (.slice ka1 k.code.length kc1) ∧ W.cell? ⟨b', off' + j * 2, none⟩ = some (.slice ra2 m.roots.length rc2) ∧ W.cell? ⟨b', off' + j * 2 + 1, none⟩ = some (.slice ka2 m.code.length kc2) := fun W hW => ⟨(hW.cell z0 1).trans (p0 1), (hW.cell z1 1).trans (p1 1), (hW.cell hb2 _).trans c0, (hW.cell hb2 _).trans c1, (hW.cell hb2' _).trans d0, (hW.cell hb2' _).trans d1⟩
          replace KS := Hid.mk KS
          replace hf := Hid.mk hf
          cases hq : PComp.eqB k m with
          | true =>
            replace hnx := Hid.mk (hnx ((PComp.eqB_iff k m).1 hq))
            rw [hq] at hc
            clear hne
            replace hq := Hid.mk hq
            replace hc := Hid.mk hc
            replace hG := Hid.mk hG
            go_wp2_with fail
            clear z0 p0 f0 z1 p1 f1 c0 c1 d0 d1 hb hb2 hb' hb2'
            have L1 := grow_cell; have L2 := grow_frozen; have L3 := grow_set; have L4 := grow_lt; have L5 := glt1; have L6 := glt2; have L7 := glt3; have L8 := glt4; have L9 := glt5; have L10 := glt6; have L11 := lt1; have L12 := lt2; have L13 := lt3; have L14 := lt4; have L15 := lt5; have L16 := lt6; have L17 := lt7; have L18 := lt8
            first | (go_region_held3 (fun W => W.cell? ⟨w.heap.size, 1, none⟩ = some (.slice (some ⟨b, off, none⟩) X2.length cc) ∧ W.cell? ⟨w.heap.size + 1, 1, none⟩ = some (.slice (some ⟨b', off', none⟩) Y2.length cc') ∧ W.cell? ⟨b, off + j * 2, none⟩ = some (.slice ra1 k.roots.length rc1) ∧ W.cell? ⟨b, off + j * 2 + 1, none⟩ = some (.slice ka1 k.code.length kc1) ∧ W.cell? ⟨b', off' + j * 2, none⟩ = some (.slice ra2 m.roots.length rc2) ∧ W.cell? ⟨b', off' + j * 2 + 1, none⟩ = some (.slice ka2 m.code.length kc2)) ((refine KS.out _ ?_; (with_reducible repeat (first | exact Gr.refl _ | refine Gr.alloc ?_ _ | refine Gr.grow ?_ _ | refine Gr.drew ?_ | refine Gr.setCell ?_ _ _ _ (gr_size ?_))))) (first | (go_at_call 21; refine (hc.out _ (by (with_reducible repeat (first | exact Gr.refl _ | refine Gr.alloc ?_ _ | refine Gr.grow ?_ _ | refine Gr.drew ?_ | refine Gr.setCell ?_ _ _ _ (gr_size ?_))))).mono ?_; rintro x w' ⟨rfl, hG⟩; (repeat (replace hG := Gr.of_grow hG)); obtain ⟨l, rfl⟩ := hG))) | fail
            all_goals
              clear KS hc
              go_wp2_with fail
              clear L1 L2 L3 L4 L5 L6 L7 L8 L9 L10 L11 L12 L13 L14 L15 L16 L17 L18
              go_roundw
              case rel => exact ⟨j + 1, by simp, by omega, ⟨hnx.out, hG.out.trans (by (with_reducible repeat (first | exact Gr.refl _ | refine Gr.alloc ?_ _ | refine Gr.grow ?_ _ | refine Gr.drew ?_ | refine Gr.setCell ?_ _ _ _ (gr_size ?_))))⟩⟩
              case measure => simp [intOf]; omega
          | false =>
            replace hne := Hid.mk (hne (fun h => by rw [(PComp.eqB_iff k m).2 h] at hq; cases hq))
            rw [hq] at hc
            clear hnx
            replace hq := Hid.mk hq
            replace hc := Hid.mk hc
            replace hG := Hid.mk hG
            go_wp2_with fail
            clear z0 p0 f0 z1 p1 f1 c0 c1 d0 d1 hb hb2 hb' hb2'
            have L1 := grow_cell; have L2 := grow_frozen; have L3 := grow_set; have L4 := grow_lt; have L5 := glt1; have L6 := glt2; have L7 := glt3; have L8 := glt4; have L9 := glt5; have L10 := glt6; have L11 := lt1; have L12 := lt2; have L13 := lt3; have L14 := lt4; have L15 := lt5; have L16 := lt6; have L17 := lt7; have L18 := lt8
            first | (go_region_held3 (fun W => W.cell? ⟨w.heap.size, 1, none⟩ = some (.slice (some ⟨b, off, none⟩) X2.length cc) ∧ W.cell? ⟨w.heap.size + 1, 1, none⟩ = some (.slice (some ⟨b', off', none⟩) Y2.length cc') ∧ W.cell? ⟨b, off + j * 2, none⟩ = some (.slice ra1 k.roots.length rc1) ∧ W.cell? ⟨b, off + j * 2 + 1, none⟩ = some (.slice ka1 k.code.length kc1) ∧ W.cell? ⟨b', off' + j * 2, none⟩ = some (.slice ra2 m.roots.length rc2) ∧ W.cell? ⟨b', off' + j * 2 + 1, none⟩ = some (.slice ka2 m.code.length kc2)) ((refine KS.out _ ?_; (with_reducible repeat (first | exact Gr.refl _ | refine Gr.alloc ?_ _ | refine Gr.grow ?_ _ | refine Gr.drew ?_ | refine Gr.setCell ?_ _ _ _ (gr_size ?_))))) (first | (go_at_call 21; refine (hc.out _ (by (with_reducible repeat (first | exact Gr.refl _ | refine Gr.alloc ?_ _ | refine Gr.grow ?_ _ | refine Gr.drew ?_ | refine Gr.setCell ?_ _ _ _ (gr_size ?_))))).mono ?_; rintro x w' ⟨rfl, hG⟩; (repeat (replace hG := Gr.of_grow hG)); obtain ⟨l, rfl⟩ := hG))) | fail
            all_goals
              clear KS hc
              go_wp2_with fail
              clear L1 L2 L3 L4 L5 L6 L7 L8 L9 L10 L11 L12 L13 L14 L15 L16 L17 L18
              go_ret
              exact ⟨eqb_no PImg.eqB_iff (fun e => hne.out (congrArg PImg.comps e)), hGR.out.trans (hG.out.trans (by (with_reducible repeat (first | exact Gr.refl _ | refine Gr.alloc ?_ _ | refine Gr.grow ?_ _ | refine Gr.drew ?_ | refine Gr.setCell ?_ _ _ _ (gr_size ?_)))))⟩
        · have jl : ¬ (j : Int) < X2.length := by omega
          have e1 : X2 = Y2 := by
            rw [List.take_of_length_le (by omega), List.take_of_length_le (by have := h2.out; omega)] at hf
            exact hf
          replace e1 := Hid.mk e1
          clear hf hlt hj
          replace hG := Hid.mk hG
          go_wp2_with fail
          clear BA BB z0 p0 f0 z1 p1 f1 jl
          have BA := BA1
          have BB := BB1
          clear BA1 BB1
          replace hX := Hid.mk ((hX.out.below hG.out.below).mono (gr_size hG.out))
          replace hY := Hid.mk ((hY.out.below hG.out.below).mono (gr_size hG.out))
          replace hGR := Hid.mk (hGR.out.trans hG.out)
          clear hG
          generalize wr = R2 at *
          go_loopw [9] (fun i wr => ∃ j : Nat, i = .int .i64 j ∧ j ≤ X3.length ∧ Hid (X3.take j = Y3.take j ∧ Gr R2 wr)) (fun i _ => X3.length - (intOf i).toNat)
          case atStart => exact ⟨0, rfl, by omega, ⟨rfl, Gr.refl _⟩⟩
          case round =>
            obtain ⟨j, rfl, hj, ⟨hf, hG⟩⟩ := hrel
            have BA1 := BA.out.gr hG
            have BB1 := BB.out.gr hG
            have ⟨z0, p0, f0⟩ := BA1.at
            have ⟨z1, p1, f1⟩ := BB1.at
            replace BA1 := Hid.mk BA1
            replace BB1 := Hid.mk BB1
            by_cases hlt : j < X3.length
            · have jl : (j : Int) < X3.length := by omega
              have hltm : j < Y3.length := by have := h3.out; omega
              have jm : (j : Int) < Y3.length := by omega
              obtain ⟨b, off, xa, xc, ya, yc, rfl, hb, hb2, c0, c1, c2, c3, hs, ht⟩ := (hX.out.below hG.below).gates j hlt
              obtain ⟨b', off', xa', xc', ya', yc', rfl, hb', hb2', d0, d1, d2, d3, hs', ht'⟩ := (hY.out.below hG.below).gates j hltm
              have hsl := hr.out.gates.2 X3[j] (List.getElem_mem hlt)
              have hc1 := fun W (h1 : Gr wr W) => sameTypes_any X3[j].args Y3[j].args xc xc' xa xa' W ((hs.below (h1.below.mono (gr_size hG))).mono (Nat.le_trans (gr_size hG) (gr_size h1))) ((hs'.below (h1.below.mono (gr_size hG))).mono (Nat.le_trans (gr_size hG) (gr_size h1))) hsl.2.2.1
              have hc2 := fun W (h1 : Gr wr W) => sameTypes_any X3[j].res Y3[j].res yc yc' ya ya' W ((ht.below (h1.below.mono (gr_size hG))).mono (Nat.le_trans (gr_size hG) (gr_size h1))) ((ht'.below (h1.below.mono (gr_size hG))).mono (Nat.le_trans (gr_size hG) (gr_size h1))) hsl.2.2.2.1
              clear hs hs' ht ht' hsl
              have hnx : X3[j] = Y3[j] → X3.take (j + 1) = Y3.take (j + 1) := fun h => by
                rw [List.take_succ_eq_append_getElem hlt, List.take_succ_eq_append_getElem hltm, hf, h]
              have hne : X3[j] ≠ Y3[j] → X3 ≠ Y3 := fun h e => h (by simp only [e])
              simp only at c0 c1 c2 c3 d0 d1 d2 d3
              generalize X3[j] = k at *
              generalize Y3[j] = m at *
              replace hf := Hid.mk hf
              replace hG := Hid.mk hG
              by_cases hkm : k = m
              · subst hkm
                rw [(eqL_iff PTyp.eqB_iff k.args k.args).2 rfl] at hc1
                rw [(eqL_iff PTyp.eqB_iff k.res k.res).2 rfl] at hc2
                replace hnx := Hid.mk (hnx rfl)
                clear hne
                have hGx : Gr wr ((wr.alloc (.cells #[.int .i64 k.c, .int .i64 k.e, .slice xa k.args.length xc, .slice ya k.res.length yc] 61)).alloc (.cells #[.int .i64 k.c, .int .i64 k.e, .slice xa' k.args.length xc', .slice ya' k.res.length yc'] 61)) := ((Gr.refl wr).alloc _).alloc _
                have KX : Box ((wr.alloc (.cells #[.int .i64 k.c, .int .i64 k.e, .slice xa k.args.length xc, .slice ya k.res.length yc] 61)).alloc (.cells #[.int .i64 k.c, .int .i64 k.e, .slice xa' k.args.length xc', .slice ya' k.res.length yc'] 61)) wr.heap.size #[.int .i64 k.c, .int .i64 k.e, .slice xa k.args.length xc, .slice ya k.res.length yc] 61 := (Box.new wr _ _).alloc _
                have KY : Box ((wr.alloc (.cells #[.int .i64 k.c, .int .i64 k.e, .slice xa k.args.length xc, .slice ya k.res.length yc] 61)).alloc (.cells #[.int .i64 k.c, .int .i64 k.e, .slice xa' k.args.length xc', .slice ya' k.res.length yc'] 61)) (wr.heap.size + 1) #[.int .i64 k.c, .int .i64 k.e, .slice xa' k.args.length xc', .slice ya' k.res.length yc'] 61 := Box.next _ _ _ _
                replace KX := Hid.mk KX
                replace KY := Hid.mk KY
                replace hGx := Hid.mk hGx
                replace hc1 := Hid.mk hc1
                replace hc2 := Hid.mk hc2
                go_wp2_with fail
                clear z0 p0 f0 z1 p1 f1 c0 c1 c2 c3 d0 d1 d2 d3
                refine (hc1.out _ hGx.out).mono ?_
                rintro z w1 ⟨rfl, hG1⟩
                replace KX := KX.out.gr hG1
                replace KY := KY.out.gr hG1
                replace hGx := Hid.mk (hGx.out.trans hG1)
                have ⟨z0, p0, f0⟩ := KX.at
                have ⟨z1, p1, f1⟩ := KY.at
                replace KX := Hid.mk KX
                replace KY := Hid.mk KY
                clear hG1 hc1
                go_wp2_with fail
                clear z0 p0 f0 z1 p1 f1
                refine (hc2.out _ hGx.out).mono ?_
                rintro z w2 ⟨rfl, hG1⟩
                replace KX := KX.out.gr hG1
                replace KY := KY.out.gr hG1
                replace hGx := Hid.mk (hGx.out.trans hG1)
                have ⟨z0, p0, f0⟩ := KX.at
                have ⟨z1, p1, f1⟩ := KY.at
                replace KX := Hid.mk KX
                replace KY := Hid.mk KY
                clear hG1 hc2
                go_wp2_with fail
                go_roundw
                case rel => exact ⟨j + 1, by simp, by omega, ⟨hnx.out, hG.out.trans hGx.out⟩⟩
                case measure => simp [intOf]; omega
              replace hne := Hid.mk (hne hkm)
              clear hnx
              by_cases q0 : k.c = m.c
              case neg =>
                have q0' : (k.c != m.c) = true := by simpa using q0
                replace q0 := Hid.mk q0
                replace hkm := Hid.mk hkm
                have hGx : Gr wr ((wr.alloc (.cells #[.int .i64 k.c, .int .i64 k.e, .slice xa k.args.length xc, .slice ya k.res.length yc] 61)).alloc (.cells #[.int .i64 m.c, .int .i64 m.e, .slice xa' m.args.length xc', .slice ya' m.res.length yc'] 61)) := ((Gr.refl wr).alloc _).alloc _
                have KX : Box ((wr.alloc (.cells #[.int .i64 k.c, .int .i64 k.e, .slice xa k.args.length xc, .slice ya k.res.length yc] 61)).alloc (.cells #[.int .i64 m.c, .int .i64 m.e, .slice xa' m.args.length xc', .slice ya' m.res.length yc'] 61)) wr.heap.size #[.int .i64 k.c, .int .i64 k.e, .slice xa k.args.length xc, .slice ya k.res.length yc] 61 := (Box.new wr _ _).alloc _
                have KY : Box ((wr.alloc (.cells #[.int .i64 k.c, .int .i64 k.e, .slice xa k.args.length xc, .slice ya k.res.length yc] 61)).alloc (.cells #[.int .i64 m.c, .int .i64 m.e, .slice xa' m.args.length xc', .slice ya' m.res.length yc'] 61)) (wr.heap.size + 1) #[.int .i64 m.c, .int .i64 m.e, .slice xa' m.args.length xc', .slice ya' m.res.length yc'] 61 := Box.next _ _ _ _
                replace KX := Hid.mk KX
                replace KY := Hid.mk KY
                replace hGx := Hid.mk hGx
                replace hc1 := Hid.mk hc1
                replace hc2 := Hid.mk hc2
                go_wp2_with fail
                clear z0 p0 f0 z1 p1 f1 c0 c1 c2 c3 d0 d1 d2 d3
                refine (hc1.out _ hGx.out).mono ?_
                rintro z w1 ⟨rfl, hG1⟩
                replace KX := KX.out.gr hG1
                replace KY := KY.out.gr hG1
                replace hGx := Hid.mk (hGx.out.trans hG1)
                have ⟨z0, p0, f0⟩ := KX.at
                have ⟨z1, p1, f1⟩ := KY.at
                replace KX := Hid.mk KX
                replace KY := Hid.mk KY
                clear hG1 hc1
                go_wp2_with fail
                clear z0 p0 f0 z1 p1 f1
                refine (hc2.out _ hGx.out).mono ?_
                rintro z w2 ⟨rfl, hG1⟩
                replace KX := KX.out.gr hG1
                replace KY := KY.out.gr hG1
                replace hGx := Hid.mk (hGx.out.trans hG1)
                have ⟨z0, p0, f0⟩ := KX.at
                have ⟨z1, p1, f1⟩ := KY.at
                replace KX := Hid.mk KX
                replace KY := Hid.mk KY
                clear hG1 hc2
                go_wp2_with fail
                go_ret
                exact ⟨eqb_no PImg.eqB_iff (fun e => hne.out (congrArg PImg.gates e)), hGR.out.trans (hG.out.trans hGx.out)⟩
              have q0' : (k.c != m.c) = false := by simpa using q0
              by_cases q1 : k.e = m.e
              case neg =>
                have q1' : (k.e != m.e) = true := by simpa using q1
                replace q0 := Hid.mk q0
                replace q1 := Hid.mk q1
                replace hkm := Hid.mk hkm
                have hGx : Gr wr ((wr.alloc (.cells #[.int .i64 k.c, .int .i64 k.e, .slice xa k.args.length xc, .slice ya k.res.length yc] 61)).alloc (.cells #[.int .i64 m.c, .int .i64 m.e, .slice xa' m.args.length xc', .slice ya' m.res.length yc'] 61)) := ((Gr.refl wr).alloc _).alloc _
                have KX : Box ((wr.alloc (.cells #[.int .i64 k.c, .int .i64 k.e, .slice xa k.args.length xc, .slice ya k.res.length yc] 61)).alloc (.cells #[.int .i64 m.c, .int .i64 m.e, .slice xa' m.args.length xc', .slice ya' m.res.length yc'] 61)) wr.heap.size #[.int .i64 k.c, .int .i64 k.e, .slice xa k.args.length xc, .slice ya k.res.length yc] 61 := (Box.new wr _ _).alloc _
                have KY : Box ((wr.alloc (.cells #[.int .i64 k.c, .int .i64 k.e, .slice xa k.args.length xc, .slice ya k.res.length yc] 61)).alloc (.cells #[.int .i64 m.c, .int .i64 m.e, .slice xa' m.args.length xc', .slice ya' m.res.length yc'] 61)) (wr.heap.size + 1) #[.int .i64 m.c, .int .i64 m.e, .slice xa' m.args.length xc', .slice ya' m.res.length yc'] 61 := Box.next _ _ _ _
                replace KX := Hid.mk KX
                replace KY := Hid.mk KY
                replace hGx := Hid.mk hGx
                replace hc1 := Hid.mk hc1
                replace hc2 := Hid.mk hc2
                go_wp2_with fail
                clear z0 p0 f0 z1 p1 f1 c0 c1 c2 c3 d0 d1 d2 d3
                refine (hc1.out _ hGx.out).mono ?_
                rintro z w1 ⟨rfl, hG1⟩
                replace KX := KX.out.gr hG1
                replace KY := KY.out.gr hG1
                replace hGx := Hid.mk (hGx.out.trans hG1)
                have ⟨z0, p0, f0⟩ := KX.at
                have ⟨z1, p1, f1⟩ := KY.at
                replace KX := Hid.mk KX
                replace KY := Hid.mk KY
                clear hG1 hc1
                go_wp2_with fail
                clear z0 p0 f0 z1 p1 f1
                refine (hc2.out _ hGx.out).mono ?_
                rintro z w2 ⟨rfl, hG1⟩
                replace KX := KX.out.gr hG1
                replace KY := KY.out.gr hG1
                replace hGx := Hid.mk (hGx.out.trans hG1)
                have ⟨z0, p0, f0⟩ := KX.at
                have ⟨z1, p1, f1⟩ := KY.at
                replace KX := Hid.mk KX
                replace KY := Hid.mk KY
                clear hG1 hc2
                go_wp2_with fail
                go_ret
                exact ⟨eqb_no PImg.eqB_iff (fun e => hne.out (congrArg PImg.gates e)), hGR.out.trans (hG.out.trans hGx.out)⟩
              have q1' : (k.e != m.e) = false := by simpa using q1
              cases q2 : eqL PTyp.eqB k.args m.args with
              | false =>
                rw [q2] at hc1
                replace q0 := Hid.mk q0
                replace q1 := Hid.mk q1
                replace q2 := Hid.mk q2
                replace hkm := Hid.mk hkm
                have hGx : Gr wr ((wr.alloc (.cells #[.int .i64 k.c, .int .i64 k.e, .slice xa k.args.length xc, .slice ya k.res.length yc] 61)).alloc (.cells #[.int .i64 m.c, .int .i64 m.e, .slice xa' m.args.length xc', .slice ya' m.res.length yc'] 61)) := ((Gr.refl wr).alloc _).alloc _
                have KX : Box ((wr.alloc (.cells #[.int .i64 k.c, .int .i64 k.e, .slice xa k.args.length xc, .slice ya k.res.length yc] 61)).alloc (.cells #[.int .i64 m.c, .int .i64 m.e, .slice xa' m.args.length xc', .slice ya' m.res.length yc'] 61)) wr.heap.size #[.int .i64 k.c, .int .i64 k.e, .slice xa k.args.length xc, .slice ya k.res.length yc] 61 := (Box.new wr _ _).alloc _
                have KY : Box ((wr.alloc (.cells #[.int .i64 k.c, .int .i64 k.e, .slice xa k.args.length xc, .slice ya k.res.length yc] 61)).alloc (.cells #[.int .i64 m.c, .int .i64 m.e, .slice xa' m.args.length xc', .slice ya' m.res.length yc'] 61)) (wr.heap.size + 1) #[.int .i64 m.c, .int .i64 m.e, .slice xa' m.args.length xc', .slice ya' m.res.length yc'] 61 := Box.next _ _ _ _
                replace KX := Hid.mk KX
                replace KY := Hid.mk KY
                replace hGx := Hid.mk hGx
                replace hc1 := Hid.mk hc1
                replace hc2 := Hid.mk hc2
                go_wp2_with fail
                clear z0 p0 f0 z1 p1 f1 c0 c1 c2 c3 d0 d1 d2 d3
                refine (hc1.out _ hGx.out).mono ?_
                rintro z w1 ⟨rfl, hG1⟩
                replace KX := KX.out.gr hG1
                replace KY := KY.out.gr hG1
                replace hGx := Hid.mk (hGx.out.trans hG1)
                have ⟨z0, p0, f0⟩ := KX.at
                have ⟨z1, p1, f1⟩ := KY.at
                replace KX := Hid.mk KX
                replace KY := Hid.mk KY
                clear hG1 hc1
                go_wp2_with fail
                clear z0 p0 f0 z1 p1 f1
                refine (hc2.out _ hGx.out).mono ?_
                rintro z w2 ⟨rfl, hG1⟩
                replace KX := KX.out.gr hG1
                replace KY := KY.out.gr hG1
                replace hGx := Hid.mk (hGx.out.trans hG1)
                have ⟨z0, p0, f0⟩ := KX.at
                have ⟨z1, p1, f1⟩ := KY.at
                replace KX := Hid.mk KX
                replace KY := Hid.mk KY
                clear hG1 hc2
                go_wp2_with fail
                go_ret
                exact ⟨eqb_no PImg.eqB_iff (fun e => hne.out (congrArg PImg.gates e)), hGR.out.trans (hG.out.trans hGx.out)⟩
              | true =>
                have q3 : eqL PTyp.eqB k.res m.res = false := by
                  cases h : eqL PTyp.eqB k.res m.res with
                  | false => rfl
                  | true => exact absurd ((PGate.eqB_iff k m).1 (by simp [PGate.eqB, q0, q1, q2, h])) hkm
                rw [q2] at hc1
                rw [q3] at hc2
                replace q0 := Hid.mk q0
                replace q1 := Hid.mk q1
                replace q2 := Hid.mk q2
                replace q3 := Hid.mk q3
                replace hkm := Hid.mk hkm
                have hGx : Gr wr ((wr.alloc (.cells #[.int .i64 k.c, .int .i64 k.e, .slice xa k.args.length xc, .slice ya k.res.length yc] 61)).alloc (.cells #[.int .i64 m.c, .int .i64 m.e, .slice xa' m.args.length xc', .slice ya' m.res.length yc'] 61)) := ((Gr.refl wr).alloc _).alloc _
                have KX : Box ((wr.alloc (.cells #[.int .i64 k.c, .int .i64 k.e, .slice xa k.args.length xc, .slice ya k.res.length yc] 61)).alloc (.cells #[.int .i64 m.c, .int .i64 m.e, .slice xa' m.args.length xc', .slice ya' m.res.length yc'] 61)) wr.heap.size #[.int .i64 k.c, .int .i64 k.e, .slice xa k.args.length xc, .slice ya k.res.length yc] 61 := (Box.new wr _ _).alloc _
                have KY : Box ((wr.alloc (.cells #[.int .i64 k.c, .int .i64 k.e, .slice xa k.args.length xc, .slice ya k.res.length yc] 61)).alloc (.cells #[.int .i64 m.c, .int .i64 m.e, .slice xa' m.args.length xc', .slice ya' m.res.length yc'] 61)) (wr.heap.size + 1) #[.int .i64 m.c, .int .i64 m.e, .slice xa' m.args.length xc', .slice ya' m.res.length yc'] 61 := Box.next _ _ _ _
                replace KX := Hid.mk KX
                replace KY := Hid.mk KY
                replace hGx := Hid.mk hGx
                replace hc1 := Hid.mk hc1
                replace hc2 := Hid.mk hc2
                go_wp2_with fail
                clear z0 p0 f0 z1 p1 f1 c0 c1 c2 c3 d0 d1 d2 d3
                refine (hc1.out _ hGx.out).mono ?_
                rintro z w1 ⟨rfl, hG1⟩
                replace KX := KX.out.gr hG1
                replace KY := KY.out.gr hG1
                replace hGx := Hid.mk (hGx.out.trans hG1)
                have ⟨z0, p0, f0⟩ := KX.at
                have ⟨z1, p1, f1⟩ := KY.at
                replace KX := Hid.mk KX
                replace KY := Hid.mk KY
                clear hG1 hc1
                go_wp2_with fail
                clear z0 p0 f0 z1 p1 f1
                refine (hc2.out _ hGx.out).mono ?_
                rintro z w2 ⟨rfl, hG1⟩
                replace KX := KX.out.gr hG1
                replace KY := KY.out.gr hG1
                replace hGx := Hid.mk (hGx.out.trans hG1)
                have ⟨z0, p0, f0⟩ := KX.at
                have ⟨z1, p1, f1⟩ := KY.at
                replace KX := Hid.mk KX
                replace KY := Hid.mk KY
                clear hG1 hc2
                go_wp2_with fail
                go_ret
                exact ⟨eqb_no PImg.eqB_iff (fun e => hne.out (congrArg PImg.gates e)), hGR.out.trans (hG.out.trans hGx.out)⟩
            · have jl : ¬ (j : Int) < X3.length := by omega
              have e3 : X3 = Y3 := by
                rw [List.take_of_length_le (by omega), List.take_of_length_le (by have := h3.out; omega)] at hf
                exact hf
              replace e3 := Hid.mk e3
              clear hf hlt hj
              replace hG := Hid.mk hG
              go_wp2_with fail
              go_ret
              exact ⟨eqb_yes PImg.eqB_iff (by rw [e0.out, e1.out, e3.out, h4.out]), hGR.out.trans hG.out⟩
end Go.Proofs.YtdmkedpnkejpbaaDoor
