import Derived.Test.YthmfaafpdogpdabDoorP18
import Derived.Deep.RegionHeld3
import Derived.Test.YthmfaafpdogpdabDoorP03
import Derived.Test.YthmfaafpdogpdabDoorChecked
import Derived.Shelf.Strconv.Clone
import Derived.Test.YthmfaafpdogpdabDoorP16
/-
  Stage 4, image: two programs, compared, as the document has it.
-/
namespace Go.Proofs.YthmfaafpdogpdabDoor
open Go.RowKit

set_option maxRecDepth 10000 in
set_option maxHeartbeats 8000000 in
theorem same_any (x y : PImg) (ra ca ga ra' ca' ga' : Option Addr) (rc cc gc rc' cc' gc' : Nat) (w : World) (hX : ImgIn w.heap.size w ra ca ga x) (hY : ImgIn w.heap.size w ra' ca' ga' y) (hr : x.Rng) :
    Calls Tryd.prog 12 #[.agg #[.slice ra x.regs.length rc, .slice ca x.comps.length cc, .slice ga x.gates.length gc, .int .i64 x.depth], .agg #[.slice ra' y.regs.length rc', .slice ca' y.comps.length cc', .slice ga' y.gates.length gc', .int .i64 y.depth]] w fun r w' => r = .returned (.bool (x.eqB y)) ∧ Gr w w' := by
  obtain ⟨X1, X2, X3, dx⟩ := x
  obtain ⟨Y1, Y2, Y3, dy⟩ := y
  simp only at *
  have hl1 : (X1.length : Int) ≤ 140737488355328 := by have := hr.regs.1; simp only at this; unfold maxG at this; omega
  have hl2 : (X2.length : Int) ≤ 140737488355328 := by have := hr.comps.1; simp only at this; unfold maxG at this; omega
  have hl3 : (X3.length : Int) ≤ 140737488355328 := by have := hr.gates.1; simp only at this; unfold maxG at this; omega
  replace hX := Hid.mk hX
  replace hY := Hid.mk hY
  replace hr := Hid.mk hr
  by_cases h1 : X1.length = Y1.length
  case neg =>
    have g1 : ((X1.length : Int) != Y1.length) = true := by simp; omega
    have e : X1 ≠ Y1 := fun e => h1 (by rw [e])
    replace h1 := Hid.mk h1
    replace e := Hid.mk e
    go_enter Tryd.func12, Tryd.ntmps12
    go_wp2_with fail
    go_ret
    exact ⟨eqb_no PImg.eqB_iff (fun q => e.out (congrArg PImg.regs q)), ((Gr.refl w).alloc _).alloc _⟩
  have g1 : ((X1.length : Int) != Y1.length) = false := by simp; omega
  replace h1 := Hid.mk h1
  by_cases h2 : X2.length = Y2.length
  case neg =>
    have g2 : ((X2.length : Int) != Y2.length) = true := by simp; omega
    have e : X2 ≠ Y2 := fun e => h2 (by rw [e])
    replace h2 := Hid.mk h2
    replace e := Hid.mk e
    go_enter Tryd.func12, Tryd.ntmps12
    go_wp2_with fail
    go_ret
    exact ⟨eqb_no PImg.eqB_iff (fun q => e.out (congrArg PImg.comps q)), ((Gr.refl w).alloc _).alloc _⟩
  have g2 : ((X2.length : Int) != Y2.length) = false := by simp; omega
  replace h2 := Hid.mk h2
  by_cases h3 : X3.length = Y3.length
  case neg =>
    have g3 : ((X3.length : Int) != Y3.length) = true := by simp; omega
    have e : X3 ≠ Y3 := fun e => h3 (by rw [e])
    replace h3 := Hid.mk h3
    replace e := Hid.mk e
    go_enter Tryd.func12, Tryd.ntmps12
    go_wp2_with fail
    go_ret
    exact ⟨eqb_no PImg.eqB_iff (fun q => e.out (congrArg PImg.gates q)), ((Gr.refl w).alloc _).alloc _⟩
  have g3 : ((X3.length : Int) != Y3.length) = false := by simp; omega
  replace h3 := Hid.mk h3
  by_cases h4 : dx = dy
  case neg =>
    have g4 : (dx != dy) = true := by simpa using h4
    replace h4 := Hid.mk h4
    go_enter Tryd.func12, Tryd.ntmps12
    go_wp2_with fail
    go_ret
    exact ⟨eqb_no PImg.eqB_iff (fun q => h4.out (congrArg PImg.depth q)), ((Gr.refl w).alloc _).alloc _⟩
  have g4 : (dx != dy) = false := by simpa using h4
  replace h4 := Hid.mk h4
  have hGR : Gr w ((w.alloc (.cells #[.slice ra X1.length rc, .slice ca X2.length cc, .slice ga X3.length gc, .int .i64 dx] 26)).alloc (.cells #[.slice ra' Y1.length rc', .slice ca' Y2.length cc', .slice ga' Y3.length gc', .int .i64 dy] 26)) := ((Gr.refl w).alloc _).alloc _
  have BA : Box ((w.alloc (.cells #[.slice ra X1.length rc, .slice ca X2.length cc, .slice ga X3.length gc, .int .i64 dx] 26)).alloc (.cells #[.slice ra' Y1.length rc', .slice ca' Y2.length cc', .slice ga' Y3.length gc', .int .i64 dy] 26)) w.heap.size #[.slice ra X1.length rc, .slice ca X2.length cc, .slice ga X3.length gc, .int .i64 dx] 26 := (Box.new w _ _).alloc _
  have BB : Box ((w.alloc (.cells #[.slice ra X1.length rc, .slice ca X2.length cc, .slice ga X3.length gc, .int .i64 dx] 26)).alloc (.cells #[.slice ra' Y1.length rc', .slice ca' Y2.length cc', .slice ga' Y3.length gc', .int .i64 dy] 26)) (w.heap.size + 1) #[.slice ra' Y1.length rc', .slice ca' Y2.length cc', .slice ga' Y3.length gc', .int .i64 dy] 26 := Box.next _ _ _ _
  replace hGR := Hid.mk hGR
  replace BA := Hid.mk BA
  replace BB := Hid.mk BB
  go_enter Tryd.func12, Tryd.ntmps12
  go_wp2_with fail
  generalize (w.alloc (.cells #[.slice ra X1.length rc, .slice ca X2.length cc, .slice ga X3.length gc, .int .i64 dx] 26)).alloc (.cells #[.slice ra' Y1.length rc', .slice ca' Y2.length cc', .slice ga' Y3.length gc', .int .i64 dy] 26) = R0 at *
  replace hX := Hid.mk ((hX.out.below hGR.out.below).mono (gr_size hGR.out))
  replace hY := Hid.mk ((hY.out.below hGR.out.below).mono (gr_size hGR.out))
  clear g1 g2 g3 g4
  go_loopw [5] (fun i wr => ∃ j : Nat, i = .int .i64 j ∧ j ≤ X1.length ∧ Hid (X1.take j = Y1.take j ∧ Gr R0 wr)) (fun i _ => X1.length - (intOf i).toNat)
  case atStart => exact ⟨0, rfl, by omega, ⟨rfl, Gr.refl _⟩⟩
  case round =>
    obtain ⟨j, rfl, hj, ⟨hf, hG⟩⟩ := hrel
    have BA1 := BA.out.gr hG
    have BB1 := BB.out.gr hG
    have ⟨z0, p0, f0⟩ := BA1.at
    have ⟨z1, p1, f1⟩ := BB1.at
    replace BA1 := Hid.mk BA1
    replace BB1 := Hid.mk BB1
    by_cases hlt : j < X1.length
    · have jl : (j : Int) < X1.length := by omega
      have hltm : j < Y1.length := by have := h1.out; omega
      have jm : (j : Int) < Y1.length := by omega
      obtain ⟨b, off, sa, sc, rfl, hb, hb2, c0, c1, c2, c3, hs⟩ := (hX.out.below hG.below).regs j hlt
      obtain ⟨b', off', sa', sc', rfl, hb', hb2', d0, d1, d2, d3, hs'⟩ := (hY.out.below hG.below).regs j hltm
      have hsl := (hr.out.regs.2 X1[j] (List.getElem_mem hlt)).2.2.2.1
      have hc := fun W (h1 : Gr wr W) => sameRegion_any X1[j] Y1[j] sc sc' sa sa' W ((hs.below (h1.below.mono (gr_size hG))).mono (Nat.le_trans (gr_size hG) (gr_size h1))) ((hs'.below (h1.below.mono (gr_size hG))).mono (Nat.le_trans (gr_size hG) (gr_size h1))) hsl
      clear hs hs' hsl
      have hnx : X1[j] = Y1[j] → X1.take (j + 1) = Y1.take (j + 1) := fun h => by
        rw [List.take_succ_eq_append_getElem hlt, List.take_succ_eq_append_getElem hltm, hf, h]
      have hne : X1[j] ≠ Y1[j] → X1 ≠ Y1 := fun h e => h (by simp only [e])
      simp only at c0 c1 c2 c3 d0 d1 d2 d3
      generalize X1[j] = k at *
      generalize Y1[j] = m at *
      have KS : ∀ W, Gr wr W → W.cell? ⟨w.heap.size, 0, none⟩ = some (.slice (some ⟨b, off, none⟩) X1.length rc) ∧ W.cell? ⟨w.heap.size + 1, 0, none⟩ = some (.slice (some ⟨b', off', none⟩) Y1.length rc') ∧ W.cell? ⟨b, off + j * 4, none⟩ = some (.int .u64 k.b) ∧ W.cell? ⟨b, off + j * 4 + 1, none⟩ = some (.int .u64 k.n) ∧ W.cell? ⟨b, off + j * 4 + 1 + 1, none⟩ = some (.string (str k.data)) ∧ W.cell? ⟨b, off + j * 4 + 1 + 1 + 1, none⟩ = some (.slice sa k.slots.length sc) ∧ W.cell? ⟨b', off' + j * 4, none⟩ = some (.int .u64 m.b) ∧ W.cell? ⟨b', off' + j * 4 + 1, none⟩ = some (.int .u64 m.n) ∧ W.cell? ⟨b', off' + j * 4 + 1 + 1, none⟩ = some (.string (str m.data)) ∧ W.cell? ⟨b', off' + j * 4 + 1 + 1 + 1, none⟩ = some (.slice sa' m.slots.length sc') := fun W hW => ⟨(hW.cell z0 0).trans (p0 0), (hW.cell z1 0).trans (p1 0), (hW.cell hb2 _).trans c0, (hW.cell hb2 _).trans c1, (hW.cell hb2 _).trans c2, (hW.cell hb2 _).trans c3, (hW.cell hb2' _).trans d0, (hW.cell hb2' _).trans d1, (hW.cell hb2' _).trans d2, (hW.cell hb2' _).trans d3⟩
      replace KS := Hid.mk KS
      replace hf := Hid.mk hf
      cases hq : PReg.eqB k m with
      | true =>
        replace hnx := Hid.mk (hnx ((PReg.eqB_iff k m).1 hq))
        rw [hq] at hc
        clear hne
        replace hq := Hid.mk hq
        replace hc := Hid.mk hc
        replace hG := Hid.mk hG
        go_wp2_with fail
        clear z0 p0 f0 z1 p1 f1 c0 c1 c2 c3 d0 d1 d2 d3 hb hb2 hb' hb2'
        have L1 := grow_cell; have L2 := grow_frozen; have L3 := grow_set; have L4 := grow_lt; have L5 := glt1; have L6 := glt2; have L7 := glt3; have L8 := glt4; have L9 := glt5; have L10 := glt6; have L11 := lt1; have L12 := lt2; have L13 := lt3; have L14 := lt4; have L15 := lt5; have L16 := lt6; have L17 := lt7; have L18 := lt8
        first | (go_region_held3 (fun W => W.cell? ⟨w.heap.size, 0, none⟩ = some (.slice (some ⟨b, off, none⟩) X1.length rc) ∧ W.cell? ⟨w.heap.size + 1, 0, none⟩ = some (.slice (some ⟨b', off', none⟩) Y1.length rc') ∧ W.cell? ⟨b, off + j * 4, none⟩ = some (.int .u64 k.b) ∧ W.cell? ⟨b, off + j * 4 + 1, none⟩ = some (.int .u64 k.n) ∧ W.cell? ⟨b, off + j * 4 + 1 + 1, none⟩ = some (.string (str k.data)) ∧ W.cell? ⟨b, off + j * 4 + 1 + 1 + 1, none⟩ = some (.slice sa k.slots.length sc) ∧ W.cell? ⟨b', off' + j * 4, none⟩ = some (.int .u64 m.b) ∧ W.cell? ⟨b', off' + j * 4 + 1, none⟩ = some (.int .u64 m.n) ∧ W.cell? ⟨b', off' + j * 4 + 1 + 1, none⟩ = some (.string (str m.data)) ∧ W.cell? ⟨b', off' + j * 4 + 1 + 1 + 1, none⟩ = some (.slice sa' m.slots.length sc')) ((refine KS.out _ ?_; (with_reducible repeat (first | exact Gr.refl _ | refine Gr.alloc ?_ _ | refine Gr.grow ?_ _ | refine Gr.drew ?_ | refine Gr.setCell ?_ _ _ _ (gr_size ?_))))) (first | (go_at_call 32; refine (hc.out _ (by (with_reducible repeat (first | exact Gr.refl _ | refine Gr.alloc ?_ _ | refine Gr.grow ?_ _ | refine Gr.drew ?_ | refine Gr.setCell ?_ _ _ _ (gr_size ?_))))).mono ?_; rintro x w' ⟨rfl, hG⟩; (repeat (replace hG := Gr.of_grow hG)); obtain ⟨l, rfl⟩ := hG))) | fail
        all_goals
          clear KS hc
          go_wp2_with fail
          clear L1 L2 L3 L4 L5 L6 L7 L8 L9 L10 L11 L12 L13 L14 L15 L16 L17 L18
          go_roundw
          case rel => exact ⟨j + 1, by simp, by omega, ⟨hnx.out, hG.out.trans (by (with_reducible repeat (first | exact Gr.refl _ | refine Gr.alloc ?_ _ | refine Gr.grow ?_ _ | refine Gr.drew ?_ | refine Gr.setCell ?_ _ _ _ (gr_size ?_))))⟩⟩
          case measure => simp [intOf]; omega
      | false =>
        replace hne := Hid.mk (hne (fun h => by rw [(PReg.eqB_iff k m).2 h] at hq; cases hq))
        rw [hq] at hc
        clear hnx
        replace hq := Hid.mk hq
        replace hc := Hid.mk hc
        replace hG := Hid.mk hG
        go_wp2_with fail
        clear z0 p0 f0 z1 p1 f1 c0 c1 c2 c3 d0 d1 d2 d3 hb hb2 hb' hb2'
        have L1 := grow_cell; have L2 := grow_frozen; have L3 := grow_set; have L4 := grow_lt; have L5 := glt1; have L6 := glt2; have L7 := glt3; have L8 := glt4; have L9 := glt5; have L10 := glt6; have L11 := lt1; have L12 := lt2; have L13 := lt3; have L14 := lt4; have L15 := lt5; have L16 := lt6; have L17 := lt7; have L18 := lt8
        first | (go_region_held3 (fun W => W.cell? ⟨w.heap.size, 0, none⟩ = some (.slice (some ⟨b, off, none⟩) X1.length rc) ∧ W.cell? ⟨w.heap.size + 1, 0, none⟩ = some (.slice (some ⟨b', off', none⟩) Y1.length rc') ∧ W.cell? ⟨b, off + j * 4, none⟩ = some (.int .u64 k.b) ∧ W.cell? ⟨b, off + j * 4 + 1, none⟩ = some (.int .u64 k.n) ∧ W.cell? ⟨b, off + j * 4 + 1 + 1, none⟩ = some (.string (str k.data)) ∧ W.cell? ⟨b, off + j * 4 + 1 + 1 + 1, none⟩ = some (.slice sa k.slots.length sc) ∧ W.cell? ⟨b', off' + j * 4, none⟩ = some (.int .u64 m.b) ∧ W.cell? ⟨b', off' + j * 4 + 1, none⟩ = some (.int .u64 m.n) ∧ W.cell? ⟨b', off' + j * 4 + 1 + 1, none⟩ = some (.string (str m.data)) ∧ W.cell? ⟨b', off' + j * 4 + 1 + 1 + 1, none⟩ = some (.slice sa' m.slots.length sc')) ((refine KS.out _ ?_; (with_reducible repeat (first | exact Gr.refl _ | refine Gr.alloc ?_ _ | refine Gr.grow ?_ _ | refine Gr.drew ?_ | refine Gr.setCell ?_ _ _ _ (gr_size ?_))))) (first | (go_at_call 32; refine (hc.out _ (by (with_reducible repeat (first | exact Gr.refl _ | refine Gr.alloc ?_ _ | refine Gr.grow ?_ _ | refine Gr.drew ?_ | refine Gr.setCell ?_ _ _ _ (gr_size ?_))))).mono ?_; rintro x w' ⟨rfl, hG⟩; (repeat (replace hG := Gr.of_grow hG)); obtain ⟨l, rfl⟩ := hG))) | fail
        all_goals
          clear KS hc
          go_wp2_with fail
          clear L1 L2 L3 L4 L5 L6 L7 L8 L9 L10 L11 L12 L13 L14 L15 L16 L17 L18
          go_ret
          exact ⟨eqb_no PImg.eqB_iff (fun e => hne.out (congrArg PImg.regs e)), hGR.out.trans (hG.out.trans (by (with_reducible repeat (first | exact Gr.refl _ | refine Gr.alloc ?_ _ | refine Gr.grow ?_ _ | refine Gr.drew ?_ | refine Gr.setCell ?_ _ _ _ (gr_size ?_)))))⟩
    · have jl : ¬ (j : Int) < X1.length := by omega
      have e0 : X1 = Y1 := by
        rw [List.take_of_length_le (by omega), List.take_of_length_le (by have := h1.out; omega)] at hf
        exact hf
      replace e0 := Hid.mk e0
      clear hf hlt hj
      replace hG := Hid.mk hG
      go_wp2_with fail
      clear BA BB z0 p0 f0 z1 p1 f1 jl
      have BA := BA1
      have BB := BB1
      clear BA1 BB1
      replace hX := Hid.mk ((hX.out.below hG.out.below).mono (gr_size hG.out))
      replace hY := Hid.mk ((hY.out.below hG.out.below).mono (gr_size hG.out))
      replace hGR := Hid.mk (hGR.out.trans hG.out)
      clear hG
      generalize wr = R1 at *
      go_loopw [7] (fun i wr => ∃ j : Nat, i = .int .i64 j ∧ j ≤ X2.length ∧ Hid (X2.take j = Y2.take j ∧ Gr R1 wr)) (fun i _ => X2.length - (intOf i).toNat)
      case atStart => exact ⟨0, rfl, by omega, ⟨rfl, Gr.refl _⟩⟩
      case round =>
        obtain ⟨j, rfl, hj, ⟨hf, hG⟩⟩ := hrel
        have BA1 := BA.out.gr hG
        have BB1 := BB.out.gr hG
        have ⟨z0, p0, f0⟩ := BA1.at
        have ⟨z1, p1, f1⟩ := BB1.at
        replace BA1 := Hid.mk BA1
        replace BB1 := Hid.mk BB1
        by_cases hlt : j < X2.length
        · have jl : (j : Int) < X2.length := by omega
          have hltm : j < Y2.length := by have := h2.out; omega
          have jm : (j : Int) < Y2.length := by omega
          obtain ⟨b, off, ra1, rc1, ka1, kc1, rfl, hb, hb2, c0, c1, hs, ht⟩ := (hX.out.below hG.below).comps j hlt
          obtain ⟨b', off', ra2, rc2, ka2, kc2, rfl, hb', hb2', d0, d1, hs', ht'⟩ := (hY.out.below hG.below).comps j hltm
          have hsl := hr.out.comps.2 X2[j] (List.getElem_mem hlt)
          have hc := fun W (h1 : Gr wr W) => sameComp_any X2[j] Y2[j] rc1 rc2 kc1 kc2 ra1 ra2 ka1 ka2 W ((hs.below (h1.below.mono (gr_size hG))).mono (Nat.le_trans (gr_size hG) (gr_size h1))) ((hs'.below (h1.below.mono (gr_size hG))).mono (Nat.le_trans (gr_size hG) (gr_size h1))) ((ht.below (h1.below.mono (gr_size hG))).mono (Nat.le_trans (gr_size hG) (gr_size h1))) ((ht'.below (h1.below.mono (gr_size hG))).mono (Nat.le_trans (gr_size hG) (gr_size h1))) hsl.1 hsl.2.1
          clear hs hs' ht ht' hsl
          have hnx : X2[j] = Y2[j] → X2.take (j + 1) = Y2.take (j + 1) := fun h => by
            rw [List.take_succ_eq_append_getElem hlt, List.take_succ_eq_append_getElem hltm, hf, h]
          have hne : X2[j] ≠ Y2[j] → X2 ≠ Y2 := fun h e => h (by simp only [e])
          simp only at c0 c1 d0 d1
          generalize X2[j] = k at *
          generalize Y2[j] = m at *
          have KS : ∀ W, Gr wr W → W.cell? ⟨w.heap.size, 1, none⟩ = some (.slice (some ⟨b, off, none⟩) X2.length cc) ∧ W.cell? ⟨w.heap.size + 1, 1, none⟩ = some (.slice (some ⟨b', off', none⟩) Y2.length cc') ∧ W.cell? ⟨b, off + j * 2, none⟩ = some (.slice ra1 k.roots.length rc1) ∧ W.cell? ⟨b, off + j * 2 + 1, none⟩ = some (.slice ka1 k.code.length kc1) ∧ W.cell? ⟨b', off' + j * 2, none⟩ = some (.slice ra2 m.roots.length rc2) ∧ W.cell? ⟨b', off' + j * 2 + 1, none⟩ = some (.slice ka2 m.code.length kc2) := fun W hW => ⟨(hW.cell z0 1).trans (p0 1), (hW.cell z1 1).trans (p1 1), (hW.cell hb2 _).trans c0, (hW.cell hb2 _).trans c1, (hW.cell hb2' _).trans d0, (hW.cell hb2' _).trans d1⟩
          replace KS := Hid.mk KS
          replace hf := Hid.mk hf
          cases hq : PComp.eqB k m with
          | true =>
            replace hnx := Hid.mk (hnx ((PComp.eqB_iff k m).1 hq))
            rw [hq] at hc
            clear hne
            replace hq := Hid.mk hq
            replace hc := Hid.mk hc
            replace hG := Hid.mk hG
            go_wp2_with fail
            clear z0 p0 f0 z1 p1 f1 c0 c1 d0 d1 hb hb2 hb' hb2'
            have L1 := grow_cell; have L2 := grow_frozen; have L3 := grow_set; have L4 := grow_lt; have L5 := glt1; have L6 := glt2; have L7 := glt3; have L8 := glt4; have L9 := glt5; have L10 := glt6; have L11 := lt1; have L12 := lt2; have L13 := lt3; have L14 := lt4; have L15 := lt5; have L16 := lt6; have L17 := lt7; have L18 := lt8
            first | (go_region_held3 (fun W => W.cell? ⟨w.heap.size, 1, none⟩ = some (.slice (some ⟨b, off, none⟩) X2.length cc) ∧ W.cell? ⟨w.heap.size + 1, 1, none⟩ = some (.slice (some ⟨b', off', none⟩) Y2.length cc') ∧ W.cell? ⟨b, off + j * 2, none⟩ = some (.slice ra1 k.roots.length rc1) ∧ W.cell? ⟨b, off + j * 2 + 1, none⟩ = some (.slice ka1 k.code.length kc1) ∧ W.cell? ⟨b', off' + j * 2, none⟩ = some (.slice ra2 m.roots.length rc2) ∧ W.cell? ⟨b', off' + j * 2 + 1, none⟩ = some (.slice ka2 m.code.length kc2)) ((refine KS.out _ ?_; (with_reducible repeat (first | exact Gr.refl _ | refine Gr.alloc ?_ _ | refine Gr.grow ?_ _ | refine Gr.drew ?_ | refine Gr.setCell ?_ _ _ _ (gr_size ?_))))) (first | (go_at_call 33; refine (hc.out _ (by (with_reducible repeat (first | exact Gr.refl _ | refine Gr.alloc ?_ _ | refine Gr.grow ?_ _ | refine Gr.drew ?_ | refine Gr.setCell ?_ _ _ _ (gr_size ?_))))).mono ?_; rintro x w' ⟨rfl, hG⟩; (repeat (replace hG := Gr.of_grow hG)); obtain ⟨l, rfl⟩ := hG))) | fail
            all_goals
              clear KS hc
              go_wp2_with fail
              clear L1 L2 L3 L4 L5 L6 L7 L8 L9 L10 L11 L12 L13 L14 L15 L16 L17 L18
              go_roundw
              case rel => exact ⟨j + 1, by simp, by omega, ⟨hnx.out, hG.out.trans (by (with_reducible repeat (first | exact Gr.refl _ | refine Gr.alloc ?_ _ | refine Gr.grow ?_ _ | refine Gr.drew ?_ | refine Gr.setCell ?_ _ _ _ (gr_size ?_))))⟩⟩
              case measure => simp [intOf]; omega
          | false =>
            replace hne := Hid.mk (hne (fun h => by rw [(PComp.eqB_iff k m).2 h] at hq; cases hq))
            rw [hq] at hc
            clear hnx
            replace hq := Hid.mk hq
            replace hc := Hid.mk hc
            replace hG := Hid.mk hG
            go_wp2_with fail
            clear z0 p0 f0 z1 p1 f1 c0 c1 d0 d1 hb hb2 hb' hb2'
            have L1 := grow_cell; have L2 := grow_frozen; have L3 := grow_set; have L4 := grow_lt; have L5 := glt1; have L6 := glt2; have L7 := glt3; have L8 := glt4; have L9 := glt5; have L10 := glt6; have L11 := lt1; have L12 := lt2; have L13 := lt3; have L14 := lt4; have L15 := lt5; have L16 := lt6; have L17 := lt7; have L18 := lt8
            first | (go_region_held3 (fun W => W.cell? ⟨w.heap.size, 1, none⟩ = some (.slice (some ⟨b, off, none⟩) X2.length cc) ∧ W.cell? ⟨w.heap.size + 1, 1, none⟩ = some (.slice (some ⟨b', off', none⟩) Y2.length cc') ∧ W.cell? ⟨b, off + j * 2, none⟩ = some (.slice ra1 k.roots.length rc1) ∧ W.cell? ⟨b, off + j * 2 + 1, none⟩ = some (.slice ka1 k.code.length kc1) ∧ W.cell? ⟨b', off' + j * 2, none⟩ = some (.slice ra2 m.roots.length rc2) ∧ W.cell? ⟨b', off' + j * 2 + 1, none⟩ = some (.slice ka2 m.code.length kc2)) ((refine KS.out _ ?_; (with_reducible repeat (first | exact Gr.refl _ | refine Gr.alloc ?_ _ | refine Gr.grow ?_ _ | refine Gr.drew ?_ | refine Gr.setCell ?_ _ _ _ (gr_size ?_))))) (first | (go_at_call 33; refine (hc.out _ (by (with_reducible repeat (first | exact Gr.refl _ | refine Gr.alloc ?_ _ | refine Gr.grow ?_ _ | refine Gr.drew ?_ | refine Gr.setCell ?_ _ _ _ (gr_size ?_))))).mono ?_; rintro x w' ⟨rfl, hG⟩; (repeat (replace hG := Gr.of_grow hG)); obtain ⟨l, rfl⟩ := hG))) | fail
            all_goals
              clear KS hc
              go_wp2_with fail
              clear L1 L2 L3 L4 L5 L6 L7 L8 L9 L10 L11 L12 L13 L14 L15 L16 L17 L18
              go_ret
              exact ⟨eqb_no PImg.eqB_iff (fun e => hne.out (congrArg PImg.comps e)), hGR.out.trans (hG.out.trans (by (with_reducible repeat (first | exact Gr.refl _ | refine Gr.alloc ?_ _ | refine Gr.grow ?_ _ | refine Gr.drew ?_ | refine Gr.setCell ?_ _ _ _ (gr_size ?_)))))⟩
        · have jl : ¬ (j : Int) < X2.length := by omega
          have e1 : X2 = Y2 := by
            rw [List.take_of_length_le (by omega), List.take_of_length_le (by have := h2.out; omega)] at hf
            exact hf
          replace e1 := Hid.mk e1
          clear hf hlt hj
          replace hG := Hid.mk hG
          go_wp2_with fail
          clear BA BB z0 p0 f0 z1 p1 f1 jl
          have BA := BA1
          have BB := BB1
          clear BA1 BB1
          replace hX := Hid.mk ((hX.out.below hG.out.below).mono (gr_size hG.out))
          replace hY := Hid.mk ((hY.out.below hG.out.below).mono (gr_size hG.out))
          replace hGR := Hid.mk (hGR.out.trans hG.out)
          clear hG
          generalize wr = R2 at *
          go_loopw [9] (fun i wr => ∃ j : Nat, i = .int .i64 j ∧ j ≤ X3.length ∧ Hid (X3.take j = Y3.take j ∧ Gr R2 wr)) (fun i _ => X3.length - (intOf i).toNat)
          case atStart => exact ⟨0, rfl, by omega, ⟨rfl, Gr.refl _⟩⟩
          case round =>
            obtain ⟨j, rfl, hj, ⟨hf, hG⟩⟩ := hrel
            have BA1 := BA.out.gr hG
            have BB1 := BB.out.gr hG
            have ⟨z0, p0, f0⟩ := BA1.at
            have ⟨z1, p1, f1⟩ := BB1.at
            replace BA1 := Hid.mk BA1
            replace BB1 := Hid.mk BB1
            by_cases hlt : j < X3.length
            · have jl : (j : Int) < X3.length := by omega
              have hltm : j < Y3.length := by have := h3.out; omega
              have jm : (j : Int) < Y3.length := by omega
              obtain ⟨b, off, xa, xc, ya, yc, rfl, hb, hb2, c0, c1, c2, c3, hs, ht⟩ := (hX.out.below hG.below).gates j hlt
              obtain ⟨b', off', xa', xc', ya', yc', rfl, hb', hb2', d0, d1, d2, d3, hs', ht'⟩ := (hY.out.below hG.below).gates j hltm
              have hsl := hr.out.gates.2 X3[j] (List.getElem_mem hlt)
              have hc1 := fun W (h1 : Gr wr W) => sameTypes_any X3[j].args Y3[j].args xc xc' xa xa' W ((hs.below (h1.below.mono (gr_size hG))).mono (Nat.le_trans (gr_size hG) (gr_size h1))) ((hs'.below (h1.below.mono (gr_size hG))).mono (Nat.le_trans (gr_size hG) (gr_size h1))) hsl.2.2.1
              have hc2 := fun W (h1 : Gr wr W) => sameTypes_any X3[j].res Y3[j].res yc yc' ya ya' W ((ht.below (h1.below.mono (gr_size hG))).mono (Nat.le_trans (gr_size hG) (gr_size h1))) ((ht'.below (h1.below.mono (gr_size hG))).mono (Nat.le_trans (gr_size hG) (gr_size h1))) hsl.2.2.2.1
              clear hs hs' ht ht' hsl
              have hnx : X3[j] = Y3[j] → X3.take (j + 1) = Y3.take (j + 1) := fun h => by
                rw [List.take_succ_eq_append_getElem hlt, List.take_succ_eq_append_getElem hltm, hf, h]
              have hne : X3[j] ≠ Y3[j] → X3 ≠ Y3 := fun h e => h (by simp only [e])
              simp only at c0 c1 c2 c3 d0 d1 d2 d3
              generalize X3[j] = k at *
              generalize Y3[j] = m at *
              replace hf := Hid.mk hf
              replace hG := Hid.mk hG
              by_cases hkm : k = m
              · subst hkm
                rw [(eqL_iff PTyp.eqB_iff k.args k.args).2 rfl] at hc1
                rw [(eqL_iff PTyp.eqB_iff k.res k.res).2 rfl] at hc2
                replace hnx := Hid.mk (hnx rfl)
                clear hne
                have hGx : Gr wr ((wr.alloc (.cells #[.int .i64 k.c, .int .i64 k.e, .slice xa k.args.length xc, .slice ya k.res.length yc] 66)).alloc (.cells #[.int .i64 k.c, .int .i64 k.e, .slice xa' k.args.length xc', .slice ya' k.res.length yc'] 66)) := ((Gr.refl wr).alloc _).alloc _
                have KX : Box ((wr.alloc (.cells #[.int .i64 k.c, .int .i64 k.e, .slice xa k.args.length xc, .slice ya k.res.length yc] 66)).alloc (.cells #[.int .i64 k.c, .int .i64 k.e, .slice xa' k.args.length xc', .slice ya' k.res.length yc'] 66)) wr.heap.size #[.int .i64 k.c, .int .i64 k.e, .slice xa k.args.length xc, .slice ya k.res.length yc] 66 := (Box.new wr _ _).alloc _
                have KY : Box ((wr.alloc (.cells #[.int .i64 k.c, .int .i64 k.e, .slice xa k.args.length xc, .slice ya k.res.length yc] 66)).alloc (.cells #[.int .i64 k.c, .int .i64 k.e, .slice xa' k.args.length xc', .slice ya' k.res.length yc'] 66)) (wr.heap.size + 1) #[.int .i64 k.c, .int .i64 k.e, .slice xa' k.args.length xc', .slice ya' k.res.length yc'] 66 := Box.next _ _ _ _
                replace KX := Hid.mk KX
                replace KY := Hid.mk KY
                replace hGx := Hid.mk hGx
                replace hc1 := Hid.mk hc1
                replace hc2 := Hid.mk hc2
                go_wp2_with fail
                clear z0 p0 f0 z1 p1 f1 c0 c1 c2 c3 d0 d1 d2 d3
                refine (hc1.out _ hGx.out).mono ?_
                rintro z w1 ⟨rfl, hG1⟩
                replace KX := KX.out.gr hG1
                replace KY := KY.out.gr hG1
                replace hGx := Hid.mk (hGx.out.trans hG1)
                have ⟨z0, p0, f0⟩ := KX.at
                have ⟨z1, p1, f1⟩ := KY.at
                replace KX := Hid.mk KX
                replace KY := Hid.mk KY
                clear hG1 hc1
                go_wp2_with fail
                clear z0 p0 f0 z1 p1 f1
                refine (hc2.out _ hGx.out).mono ?_
                rintro z w2 ⟨rfl, hG1⟩
                replace KX := KX.out.gr hG1
                replace KY := KY.out.gr hG1
                replace hGx := Hid.mk (hGx.out.trans hG1)
                have ⟨z0, p0, f0⟩ := KX.at
                have ⟨z1, p1, f1⟩ := KY.at
                replace KX := Hid.mk KX
                replace KY := Hid.mk KY
                clear hG1 hc2
                go_wp2_with fail
                go_roundw
                case rel => exact ⟨j + 1, by simp, by omega, ⟨hnx.out, hG.out.trans hGx.out⟩⟩
                case measure => simp [intOf]; omega
              replace hne := Hid.mk (hne hkm)
              clear hnx
              by_cases q0 : k.c = m.c
              case neg =>
                have q0' : (k.c != m.c) = true := by simpa using q0
                replace q0 := Hid.mk q0
                replace hkm := Hid.mk hkm
                have hGx : Gr wr ((wr.alloc (.cells #[.int .i64 k.c, .int .i64 k.e, .slice xa k.args.length xc, .slice ya k.res.length yc] 66)).alloc (.cells #[.int .i64 m.c, .int .i64 m.e, .slice xa' m.args.length xc', .slice ya' m.res.length yc'] 66)) := ((Gr.refl wr).alloc _).alloc _
                have KX : Box ((wr.alloc (.cells #[.int .i64 k.c, .int .i64 k.e, .slice xa k.args.length xc, .slice ya k.res.length yc] 66)).alloc (.cells #[.int .i64 m.c, .int .i64 m.e, .slice xa' m.args.length xc', .slice ya' m.res.length yc'] 66)) wr.heap.size #[.int .i64 k.c, .int .i64 k.e, .slice xa k.args.length xc, .slice ya k.res.length yc] 66 := (Box.new wr _ _).alloc _
                have KY : Box ((wr.alloc (.cells #[.int .i64 k.c, .int .i64 k.e, .slice xa k.args.length xc, .slice ya k.res.length yc] 66)).alloc (.cells #[.int .i64 m.c, .int .i64 m.e, .slice xa' m.args.length xc', .slice ya' m.res.length yc'] 66)) (wr.heap.size + 1) #[.int .i64 m.c, .int .i64 m.e, .slice xa' m.args.length xc', .slice ya' m.res.length yc'] 66 := Box.next _ _ _ _
                replace KX := Hid.mk KX
                replace KY := Hid.mk KY
                replace hGx := Hid.mk hGx
                replace hc1 := Hid.mk hc1
                replace hc2 := Hid.mk hc2
                go_wp2_with fail
                clear z0 p0 f0 z1 p1 f1 c0 c1 c2 c3 d0 d1 d2 d3
                refine (hc1.out _ hGx.out).mono ?_
                rintro z w1 ⟨rfl, hG1⟩
                replace KX := KX.out.gr hG1
                replace KY := KY.out.gr hG1
                replace hGx := Hid.mk (hGx.out.trans hG1)
                have ⟨z0, p0, f0⟩ := KX.at
                have ⟨z1, p1, f1⟩ := KY.at
                replace KX := Hid.mk KX
                replace KY := Hid.mk KY
                clear hG1 hc1
                go_wp2_with fail
                clear z0 p0 f0 z1 p1 f1
                refine (hc2.out _ hGx.out).mono ?_
                rintro z w2 ⟨rfl, hG1⟩
                replace KX := KX.out.gr hG1
                replace KY := KY.out.gr hG1
                replace hGx := Hid.mk (hGx.out.trans hG1)
                have ⟨z0, p0, f0⟩ := KX.at
                have ⟨z1, p1, f1⟩ := KY.at
                replace KX := Hid.mk KX
                replace KY := Hid.mk KY
                clear hG1 hc2
                go_wp2_with fail
                go_ret
                exact ⟨eqb_no PImg.eqB_iff (fun e => hne.out (congrArg PImg.gates e)), hGR.out.trans (hG.out.trans hGx.out)⟩
              have q0' : (k.c != m.c) = false := by simpa using q0
              by_cases q1 : k.e = m.e
              case neg =>
                have q1' : (k.e != m.e) = true := by simpa using q1
                replace q0 := Hid.mk q0
                replace q1 := Hid.mk q1
                replace hkm := Hid.mk hkm
                have hGx : Gr wr ((wr.alloc (.cells #[.int .i64 k.c, .int .i64 k.e, .slice xa k.args.length xc, .slice ya k.res.length yc] 66)).alloc (.cells #[.int .i64 m.c, .int .i64 m.e, .slice xa' m.args.length xc', .slice ya' m.res.length yc'] 66)) := ((Gr.refl wr).alloc _).alloc _
                have KX : Box ((wr.alloc (.cells #[.int .i64 k.c, .int .i64 k.e, .slice xa k.args.length xc, .slice ya k.res.length yc] 66)).alloc (.cells #[.int .i64 m.c, .int .i64 m.e, .slice xa' m.args.length xc', .slice ya' m.res.length yc'] 66)) wr.heap.size #[.int .i64 k.c, .int .i64 k.e, .slice xa k.args.length xc, .slice ya k.res.length yc] 66 := (Box.new wr _ _).alloc _
                have KY : Box ((wr.alloc (.cells #[.int .i64 k.c, .int .i64 k.e, .slice xa k.args.length xc, .slice ya k.res.length yc] 66)).alloc (.cells #[.int .i64 m.c, .int .i64 m.e, .slice xa' m.args.length xc', .slice ya' m.res.length yc'] 66)) (wr.heap.size + 1) #[.int .i64 m.c, .int .i64 m.e, .slice xa' m.args.length xc', .slice ya' m.res.length yc'] 66 := Box.next _ _ _ _
                replace KX := Hid.mk KX
                replace KY := Hid.mk KY
                replace hGx := Hid.mk hGx
                replace hc1 := Hid.mk hc1
                replace hc2 := Hid.mk hc2
                go_wp2_with fail
                clear z0 p0 f0 z1 p1 f1 c0 c1 c2 c3 d0 d1 d2 d3
                refine (hc1.out _ hGx.out).mono ?_
                rintro z w1 ⟨rfl, hG1⟩
                replace KX := KX.out.gr hG1
                replace KY := KY.out.gr hG1
                replace hGx := Hid.mk (hGx.out.trans hG1)
                have ⟨z0, p0, f0⟩ := KX.at
                have ⟨z1, p1, f1⟩ := KY.at
                replace KX := Hid.mk KX
                replace KY := Hid.mk KY
                clear hG1 hc1
                go_wp2_with fail
                clear z0 p0 f0 z1 p1 f1
                refine (hc2.out _ hGx.out).mono ?_
                rintro z w2 ⟨rfl, hG1⟩
                replace KX := KX.out.gr hG1
                replace KY := KY.out.gr hG1
                replace hGx := Hid.mk (hGx.out.trans hG1)
                have ⟨z0, p0, f0⟩ := KX.at
                have ⟨z1, p1, f1⟩ := KY.at
                replace KX := Hid.mk KX
                replace KY := Hid.mk KY
                clear hG1 hc2
                go_wp2_with fail
                go_ret
                exact ⟨eqb_no PImg.eqB_iff (fun e => hne.out (congrArg PImg.gates e)), hGR.out.trans (hG.out.trans hGx.out)⟩
              have q1' : (k.e != m.e) = false := by simpa using q1
              cases q2 : eqL PTyp.eqB k.args m.args with
              | false =>
                rw [q2] at hc1
                replace q0 := Hid.mk q0
                replace q1 := Hid.mk q1
                replace q2 := Hid.mk q2
                replace hkm := Hid.mk hkm
                have hGx : Gr wr ((wr.alloc (.cells #[.int .i64 k.c, .int .i64 k.e, .slice xa k.args.length xc, .slice ya k.res.length yc] 66)).alloc (.cells #[.int .i64 m.c, .int .i64 m.e, .slice xa' m.args.length xc', .slice ya' m.res.length yc'] 66)) := ((Gr.refl wr).alloc _).alloc _
                have KX : Box ((wr.alloc (.cells #[.int .i64 k.c, .int .i64 k.e, .slice xa k.args.length xc, .slice ya k.res.length yc] 66)).alloc (.cells #[.int .i64 m.c, .int .i64 m.e, .slice xa' m.args.length xc', .slice ya' m.res.length yc'] 66)) wr.heap.size #[.int .i64 k.c, .int .i64 k.e, .slice xa k.args.length xc, .slice ya k.res.length yc] 66 := (Box.new wr _ _).alloc _
                have KY : Box ((wr.alloc (.cells #[.int .i64 k.c, .int .i64 k.e, .slice xa k.args.length xc, .slice ya k.res.length yc] 66)).alloc (.cells #[.int .i64 m.c, .int .i64 m.e, .slice xa' m.args.length xc', .slice ya' m.res.length yc'] 66)) (wr.heap.size + 1) #[.int .i64 m.c, .int .i64 m.e, .slice xa' m.args.length xc', .slice ya' m.res.length yc'] 66 := Box.next _ _ _ _
                replace KX := Hid.mk KX
                replace KY := Hid.mk KY
                replace hGx := Hid.mk hGx
                replace hc1 := Hid.mk hc1
                replace hc2 := Hid.mk hc2
                go_wp2_with fail
                clear z0 p0 f0 z1 p1 f1 c0 c1 c2 c3 d0 d1 d2 d3
                refine (hc1.out _ hGx.out).mono ?_
                rintro z w1 ⟨rfl, hG1⟩
                replace KX := KX.out.gr hG1
                replace KY := KY.out.gr hG1
                replace hGx := Hid.mk (hGx.out.trans hG1)
                have ⟨z0, p0, f0⟩ := KX.at
                have ⟨z1, p1, f1⟩ := KY.at
                replace KX := Hid.mk KX
                replace KY := Hid.mk KY
                clear hG1 hc1
                go_wp2_with fail
                clear z0 p0 f0 z1 p1 f1
                refine (hc2.out _ hGx.out).mono ?_
                rintro z w2 ⟨rfl, hG1⟩
                replace KX := KX.out.gr hG1
                replace KY := KY.out.gr hG1
                replace hGx := Hid.mk (hGx.out.trans hG1)
                have ⟨z0, p0, f0⟩ := KX.at
                have ⟨z1, p1, f1⟩ := KY.at
                replace KX := Hid.mk KX
                replace KY := Hid.mk KY
                clear hG1 hc2
                go_wp2_with fail
                go_ret
                exact ⟨eqb_no PImg.eqB_iff (fun e => hne.out (congrArg PImg.gates e)), hGR.out.trans (hG.out.trans hGx.out)⟩
              | true =>
                have q3 : eqL PTyp.eqB k.res m.res = false := by
                  cases h : eqL PTyp.eqB k.res m.res with
                  | false => rfl
                  | true => exact absurd ((PGate.eqB_iff k m).1 (by simp [PGate.eqB, q0, q1, q2, h])) hkm
                rw [q2] at hc1
                rw [q3] at hc2
                replace q0 := Hid.mk q0
                replace q1 := Hid.mk q1
                replace q2 := Hid.mk q2
                replace q3 := Hid.mk q3
                replace hkm := Hid.mk hkm
                have hGx : Gr wr ((wr.alloc (.cells #[.int .i64 k.c, .int .i64 k.e, .slice xa k.args.length xc, .slice ya k.res.length yc] 66)).alloc (.cells #[.int .i64 m.c, .int .i64 m.e, .slice xa' m.args.length xc', .slice ya' m.res.length yc'] 66)) := ((Gr.refl wr).alloc _).alloc _
                have KX : Box ((wr.alloc (.cells #[.int .i64 k.c, .int .i64 k.e, .slice xa k.args.length xc, .slice ya k.res.length yc] 66)).alloc (.cells #[.int .i64 m.c, .int .i64 m.e, .slice xa' m.args.length xc', .slice ya' m.res.length yc'] 66)) wr.heap.size #[.int .i64 k.c, .int .i64 k.e, .slice xa k.args.length xc, .slice ya k.res.length yc] 66 := (Box.new wr _ _).alloc _
                have KY : Box ((wr.alloc (.cells #[.int .i64 k.c, .int .i64 k.e, .slice xa k.args.length xc, .slice ya k.res.length yc] 66)).alloc (.cells #[.int .i64 m.c, .int .i64 m.e, .slice xa' m.args.length xc', .slice ya' m.res.length yc'] 66)) (wr.heap.size + 1) #[.int .i64 m.c, .int .i64 m.e, .slice xa' m.args.length xc', .slice ya' m.res.length yc'] 66 := Box.next _ _ _ _
                replace KX := Hid.mk KX
                replace KY := Hid.mk KY
                replace hGx := Hid.mk hGx
                replace hc1 := Hid.mk hc1
                replace hc2 := Hid.mk hc2
                go_wp2_with fail
                clear z0 p0 f0 z1 p1 f1 c0 c1 c2 c3 d0 d1 d2 d3
                refine (hc1.out _ hGx.out).mono ?_
                rintro z w1 ⟨rfl, hG1⟩
                replace KX := KX.out.gr hG1
                replace KY := KY.out.gr hG1
                replace hGx := Hid.mk (hGx.out.trans hG1)
                have ⟨z0, p0, f0⟩ := KX.at
                have ⟨z1, p1, f1⟩ := KY.at
                replace KX := Hid.mk KX
                replace KY := Hid.mk KY
                clear hG1 hc1
                go_wp2_with fail
                clear z0 p0 f0 z1 p1 f1
                refine (hc2.out _ hGx.out).mono ?_
                rintro z w2 ⟨rfl, hG1⟩
                replace KX := KX.out.gr hG1
                replace KY := KY.out.gr hG1
                replace hGx := Hid.mk (hGx.out.trans hG1)
                have ⟨z0, p0, f0⟩ := KX.at
                have ⟨z1, p1, f1⟩ := KY.at
                replace KX := Hid.mk KX
                replace KY := Hid.mk KY
                clear hG1 hc2
                go_wp2_with fail
                go_ret
                exact ⟨eqb_no PImg.eqB_iff (fun e => hne.out (congrArg PImg.gates e)), hGR.out.trans (hG.out.trans hGx.out)⟩
            · have jl : ¬ (j : Int) < X3.length := by omega
              have e3 : X3 = Y3 := by
                rw [List.take_of_length_le (by omega), List.take_of_length_le (by have := h3.out; omega)] at hf
                exact hf
              replace e3 := Hid.mk e3
              clear hf hlt hj
              replace hG := Hid.mk hG
              go_wp2_with fail
              go_ret
              exact ⟨eqb_yes PImg.eqB_iff (by rw [e0.out, e1.out, e3.out, h4.out]), hGR.out.trans hG.out⟩
end Go.Proofs.YthmfaafpdogpdabDoor


/-
  Stage 4, image: the library's Clone of a text, at this program: the library's contract, laid by hand.
-/
namespace Go.Proofs.YthmfaafpdogpdabDoor
open Go.RowKit Go.Shelf

/-- The library's numbers at this program. -/
def renC : Ren := ⟨fun _ => 114, fun n => if n = 0 then 0 else if n = 3 then 3 else if n = 4 then 4 else if n = 5 then 5 else if n = 9 then 9 else if n = 37 then 50 else 156, fun n => n⟩
theorem lays316 : LaysM.n316 Tryd.prog renC :=
  ⟨⟨by kernel_rfl, by kernel_rfl,
   by kernel_rfl, fun w => Tryd.isAgg0 w, fun w => Tryd.sizeOf0 w, fun w => Tryd.zeroValue0 w,
   by kernel_rfl, fun w => Tryd.isAgg3 w, fun w => Tryd.sizeOf3 w, fun w => Tryd.zeroValue3 w,
   by kernel_rfl, fun w => Tryd.isAgg4 w, fun w => Tryd.sizeOf4 w, fun w => Tryd.zeroValue4 w,
   by kernel_rfl, fun w => Tryd.isAgg9 w, fun w => Tryd.sizeOf9 w, fun w => Tryd.zeroValue9 w,
   by kernel_rfl, fun w => Tryd.isAgg50 w, fun w => Tryd.sizeOf50 w, fun w => Tryd.zeroValue50 w,
   by kernel_rfl, fun w => Tryd.isAgg156 w, fun w => Tryd.sizeOf156 w, fun w => Tryd.zeroValue156 w⟩,
   by kernel_rfl, fun w => Tryd.isAgg5 w, fun w => Tryd.sizeOf5 w, fun w => Tryd.zeroValue5 w,
   by kernel_rfl, by kernel_rfl, by kernel_rfl, by kernel_rfl, by kernel_rfl, by kernel_rfl, by kernel_rfl⟩
theorem liteClone_any (s : List UInt8) (w : World) (h : s.length ≤ 140737488355328) :
    Calls Tryd.prog 114 #[.string (str s)] w fun x w' => x = .returned (.string (str s)) ∧ Below w.heap.size w w' :=
  Any.stringslite_Clone lays316 (str s) w (by rw [str_size]; omega)
set_option maxHeartbeats 400000 in
theorem Clone_any (s : List UInt8) (w : World) (h : s.length ≤ 140737488355328) :
    Calls Tryd.prog 80 #[.string (str s)] w fun x w' => x = .returned (.string (str s)) ∧ Below w.heap.size w w' := by
  have hl := fun W => liteClone_any s W h
  go_enter Tryd.func80, Tryd.ntmps80
  go_wp2_with fail
  refine (hl _).mono ?_
  rintro x w' ⟨rfl, hb⟩
  replace hb := Hid.mk hb
  go_wp2_with fail
  go_ret
  exact ⟨rfl, hb.out⟩
end Go.Proofs.YthmfaafpdogpdabDoor


/-
  Stage 4, image: the reader's region, comp and gate.
-/
namespace Go.Proofs.YthmfaafpdogpdabDoor
open Go.RowKit

theorem toNat_num (S : List UInt8) (n : Nat) (σ : RS) : (((numV S n σ).toNat : Nat) : Int) = numV S n σ := Int.toNat_of_nonneg (numV_range S n σ).1
set_option maxRecDepth 10000 in
set_option maxHeartbeats 4000000 in
theorem rregion_any (S : List UInt8) (kr : Nat) (σ : RS) (w : World) (h : RIn w kr S σ) (hi : σ.In S) (hS : S.length ≤ 1000000) :
    Calls Tryd.prog 75 #[.pointer (some ⟨kr, 0, none⟩)] w fun x w' => ∃ sa sc, x = .returned (.agg #[.int .u64 (regP S σ).1.b, .int .u64 (regP S σ).1.n, .string (str (regP S σ).1.data), .slice sa (regP S σ).1.slots.length sc]) ∧ w'.ownsRow w.heap.size 84 8 (.slice sa (regP S σ).1.slots.length sc) (regP S σ).1.slots.length ((regP S σ).1.slots.flatMap PSlot.vals) ∧ RIn w' kr S (regP S σ).2 ∧ w.grownBy w' (some kr) := by
  have hS2 : S.length ≤ 140737488355328 := by omega
  have hne : w.heap.size ≠ kr := by have := h.lt; omega
  have c1 := fun W h1 => number_any S kr 4 σ W h1 hi hS2 (by omega)
  have i1 := takeS_in (S := S) 4 hi
  have c2 := fun W h1 => number_any S kr 4 (takeS S 4 σ) W h1 i1 hS2 (by omega)
  have i2 := takeS_in (S := S) 4 i1
  have c3 := fun W h1 => count_any S kr 2 (takeS S 4 (takeS S 4 σ)) W h1 i2 hS2 (by omega)
  have i3 := takeS_in (S := S) 2 i2
  have hk0 := num2 S (takeS S 4 (takeS S 4 σ))
  have hd0 := num2 S (regS S σ)
  have hkk := toNat_num S 2 (takeS S 4 (takeS S 4 σ))
  have hdd := toNat_num S 2 (regS S σ)
  have c4 := fun W h1 => listSlot_any S kr (regK S σ) (regS S σ) W h1 i3 hS2 (by unfold regK; omega)
  have c5 := fun W h1 => count_any S kr 2 (regS S σ) W h1 i3 hS2 (by omega)
  have i5 := takeS_in (S := S) 2 i3
  have c6 := fun W h1 => take_any S kr (regD S σ) (takeS S 2 (regS S σ)) W h1 i5 hS2 (by unfold regD; omega)
  have c7 := fun W => Clone_any (takeV S (regD S σ) (takeS S 2 (regS S σ))) W (by have := takeV_len S (regD S σ) (takeS S 2 (regS S σ)); unfold regD at *; omega)
  have hst : takeS S 2 (takeS S 4 (takeS S 4 σ)) = regS S σ := rfl
  rw [hst] at c3
  have hkd : (numV S 2 (takeS S 4 (takeS S 4 σ))).toNat = regK S σ := rfl
  have hdn : (numV S 2 (regS S σ)).toNat = regD S σ := rfl
  rw [hkd] at hkk
  rw [hdn] at hdd
  rw [← hkk] at c3 hk0
  rw [← hdd] at c5 hd0
  unfold regP
  clear hst hkd hdn hkk hdd i1 i2 i3 i5
  generalize regK S σ = k at *
  generalize regD S σ = d at *
  generalize takeV S d (takeS S 2 (regS S σ)) = D at *
  generalize takeS S d (takeS S 2 (regS S σ)) = σ6 at *
  generalize takeS S 2 (regS S σ) = σ5 at *
  generalize listF (slotP S) k (regS S σ) [] = lf at *
  generalize regS S σ = σ3 at *
  generalize numV S 4 (takeS S 4 σ) = y2 at *
  generalize takeS S 4 (takeS S 4 σ) = σ2 at *
  generalize numV S 4 σ = y1 at *
  generalize takeS S 4 σ = σ1 at *
  obtain ⟨L, σ4⟩ := lf
  simp only at c4
  by_cases hk : 0 < k
  · rw [if_pos hk]
    simp only
    have hk' : (0 : Int) < k := by omega
    go_enter Tryd.func75, Tryd.ntmps75
    go_wp2_with fail
    have X := Box.new w #[.int .u64 0, .int .u64 0, .string ⟨#[]⟩, .slice none 0 0] 58
    have hg := grown_of ((Gr.refl w).alloc (.cells #[.int .u64 0, .int .u64 0, .string ⟨#[]⟩, .slice none 0 0] 58)).below (some kr)
    replace h : RIn (w.alloc (.cells #[.int .u64 0, .int .u64 0, .string ⟨#[]⟩, .slice none 0 0] 58)) kr S σ := h.alloc _
    refine (c1 _ h).mono ?_
    clear h
    rintro x w1 ⟨rfl, h, hg2⟩
    replace X := Hid.mk (X.kept hg2 hne)
    replace hg := Hid.mk (hg.trans hg2)
    replace h := Hid.mk h
    clear hg2 c1
    go_wp2_with fail
    refine (c2 _ h.out).mono ?_
    clear h
    rintro x w2 ⟨rfl, h, hg2⟩
    replace X := Hid.mk (X.out.kept hg2 hne)
    replace hg := Hid.mk (hg.out.trans hg2)
    replace h := Hid.mk h
    clear hg2 c2
    go_wp2_with fail
    have G := Box.new w2 #[.int .u64 y1, .int .u64 y2, .string ⟨#[]⟩, .slice none 0 0] 58
    have hgk : w2.heap.size ≠ kr := by have := h.out.lt; omega
    have hxg : w.heap.size < w2.heap.size := by have := X.out.lt; omega
    replace X := Hid.mk (X.out.alloc (.cells #[.int .u64 y1, .int .u64 y2, .string ⟨#[]⟩, .slice none 0 0] 58))
    replace hg := Hid.mk (hg.out.trans (grown_of ((Gr.refl w2).alloc (.cells #[.int .u64 y1, .int .u64 y2, .string ⟨#[]⟩, .slice none 0 0] 58)).below (some kr)))
    replace h : RIn (w2.alloc (.cells #[.int .u64 y1, .int .u64 y2, .string ⟨#[]⟩, .slice none 0 0] 58)) kr S σ2 := h.out.alloc _
    generalize w2.heap.size = kg at *
    refine (c3 _ h).mono ?_
    clear h
    rintro x w3 ⟨rfl, h, hg2⟩
    replace X := Hid.mk (X.out.kept hg2 hne)
    replace G := Hid.mk (Box.kept G hg2 hgk)
    replace hg := Hid.mk (hg.out.trans hg2)
    replace h := Hid.mk h
    clear hg2 c3
    go_wp2_with fail
    refine (c4 _ h.out).mono ?_
    clear h
    rintro x w4 ⟨v, rfl, hO, h, hg2⟩
    obtain ⟨sa, sc, rfl⟩ := own_slice hO
    replace X := X.out.kept hg2 hne
    replace G := G.out.kept hg2 hgk
    replace hO := Hid.mk (own_base hO hg.out.size)
    replace hg := Hid.mk (hg.out.trans hg2)
    replace h := Hid.mk h
    have ⟨z0, p0, f0⟩ := X.at
    have ⟨z1, p1, f1⟩ := G.at
    have hn1 : kg ≠ w.heap.size := by omega
    replace X := Hid.mk X
    replace G := Hid.mk G
    replace hxg := Hid.mk hxg
    clear hg2 c4
    go_wp2_with fail
    have X1 := X.out.kept (grown_set w4 kg 3 (.slice sa L.length sc)) (Ne.symm hn1)
    have h1 := h.out.kept (grown_set w4 kg 3 (.slice sa L.length sc)) (Ne.symm hgk)
    have O1 := own_setBox (o := 3) (u := .slice sa L.length sc) hO.out G.out (by decide)
    have g1 := grown_box (o := 3) (v := .slice sa L.length sc) hg.out (Nat.le_of_lt hxg.out)
    have b4 : Box ((((((w4.setCell ⟨kg, 3, none⟩ (.slice sa L.length sc))).setCell ⟨w.heap.size, 0, none⟩ (.int .u64 y1)).setCell ⟨w.heap.size, 1, none⟩ (.int .u64 y2)).setCell ⟨w.heap.size, 2, none⟩ (.string ⟨#[]⟩)).setCell ⟨w.heap.size, 3, none⟩ (.slice sa L.length sc)) w.heap.size #[.int .u64 y1, .int .u64 y2, .string ⟨#[]⟩, .slice sa L.length sc] 58 := Box.setRow X1 [.int .u64 y1, .int .u64 y2, .string ⟨#[]⟩, .slice sa L.length sc] rfl
    have h4 : RIn ((((((w4.setCell ⟨kg, 3, none⟩ (.slice sa L.length sc))).setCell ⟨w.heap.size, 0, none⟩ (.int .u64 y1)).setCell ⟨w.heap.size, 1, none⟩ (.int .u64 y2)).setCell ⟨w.heap.size, 2, none⟩ (.string ⟨#[]⟩)).setCell ⟨w.heap.size, 3, none⟩ (.slice sa L.length sc)) kr S σ4 := Box.setRow_other (cs := [.int .u64 y1, .int .u64 y2, .string ⟨#[]⟩, .slice sa L.length sc]) h1 hne
    have hg4 : w.grownBy ((((((w4.setCell ⟨kg, 3, none⟩ (.slice sa L.length sc))).setCell ⟨w.heap.size, 0, none⟩ (.int .u64 y1)).setCell ⟨w.heap.size, 1, none⟩ (.int .u64 y2)).setCell ⟨w.heap.size, 2, none⟩ (.string ⟨#[]⟩)).setCell ⟨w.heap.size, 3, none⟩ (.slice sa L.length sc)) (some kr) := grown_row [.int .u64 y1, .int .u64 y2, .string ⟨#[]⟩, .slice sa L.length sc] g1 (Nat.le_refl _)
    have O4 : World.ownsRow ((((((w4.setCell ⟨kg, 3, none⟩ (.slice sa L.length sc))).setCell ⟨w.heap.size, 0, none⟩ (.int .u64 y1)).setCell ⟨w.heap.size, 1, none⟩ (.int .u64 y2)).setCell ⟨w.heap.size, 2, none⟩ (.string ⟨#[]⟩)).setCell ⟨w.heap.size, 3, none⟩ (.slice sa L.length sc)) w.heap.size 84 8 (.slice sa L.length sc) L.length (L.flatMap PSlot.vals) := own_row [.int .u64 y1, .int .u64 y2, .string ⟨#[]⟩, .slice sa L.length sc] O1 X1 (by decide)
    have ⟨_, q4, _⟩ := b4.at
    clear z0 p0 f0 z1 p1 f1 X G hg h b4 hO X1 h1 O1 g1
    generalize (((((w4.setCell ⟨kg, 3, none⟩ (.slice sa L.length sc))).setCell ⟨w.heap.size, 0, none⟩ (.int .u64 y1)).setCell ⟨w.heap.size, 1, none⟩ (.int .u64 y2)).setCell ⟨w.heap.size, 2, none⟩ (.string ⟨#[]⟩)).setCell ⟨w.heap.size, 3, none⟩ (.slice sa L.length sc) = W4 at *
    simp [bodyPost, results, Tryd.results75, go_sem, q4]
    exact ⟨sa, sc, ⟨rfl, rfl, rfl⟩, O4, h4, hg4⟩
  · rw [if_neg hk]
    simp only
    have hk' : ¬ (0 : Int) < k := by omega
    go_enter Tryd.func75, Tryd.ntmps75
    go_wp2_with fail
    have X := Box.new w #[.int .u64 0, .int .u64 0, .string ⟨#[]⟩, .slice none 0 0] 58
    have hg := grown_of ((Gr.refl w).alloc (.cells #[.int .u64 0, .int .u64 0, .string ⟨#[]⟩, .slice none 0 0] 58)).below (some kr)
    replace h : RIn (w.alloc (.cells #[.int .u64 0, .int .u64 0, .string ⟨#[]⟩, .slice none 0 0] 58)) kr S σ := h.alloc _
    refine (c1 _ h).mono ?_
    clear h
    rintro x w1 ⟨rfl, h, hg2⟩
    replace X := Hid.mk (X.kept hg2 hne)
    replace hg := Hid.mk (hg.trans hg2)
    replace h := Hid.mk h
    clear hg2 c1
    go_wp2_with fail
    refine (c2 _ h.out).mono ?_
    clear h
    rintro x w2 ⟨rfl, h, hg2⟩
    replace X := Hid.mk (X.out.kept hg2 hne)
    replace hg := Hid.mk (hg.out.trans hg2)
    replace h := Hid.mk h
    clear hg2 c2
    go_wp2_with fail
    have G := Box.new w2 #[.int .u64 y1, .int .u64 y2, .string ⟨#[]⟩, .slice none 0 0] 58
    have hgk : w2.heap.size ≠ kr := by have := h.out.lt; omega
    have hxg : w.heap.size < w2.heap.size := by have := X.out.lt; omega
    replace X := Hid.mk (X.out.alloc (.cells #[.int .u64 y1, .int .u64 y2, .string ⟨#[]⟩, .slice none 0 0] 58))
    replace hg := Hid.mk (hg.out.trans (grown_of ((Gr.refl w2).alloc (.cells #[.int .u64 y1, .int .u64 y2, .string ⟨#[]⟩, .slice none 0 0] 58)).below (some kr)))
    replace h : RIn (w2.alloc (.cells #[.int .u64 y1, .int .u64 y2, .string ⟨#[]⟩, .slice none 0 0] 58)) kr S σ2 := h.out.alloc _
    generalize w2.heap.size = kg at *
    refine (c3 _ h).mono ?_
    clear h
    rintro x w3 ⟨rfl, h, hg2⟩
    replace X := Hid.mk (X.out.kept hg2 hne)
    replace G := Hid.mk (Box.kept G hg2 hgk)
    replace hg := Hid.mk (hg.out.trans hg2)
    replace h := Hid.mk h
    clear hg2 c3
    go_wp2_with fail
    refine (c5 _ h.out).mono ?_
    clear h
    rintro x w4 ⟨rfl, h, hg2⟩
    replace X := Hid.mk (X.out.kept hg2 hne)
    replace G := Hid.mk (G.out.kept hg2 hgk)
    replace hg := Hid.mk (hg.out.trans hg2)
    replace h := Hid.mk h
    clear hg2 c5
    go_wp2_with fail
    refine (c6 _ h.out).mono ?_
    clear h
    rintro x w5 ⟨rfl, h, hg2⟩
    replace X := Hid.mk (X.out.kept hg2 hne)
    replace G := Hid.mk (G.out.kept hg2 hgk)
    replace hg := Hid.mk (hg.out.trans hg2)
    replace h := Hid.mk h
    clear hg2 c6
    go_wp2_with fail
    refine (c7 _).mono ?_
    rintro x w6 ⟨rfl, hb⟩
    replace X := X.out.below hb X.out.lt
    replace G := G.out.below hb G.out.lt
    replace hg := Hid.mk (hg.out.trans (grown_of hb _))
    replace h : Hid (RIn w6 kr S σ6) := Hid.mk (h.out.below hb h.out.lt)
    have ⟨z0, p0, f0⟩ := X.at
    have ⟨z1, p1, f1⟩ := G.at
    have hn1 : kg ≠ w.heap.size := by omega
    replace X := Hid.mk X
    replace G := Hid.mk G
    replace hxg := Hid.mk hxg
    clear hb c7
    go_wp2_with fail
    have X1 := X.out.kept (grown_set w6 kg 2 (.string (str D))) (Ne.symm hn1)
    have h1 := h.out.kept (grown_set w6 kg 2 (.string (str D))) (Ne.symm hgk)
    have g1 := grown_box (o := 2) (v := .string (str D)) hg.out (Nat.le_of_lt hxg.out)
    have b4 : Box ((((((w6.setCell ⟨kg, 2, none⟩ (.string (str D)))).setCell ⟨w.heap.size, 0, none⟩ (.int .u64 y1)).setCell ⟨w.heap.size, 1, none⟩ (.int .u64 y2)).setCell ⟨w.heap.size, 2, none⟩ (.string (str D))).setCell ⟨w.heap.size, 3, none⟩ (.slice none 0 0)) w.heap.size #[.int .u64 y1, .int .u64 y2, .string (str D), .slice none 0 0] 58 := Box.setRow X1 [.int .u64 y1, .int .u64 y2, .string (str D), .slice none 0 0] rfl
    have h4 : RIn ((((((w6.setCell ⟨kg, 2, none⟩ (.string (str D)))).setCell ⟨w.heap.size, 0, none⟩ (.int .u64 y1)).setCell ⟨w.heap.size, 1, none⟩ (.int .u64 y2)).setCell ⟨w.heap.size, 2, none⟩ (.string (str D))).setCell ⟨w.heap.size, 3, none⟩ (.slice none 0 0)) kr S σ6 := Box.setRow_other (cs := [.int .u64 y1, .int .u64 y2, .string (str D), .slice none 0 0]) h1 hne
    have hg4 : w.grownBy ((((((w6.setCell ⟨kg, 2, none⟩ (.string (str D)))).setCell ⟨w.heap.size, 0, none⟩ (.int .u64 y1)).setCell ⟨w.heap.size, 1, none⟩ (.int .u64 y2)).setCell ⟨w.heap.size, 2, none⟩ (.string (str D))).setCell ⟨w.heap.size, 3, none⟩ (.slice none 0 0)) (some kr) := grown_row [.int .u64 y1, .int .u64 y2, .string (str D), .slice none 0 0] g1 (Nat.le_refl _)
    have ⟨_, q4, _⟩ := b4.at
    clear z0 p0 f0 z1 p1 f1 X G hg h b4 X1 h1 g1
    generalize (((((w6.setCell ⟨kg, 2, none⟩ (.string (str D)))).setCell ⟨w.heap.size, 0, none⟩ (.int .u64 y1)).setCell ⟨w.heap.size, 1, none⟩ (.int .u64 y2)).setCell ⟨w.heap.size, 2, none⟩ (.string (str D))).setCell ⟨w.heap.size, 3, none⟩ (.slice none 0 0) = W4 at *
    simp [bodyPost, results, Tryd.results75, go_sem, q4]
    exact ⟨none, 0, by simp, ⟨rfl, .inl ⟨rfl, rfl⟩⟩, h4, hg4⟩
end Go.Proofs.YthmfaafpdogpdabDoor
