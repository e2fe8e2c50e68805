import Derived.Test.YtmmakknhaacplaaGreatDoorMSizeM
import Derived.Test.YtmmakknhaacplaaGreatDoorMDocB
import Derived.Test.YtmmakknhaacplaaGreatDoorMRef5
/-
  Stage 4, image: the document's Size of a right program.
-/
namespace Go.Proofs.YtmmakknhaacplaaGreatDoor
namespace Q
open Go.RowKit

theorem below_upS {a b c : World} {k : Nat} (h : Below k a b) (hk : k ≤ a.heap.size) (q : Below b.heap.size b c) : Below k a c := h.trans (q.mono (Nat.le_trans hk h.size))
theorem next_wS {k n : Nat} (h : k < n) (hn : n ≤ maxG) : wrap64 ((k : Int) + 1) = ((k + 1 : Nat) : Int) := by unfold maxG at hn; unfold wrap64; omega
theorem next_mS {k n : Nat} (h : k < n) : n - (intOf (.int .i64 ((k + 1 : Nat) : Int))).toNat < n - (intOf (.int .i64 (k : Int))).toNat := by simp [intOf]; omega
theorem own_any {w : World} {base e k n : Nat} {v : Value} {xs : List Value} (h : w.ownsRow base e k v n xs) : ∃ a c, v = .slice a n c := by
  rcases h.2 with ⟨q1, q2⟩ | ⟨g, cap, cur, q1, _⟩
  · exact ⟨none, 0, by rw [q1, q2]⟩
  · exact ⟨_, _, q1⟩
theorem gatesR_few (C : List PComp) : ∀ L : List PGate, gatesR C L = 0 → ∀ g ∈ L, g.args.length ≤ 7 ∧ g.res.length ≤ 7
  | [], _, _, h => absurd h (by simp)
  | x :: L, h, g, hg => by
    unfold gatesR at h
    by_cases h1 : (hasI C x.c x.e && decide (x.args.length ≤ 7) && decide (x.res.length ≤ 7)) = true
    · rw [if_pos h1] at h
      simp only [Bool.and_eq_true, decide_eq_true_eq] at h1
      by_cases h2 : (typesR x.args && typesR x.res) = true
      · rw [if_pos h2] at h
        rcases List.mem_cons.1 hg with rfl | hg
        · exact ⟨h1.1.2, h1.2⟩
        · exact gatesR_few C L h g hg
      · rw [if_neg h2] at h; cases h
    · rw [if_neg h1] at h; cases h
theorem fit_few {n : Nat} (h : n ≤ 14) : Fit n := by unfold Fit; omega
theorem wsm {a : Int} (h0 : 0 ≤ a) (h1 : a ≤ 100000000) : wrap64 a = a := by unfold wrap64; omega
theorem wsx {a : Int} (h0 : 0 ≤ a) (h1 : a ≤ 100000000) : IntKind.i64.wrap a = a := by rw [IntKind.wrap_i64]; omega
theorem imgB_len (m : PImg) : ((imgB m).length : Int) = 10 + ((regsB m.regs).length : Int) + (((compsB m.comps).length : Int) + ((gatesB m.gates).length : Int)) := by
  unfold imgB magicB
  simp only [List.length_append, putB_length, List.length_cons, List.length_nil]
  omega
theorem regsB_step {L : List PReg} {i : Nat} (h : i < L.length) : ((regsB (L.drop i)).length : Int) = ((regB L[i]).length : Int) + ((regsB (L.drop (i + 1))).length : Int) := by rw [regsB_at h, List.length_append]; omega
theorem compsB_step {L : List PComp} {i : Nat} (h : i < L.length) : ((compsB (L.drop i)).length : Int) = ((compB L[i]).length : Int) + ((compsB (L.drop (i + 1))).length : Int) := by rw [compsB_at h, List.length_append]; omega
theorem gatesB_step {L : List PGate} {i : Nat} (h : i < L.length) : ((gatesB (L.drop i)).length : Int) = ((gateB L[i]).length : Int) + ((gatesB (L.drop (i + 1))).length : Int) := by rw [gatesB_at h, List.length_append]; omega
theorem typsB_step {L : List PTyp} {i : Nat} (h : i < L.length) : ((typsB (L.drop i)).length : Int) = ((typB L[i]).length : Int) + ((typsB (L.drop (i + 1))).length : Int) := by rw [typsB_at h, List.length_append]; omega
set_option maxRecDepth 100000 in
set_option maxHeartbeats 16000000 in
theorem refSize_any (m : PImg) (ra ca ga : Option Addr) (rc cc gc : Nat) (w : World) (hm0 : ImgIn w.heap.size w ra ca ga m) (hr : m.Rng) (h0 : m.right = 0) :
    Calls Tryz.prog 20 #[.agg #[.slice ra m.regs.length rc, .slice ca m.comps.length cc, .slice ga m.gates.length gc, .int .i64 m.depth]] w fun x w' => x = .returned (.int .i64 (imgB m).length) ∧ Below w.heap.size w w' := by
  obtain ⟨hcnt, hp1, hp2, hp3⟩ := right_parts h0
  have hle := imgB_le hr h0
  have hTT := imgB_len m
  have hs1 := Hid.mk (regsR_slots _ _ hp1)
  have hs2 := Hid.mk (compsR_code _ _ hp2)
  have hs3 := Hid.mk (gatesR_few _ _ hp3)
  have hr1 := Hid.mk hr.regs.2
  have hr2 := Hid.mk hr.comps.2
  have hr3 := Hid.mk hr.gates.2
  have hl1 := Hid.mk hr.regs.1
  have hl2 := Hid.mk hr.comps.1
  have hl3 := Hid.mk hr.gates.1
  have hle' : ((imgB m).length : Int) ≤ 10000000 := by omega
  clear hcnt hp1 hp2 hp3 hr h0 hle
  generalize ((imgB m).length : Int) = TT at *
  generalize hR1 : ((compsB m.comps).length : Int) + ((gatesB m.gates).length : Int) = R1 at *
  have hR0 : 0 ≤ R1 := by omega
  replace hR1 := Hid.mk hR1
  replace hR0 := Hid.mk hR0
  replace hTT := Hid.mk hTT
  replace hle' := Hid.mk hle'
  replace hm0 := Hid.mk hm0
  go_enter Tryz.func20, Tryz.ntmps20
  go_upto_region 1 with fail
  refine wp_world (fun W => At W w.heap.size #[.slice ra m.regs.length rc, .slice ca m.comps.length cc, .slice ga m.gates.length gc, .int .i64 m.depth] ∧ Gr w W) ⟨At.new w _ _, (Gr.refl w).alloc _⟩ ?_
  rintro W0 ⟨BM, G0⟩
  replace BM := Hid.mk BM
  have hm : Hid (ImgIn w.heap.size W0 ra ca ga m) := Hid.mk (hm0.out.below (gr_belowR G0 (Nat.le_refl _)))
  have hB : Hid (w.heap.size < W0.heap.size) := Hid.mk BM.out.1
  replace G0 := Hid.mk G0.below
  clear hm0
  go_upto_region 3 with fail
  have L := Hid.mk (Below.refl W0.heap.size W0)
  go_loopw [3, 4] (fun y x wr => ∃ (i : Nat) (N : Int), y = .int .i64 N ∧ x = .int .i64 i ∧ i ≤ m.regs.length ∧ Hid (0 ≤ N ∧ N + ((regsB (m.regs.drop i)).length : Int) + R1 = TT) ∧ Hid (Below W0.heap.size W0 wr)) (fun _ x _ => m.regs.length - (intOf x).toNat)
  case atStart => exact ⟨0, 10, rfl, rfl, Nat.zero_le _, Hid.mk ⟨by decide, by rw [List.drop_zero]; have := hTT.out; omega⟩, L⟩
  case round =>
    clear L
    obtain ⟨i, N, rfl, rfl, hi, hE, L⟩ := hrel
    have m0 : wr.cell? ⟨w.heap.size, 0, none⟩ = some (.slice ra m.regs.length rc) := (At.underB BM.out L.out hB.out).2.1 0
    by_cases hn : i < m.regs.length
    · have hi1 : (i : Int) < (m.regs.length : Int) := Int.ofNat_lt.2 hn
      clear m0
      obtain ⟨rb, off, sa, sc, hra, hb1, _, k0, k1, k2, k3, kf⟩ := hm.out.regs i hn
      subst hra
      obtain ⟨hN0, hE⟩ := hE.out
      rw [regsB_step hn, regB_len (hs1.out _ (List.getElem_mem hn))] at hE
      generalize hF1 : ((regsB (m.regs.drop (i + 1))).length : Int) = F1 at hE
      have hF0 : 0 ≤ F1 := by rw [← hF1]; exact Int.natCast_nonneg _
      replace hF1 := Hid.mk hF1
      generalize m.regs[i] = rr at k0 k1 k2 k3 kf hE
      have hT := hle'.out
      have hR := hR0.out
      have LW := L.out.mono (Nat.le_of_lt hB.out)
      have d2 := (LW.cell (p := ⟨rb, off + i * 4 + 1 + 1, none⟩) hb1).trans k2
      have d3 := (LW.cell (p := ⟨rb, off + i * 4 + 1 + 1 + 1, none⟩) hb1).trans k3
      have m0 : wr.cell? ⟨w.heap.size, 0, none⟩ = some (.slice (some ⟨rb, off, none⟩) m.regs.length rc) := (At.underB BM.out L.out hB.out).2.1 0
      clear k0 k1 k2 k3 LW kf
      by_cases hz : rr.slots.length = 0
      · rw [if_pos hz] at hE
        have p1 : 0 ≤ N + 10 ∧ N + 10 ≤ 100000000 := by omega
        have p2 : 0 ≤ 43 * (rr.slots.length : Int) ∧ 43 * (rr.slots.length : Int) ≤ 100000000 := by omega
        have p3 : 0 ≤ N + 10 + 43 * (rr.slots.length : Int) ∧ N + 10 + 43 * (rr.slots.length : Int) ≤ 100000000 := by omega
        have p4 : 0 ≤ N + 10 + 43 * (rr.slots.length : Int) + 2 ∧ N + 10 + 43 * (rr.slots.length : Int) + 2 ≤ 100000000 := by omega
        have p5 : 0 ≤ N + 10 + 43 * (rr.slots.length : Int) + 2 + (rr.data.length : Int) ∧ N + 10 + 43 * (rr.slots.length : Int) + 2 + (rr.data.length : Int) ≤ 100000000 := by omega
        have hI := Hid.mk (show 0 ≤ N + 10 + 43 * (rr.slots.length : Int) + 2 + (rr.data.length : Int) ∧ N + 10 + 43 * (rr.slots.length : Int) + 2 + (rr.data.length : Int) + ((regsB (m.regs.drop (i + 1))).length : Int) + R1 = TT from ⟨p5.1, by rw [hF1.out]; omega⟩)
        have hz1 : ((rr.slots.length : Int) == 0) = true := by rw [hz]; rfl
        have ss : (str rr.data).size = rr.data.length := str_size _
        clear hE hF0 hT hR hN0 hz hF1
        have aw : wrap64 (N + 10) = N + 10 := wsm p1.1 p1.2
        have ax : IntKind.i64.wrap (N + 10) = N + 10 := wsx p1.1 p1.2
        have bw : wrap64 (43 * (rr.slots.length : Int)) = 43 * (rr.slots.length : Int) := wsm p2.1 p2.2
        have bx : IntKind.i64.wrap (43 * (rr.slots.length : Int)) = 43 * (rr.slots.length : Int) := wsx p2.1 p2.2
        have cw : wrap64 (N + 10 + 43 * (rr.slots.length : Int)) = N + 10 + 43 * (rr.slots.length : Int) := wsm p3.1 p3.2
        have cx : IntKind.i64.wrap (N + 10 + 43 * (rr.slots.length : Int)) = N + 10 + 43 * (rr.slots.length : Int) := wsx p3.1 p3.2
        have dw : wrap64 (N + 10 + 43 * (rr.slots.length : Int) + 2) = N + 10 + 43 * (rr.slots.length : Int) + 2 := wsm p4.1 p4.2
        have dx : IntKind.i64.wrap (N + 10 + 43 * (rr.slots.length : Int) + 2) = N + 10 + 43 * (rr.slots.length : Int) + 2 := wsx p4.1 p4.2
        have ew : wrap64 (N + 10 + 43 * (rr.slots.length : Int) + 2 + (rr.data.length : Int)) = N + 10 + 43 * (rr.slots.length : Int) + 2 + (rr.data.length : Int) := wsm p5.1 p5.2
        have ex : IntKind.i64.wrap (N + 10 + 43 * (rr.slots.length : Int) + 2 + (rr.data.length : Int)) = N + 10 + 43 * (rr.slots.length : Int) + 2 + (rr.data.length : Int) := wsx p5.1 p5.2
        clear p1 p2 p3 p4 p5
        go_wp2_with fail
        refine ⟨⟨i + 1, (N + 10 + 43 * (rr.slots.length : Int) + 2 + (rr.data.length : Int)), rfl, ?_, hn, hI, L⟩, ?_⟩
        · first | rfl | rw [next_wS hn hl1.out] | go_num
        · first | exact next_mS hn | (rw [next_wS hn hl1.out]; exact next_mS hn)
      · rw [if_neg hz] at hE
        have p1 : 0 ≤ N + 10 ∧ N + 10 ≤ 100000000 := by omega
        have p2 : 0 ≤ 43 * (rr.slots.length : Int) ∧ 43 * (rr.slots.length : Int) ≤ 100000000 := by omega
        have p3 : 0 ≤ N + 10 + 43 * (rr.slots.length : Int) ∧ N + 10 + 43 * (rr.slots.length : Int) ≤ 100000000 := by omega
        have hI := Hid.mk (show 0 ≤ N + 10 + 43 * (rr.slots.length : Int) ∧ N + 10 + 43 * (rr.slots.length : Int) + ((regsB (m.regs.drop (i + 1))).length : Int) + R1 = TT from ⟨p3.1, by rw [hF1.out]; omega⟩)
        have hz1 : ((rr.slots.length : Int) == 0) = false := by rw [beq_eq_false_iff_ne]; omega
        clear hE hF0 hT hR hN0 hz hF1
        have aw : wrap64 (N + 10) = N + 10 := wsm p1.1 p1.2
        have ax : IntKind.i64.wrap (N + 10) = N + 10 := wsx p1.1 p1.2
        have bw : wrap64 (43 * (rr.slots.length : Int)) = 43 * (rr.slots.length : Int) := wsm p2.1 p2.2
        have bx : IntKind.i64.wrap (43 * (rr.slots.length : Int)) = 43 * (rr.slots.length : Int) := wsx p2.1 p2.2
        have cw : wrap64 (N + 10 + 43 * (rr.slots.length : Int)) = N + 10 + 43 * (rr.slots.length : Int) := wsm p3.1 p3.2
        have cx : IntKind.i64.wrap (N + 10 + 43 * (rr.slots.length : Int)) = N + 10 + 43 * (rr.slots.length : Int) := wsx p3.1 p3.2
        clear p1 p2 p3
        go_wp2_with fail
        refine ⟨⟨i + 1, (N + 10 + 43 * (rr.slots.length : Int)), rfl, ?_, hn, hI, L⟩, ?_⟩
        · first | rfl | rw [next_wS hn hl1.out] | go_num
        · first | exact next_mS hn | (rw [next_wS hn hl1.out]; exact next_mS hn)
    · have hi1 : ¬ (i : Int) < (m.regs.length : Int) := fun q => hn (Int.ofNat_lt.1 q)
      have ei : i = m.regs.length := Nat.le_antisymm hi (Nat.le_of_not_lt hn)
      subst ei
      obtain ⟨hN0, hE⟩ := hE.out
      rw [List.drop_length] at hE
      have hE1 : N + ((regsB ([] : List PReg)).length : Int) + R1 = TT := hE
      have hE2 : N + ((compsB m.comps).length : Int) + ((gatesB m.gates).length : Int) = TT := by rw [← hR1.out] at hE1; simp only [regsB, List.length_nil] at hE1; omega
      clear hE hE1
      generalize hG1 : ((gatesB m.gates).length : Int) = G1 at *
      have hR2 : Hid (0 ≤ G1) := Hid.mk (by rw [← hG1]; exact Int.natCast_nonneg _)
      replace hG1 := Hid.mk hG1
      replace hE2 := Hid.mk (And.intro hN0 hE2)
      clear hN0
      go_upto_region 9 with fail
      clear m0
      go_loopw [3, 5] (fun y x wr => ∃ (i : Nat) (N : Int), y = .int .i64 N ∧ x = .int .i64 i ∧ i ≤ m.comps.length ∧ Hid (0 ≤ N ∧ N + ((compsB (m.comps.drop i)).length : Int) + G1 = TT) ∧ Hid (Below W0.heap.size W0 wr)) (fun _ x _ => m.comps.length - (intOf x).toNat)
      case atStart => exact ⟨0, N, rfl, rfl, Nat.zero_le _, Hid.mk ⟨hE2.out.1, by rw [List.drop_zero]; exact hE2.out.2⟩, L⟩
      case round =>
        clear L hE2
        obtain ⟨i, N, rfl, rfl, hi, hE, L⟩ := hrel
        have m0 : wr.cell? ⟨w.heap.size, 1, none⟩ = some (.slice ca m.comps.length cc) := (At.underB BM.out L.out hB.out).2.1 1
        by_cases hn : i < m.comps.length
        · have hi1 : (i : Int) < (m.comps.length : Int) := Int.ofNat_lt.2 hn
          clear m0
          obtain ⟨rb, off, ra', rc', ka, kc', hca, hb1, _, k0, k1, _, _⟩ := hm.out.comps i hn
          subst hca
          obtain ⟨hN0, hE⟩ := hE.out
          rw [compsB_step hn, compB_len (hs2.out _ (List.getElem_mem hn))] at hE
          generalize hF1 : ((compsB (m.comps.drop (i + 1))).length : Int) = F1 at hE
          have hF0 : 0 ≤ F1 := by rw [← hF1]; exact Int.natCast_nonneg _
          replace hF1 := Hid.mk hF1
          generalize m.comps[i] = rr at k0 k1 hE
          replace k0 := Hid.mk k0
          replace k1 := Hid.mk k1
          have hT := hle'.out
          have hR := hR2.out
          have p1 : 0 ≤ N + 3 ∧ N + 3 ≤ 100000000 := by omega
          have p2 : 0 ≤ 27 * (rr.roots.length : Int) ∧ 27 * (rr.roots.length : Int) ≤ 100000000 := by omega
          have p3 : 0 ≤ N + 3 + 27 * (rr.roots.length : Int) ∧ N + 3 + 27 * (rr.roots.length : Int) ≤ 100000000 := by omega
          have p4 : 0 ≤ 8 * (rr.code.length : Int) ∧ 8 * (rr.code.length : Int) ≤ 100000000 := by omega
          have p5 : 0 ≤ N + 3 + 27 * (rr.roots.length : Int) + 8 * (rr.code.length : Int) ∧ N + 3 + 27 * (rr.roots.length : Int) + 8 * (rr.code.length : Int) ≤ 100000000 := by omega
          have hI := Hid.mk (show 0 ≤ N + 3 + 27 * (rr.roots.length : Int) + 8 * (rr.code.length : Int) ∧ N + 3 + 27 * (rr.roots.length : Int) + 8 * (rr.code.length : Int) + ((compsB (m.comps.drop (i + 1))).length : Int) + G1 = TT from ⟨p5.1, by rw [hF1.out]; omega⟩)
          clear hE hF0 hT hR hN0 hF1
          have aw : wrap64 (N + 3) = N + 3 := wsm p1.1 p1.2
          have ax : IntKind.i64.wrap (N + 3) = N + 3 := wsx p1.1 p1.2
          have bw : wrap64 (27 * (rr.roots.length : Int)) = 27 * (rr.roots.length : Int) := wsm p2.1 p2.2
          have bx : IntKind.i64.wrap (27 * (rr.roots.length : Int)) = 27 * (rr.roots.length : Int) := wsx p2.1 p2.2
          have cw : wrap64 (N + 3 + 27 * (rr.roots.length : Int)) = N + 3 + 27 * (rr.roots.length : Int) := wsm p3.1 p3.2
          have cx : IntKind.i64.wrap (N + 3 + 27 * (rr.roots.length : Int)) = N + 3 + 27 * (rr.roots.length : Int) := wsx p3.1 p3.2
          have dw : wrap64 (8 * (rr.code.length : Int)) = 8 * (rr.code.length : Int) := wsm p4.1 p4.2
          have dx : IntKind.i64.wrap (8 * (rr.code.length : Int)) = 8 * (rr.code.length : Int) := wsx p4.1 p4.2
          have ew : wrap64 (N + 3 + 27 * (rr.roots.length : Int) + 8 * (rr.code.length : Int)) = N + 3 + 27 * (rr.roots.length : Int) + 8 * (rr.code.length : Int) := wsm p5.1 p5.2
          have ex : IntKind.i64.wrap (N + 3 + 27 * (rr.roots.length : Int) + 8 * (rr.code.length : Int)) = N + 3 + 27 * (rr.roots.length : Int) + 8 * (rr.code.length : Int) := wsx p5.1 p5.2
          clear p1 p2 p3 p4 p5
          have KS : Hid (∀ W, Below wr.heap.size wr W → W.cell? ⟨w.heap.size, 1, none⟩ = some (.slice (some ⟨rb, off, none⟩) m.comps.length cc) ∧ W.cell? ⟨rb, off + i * 2, none⟩ = some (.slice ra' rr.roots.length rc') ∧ W.cell? ⟨rb, off + i * 2 + 1, none⟩ = some (.slice ka rr.code.length kc')) := Hid.mk (fun W q => by have LQ := below_upS L.out (Nat.le_refl _) q; have LW := LQ.mono (Nat.le_of_lt hB.out); exact ⟨(At.underB BM.out LQ hB.out).2.1 1, (LW.cell (p := ⟨rb, off + i * 2, none⟩) hb1).trans k0.out, (LW.cell (p := ⟨rb, off + i * 2 + 1, none⟩) hb1).trans k1.out⟩)
          have m1 : wr.cell? ⟨w.heap.size, 1, none⟩ = some (.slice (some ⟨rb, off, none⟩) m.comps.length cc) := (At.underB BM.out L.out hB.out).2.1 1
          go_upto_region 11 with fail
          clear m1
          have d1 : Below wr.heap.size wr wr.drew := ((Gr.refl _).drew).below
          refine wp_region_held_drew (S := (fun W => W.cell? ⟨w.heap.size, 1, none⟩ = some (.slice (some ⟨rb, off, none⟩) m.comps.length cc) ∧ W.cell? ⟨rb, off + i * 2, none⟩ = some (.slice ra' rr.roots.length rc') ∧ W.cell? ⟨rb, off + i * 2 + 1, none⟩ = some (.slice ka rr.code.length kc'))) (by kernel_rfl) (KS.out _ d1) (fun hHeld => ?_)
          refine wpAnyH_take (i := 0) (oi := { dst := some 53, op := Op.move (Operand.tmp 3), type := 3, pos := "bytes.go:45", after := #[], guard := none }) (v := ?_) rfl (by kernel_rfl) (by kernel_rfl) (by kernel_rfl) (fun _ _ _ h => h) (Or.inl ⟨by rfl, ?_⟩) (by assumption) ?_
          rotate_left
          · intro w hSw; (try dsimp only at hSw); go_simp; first | done | with_reducible rfl
          try simp only [Act.put, List.setIfInBounds_toArray, List.set_cons_zero, List.set_cons_succ]
          refine wpAnyH_take (i := 1) (oi := { dst := some 54, op := Op.binOp BinOp.add 3 (Operand.tmp 53) (Operand.const (Value.int IntKind.i64 3)) 3, type := 3, pos := "bytes.go:45", after := #[{ on := 0, ground := Ground.data }], guard := none }) (v := ?_) rfl (by kernel_rfl) (by kernel_rfl) (by kernel_rfl) (fun _ _ _ h => h) (Or.inl ⟨by rfl, ?_⟩) (by assumption) ?_
          rotate_left
          · intro w hSw; (try dsimp only at hSw); go_simp; first | done | with_reducible rfl
          try simp only [Act.put, List.setIfInBounds_toArray, List.set_cons_zero, List.set_cons_succ]
          refine wpAnyH_take (i := 2) (oi := { dst := some 55, op := Op.fieldAddr 26 (Operand.tmp 1) 1, type := 0, pos := "bytes.go:45", after := #[], guard := none }) (v := ?_) rfl (by kernel_rfl) (by kernel_rfl) (by kernel_rfl) (fun _ _ _ h => h) (Or.inl ⟨by rfl, ?_⟩) (by assumption) ?_
          rotate_left
          · intro w hSw; (try dsimp only at hSw); go_simp; first | done | with_reducible rfl
          try simp only [Act.put, List.setIfInBounds_toArray, List.set_cons_zero, List.set_cons_succ]
          refine wpAnyH_take (i := 3) (oi := { dst := some 56, op := Op.load 23 (Operand.tmp 55), type := 23, pos := "bytes.go:45", after := #[{ on := 2, ground := Ground.data }], guard := none }) (v := ?_) rfl (by kernel_rfl) (by kernel_rfl) (by kernel_rfl) (fun _ _ _ h => h) (Or.inl ⟨by rfl, ?_⟩) (by assumption) ?_
          rotate_left
          · intro w hSw; (try dsimp only at hSw); go_simp; first | done | with_reducible rfl
          try simp only [Act.put, List.setIfInBounds_toArray, List.set_cons_zero, List.set_cons_succ]
          refine wpAnyH_take (i := 4) (oi := { dst := some 57, op := Op.move (Operand.tmp 5), type := 3, pos := "bytes.go:45", after := #[], guard := none }) (v := ?_) rfl (by kernel_rfl) (by kernel_rfl) (by kernel_rfl) (fun _ _ _ h => h) (Or.inl ⟨by rfl, ?_⟩) (by assumption) ?_
          rotate_left
          · intro w hSw; (try dsimp only at hSw); go_simp; first | done | with_reducible rfl
          try simp only [Act.put, List.setIfInBounds_toArray, List.set_cons_zero, List.set_cons_succ]
          refine wpAnyH_take (i := 5) (oi := { dst := some 58, op := Op.indexAddr 23 (Operand.tmp 56) (Operand.tmp 57), type := 0, pos := "bytes.go:45", after := #[{ on := 3, ground := Ground.data }, { on := 4, ground := Ground.data }], guard := none }) (v := ?_) rfl (by kernel_rfl) (by kernel_rfl) (by kernel_rfl) (fun _ _ _ h => h) (Or.inl ⟨by rfl, ?_⟩) (by assumption) ?_
          rotate_left
          · intro w hSw; (try dsimp only at hSw); go_simp; first | done | with_reducible rfl
          try simp only [Act.put, List.setIfInBounds_toArray, List.set_cons_zero, List.set_cons_succ]
          refine wpAnyH_take (i := 6) (oi := { dst := some 59, op := Op.fieldAddr 52 (Operand.tmp 58) 0, type := 0, pos := "bytes.go:45", after := #[{ on := 5, ground := Ground.data }], guard := none }) (v := ?_) rfl (by kernel_rfl) (by kernel_rfl) (by kernel_rfl) (fun _ _ _ h => h) (Or.inl ⟨by rfl, ?_⟩) (by assumption) ?_
          rotate_left
          · intro w hSw; (try dsimp only at hSw); go_simp; first | done | with_reducible rfl
          try simp only [Act.put, List.setIfInBounds_toArray, List.set_cons_zero, List.set_cons_succ]
          refine wpAnyH_take (i := 7) (oi := { dst := some 60, op := Op.load 49 (Operand.tmp 59), type := 49, pos := "bytes.go:45", after := #[{ on := 6, ground := Ground.data }], guard := none }) (v := ?_) rfl (by kernel_rfl) (by kernel_rfl) (by kernel_rfl) (fun _ _ _ h => h) (Or.inl ⟨by rfl, ?_⟩) (by assumption) ?_
          rotate_left
          · intro w hSw; (try dsimp only at hSw); go_simp; first | done | with_reducible rfl
          try simp only [Act.put, List.setIfInBounds_toArray, List.set_cons_zero, List.set_cons_succ]
          refine wpAnyH_take (i := 8) (oi := { dst := some 61, op := Op.call { callee := Callee.builtin Builtin.len, args := #[Operand.tmp 60], argTypes := #[49] }, type := 3, pos := "bytes.go:45", after := #[{ on := 7, ground := Ground.data }], guard := none }) (v := ?_) rfl (by kernel_rfl) (by kernel_rfl) (by kernel_rfl) (fun _ _ _ h => h) (Or.inl ⟨by rfl, ?_⟩) (by assumption) ?_
          rotate_left
          · intro w hSw; (try dsimp only at hSw); go_simp; first | done | with_reducible rfl
          try simp only [Act.put, List.setIfInBounds_toArray, List.set_cons_zero, List.set_cons_succ]
          refine wpAnyH_take (i := 9) (oi := { dst := some 62, op := Op.binOp BinOp.mul 3 (Operand.const (Value.int IntKind.i64 27)) (Operand.tmp 61) 3, type := 3, pos := "bytes.go:45", after := #[{ on := 8, ground := Ground.data }], guard := none }) (v := ?_) rfl (by kernel_rfl) (by kernel_rfl) (by kernel_rfl) (fun _ _ _ h => h) (Or.inl ⟨by rfl, ?_⟩) (by assumption) ?_
          rotate_left
          · intro w hSw; (try dsimp only at hSw); go_simp; first | done | with_reducible rfl
          try simp only [Act.put, List.setIfInBounds_toArray, List.set_cons_zero, List.set_cons_succ]
          refine wpAnyH_take (i := 10) (oi := { dst := some 63, op := Op.binOp BinOp.add 3 (Operand.tmp 54) (Operand.tmp 62) 3, type := 3, pos := "bytes.go:45", after := #[{ on := 1, ground := Ground.data }, { on := 9, ground := Ground.data }], guard := none }) (v := ?_) rfl (by kernel_rfl) (by kernel_rfl) (by kernel_rfl) (fun _ _ _ h => h) (Or.inl ⟨by rfl, ?_⟩) (by assumption) ?_
          rotate_left
          · intro w hSw; (try dsimp only at hSw); go_simp; first | done | with_reducible rfl
          try simp only [Act.put, List.setIfInBounds_toArray, List.set_cons_zero, List.set_cons_succ]
          refine wpAnyH_take (i := 11) (oi := { dst := some 64, op := Op.fieldAddr 26 (Operand.tmp 1) 1, type := 0, pos := "bytes.go:45", after := #[], guard := none }) (v := ?_) rfl (by kernel_rfl) (by kernel_rfl) (by kernel_rfl) (fun _ _ _ h => h) (Or.inl ⟨by rfl, ?_⟩) (by assumption) ?_
          rotate_left
          · intro w hSw; (try dsimp only at hSw); go_simp; first | done | with_reducible rfl
          try simp only [Act.put, List.setIfInBounds_toArray, List.set_cons_zero, List.set_cons_succ]
          refine wpAnyH_take (i := 12) (oi := { dst := some 65, op := Op.load 23 (Operand.tmp 64), type := 23, pos := "bytes.go:45", after := #[{ on := 11, ground := Ground.data }], guard := none }) (v := ?_) rfl (by kernel_rfl) (by kernel_rfl) (by kernel_rfl) (fun _ _ _ h => h) (Or.inl ⟨by rfl, ?_⟩) (by assumption) ?_
          rotate_left
          · intro w hSw; (try dsimp only at hSw); go_simp; first | done | with_reducible rfl
          try simp only [Act.put, List.setIfInBounds_toArray, List.set_cons_zero, List.set_cons_succ]
          refine wpAnyH_take (i := 13) (oi := { dst := some 66, op := Op.move (Operand.tmp 5), type := 3, pos := "bytes.go:45", after := #[], guard := none }) (v := ?_) rfl (by kernel_rfl) (by kernel_rfl) (by kernel_rfl) (fun _ _ _ h => h) (Or.inl ⟨by rfl, ?_⟩) (by assumption) ?_
          rotate_left
          · intro w hSw; (try dsimp only at hSw); go_simp; first | done | with_reducible rfl
          try simp only [Act.put, List.setIfInBounds_toArray, List.set_cons_zero, List.set_cons_succ]
          refine wpAnyH_take (i := 14) (oi := { dst := some 67, op := Op.indexAddr 23 (Operand.tmp 65) (Operand.tmp 66), type := 0, pos := "bytes.go:45", after := #[{ on := 12, ground := Ground.data }, { on := 13, ground := Ground.data }], guard := none }) (v := ?_) rfl (by kernel_rfl) (by kernel_rfl) (by kernel_rfl) (fun _ _ _ h => h) (Or.inl ⟨by rfl, ?_⟩) (by assumption) ?_
          rotate_left
          · intro w hSw; (try dsimp only at hSw); go_simp; first | done | with_reducible rfl
          try simp only [Act.put, List.setIfInBounds_toArray, List.set_cons_zero, List.set_cons_succ]
          refine wpAnyH_take (i := 15) (oi := { dst := some 68, op := Op.fieldAddr 52 (Operand.tmp 67) 1, type := 0, pos := "bytes.go:45", after := #[{ on := 14, ground := Ground.data }], guard := none }) (v := ?_) rfl (by kernel_rfl) (by kernel_rfl) (by kernel_rfl) (fun _ _ _ h => h) (Or.inl ⟨by rfl, ?_⟩) (by assumption) ?_
          rotate_left
          · intro w hSw; (try dsimp only at hSw); go_simp; first | done | with_reducible rfl
          try simp only [Act.put, List.setIfInBounds_toArray, List.set_cons_zero, List.set_cons_succ]
          refine wpAnyH_take (i := 16) (oi := { dst := some 69, op := Op.load 50 (Operand.tmp 68), type := 50, pos := "bytes.go:45", after := #[{ on := 15, ground := Ground.data }], guard := none }) (v := ?_) rfl (by kernel_rfl) (by kernel_rfl) (by kernel_rfl) (fun _ _ _ h => h) (Or.inl ⟨by rfl, ?_⟩) (by assumption) ?_
          rotate_left
          · intro w hSw; (try dsimp only at hSw); go_simp; first | done | with_reducible rfl
          try simp only [Act.put, List.setIfInBounds_toArray, List.set_cons_zero, List.set_cons_succ]
          refine wpAnyH_take (i := 17) (oi := { dst := some 70, op := Op.call { callee := Callee.builtin Builtin.len, args := #[Operand.tmp 69], argTypes := #[50] }, type := 3, pos := "bytes.go:45", after := #[{ on := 16, ground := Ground.data }], guard := none }) (v := ?_) rfl (by kernel_rfl) (by kernel_rfl) (by kernel_rfl) (fun _ _ _ h => h) (Or.inl ⟨by rfl, ?_⟩) (by assumption) ?_
          rotate_left
          · intro w hSw; (try dsimp only at hSw); go_simp; first | done | with_reducible rfl
          try simp only [Act.put, List.setIfInBounds_toArray, List.set_cons_zero, List.set_cons_succ]
          refine wpAnyH_take (i := 18) (oi := { dst := some 71, op := Op.binOp BinOp.mul 3 (Operand.const (Value.int IntKind.i64 8)) (Operand.tmp 70) 3, type := 3, pos := "bytes.go:45", after := #[{ on := 17, ground := Ground.data }], guard := none }) (v := ?_) rfl (by kernel_rfl) (by kernel_rfl) (by kernel_rfl) (fun _ _ _ h => h) (Or.inl ⟨by rfl, ?_⟩) (by assumption) ?_
          rotate_left
          · intro w hSw; (try dsimp only at hSw); go_simp; first | done | with_reducible rfl
          try simp only [Act.put, List.setIfInBounds_toArray, List.set_cons_zero, List.set_cons_succ]
          refine wpAnyH_take (i := 19) (oi := { dst := some 72, op := Op.binOp BinOp.add 3 (Operand.tmp 63) (Operand.tmp 71) 3, type := 3, pos := "bytes.go:45", after := #[{ on := 10, ground := Ground.data }, { on := 18, ground := Ground.data }], guard := none }) (v := ?_) rfl (by kernel_rfl) (by kernel_rfl) (by kernel_rfl) (fun _ _ _ h => h) (Or.inl ⟨by rfl, ?_⟩) (by assumption) ?_
          rotate_left
          · intro w hSw; (try dsimp only at hSw); go_simp; first | done | with_reducible rfl
          try simp only [Act.put, List.setIfInBounds_toArray, List.set_cons_zero, List.set_cons_succ]
          refine wpAnyH_take (i := 20) (oi := { dst := some 3, op := Op.assign (Operand.tmp 72), type := 3, pos := "bytes.go:45", after := #[{ on := 19, ground := Ground.data }, { on := 0, ground := Ground.phase }, { on := 1, ground := Ground.phase }, { on := 2, ground := Ground.phase }, { on := 3, ground := Ground.phase }, { on := 4, ground := Ground.phase }, { on := 5, ground := Ground.phase }, { on := 6, ground := Ground.phase }, { on := 7, ground := Ground.phase }, { on := 8, ground := Ground.phase }, { on := 9, ground := Ground.phase }, { on := 10, ground := Ground.phase }, { on := 11, ground := Ground.phase }, { on := 12, ground := Ground.phase }, { on := 13, ground := Ground.phase }, { on := 14, ground := Ground.phase }, { on := 15, ground := Ground.phase }, { on := 16, ground := Ground.phase }, { on := 17, ground := Ground.phase }, { on := 18, ground := Ground.phase }, { on := 19, ground := Ground.phase }], guard := none }) (v := ?_) rfl (by kernel_rfl) (by kernel_rfl) (by kernel_rfl) (fun _ _ _ h => h) (Or.inl ⟨by rfl, ?_⟩) (by assumption) ?_
          rotate_left
          · intro w hSw; (try dsimp only at hSw); go_simp; first | done | with_reducible rfl
          try simp only [Act.put, List.setIfInBounds_toArray, List.set_cons_zero, List.set_cons_succ]
          refine wpAnyH_done (by kernel_rfl) ?_ _
          clear hHeld KS k0 k1
          replace L := Hid.mk (below_upS L.out (Nat.le_refl _) d1)
          clear d1
          clear aw ax bw bx cw cx dw dx ew ex
          go_wp2_with fail
          refine ⟨⟨i + 1, (N + 3 + 27 * (rr.roots.length : Int) + 8 * (rr.code.length : Int)), rfl, ?_, hn, hI, L⟩, ?_⟩
          · first | rfl | rw [next_wS hn hl2.out] | go_num
          · first | exact next_mS hn | (rw [next_wS hn hl2.out]; exact next_mS hn)
        · have hi1 : ¬ (i : Int) < (m.comps.length : Int) := fun q => hn (Int.ofNat_lt.1 q)
          have ei : i = m.comps.length := Nat.le_antisymm hi (Nat.le_of_not_lt hn)
          subst ei
          obtain ⟨hN0, hE⟩ := hE.out
          rw [List.drop_length, ← hG1.out] at hE
          have hE3 : Hid (0 ≤ N ∧ N + ((gatesB m.gates).length : Int) = TT) := Hid.mk (by simp only [compsB, List.length_nil] at hE; omega)
          clear hE hN0
          go_upto_region 13 with fail
          clear m0
          go_loopw [3, 6] (fun y x wr => ∃ (i : Nat) (N : Int), y = .int .i64 N ∧ x = .int .i64 i ∧ i ≤ m.gates.length ∧ Hid (0 ≤ N ∧ N + ((gatesB (m.gates.drop i)).length : Int) = TT) ∧ Hid (Below W0.heap.size W0 wr)) (fun _ x _ => m.gates.length - (intOf x).toNat)
          case atStart => exact ⟨0, N, rfl, rfl, Nat.zero_le _, Hid.mk ⟨hE3.out.1, by rw [List.drop_zero]; exact hE3.out.2⟩, L⟩
          case round =>
            clear L hE3
            obtain ⟨i, N, rfl, rfl, hi, hE, L⟩ := hrel
            have m0 : wr.cell? ⟨w.heap.size, 2, none⟩ = some (.slice ga m.gates.length gc) := (At.underB BM.out L.out hB.out).2.1 2
            by_cases hn : i < m.gates.length
            · have hi1 : (i : Int) < (m.gates.length : Int) := Int.ofNat_lt.2 hn
              clear m0
              have hW := Hid.mk L.out.size
              obtain ⟨rb, off, xa, xc, ya, yc, hga, hb1, _, _, _, k2, k3, kf, kl⟩ := hm.out.gates i hn
              subst hga
              obtain ⟨hN0, hE⟩ := hE.out
              rw [gatesB_step hn, gateB_len] at hE
              generalize hF1 : ((gatesB (m.gates.drop (i + 1))).length : Int) = F1 at hE
              have hF0 : 0 ≤ F1 := by rw [← hF1]; exact Int.natCast_nonneg _
              replace hF1 := Hid.mk hF1
              have hfew := hs3.out _ (List.getElem_mem hn)
              have hrr := hr3.out _ (List.getElem_mem hn)
              generalize m.gates[i] = rr at k2 k3 kf kl hE hfew hrr
              have hf1 := Hid.mk (fit_few (n := rr.args.length) (by omega))
              have hf2 := Hid.mk (fit_few (n := rr.args.length + rr.res.length) (by omega))
              have hLl : Hid ((rr.args ++ rr.res).length ≤ maxG) := Hid.mk (by rw [List.length_append]; unfold maxG; omega)
              have hLr : Hid (∀ t ∈ rr.args ++ rr.res, t.Rng) := Hid.mk (fun t h => by
                rcases List.mem_append.1 h with h | h
                · exact hrr.2.2.2.2.1 t h
                · exact hrr.2.2.2.2.2 t h)
              clear hfew hrr
              have hT := hle'.out
              have hg0 : 0 ≤ ((typsB (rr.args ++ rr.res)).length : Int) := Int.natCast_nonneg _
              have p1 : 0 ≤ N + 5 ∧ N + 5 ≤ 100000000 := by omega
              have hI := Hid.mk (show 0 ≤ N + 5 ∧ N + 5 + ((typsB (rr.args ++ rr.res)).length : Int) + F1 = TT from ⟨p1.1, by omega⟩)
              replace hF0 := Hid.mk hF0
              clear hE hT hN0 hg0
              have aw : wrap64 (N + 5) = N + 5 := wsm p1.1 p1.2
              have ax : IntKind.i64.wrap (N + 5) = N + 5 := wsx p1.1 p1.2
              clear p1
              have LW := L.out.mono (Nat.le_of_lt hB.out)
              have d2 := (LW.cell (p := ⟨rb, off + i * 4 + 1 + 1, none⟩) hb1).trans k2
              have m2 : wr.cell? ⟨w.heap.size, 2, none⟩ = some (.slice (some ⟨rb, off, none⟩) m.gates.length gc) := (At.underB BM.out L.out hB.out).2.1 2
              have hx := Hid.mk (kf.below LW)
              replace kl := Hid.mk kl
              replace k3 := Hid.mk k3
              clear LW kf k2
              go_wp2_with (at_builtin; refine wpList_append_all typ_len (by decide) typ_one rfl (.tmp 82) (.tmp 88) 53 66 _ 56 rfl Tryz.underlying53 infoType rfl (by decide) rr.args rfl xa xc rfl _ hx.out (fitB_of hf1.out (by decide)) ?_)
              intro v1 w1 hO hg
              obtain ⟨av, cv, rfl⟩ := own_any hO
              have G1' := Below.of_grown hg (Nat.le_refl _) (fun k r => by cases r)
              replace L := Hid.mk (below_upS L.out (Nat.le_refl _) G1')
              have hbs := Hid.mk G1'.size
              clear hg G1' d2 m2 hx hf1
              replace hO := Hid.mk hO
              have LW := L.out.mono (Nat.le_of_lt hB.out)
              have d3 := (LW.cell (p := ⟨rb, off + i * 4 + 1 + 1 + 1, none⟩) hb1).trans k3.out
              have m2 : w1.cell? ⟨w.heap.size, 2, none⟩ = some (.slice (some ⟨rb, off, none⟩) m.gates.length gc) := (At.underB BM.out L.out hB.out).2.1 2
              have hy := Hid.mk (kl.out.below LW)
              clear LW kl k3 aw ax
              go_wp2_with (at_builtin; refine wpList_append_more typ_len (by decide) typ_one rfl (.tmp 90) (.tmp 96) 53 66 _ 56 rfl Tryz.underlying53 infoType rfl (by decide) wr.heap.size hbs.out rr.args rr.res av cv rfl hO.out ya yc rfl _ hy.out hf2.out ?_)
              intro v2 w2 hO2 hg2
              obtain ⟨a2, c2, rfl⟩ := own_any hO2
              have eL : rr.args.length + rr.res.length = (rr.args ++ rr.res).length := (List.length_append).symm
              rw [eL, ← List.flatMap_append] at hO2
              rw [eL]
              clear eL
              have LB := Below.of_grown (B := W0.heap.size) hg2 L.out.size (fun k r => Nat.le_trans hW.out (World.ownsRow.lt hO.out k r).1)
              replace L := Hid.mk (L.out.trans LB)
              have kT := Hid.mk (own_fin typ_len hO2)
              clear LB hg2 hO2 hO hy hf2 d3 m2 hbs
              generalize rr.args ++ rr.res = LL at *
              go_upto_region 20 with fail
              go_loopw [3, 8] (fun y x ws => ∃ (k : Nat) (M : Int), y = .int .i64 M ∧ x = .int .i64 k ∧ k ≤ LL.length ∧ Hid (0 ≤ M ∧ M + ((typsB (LL.drop k)).length : Int) + F1 = TT) ∧ Hid (Below w2.heap.size w2 ws)) (fun _ x _ => LL.length - (intOf x).toNat)
              case atStart => exact ⟨0, N + 5, rfl, rfl, Nat.zero_le _, Hid.mk (by rw [List.drop_zero]; exact hI.out), Hid.mk (Below.refl _ _)⟩
              case round =>
                clear hI
                obtain ⟨k, M, rfl, rfl, hk, hF, LT⟩ := hrel
                generalize wr = ws at *
                by_cases hkn : k < LL.length
                · obtain ⟨sb, so, hsa, hs1', _, hcell⟩ := kT.out k hkn
                  subst hsa
                  have hsr := hLr.out _ (List.getElem_mem hkn)
                  obtain ⟨hM0, hF⟩ := hF.out
                  rw [typsB_step hkn] at hF
                  generalize LL[k] = sl at hcell hF hsr
                  have ss := str_size (typB sl)
                  have t1 := Hid.mk (fun W => refTyped_any sl W hsr)
                  have hg0 : 0 ≤ ((typsB (LL.drop (k + 1))).length : Int) := Int.natCast_nonneg _
                  have hT := hle'.out
                  have hR := hF0.out
                  have p1 : 0 ≤ M + ((typB sl).length : Int) ∧ M + ((typB sl).length : Int) ≤ 100000000 := by omega
                  have hI := Hid.mk (show 0 ≤ M + ((typB sl).length : Int) ∧ M + ((typB sl).length : Int) + ((typsB (LL.drop (k + 1))).length : Int) + F1 = TT from ⟨p1.1, by omega⟩)
                  clear hF hg0 hT hR hM0
                  have aw : wrap64 (M + ((typB sl).length : Int)) = M + ((typB sl).length : Int) := wsm p1.1 p1.2
                  have ax : IntKind.i64.wrap (M + ((typB sl).length : Int)) = M + ((typB sl).length : Int) := wsx p1.1 p1.2
                  clear p1
                  have hkn1 : (k : Int) < (LL.length : Int) := Int.ofNat_lt.2 hkn
                  have y0 : ws.cell? ⟨sb, so + k * 7, none⟩ = some (.bool sl.cap) := (LT.out.cell (p := ⟨sb, so + k * 7, none⟩) hs1').trans (hcell 0 (by decide))
                  have y1 : ws.cell? ⟨sb, so + k * 7 + 1, none⟩ = some (.int .u64 sl.b) := (LT.out.cell (p := ⟨sb, so + k * 7 + 1, none⟩) hs1').trans (hcell 1 (by decide))
                  have y2 : ws.cell? ⟨sb, so + k * 7 + 1 + 1, none⟩ = some (.int .u64 sl.e) := (LT.out.cell (p := ⟨sb, so + k * 7 + 1 + 1, none⟩) hs1').trans (hcell 2 (by decide))
                  have y3 : ws.cell? ⟨sb, so + k * 7 + 1 + 1 + 1, none⟩ = some (.int .u64 sl.lo) := (LT.out.cell (p := ⟨sb, so + k * 7 + 1 + 1 + 1, none⟩) hs1').trans (hcell 3 (by decide))
                  have y4 : ws.cell? ⟨sb, so + k * 7 + 1 + 1 + 1 + 1, none⟩ = some (.int .u64 sl.hi) := (LT.out.cell (p := ⟨sb, so + k * 7 + 1 + 1 + 1 + 1, none⟩) hs1').trans (hcell 4 (by decide))
                  have y5 : ws.cell? ⟨sb, so + k * 7 + 1 + 1 + 1 + 1 + 1, none⟩ = some (.int .u8 sl.p) := (LT.out.cell (p := ⟨sb, so + k * 7 + 1 + 1 + 1 + 1 + 1, none⟩) hs1').trans (hcell 5 (by decide))
                  have y6 : ws.cell? ⟨sb, so + k * 7 + 1 + 1 + 1 + 1 + 1 + 1, none⟩ = some (.int .i64 sl.s) := (LT.out.cell (p := ⟨sb, so + k * 7 + 1 + 1 + 1 + 1 + 1 + 1, none⟩) hs1').trans (hcell 6 (by decide))
                  clear hcell
                  generalize typB sl = b1 at *
                  go_wp2_with fail
                  refine (t1.out _).mono ?_
                  rintro x V9 ⟨rfl, d1⟩
                  clear y0 y1 y2 y3 y4 y5 y6 t1
                  replace LT := Hid.mk (below_upS LT.out (Nat.le_refl _) d1)
                  clear d1
                  go_wp2_with fail
                  refine ⟨⟨k + 1, M + (b1.length : Int), rfl, ?_, hkn, hI, LT⟩, ?_⟩
                  · first | rfl | rw [next_wS hkn hLl.out] | go_num
                  · first | exact next_mS hkn | (rw [next_wS hkn hLl.out]; exact next_mS hkn)
                · have hkn1 : ¬ (k : Int) < (LL.length : Int) := fun q => hkn (Int.ofNat_lt.1 q)
                  have ek : k = LL.length := Nat.le_antisymm hk (Nat.le_of_not_lt hkn)
                  subst ek
                  have hI : Hid (0 ≤ M ∧ M + ((gatesB (m.gates.drop (i + 1))).length : Int) = TT) := Hid.mk (by
                    have q := hF.out
                    rw [List.drop_length] at q
                    rw [hF1.out]
                    simp only [typsB, List.length_nil] at q
                    omega)
                  replace L := Hid.mk (below_upS L.out (Nat.le_refl _) LT.out)
                  clear hF LT
                  go_wp2_with fail
                  refine ⟨⟨i + 1, M, rfl, ?_, hn, hI, L⟩, ?_⟩
                  · first | rfl | rw [next_wS hn hl3.out] | go_num
                  · first | exact next_mS hn | (rw [next_wS hn hl3.out]; exact next_mS hn)
            · have hi1 : ¬ (i : Int) < (m.gates.length : Int) := fun q => hn (Int.ofNat_lt.1 q)
              have ei : i = m.gates.length := Nat.le_antisymm hi (Nat.le_of_not_lt hn)
              subst ei
              obtain ⟨hN0, hE⟩ := hE.out
              rw [List.drop_length] at hE
              have eN : N = TT := by simp only [gatesB, List.length_nil] at hE; omega
              subst eN
              clear hE hN0
              replace G0 := Hid.mk (below_upS G0.out (Nat.le_refl _) (L.out.mono (Nat.le_refl _)))
              go_wp2_with fail
              go_ret
              exact ⟨rfl, G0.out⟩
end Q
end Go.Proofs.YtmmakknhaacplaaGreatDoor
