import Derived.Test.YtdmkedpnkejpbaaDoorP42
import Derived.Test.YtdmkedpnkejpbaaDoorP43
import Derived.Test.YtdmkedpnkejpbaaDoorP45
import Derived.Test.YtdmkedpnkejpbaaDoorP46
import Derived.BigFrame
import Derived.Test.YtdmkedpnkejpbaaDoorP41
/-
  The document's Right of any program.
-/
namespace Go.Proofs.YtdmkedpnkejpbaaDoor
namespace Q
open Go.RowKit

theorem gr_belowR {w W : World} {B : Nat} (g : Gr w W) (hB : B ≤ w.heap.size) : Below B w W := ⟨g.below.os, g.below.tape, g.below.output, g.below.size, fun k hk => g.below.block k (by omega)⟩
theorem range2L {W : World} {b o : Nat} {v0 v1 : Value} (h0 : W.cell? ⟨b, o, none⟩ = some v0) (h1 : W.cell? ⟨b, o + 1, none⟩ = some v1) : W.rangeAt b o [v0, v1] := fun j v q => by
  match j with
  | 0 => simp at q; subst q; exact h0
  | 1 => simp at q; subst q; exact h1
  | j + 2 => simp at q
theorem drop_at {α : Type} (L : List α) (i : Nat) (h : i < L.length) : L.drop i = L[i] :: L.drop (i + 1) := List.drop_eq_getElem_cons h
theorem regE_place {r : PReg} {f : Int} (hb : 0 ≤ r.b) (h : regE r f = 0) : r.b < 65536 ∧ r.n ≤ 65536 := by
  unfold regE at h
  by_cases q : (placeB r.b r.n f && contentB r.n r.data r.slots.length) = true
  · rw [Bool.and_eq_true] at q
    have q1 := q.1
    unfold placeB at q1
    simp only [Bool.and_eq_true, decide_eq_true_eq, beq_iff_eq] at q1
    obtain ⟨⟨⟨⟨⟨_, _⟩, _⟩, _⟩, h1⟩, h2⟩ := q1
    exact ⟨h1, by omega⟩
  · rw [if_neg q] at h
    cases h
set_option maxRecDepth 100000 in
set_option maxHeartbeats 16000000 in
theorem refRight_any (m : PImg) (ra ca ga : Option Addr) (rc cc gc : Nat) (w : World) (hm0 : ImgIn w.heap.size w ra ca ga m) (hr : m.Rng) : Calls Tryd.prog 19 #[.agg #[.slice ra m.regs.length rc, .slice ca m.comps.length cc, .slice ga m.gates.length gc, .int .i64 m.depth]] w fun x w' => x = .returned (.int .i64 m.right) ∧ Gr w w' := by
  by_cases h0 : 8 < (m.regs.length : Int)
  · have hz : m.right = 42 := by
      unfold PImg.right
      rw [if_neg (by unfold countsB; simp only [Bool.and_eq_true, decide_eq_true_eq]; omega)]
    rw [hz]
    clear hz hr hm0
    go_enter Tryd.func19, Tryd.ntmps19
    go_wp2_with fail
    go_ret
    refine ⟨rfl, ?_⟩
    (with_reducible repeat (first | exact Gr.refl _ | refine Gr.alloc ?_ _ | refine Gr.grow ?_ _ | refine Gr.drew ?_ | refine Gr.setCell ?_ _ _ _ (gr_size ?_)))
  by_cases h1 : (m.comps.length : Int) < 1
  · have hz : m.right = 42 := by
      unfold PImg.right
      rw [if_neg (by unfold countsB; simp only [Bool.and_eq_true, decide_eq_true_eq]; omega)]
    rw [hz]
    clear hz hr hm0
    go_enter Tryd.func19, Tryd.ntmps19
    go_wp2_with fail
    go_ret
    refine ⟨rfl, ?_⟩
    (with_reducible repeat (first | exact Gr.refl _ | refine Gr.alloc ?_ _ | refine Gr.grow ?_ _ | refine Gr.drew ?_ | refine Gr.setCell ?_ _ _ _ (gr_size ?_)))
  by_cases h2 : 4 < (m.comps.length : Int)
  · have hz : m.right = 42 := by
      unfold PImg.right
      rw [if_neg (by unfold countsB; simp only [Bool.and_eq_true, decide_eq_true_eq]; omega)]
    rw [hz]
    clear hz hr hm0
    go_enter Tryd.func19, Tryd.ntmps19
    go_wp2_with fail
    go_ret
    refine ⟨rfl, ?_⟩
    (with_reducible repeat (first | exact Gr.refl _ | refine Gr.alloc ?_ _ | refine Gr.grow ?_ _ | refine Gr.drew ?_ | refine Gr.setCell ?_ _ _ _ (gr_size ?_)))
  by_cases h3 : (m.gates.length : Int) < 1
  · have hz : m.right = 42 := by
      unfold PImg.right
      rw [if_neg (by unfold countsB; simp only [Bool.and_eq_true, decide_eq_true_eq]; omega)]
    rw [hz]
    clear hz hr hm0
    go_enter Tryd.func19, Tryd.ntmps19
    go_wp2_with fail
    go_ret
    refine ⟨rfl, ?_⟩
    (with_reducible repeat (first | exact Gr.refl _ | refine Gr.alloc ?_ _ | refine Gr.grow ?_ _ | refine Gr.drew ?_ | refine Gr.setCell ?_ _ _ _ (gr_size ?_)))
  by_cases h4 : 16 < (m.gates.length : Int)
  · have hz : m.right = 42 := by
      unfold PImg.right
      rw [if_neg (by unfold countsB; simp only [Bool.and_eq_true, decide_eq_true_eq]; omega)]
    rw [hz]
    clear hz hr hm0
    go_enter Tryd.func19, Tryd.ntmps19
    go_wp2_with fail
    go_ret
    refine ⟨rfl, ?_⟩
    (with_reducible repeat (first | exact Gr.refl _ | refine Gr.alloc ?_ _ | refine Gr.grow ?_ _ | refine Gr.drew ?_ | refine Gr.setCell ?_ _ _ _ (gr_size ?_)))
  by_cases h5 : m.depth < 1
  · have hz : m.right = 42 := by
      unfold PImg.right
      rw [if_neg (by unfold countsB; simp only [Bool.and_eq_true, decide_eq_true_eq]; omega)]
    rw [hz]
    clear hz hr hm0
    go_enter Tryd.func19, Tryd.ntmps19
    go_wp2_with fail
    go_ret
    refine ⟨rfl, ?_⟩
    (with_reducible repeat (first | exact Gr.refl _ | refine Gr.alloc ?_ _ | refine Gr.grow ?_ _ | refine Gr.drew ?_ | refine Gr.setCell ?_ _ _ _ (gr_size ?_)))
  by_cases h6 : 16 < m.depth
  · have hz : m.right = 42 := by
      unfold PImg.right
      rw [if_neg (by unfold countsB; simp only [Bool.and_eq_true, decide_eq_true_eq]; omega)]
    rw [hz]
    clear hz hr hm0
    go_enter Tryd.func19, Tryd.ntmps19
    go_wp2_with fail
    go_ret
    refine ⟨rfl, ?_⟩
    (with_reducible repeat (first | exact Gr.refl _ | refine Gr.alloc ?_ _ | refine Gr.grow ?_ _ | refine Gr.drew ?_ | refine Gr.setCell ?_ _ _ _ (gr_size ?_)))
  have hz : m.right = (if regsR m.regs 0 = 0 then (if compsR m.gates.length m.comps = 0 then gatesR m.comps m.gates else compsR m.gates.length m.comps) else regsR m.regs 0) := by
    unfold PImg.right
    rw [if_pos (by unfold countsB; simp only [Bool.and_eq_true, decide_eq_true_eq]; omega)]
  replace hz := Hid.mk hz
  have l1 : m.regs.length ≤ 281474976710648 := by omega
  have l2 : m.comps.length ≤ 281474976710648 := by omega
  have l3 : m.gates.length ≤ 281474976710648 := by omega
  have hl2 := Hid.mk hr.comps.1
  have hr1 := Hid.mk hr.regs.2
  have hr2 := Hid.mk hr.comps.2
  have hr3 := Hid.mk hr.gates.2
  clear hr
  replace hm0 := Hid.mk hm0
  go_enter Tryd.func19, Tryd.ntmps19
  go_upto_region 1 with fail
  refine wp_world (fun W => At W w.heap.size #[.slice ra m.regs.length rc, .slice ca m.comps.length cc, .slice ga m.gates.length gc, .int .i64 m.depth] ∧ Gr w W) ⟨At.new w _ _, (Gr.refl w).alloc _⟩ ?_
  rintro W0 ⟨BM, G0⟩
  replace BM := Hid.mk BM
  replace G0 := Hid.mk G0
  have hm : Hid (ImgIn w.heap.size W0 ra ca ga m) := Hid.mk (hm0.out.below (gr_belowR G0.out (Nat.le_refl _)))
  have hB : Hid (w.heap.size ≤ W0.heap.size) := Hid.mk G0.out.below.size
  clear hm0
  have c0 : W0.cell? ⟨w.heap.size, 0, none⟩ = some (.slice ra m.regs.length rc) := BM.out.2.1 0
  have c1 : W0.cell? ⟨w.heap.size, 1, none⟩ = some (.slice ca m.comps.length cc) := BM.out.2.1 1
  have c2 : W0.cell? ⟨w.heap.size, 2, none⟩ = some (.slice ga m.gates.length gc) := BM.out.2.1 2
  have c3 : W0.cell? ⟨w.heap.size, 3, none⟩ = some (.int .i64 m.depth) := BM.out.2.1 3
  go_upto_region 5 with fail
  clear c0 c1 c2 c3
  have G := Hid.mk (Gr.refl W0)
  go_loopw [3, 4] (fun y x wr => ∃ (i : Nat) (fr : Int), y = .int .u64 fr ∧ x = .int .i64 i ∧ i ≤ m.regs.length ∧ Hid (regsR m.regs 0 = regsR (m.regs.drop i) fr) ∧ Hid (Gr W0 wr)) (fun _ x _ => m.regs.length - (intOf x).toNat)
  case atStart => exact ⟨0, 0, rfl, rfl, by omega, Hid.mk (by rw [List.drop_zero]), G⟩
  case round =>
    clear G
    obtain ⟨i, fr, rfl, rfl, hi, hE, G⟩ := hrel
    replace hE := hE.out
    have c0 : wr.cell? ⟨w.heap.size, 0, none⟩ = some (.slice ra m.regs.length rc) := (BM.out.gr G.out).2.1 0
    by_cases hn : i < m.regs.length
    · have hi1 : (i : Int) < (m.regs.length : Int) := by omega
      clear c0
      obtain ⟨b, off, sa, sc, hra, hb1, _, k0, k1, k2, k3, kf⟩ := hm.out.regs i hn
      subst hra
      have hrr := Hid.mk (hr1.out _ (List.getElem_mem hn))
      rw [drop_at _ _ hn, regsR_E] at hE
      generalize m.regs[i] = rr at k0 k1 k2 k3 kf hrr hE
      replace k0 := Hid.mk k0
      replace k1 := Hid.mk k1
      replace k2 := Hid.mk k2
      replace k3 := Hid.mk k3
      replace kf := Hid.mk (kf.below (gr_belowR G.out hB.out))
      have c0 : wr.cell? ⟨w.heap.size, 0, none⟩ = some (.slice (some ⟨b, off, none⟩) m.regs.length rc) := (BM.out.gr G.out).2.1 0
      have d0 := (((gr_belowR G.out hB.out).cell (p := ⟨b, off + i * 4, none⟩) hb1).trans k0.out)
      have d1 := (((gr_belowR G.out hB.out).cell (p := ⟨b, off + i * 4 + 1, none⟩) hb1).trans k1.out)
      have d2 := (((gr_belowR G.out hB.out).cell (p := ⟨b, off + i * 4 + 1 + 1, none⟩) hb1).trans k2.out)
      have d3 := (((gr_belowR G.out hB.out).cell (p := ⟨b, off + i * 4 + 1 + 1 + 1, none⟩) hb1).trans k3.out)
      have hcl := Hid.mk (refRegion_any rr sa sc fr wr (kf.out.mono (Nat.le_trans hB.out G.out.below.size)) hrr.out)
      replace hE := Hid.mk hE
      go_wp2_with fail
      refine hcl.out.mono ?_
      rintro x wq ⟨rfl, q9⟩
      clear c0 d0 d1 d2 d3 hcl kf k2 k3
      replace G := Hid.mk (G.out.trans q9)
      clear q9
      have hg := Hid.mk (regE_place (f := fr) hrr.out.1.1)
      have hb0 := hrr.out.1.1
      have hb2 := hrr.out.2.1.1
      clear hrr
      generalize regE rr fr = E at *
      by_cases h9 : E = 0
      · subst h9
        obtain ⟨p1, p2⟩ := hg.out rfl
        clear hg
        have e8 : IntKind.u64.wrap (rr.b + rr.n) = rr.b + rr.n := by rw [IntKind.wrap_u64]; omega
        replace hE := hE.out
        rw [if_pos rfl] at hE
        have c0 : wq.cell? ⟨w.heap.size, 0, none⟩ = some (.slice (some ⟨b, off, none⟩) m.regs.length rc) := (BM.out.gr G.out).2.1 0
        have d0 := (((gr_belowR G.out hB.out).cell (p := ⟨b, off + i * 4, none⟩) hb1).trans k0.out)
        have d1 := (((gr_belowR G.out hB.out).cell (p := ⟨b, off + i * 4 + 1, none⟩) hb1).trans k1.out)
        replace hE := Hid.mk hE
        clear p1 p2 hb0 hb2
        go_wp2_with fail
        go_quiet (fail)
        clear c0 d0 d1 k0 k1
        go_wp2_with fail
        exact ⟨⟨i + 1, _, rfl, by go_num, by omega, hE, Hid.mk (G.out.drewN _)⟩, by simp [intOf]; omega⟩
      · have h9b : (E == 0) = false := by simpa using h9
        clear hg hb0 hb2
        go_wp2_with fail
        go_ret
        refine ⟨retI ?_, G0.out.trans G.out⟩
        rw [hz.out, hE.out, if_neg h9, if_neg h9]
    · have hi1 : ¬ (i : Int) < (m.regs.length : Int) := by omega
      have ei : i = m.regs.length := by omega
      subst ei
      clear c0
      replace hE := Hid.mk hE
      have c0 : wr.cell? ⟨w.heap.size, 0, none⟩ = some (.slice ra m.regs.length rc) := (BM.out.gr G.out).2.1 0
      have hE1 := hE.out
      rw [List.drop_length] at hE1
      replace hE1 : Hid (regsR m.regs 0 = 0) := Hid.mk hE1
      clear hE
      go_upto_region 12 with fail
      clear c0
      have G4 := G
      clear G
      go_loopw [6] (fun x wr => ∃ i : Nat, x = .int .i64 i ∧ i ≤ m.comps.length ∧ Hid (compsR m.gates.length m.comps = compsR m.gates.length (m.comps.drop i)) ∧ Hid (Gr W0 wr)) (fun x _ => m.comps.length - (intOf x).toNat)
      case atStart => exact ⟨0, rfl, by omega, Hid.mk (by rw [List.drop_zero]), G4⟩
      case round =>
        clear G4
        obtain ⟨i, rfl, hi, hE, G⟩ := hrel
        replace hE := hE.out
        have c1 : wr.cell? ⟨w.heap.size, 1, none⟩ = some (.slice ca m.comps.length cc) := (BM.out.gr G.out).2.1 1
        by_cases hn : i < m.comps.length
        · have hi1 : (i : Int) < (m.comps.length : Int) := by omega
          clear c1
          obtain ⟨b, off, ra', rc', ka, kc', hca, hb1, _, k0, k1, kf, kl⟩ := hm.out.comps i hn
          subst hca
          have hrr := Hid.mk (hr2.out _ (List.getElem_mem hn))
          rw [drop_at _ _ hn, compsR_E] at hE
          generalize m.comps[i] = rr at k0 k1 kf kl hrr hE
          replace k0 := Hid.mk k0
          replace k1 := Hid.mk k1
          replace kf := Hid.mk kf
          replace kl := Hid.mk kl
          replace hE := Hid.mk hE
          have c1 : wr.cell? ⟨w.heap.size, 1, none⟩ = some (.slice (some ⟨b, off, none⟩) m.comps.length cc) := (BM.out.gr G.out).2.1 1
          have KS : Hid (∀ W, Gr wr W → W.cell? ⟨w.heap.size, 1, none⟩ = some (.slice (some ⟨b, off, none⟩) m.comps.length cc) ∧ W.cell? ⟨w.heap.size, 2, none⟩ = some (.slice ga m.gates.length gc) ∧ W.rangeAt b (off + i * 2) [Value.slice ra' rr.roots.length rc', .slice ka rr.code.length kc']) := Hid.mk (fun W q => ⟨(BM.out.gr (G.out.trans q)).2.1 1, (BM.out.gr (G.out.trans q)).2.1 2, range2L (((gr_belowR (G.out.trans q) hB.out).cell (p := ⟨b, off + i * 2, none⟩) hb1).trans k0.out) (((gr_belowR (G.out.trans q) hB.out).cell (p := ⟨b, off + i * 2 + 1, none⟩) hb1).trans k1.out)⟩)
          have hcl := Hid.mk (fun (W : World) (q : Gr wr W) => show Calls Tryd.prog 43 #[.agg (List.toArray [Value.slice ra' rr.roots.length rc', .slice ka rr.code.length kc']), .int .i64 m.gates.length] W _ from refComp_any rr ra' ka rc' kc' m.gates.length W ((kf.out.below (gr_belowR (G.out.trans q) hB.out)).mono (Nat.le_trans hB.out (G.out.trans q).below.size)) ((kl.out.below (gr_belowR (G.out.trans q) hB.out)).mono (Nat.le_trans hB.out (G.out.trans q).below.size)) hrr.out)
          go_upto_region 14 with fail
          have d1 : Gr wr wr.drew := (Gr.refl _).drew
          refine wp_region_held_drew (S := (fun W => W.cell? ⟨w.heap.size, 1, none⟩ = some (.slice (some ⟨b, off, none⟩) m.comps.length cc) ∧ W.cell? ⟨w.heap.size, 2, none⟩ = some (.slice ga m.gates.length gc) ∧ W.rangeAt b (off + i * 2) [Value.slice ra' rr.roots.length rc', .slice ka rr.code.length kc'])) (by kernel_rfl) (KS.out _ d1) (fun hHeld => ?_)
          refine wpAnyH_take (i := 0) (oi := { dst := some 85, op := Op.fieldAddr 27 (Operand.tmp 1) 1, type := 0, pos := "right.go:157", after := #[], guard := none }) (v := ?_) rfl (by kernel_rfl) (by kernel_rfl) (by kernel_rfl) (fun _ _ _ h => h) (Or.inl ⟨by rfl, ?_⟩) (by assumption) ?_
          rotate_left
          · intro w hSw; (try dsimp only at hSw); go_simp; first | done | with_reducible rfl
          try simp only [Act.put, List.setIfInBounds_toArray, List.set_cons_zero, List.set_cons_succ]
          refine wpAnyH_take (i := 1) (oi := { dst := some 86, op := Op.load 24 (Operand.tmp 85), type := 24, pos := "right.go:157", after := #[{ on := 0, ground := Ground.data }], guard := none }) (v := ?_) rfl (by kernel_rfl) (by kernel_rfl) (by kernel_rfl) (fun _ _ _ h => h) (Or.inl ⟨by rfl, ?_⟩) (by assumption) ?_
          rotate_left
          · intro w hSw; (try dsimp only at hSw); go_simp; first | done | with_reducible rfl
          try simp only [Act.put, List.setIfInBounds_toArray, List.set_cons_zero, List.set_cons_succ]
          refine wpAnyH_take (i := 2) (oi := { dst := some 87, op := Op.move (Operand.tmp 6), type := 3, pos := "right.go:157", after := #[], guard := none }) (v := ?_) rfl (by kernel_rfl) (by kernel_rfl) (by kernel_rfl) (fun _ _ _ h => h) (Or.inl ⟨by rfl, ?_⟩) (by assumption) ?_
          rotate_left
          · intro w hSw; (try dsimp only at hSw); go_simp; first | done | with_reducible rfl
          try simp only [Act.put, List.setIfInBounds_toArray, List.set_cons_zero, List.set_cons_succ]
          refine wpAnyH_take (i := 3) (oi := { dst := some 88, op := Op.indexAddr 24 (Operand.tmp 86) (Operand.tmp 87), type := 0, pos := "right.go:157", after := #[{ on := 1, ground := Ground.data }, { on := 2, ground := Ground.data }], guard := none }) (v := ?_) rfl (by kernel_rfl) (by kernel_rfl) (by kernel_rfl) (fun _ _ _ h => h) (Or.inl ⟨by rfl, ?_⟩) (by assumption) ?_
          rotate_left
          · intro w hSw; (try dsimp only at hSw); go_simp; first | done | with_reducible rfl
          try simp only [Act.put, List.setIfInBounds_toArray, List.set_cons_zero, List.set_cons_succ]
          refine wpAnyH_take (i := 4) (oi := { dst := some 89, op := Op.load 57 (Operand.tmp 88), type := 57, pos := "right.go:157", after := #[{ on := 3, ground := Ground.data }], guard := none }) (v := _) rfl (by kernel_rfl) (by kernel_rfl) (by kernel_rfl) (fun _ _ _ h => h) (yieldsIf_load_mid (by rfl) _ _ rfl _ _ rfl _ _ (fun _ h => h.2.2) Tryd.underlying57 rfl (by kernel_rfl)) (by assumption) ?_
          try simp only [Act.put, List.setIfInBounds_toArray, List.set_cons_zero, List.set_cons_succ]
          refine wpAnyH_take (i := 5) (oi := { dst := some 90, op := Op.fieldAddr 27 (Operand.tmp 1) 2, type := 0, pos := "right.go:157", after := #[], guard := none }) (v := ?_) rfl (by kernel_rfl) (by kernel_rfl) (by kernel_rfl) (fun _ _ _ h => h) (Or.inl ⟨by rfl, ?_⟩) (by assumption) ?_
          rotate_left
          · intro w hSw; (try dsimp only at hSw); go_simp; first | done | with_reducible rfl
          try simp only [Act.put, List.setIfInBounds_toArray, List.set_cons_zero, List.set_cons_succ]
          refine wpAnyH_take (i := 6) (oi := { dst := some 91, op := Op.load 25 (Operand.tmp 90), type := 25, pos := "right.go:157", after := #[{ on := 5, ground := Ground.data }], guard := none }) (v := ?_) rfl (by kernel_rfl) (by kernel_rfl) (by kernel_rfl) (fun _ _ _ h => h) (Or.inl ⟨by rfl, ?_⟩) (by assumption) ?_
          rotate_left
          · intro w hSw; (try dsimp only at hSw); go_simp; first | done | with_reducible rfl
          try simp only [Act.put, List.setIfInBounds_toArray, List.set_cons_zero, List.set_cons_succ]
          refine wpAnyH_take (i := 7) (oi := { dst := some 92, op := Op.call { callee := Callee.builtin Builtin.len, args := #[Operand.tmp 91], argTypes := #[25] }, type := 3, pos := "right.go:157", after := #[{ on := 6, ground := Ground.data }], guard := none }) (v := ?_) rfl (by kernel_rfl) (by kernel_rfl) (by kernel_rfl) (fun _ _ _ h => h) (Or.inl ⟨by rfl, ?_⟩) (by assumption) ?_
          rotate_left
          · intro w hSw; (try dsimp only at hSw); go_simp; first | done | with_reducible rfl
          try simp only [Act.put, List.setIfInBounds_toArray, List.set_cons_zero, List.set_cons_succ]
          refine wpAnyH_ready (rs := [8]) (by kernel_rfl) (by simp) ?_
          refine AllReadyH.cons (o := { dst := some 93, op := Op.call { callee := Callee.value (Operand.func 43), args := #[Operand.tmp 89, Operand.tmp 92], argTypes := #[57, 3] }, type := 3, pos := "right.go:157", after := #[{ on := 4, ground := Ground.data }, { on := 7, ground := Ground.data }], guard := none }) rfl (fun K hK => ?_) AllReadyH.nil
          go_simp
          go_wp2_with ((go_at_call 43; refine (hcl.out _ (by (with_reducible repeat (first | assumption | exact Gr.refl _ | refine Gr.alloc ?_ _ | refine Gr.grow ?_ _ | refine Gr.drew ?_ | refine Gr.setCell ?_ _ _ _ (gr_size ?_))))).mono ?_; rintro x wq ⟨rfl, q9⟩; have d1 : Gr wr wq := Gr.trans (by (with_reducible repeat (first | assumption | exact Gr.refl _ | refine Gr.alloc ?_ _ | refine Gr.grow ?_ _ | refine Gr.drew ?_ | refine Gr.setCell ?_ _ _ _ (gr_size ?_)))) q9; clear q9))
          refine hK.out _ _ (KS.out _ d1) (fun hHeld => ?_)
          clear hK K
          try simp only [Act.put, List.setIfInBounds_toArray, List.set_cons_zero, List.set_cons_succ]
          refine wpAnyH_take (i := 9) (oi := { dst := some 7, op := Op.assign (Operand.tmp 93), type := 3, pos := "right.go:157", after := #[{ on := 8, ground := Ground.data }, { on := 8, ground := Ground.chain }, { on := 0, ground := Ground.phase }, { on := 1, ground := Ground.phase }, { on := 2, ground := Ground.phase }, { on := 3, ground := Ground.phase }, { on := 4, ground := Ground.phase }, { on := 5, ground := Ground.phase }, { on := 6, ground := Ground.phase }, { on := 7, ground := Ground.phase }, { on := 8, ground := Ground.phase }], guard := none }) (v := ?_) rfl (by kernel_rfl) (by kernel_rfl) (by kernel_rfl) (fun _ _ _ h => h) (Or.inl ⟨by rfl, ?_⟩) (by assumption) ?_
          rotate_left
          · intro w hSw; (try dsimp only at hSw); go_simp; first | done | with_reducible rfl
          try simp only [Act.put, List.setIfInBounds_toArray, List.set_cons_zero, List.set_cons_succ]
          refine wpAnyH_done (by kernel_rfl) ?_ _
          clear hHeld KS hcl
          replace G := Hid.mk (G.out.trans d1)
          clear d1
          clear k0 k1 kf kl hrr c1
          generalize compE m.gates.length rr = E at *
          by_cases h9 : E = 0
          · subst h9
            replace hE := hE.out
            rw [if_pos rfl] at hE
            replace hE := Hid.mk hE
            go_wp2_with fail
            exact ⟨⟨i + 1, by go_num, by omega, hE, G⟩, by simp [intOf]; omega⟩
          · have h9b : (E == 0) = false := by simpa using h9
            go_wp2_with fail
            go_ret
            refine ⟨retI ?_, G0.out.trans G.out⟩
            rw [hz.out, if_pos hE1.out, hE.out, if_neg h9, if_neg h9]
        · have hi1 : ¬ (i : Int) < (m.comps.length : Int) := by omega
          have ei : i = m.comps.length := by omega
          subst ei
          clear c1
          replace hE := Hid.mk hE
          have c1 : wr.cell? ⟨w.heap.size, 1, none⟩ = some (.slice ca m.comps.length cc) := (BM.out.gr G.out).2.1 1
          have hE2 := hE.out
          rw [List.drop_length] at hE2
          replace hE2 : Hid (compsR m.gates.length m.comps = 0) := Hid.mk hE2
          clear hE
          go_upto_region 18 with fail
          clear c1
          have G5 := G
          clear G
          go_loopw [8] (fun x wr => ∃ i : Nat, x = .int .i64 i ∧ i ≤ m.gates.length ∧ Hid (gatesR m.comps m.gates = gatesR m.comps (m.gates.drop i)) ∧ Hid (Gr W0 wr)) (fun x _ => m.gates.length - (intOf x).toNat)
          case atStart => exact ⟨0, rfl, by omega, Hid.mk (by rw [List.drop_zero]), G5⟩
          case round =>
            clear G5
            obtain ⟨i, rfl, hi, hE, G⟩ := hrel
            replace hE := hE.out
            have c2 : wr.cell? ⟨w.heap.size, 2, none⟩ = some (.slice ga m.gates.length gc) := (BM.out.gr G.out).2.1 2
            by_cases hn : i < m.gates.length
            · have hi1 : (i : Int) < (m.gates.length : Int) := by omega
              clear c2
              obtain ⟨b, off, xa, xc, ya, yc, hga, hb1, _, k0, k1, k2, k3, kf, kl⟩ := hm.out.gates i hn
              subst hga
              have hrr := hr3.out _ (List.getElem_mem hn)
              rw [drop_at _ _ hn, gatesR_E] at hE
              generalize m.gates[i] = rr at k0 k1 k2 k3 kf kl hrr hE
              obtain ⟨gc', ge, ar, re⟩ := rr
              dsimp only at k0 k1 k2 k3 kf kl
              replace hrr := Hid.mk hrr
              replace k0 := Hid.mk k0
              replace k1 := Hid.mk k1
              replace k2 := Hid.mk k2
              replace k3 := Hid.mk k3
              replace kf := Hid.mk kf
              replace kl := Hid.mk kl
              replace hE := Hid.mk hE
              have c2 : wr.cell? ⟨w.heap.size, 2, none⟩ = some (.slice (some ⟨b, off, none⟩) m.gates.length gc) := (BM.out.gr G.out).2.1 2
              have KS : Hid (∀ W, Gr wr W → W.cell? ⟨w.heap.size, 2, none⟩ = some (.slice (some ⟨b, off, none⟩) m.gates.length gc) ∧ W.rangeAt w.heap.size 0 [Value.slice ra m.regs.length rc, .slice ca m.comps.length cc, .slice (some ⟨b, off, none⟩) m.gates.length gc, .int .i64 m.depth] ∧ W.rangeAt b (off + i * 4) [Value.int .i64 gc', .int .i64 ge, .slice xa ar.length xc, .slice ya re.length yc]) := Hid.mk (fun W q => ⟨(BM.out.gr (G.out.trans q)).2.1 2, (BM.out.gr (G.out.trans q)).range, range4L (((gr_belowR (G.out.trans q) hB.out).cell (p := ⟨b, off + i * 4, none⟩) hb1).trans k0.out) (((gr_belowR (G.out.trans q) hB.out).cell (p := ⟨b, off + i * 4 + 1, none⟩) hb1).trans k1.out) (((gr_belowR (G.out.trans q) hB.out).cell (p := ⟨b, off + i * 4 + 1 + 1, none⟩) hb1).trans k2.out) (((gr_belowR (G.out.trans q) hB.out).cell (p := ⟨b, off + i * 4 + 1 + 1 + 1, none⟩) hb1).trans k3.out)⟩)
              have hcl := Hid.mk (fun (W : World) (q : Gr wr W) => show Calls Tryd.prog 44 #[.agg (List.toArray [Value.int .i64 gc', .int .i64 ge, .slice xa ar.length xc, .slice ya re.length yc]), .agg (List.toArray [Value.slice ra m.regs.length rc, .slice ca m.comps.length cc, .slice (some ⟨b, off, none⟩) m.gates.length gc, .int .i64 m.depth])] W _ from refGate_any gc' ge ar re xa ya xc yc m.comps ra ca (some ⟨b, off, none⟩) m.regs.length rc cc m.gates.length gc m.depth W ((kf.out.below (gr_belowR (G.out.trans q) hB.out)).mono (Nat.le_trans hB.out (G.out.trans q).below.size)) ((kl.out.below (gr_belowR (G.out.trans q) hB.out)).mono (Nat.le_trans hB.out (G.out.trans q).below.size)) ((hm.out.comps.below (gr_belowR (G.out.trans q) hB.out)).mono (Nat.le_trans hB.out (G.out.trans q).below.size)) hrr.out.2.2.2.2.1 hrr.out.2.2.2.2.2 hrr.out.2.2.1 hrr.out.2.2.2.1 hl2.out)
              go_upto_region 20 with fail
              have d1 : Gr wr wr.drew := (Gr.refl _).drew
              refine wp_region_held_drew (S := (fun W => W.cell? ⟨w.heap.size, 2, none⟩ = some (.slice (some ⟨b, off, none⟩) m.gates.length gc) ∧ W.rangeAt w.heap.size 0 [Value.slice ra m.regs.length rc, .slice ca m.comps.length cc, .slice (some ⟨b, off, none⟩) m.gates.length gc, .int .i64 m.depth] ∧ W.rangeAt b (off + i * 4) [Value.int .i64 gc', .int .i64 ge, .slice xa ar.length xc, .slice ya re.length yc])) (by kernel_rfl) (KS.out _ d1) (fun hHeld => ?_)
              refine wpAnyH_take (i := 0) (oi := { dst := some 104, op := Op.fieldAddr 27 (Operand.tmp 1) 2, type := 0, pos := "right.go:163", after := #[], guard := none }) (v := ?_) rfl (by kernel_rfl) (by kernel_rfl) (by kernel_rfl) (fun _ _ _ h => h) (Or.inl ⟨by rfl, ?_⟩) (by assumption) ?_
              rotate_left
              · intro w hSw; (try dsimp only at hSw); go_simp; first | done | with_reducible rfl
              try simp only [Act.put, List.setIfInBounds_toArray, List.set_cons_zero, List.set_cons_succ]
              refine wpAnyH_take (i := 1) (oi := { dst := some 105, op := Op.load 25 (Operand.tmp 104), type := 25, pos := "right.go:163", after := #[{ on := 0, ground := Ground.data }], guard := none }) (v := ?_) rfl (by kernel_rfl) (by kernel_rfl) (by kernel_rfl) (fun _ _ _ h => h) (Or.inl ⟨by rfl, ?_⟩) (by assumption) ?_
              rotate_left
              · intro w hSw; (try dsimp only at hSw); go_simp; first | done | with_reducible rfl
              try simp only [Act.put, List.setIfInBounds_toArray, List.set_cons_zero, List.set_cons_succ]
              refine wpAnyH_take (i := 2) (oi := { dst := some 106, op := Op.move (Operand.tmp 8), type := 3, pos := "right.go:163", after := #[], guard := none }) (v := ?_) rfl (by kernel_rfl) (by kernel_rfl) (by kernel_rfl) (fun _ _ _ h => h) (Or.inl ⟨by rfl, ?_⟩) (by assumption) ?_
              rotate_left
              · intro w hSw; (try dsimp only at hSw); go_simp; first | done | with_reducible rfl
              try simp only [Act.put, List.setIfInBounds_toArray, List.set_cons_zero, List.set_cons_succ]
              refine wpAnyH_take (i := 3) (oi := { dst := some 107, op := Op.indexAddr 25 (Operand.tmp 105) (Operand.tmp 106), type := 0, pos := "right.go:163", after := #[{ on := 1, ground := Ground.data }, { on := 2, ground := Ground.data }], guard := none }) (v := ?_) rfl (by kernel_rfl) (by kernel_rfl) (by kernel_rfl) (fun _ _ _ h => h) (Or.inl ⟨by rfl, ?_⟩) (by assumption) ?_
              rotate_left
              · intro w hSw; (try dsimp only at hSw); go_simp; first | done | with_reducible rfl
              try simp only [Act.put, List.setIfInBounds_toArray, List.set_cons_zero, List.set_cons_succ]
              refine wpAnyH_take (i := 4) (oi := { dst := some 108, op := Op.load 61 (Operand.tmp 107), type := 61, pos := "right.go:163", after := #[{ on := 3, ground := Ground.data }], guard := none }) (v := _) rfl (by kernel_rfl) (by kernel_rfl) (by kernel_rfl) (fun _ _ _ h => h) (yieldsIf_load_mid (by rfl) _ _ rfl _ _ rfl _ _ (fun _ h => h.2.2) Tryd.underlying61 rfl (by kernel_rfl)) (by assumption) ?_
              try simp only [Act.put, List.setIfInBounds_toArray, List.set_cons_zero, List.set_cons_succ]
              refine wpAnyH_take (i := 5) (oi := { dst := some 109, op := Op.load 27 (Operand.tmp 1), type := 27, pos := "right.go:163", after := #[], guard := none }) (v := _) rfl (by kernel_rfl) (by kernel_rfl) (by kernel_rfl) (fun _ _ _ h => h) (yieldsIf_load_mid (by rfl) _ _ rfl _ _ rfl _ _ (fun _ h => h.2.1) Tryd.underlying27 rfl (by kernel_rfl)) (by assumption) ?_
              try simp only [Act.put, List.setIfInBounds_toArray, List.set_cons_zero, List.set_cons_succ]
              refine wpAnyH_ready (rs := [6]) (by kernel_rfl) (by simp) ?_
              refine AllReadyH.cons (o := { dst := some 110, op := Op.call { callee := Callee.value (Operand.func 44), args := #[Operand.tmp 108, Operand.tmp 109], argTypes := #[61, 27] }, type := 3, pos := "right.go:163", after := #[{ on := 4, ground := Ground.data }, { on := 5, ground := Ground.data }], guard := none }) rfl (fun K hK => ?_) AllReadyH.nil
              go_simp
              go_wp2_with ((go_at_call 44; refine (hcl.out _ (by (with_reducible repeat (first | assumption | exact Gr.refl _ | refine Gr.alloc ?_ _ | refine Gr.grow ?_ _ | refine Gr.drew ?_ | refine Gr.setCell ?_ _ _ _ (gr_size ?_))))).mono ?_; rintro x wq ⟨rfl, q9⟩; have d1 : Gr wr wq := Gr.trans (by (with_reducible repeat (first | assumption | exact Gr.refl _ | refine Gr.alloc ?_ _ | refine Gr.grow ?_ _ | refine Gr.drew ?_ | refine Gr.setCell ?_ _ _ _ (gr_size ?_)))) q9; clear q9))
              refine hK.out _ _ (KS.out _ d1) (fun hHeld => ?_)
              clear hK K
              try simp only [Act.put, List.setIfInBounds_toArray, List.set_cons_zero, List.set_cons_succ]
              refine wpAnyH_take (i := 7) (oi := { dst := some 9, op := Op.assign (Operand.tmp 110), type := 3, pos := "right.go:163", after := #[{ on := 6, ground := Ground.data }, { on := 6, ground := Ground.chain }, { on := 0, ground := Ground.phase }, { on := 1, ground := Ground.phase }, { on := 2, ground := Ground.phase }, { on := 3, ground := Ground.phase }, { on := 4, ground := Ground.phase }, { on := 5, ground := Ground.phase }, { on := 6, ground := Ground.phase }], guard := none }) (v := ?_) rfl (by kernel_rfl) (by kernel_rfl) (by kernel_rfl) (fun _ _ _ h => h) (Or.inl ⟨by rfl, ?_⟩) (by assumption) ?_
              rotate_left
              · intro w hSw; (try dsimp only at hSw); go_simp; first | done | with_reducible rfl
              try simp only [Act.put, List.setIfInBounds_toArray, List.set_cons_zero, List.set_cons_succ]
              refine wpAnyH_done (by kernel_rfl) ?_ _
              clear hHeld KS hcl
              replace G := Hid.mk (G.out.trans d1)
              clear d1
              clear k0 k1 k2 k3 kf kl hrr c2
              generalize gateE m.comps _ = E at *
              by_cases h9 : E = 0
              · subst h9
                replace hE := hE.out
                rw [if_pos rfl] at hE
                replace hE := Hid.mk hE
                go_wp2_with fail
                exact ⟨⟨i + 1, by go_num, by omega, hE, G⟩, by simp [intOf]; omega⟩
              · have h9b : (E == 0) = false := by simpa using h9
                go_wp2_with fail
                go_ret
                refine ⟨retI ?_, G0.out.trans G.out⟩
                rw [hz.out, if_pos hE1.out, if_pos hE2.out, hE.out, if_neg h9]
            · have hi1 : ¬ (i : Int) < (m.gates.length : Int) := by omega
              have ei : i = m.gates.length := by omega
              subst ei
              clear c2
              replace hE := Hid.mk hE
              have c2 : wr.cell? ⟨w.heap.size, 2, none⟩ = some (.slice ga m.gates.length gc) := (BM.out.gr G.out).2.1 2
              have hE3 := hE.out
              rw [List.drop_length] at hE3
              go_wp2_with fail
              go_ret
              refine ⟨retI ?_, G0.out.trans G.out⟩
              rw [hz.out, if_pos hE1.out, if_pos hE2.out, hE3]
              rfl
end Q
end Go.Proofs.YtdmkedpnkejpbaaDoor


/-
  Stage 4, image: the document's reader: Decode.
-/
namespace Go.Proofs.YtdmkedpnkejpbaaDoor
open Go.RowKit

set_option maxRecDepth 100000 in
set_option maxHeartbeats 8000000 in
theorem ddecode_any (S : List UInt8) (w : World) :
    Calls Tryd.prog 6 #[.string (str S)] w fun x w' => DecIs w w' (decI S) x := by
  have ss := str_size S
  by_cases hl : 40000 < S.length
  · have r1 : decI S = (zImg, 42, 0) := if_pos hl
    have hl' : (40000 : Int) < S.length := by omega
    rw [r1]
    have hBe := Hid.mk ((Gr.refl w).alloc (.cells #[.slice none 0 0, .slice none 0 0, .slice none 0 0, .int .i64 0] 27)).below
    have X := Box.new w #[.slice none 0 0, .slice none 0 0, .slice none 0 0, .int .i64 0] 27
    have ⟨z0, p0, f0⟩ := X.at
    clear r1 X
    go_enter Tryd.func6, Tryd.ntmps6
    go_wp2_with fail
    simp [bodyPost, results, Tryd.results6, go_sem, p0]
    exact ⟨none, 0, none, 0, none, 0, rfl, zOwn _ _, hBe.out⟩
  have hl' : ¬ (40000 : Int) < S.length := by omega
  by_cases h6 : S.length < 6
  · have h6' : (S.length : Int) < 6 := by omega
    have hp : ¬ magicB <+: S := fun q => by have := (prefix_take.1 q).1; simp [magicB] at this; omega
    have r1 : decI S = (zImg, 40, 0) := by
      unfold decI imgP
      rw [if_neg hl, if_neg hp]
      rfl
    rw [r1]
    have hBe := Hid.mk ((Gr.refl w).alloc (.cells #[.slice none 0 0, .slice none 0 0, .slice none 0 0, .int .i64 0] 27)).below
    have X := Box.new w #[.slice none 0 0, .slice none 0 0, .slice none 0 0, .int .i64 0] 27
    have ⟨z0, p0, f0⟩ := X.at
    clear r1 X hp
    generalize str S = S2 at *
    go_enter Tryd.func6, Tryd.ntmps6
    go_wp2_with fail
    simp [bodyPost, results, Tryd.results6, go_sem, p0]
    exact ⟨none, 0, none, 0, none, 0, rfl, zOwn _ _, hBe.out⟩
  have h6' : ¬ (S.length : Int) < 6 := by omega
  have h62 : (6 : Int) ≤ S.length := by omega
  have he6 := extract_any S 0 6
  by_cases hp : magicB <+: S
  case neg =>
    have e6 : (((str S).extract 0 6).toList == [80, 65, 68, 68, 75, 49]) = false := by
      have q : ¬ ((str S).extract 0 6).toList = [80, 65, 68, 68, 75, 49] := by
        rw [he6, str_list]
        intro z
        exact hp (prefix_take.2 ⟨by simp [magicB]; omega, by simpa [magicB] using z⟩)
      simpa using q
    clear he6
    have r1 : decI S = (zImg, 40, 0) := by
      unfold decI imgP
      rw [if_neg hl, if_neg hp]
      rfl
    rw [r1]
    have hBe := Hid.mk ((Gr.refl w).alloc (.cells #[.slice none 0 0, .slice none 0 0, .slice none 0 0, .int .i64 0] 27)).below
    have X := Box.new w #[.slice none 0 0, .slice none 0 0, .slice none 0 0, .int .i64 0] 27
    have ⟨z0, p0, f0⟩ := X.at
    clear r1 X hp
    generalize str S = S2 at *
    go_enter Tryd.func6, Tryd.ntmps6
    go_wp2_with fail
    simp [bodyPost, results, Tryd.results6, go_sem, p0]
    exact ⟨none, 0, none, 0, none, 0, rfl, zOwn _ _, hBe.out⟩
  have e6 : (((str S).extract 0 6).toList == [80, 65, 68, 68, 75, 49]) = true := by
    have q : ((str S).extract 0 6).toList = [80, 65, 68, 68, 75, 49] := by
      rw [he6, str_list]
      have := (prefix_take.1 hp).2
      simpa [magicB] using this
    simpa using q
  clear he6
  have hdec := Hid.mk (decI_main hl hp)
  have hg0 := Hid.mk (fun q => gates_e0 (S := S) q)
  have hpz := Hid.mk (gatesP_pz S)
  have hS : S.length ≤ 1000000 := by omega
  have hS2 : S.length ≤ 140737488355328 := by omega
  have hrng := imgP_rng S hS
  have himg : (imgP S).1 = ⟨(regsP S).1, (compsP S).1, (gatesP S).1, numV S 1 h0S⟩ := by
    have : imgP S = (⟨(regsP S).1, (compsP S).1, (gatesP S).1, numV S 1 h0S⟩, restS S (gatesP S).2) := if_pos hp
    rw [this]
  rw [himg] at hrng
  replace hrng := Hid.mk hrng
  clear himg
  have i0 : RS.In S h0S := by unfold RS.In h0S; simp only; omega
  have c1 := fun kr W h1 => dcount_any S kr 1 h0S W h1 i0 hS2 (by omega)
  have i1 : RS.In S (h1S S) := takeS_in (S := S) 1 i0
  have c2 := fun kr W h1 => dcount_any S kr 1 (h1S S) W h1 i1 hS2 (by omega)
  have i2 : RS.In S (h2S S) := takeS_in (S := S) 1 i1
  have c3 := fun kr W h1 => dcount_any S kr 1 (h2S S) W h1 i2 hS2 (by omega)
  have i3 : RS.In S (h3S S) := takeS_in (S := S) 1 i2
  have c4 := fun kr W h1 => dcount_any S kr 1 (h3S S) W h1 i3 hS2 (by omega)
  have i4 : RS.In S (h4S S) := takeS_in (S := S) 1 i3
  have m1 := num1 S (h1S S)
  have t1 := toNat_num S 1 (h1S S)
  rw [← t1] at c2 m1
  have m2 := num1 S (h2S S)
  have t2 := toNat_num S 1 (h2S S)
  rw [← t2] at c3 m2
  have m3 := num1 S (h3S S)
  have t3 := toNat_num S 1 (h3S S)
  rw [← t3] at c4 m3
  have L1 := Lk.start (regP_bad S) (numV S 1 (h1S S)).toNat (Like.refl (h4S S))
  have L2 : ∀ τ, Like τ (regsP S).2 → Lk (compP S) (compsP S) (numV S 1 (h2S S)).toNat τ [] := fun τ q => Lk.start (compP_bad S) _ q
  have L3 : ∀ τ, Like τ (compsP S).2 → Lk (gateP S) (gatesP S) (numV S 1 (h3S S)).toNat τ [] := fun τ q => Lk.start (gateP_bad S) _ q
  have e1 : listF (regP S) (numV S 1 (h1S S)).toNat (h4S S) [] = regsP S := rfl
  rw [e1] at L1
  have f1 : takeS S 1 h0S = h1S S := rfl
  have f2 : takeS S 1 (h1S S) = h2S S := rfl
  have f3 : takeS S 1 (h2S S) = h3S S := rfl
  have f4 : takeS S 1 (h3S S) = h4S S := rfl
  rw [f1] at c1
  rw [f2] at c2
  rw [f3] at c3
  rw [f4] at c4
  clear e1 f1 f2 f3 f4 i0 i1 i2 i3 t1 t2 t3 hl h6 hp
  generalize regsP S = R1 at *
  generalize compsP S = R2 at *
  generalize gatesP S = R3 at *
  generalize (numV S 1 (h1S S)).toNat = n1 at *
  generalize (numV S 1 (h2S S)).toNat = n2 at *
  generalize (numV S 1 (h3S S)).toNat = n3 at *
  generalize numV S 1 h0S = y0 at *
  generalize h1S S = s1 at *
  generalize h2S S = s2 at *
  generalize h3S S = s3 at *
  generalize h4S S = s4 at *
  have l1 : n1 ≤ 255 := by omega
  have l2 : n2 ≤ 255 := by omega
  have l3 : n3 ≤ 255 := by omega
  clear m1 m2 m3
  replace L1 := Hid.mk L1
  replace L2 := Hid.mk L2
  replace L3 := Hid.mk L3
  go_enter Tryd.func6, Tryd.ntmps6
  go_upto_region 6 with fail
  have hG0 : Gr w ((w.alloc (.cells #[.slice none 0 0, .slice none 0 0, .slice none 0 0, .int .i64 0] 27)).alloc (.cells #[.string (str S), .int .i64 6, .int .i64 0, .int .i64 0] 48)) := ((Gr.refl w).alloc _).alloc _
  have Xx : Box ((w.alloc (.cells #[.slice none 0 0, .slice none 0 0, .slice none 0 0, .int .i64 0] 27)).alloc (.cells #[.string (str S), .int .i64 6, .int .i64 0, .int .i64 0] 48)) w.heap.size #[.slice none 0 0, .slice none 0 0, .slice none 0 0, .int .i64 0] 27 := (Box.new w _ _).alloc _
  have h : DIn ((w.alloc (.cells #[.slice none 0 0, .slice none 0 0, .slice none 0 0, .int .i64 0] 27)).alloc (.cells #[.string (str S), .int .i64 6, .int .i64 0, .int .i64 0] 48)) (w.heap.size + 1) S h0S := Box.next _ _ _ _
  have hBw := Hid.mk hG0.below
  have nkx : w.heap.size ≠ w.heap.size + 1 := by omega
  have hkr : w.heap.size ≤ w.heap.size + 1 := by omega
  have hsz := gr_size hG0
  generalize ((w.alloc (.cells #[.slice none 0 0, .slice none 0 0, .slice none 0 0, .int .i64 0] 27)).alloc (.cells #[.string (str S), .int .i64 6, .int .i64 0, .int .i64 0] 48)) = wv at *
  generalize w.heap.size + 1 = kr at *
  clear hG0
  have hg : Hid (wv.grownBy wv (some kr)) := Hid.mk (grown_of (Below.refl _ _) _)
  replace h := Hid.mk h
  replace Xx := Hid.mk Xx
  replace nkx := Hid.mk nkx
  replace hkr := Hid.mk hkr
  replace hsz := Hid.mk hsz
  replace c1 := c1 kr
  replace c2 := c2 kr
  replace c3 := c3 kr
  replace c4 := c4 kr
  go_upto_region 7 with fail
  have Xu := Box.new wv #[.slice none 0 0, .slice none 0 0, .slice none 0 0, .int .i64 0] 27
  have nku : wv.heap.size ≠ kr := by have := h.out.lt; omega
  have lu : wv.heap.size ≤ wv.heap.size := hg.out.size
  have nnxu : w.heap.size ≠ wv.heap.size := by have := Xx.out.lt; omega
  replace Xx := Hid.mk (Xx.out.alloc (.cells #[.slice none 0 0, .slice none 0 0, .slice none 0 0, .int .i64 0] 27))
  replace h : Hid (DIn (wv.alloc (.cells #[.slice none 0 0, .slice none 0 0, .slice none 0 0, .int .i64 0] 27)) kr S h0S) := Hid.mk (h.out.alloc _)
  replace hg := Hid.mk (hg.out.trans (grown_of ((Gr.refl wv).alloc (.cells #[.slice none 0 0, .slice none 0 0, .slice none 0 0, .int .i64 0] 27)).below (some kr)))
  generalize wv.alloc (.cells #[.slice none 0 0, .slice none 0 0, .slice none 0 0, .int .i64 0] 27) = W1 at *
  replace Xu := Hid.mk Xu
  replace nku := Hid.mk nku
  replace lu := Hid.mk lu
  replace nnxu := Hid.mk nnxu
  go_wp2_with fail
  refine (c1 _ h.out).mono ?_
  rintro x W2 ⟨rfl, h1, hg2⟩
  replace Xx := Hid.mk (Xx.out.kept hg2 nkx.out)
  replace Xu := Hid.mk (Xu.out.kept hg2 nku.out)
  replace hg := Hid.mk (hg.out.trans hg2)
  replace h := Hid.mk h1
  clear hg2 h1 c1
  have ⟨zu, pu, fu⟩ := Xu.out.at
  go_wp2_with fail
  clear zu pu fu
  replace Xx : Hid (Box (W2.setCell ⟨wv.heap.size, 3, none⟩ (.int .i64 y0)) w.heap.size #[.slice none 0 0, .slice none 0 0, .slice none 0 0, .int .i64 0] 27) := Hid.mk (Box.setRow_other (cs := [.int .i64 y0]) (j := 3) Xx.out nnxu.out.symm)
  replace Xu : Hid (Box (W2.setCell ⟨wv.heap.size, 3, none⟩ (.int .i64 y0)) wv.heap.size #[.slice none 0 0, .slice none 0 0, .slice none 0 0, .int .i64 y0] 27) := Hid.mk (by have q := Xu.out.set 3 (.int .i64 y0); simpa using q)
  replace h : Hid (DIn (W2.setCell ⟨wv.heap.size, 3, none⟩ (.int .i64 y0)) kr S s1) := Hid.mk (Box.setRow_other (cs := [.int .i64 y0]) (j := 3) h.out nku.out)
  replace hg : Hid (wv.grownBy (W2.setCell ⟨wv.heap.size, 3, none⟩ (.int .i64 y0)) (some kr)) := Hid.mk (grown_row [.int .i64 y0] (j := 3) hg.out lu.out)
  generalize (W2.setCell ⟨wv.heap.size, 3, none⟩ (.int .i64 y0)) = W3 at *
  refine (c2 _ h.out).mono ?_
  rintro x W4 ⟨rfl, h1, hg2⟩
  replace Xx := Hid.mk (Xx.out.kept hg2 nkx.out)
  replace Xu := Hid.mk (Xu.out.kept hg2 nku.out)
  replace hg := Hid.mk (hg.out.trans hg2)
  replace h := Hid.mk h1
  clear hg2 h1 c2
  go_wp2_with fail
  refine (c3 _ h.out).mono ?_
  rintro x W5 ⟨rfl, h1, hg2⟩
  replace Xx := Hid.mk (Xx.out.kept hg2 nkx.out)
  replace Xu := Hid.mk (Xu.out.kept hg2 nku.out)
  replace hg := Hid.mk (hg.out.trans hg2)
  replace h := Hid.mk h1
  clear hg2 h1 c3
  go_wp2_with fail
  refine (c4 _ h.out).mono ?_
  rintro x W6 ⟨rfl, h1, hg2⟩
  replace Xx := Hid.mk (Xx.out.kept hg2 nkx.out)
  replace Xu := Hid.mk (Xu.out.kept hg2 nku.out)
  replace hg := Hid.mk (hg.out.trans hg2)
  replace h := Hid.mk h1
  clear hg2 h1 c4
  go_upto_region 12 with fail
  have hlk := L1
  have hin := i4
  clear L1 i4
  go_loopw [10] (fun i wr => ∃ (j : Nat) (ac1 : List (List Value)) (A : List PReg) (τ : RS) (aa : Option Addr) (ac : Nat), i = .int .i64 j ∧ j ≤ n1 ∧ Hid (Box wr w.heap.size #[.slice none 0 0, .slice none 0 0, .slice none 0 0, .int .i64 0] 27 ∧ Box wr wv.heap.size #[.slice aa A.length ac, .slice none 0 0, .slice none 0 0, .int .i64 y0] 27 ∧ wr.ownsRow wv.heap.size 52 4 (.slice aa A.length ac) A.length ac1.flatten ∧ All2 (RegC wv.heap.size wr) ac1 A ∧ A.length = j ∧ DIn wr kr S τ ∧ τ.In S ∧ wv.grownBy wr (some kr) ∧ Lk (regP S) R1 (n1 - j) τ A)) (fun i _ => n1 - (intOf i).toNat)
  case atStart => exact ⟨0, [], [], _, none, 0, rfl, by omega, ⟨Xx.out, Xu.out, ⟨rfl, .inl ⟨rfl, rfl⟩⟩, trivial, rfl, h.out, hin, hg.out, hlk.out⟩⟩
  case round =>
    clear Xx Xu h hg hin hlk
    obtain ⟨j, ac1, A, τ, aa, ac, rfl, hj, ⟨Xx, Xu, O1, E1, hL, h, hin, hg, hF⟩⟩ := hrel
    replace Xx := Hid.mk Xx
    replace Xu := Hid.mk Xu
    replace O1 := Hid.mk O1
    replace E1 := Hid.mk E1
    replace h := Hid.mk h
    replace hg := Hid.mk hg
    replace hF := Hid.mk hF
    replace hL := Hid.mk hL
    go_upto_region 12 with fail
    go_cut [50] (fun v wx => (∃ b : Bool, v = .bool b ∧ Hid (b = true → j < n1 ∧ τ.e = 0) ∧ Hid (b = false → n1 - j = 0 ∨ τ.e ≠ 0)) ∧ wr = wx)
    case first =>
      by_cases hm0 : j < n1
      · have jl : (j : Int) < n1 := by omega
        have ⟨zh, ph, fh⟩ := h.out.at
        by_cases he : τ.e = 0
        · have he' : (τ.e == 0) = true := by simpa using he
          replace he := Hid.mk he
          go_wp2_with fail
          go_meet
          exact ⟨⟨true, rfl, Hid.mk (fun _ => ⟨hm0, he.out⟩), Hid.mk (fun q => by cases q)⟩, rfl⟩
        · have he' : (τ.e == 0) = false := by simpa using he
          replace he := Hid.mk he
          go_wp2_with fail
          go_meet
          exact ⟨⟨false, rfl, Hid.mk (fun q => by cases q), Hid.mk (fun _ => .inr he.out)⟩, rfl⟩
      · have jl : ¬ (j : Int) < n1 := by omega
        go_wp2_with fail
        go_meet
        exact ⟨⟨false, rfl, Hid.mk (fun q => by cases q), Hid.mk (fun _ => .inl (by omega))⟩, rfl⟩
    case rest =>
      obtain ⟨⟨b, hb, hb1, hb2⟩, hwx⟩ := hcut
      subst hwx
      subst hb
      cases b with
      | true =>
        obtain ⟨hm1, he⟩ := hb1.out rfl
        clear hb1 hb2
        have hiw := inc_w (m := j) (by omega)
        have ct := fun W h1 => dregion_any S kr τ W h1 hin hS
        have hin1 := regP_in hin
        have hF1 : ∀ x, ((regP S τ).2.e = 0 → x = (regP S τ).1) → Lk (regP S) R1 (n1 - (j + 1)) (regP S τ).2 (A ++ [x]) := fun x q => by
          have := hF.out.step (by omega) he (Like.refl _) x q
          rw [show n1 - j - 1 = n1 - (j + 1) by omega] at this
          exact this
        clear hF he
        generalize (regP S τ).1 = x0 at *
        generalize (regP S τ).2 = τ1 at *
        replace hF1 := Hid.mk hF1
        go_wp2_with fail
        refine (ct _ h.out).mono ?_
        rintro z W7 ⟨x, sa, sc, rfl, hn1, h1, hg2, hx⟩
        replace hF1 := Hid.mk (hF1.out x hx)
        replace Xx := Hid.mk (Xx.out.kept hg2 nkx.out)
        replace Xu := Hid.mk (Xu.out.kept hg2 nku.out)
        replace O1 := Hid.mk (own_kept O1.out hg2 (own_ne O1.out h.out (by decide)))
        replace E1 := Hid.mk (E1.out.imp fun _ _ q => q.step hg2 (nes_box h.out (by decide) (by decide) (by decide) (by decide)))
        have hsw := hg.out.size
        replace E1 := Hid.mk (E1.out.snoc (show RegC wv.heap.size W7 [.int .u64 x.b, .int .u64 x.n, .string (str x.data), .slice sa x.slots.length sc] x from ⟨sa, sc, rfl, own_base hn1 hsw⟩))
        replace hg := Hid.mk (hg.out.trans hg2)
        replace h := Hid.mk h1
        clear hg2 h1 ct hx hn1 hsw
        go_upto_region 15 with fail
        have Av : At (W7.alloc (.cells #[.int .u64 x.b, .int .u64 x.n, .string (str x.data), .slice sa x.slots.length sc] 52)) W7.heap.size #[.int .u64 x.b, .int .u64 x.n, .string (str x.data), .slice sa x.slots.length sc] := At.new _ _ _
        replace Xx := Hid.mk (Xx.out.alloc (.cells #[.int .u64 x.b, .int .u64 x.n, .string (str x.data), .slice sa x.slots.length sc] 52))
        replace Xu := Hid.mk (Xu.out.alloc (.cells #[.int .u64 x.b, .int .u64 x.n, .string (str x.data), .slice sa x.slots.length sc] 52))
        replace O1 := Hid.mk (own_below O1.out ((Gr.refl W7).alloc (.cells #[.int .u64 x.b, .int .u64 x.n, .string (str x.data), .slice sa x.slots.length sc] 52)).below)
        replace E1 := Hid.mk (E1.out.imp fun _ _ q => q.step (grown_of ((Gr.refl W7).alloc (.cells #[.int .u64 x.b, .int .u64 x.n, .string (str x.data), .slice sa x.slots.length sc] 52)).below none) (nes_none _))
        replace h : Hid (DIn (W7.alloc (.cells #[.int .u64 x.b, .int .u64 x.n, .string (str x.data), .slice sa x.slots.length sc] 52)) kr S τ1) := Hid.mk (h.out.alloc _)
        replace hg := Hid.mk (hg.out.trans (grown_of ((Gr.refl W7).alloc (.cells #[.int .u64 x.b, .int .u64 x.n, .string (str x.data), .slice sa x.slots.length sc] 52)).below (some kr)))
        generalize W7.alloc (.cells #[.int .u64 x.b, .int .u64 x.n, .string (str x.data), .slice sa x.slots.length sc] 52) = W8 at *
        generalize W7.heap.size = kv at *
        have ⟨zv, pv, fv⟩ := Av
        clear Av
        have ⟨zu, pu, fu⟩ := Xu.out.at
        have hA : At (W8.alloc (.cells #[.int .u64 x.b, .int .u64 x.n, .string (str x.data), .slice sa x.slots.length sc] 52)) W8.heap.size [Value.int .u64 x.b, .int .u64 x.n, .string (str x.data), .slice sa x.slots.length sc].toArray := At.new _ _ _
        replace Xx := Hid.mk (Xx.out.alloc (.cells #[.int .u64 x.b, .int .u64 x.n, .string (str x.data), .slice sa x.slots.length sc] 52))
        replace Xu := Hid.mk (Xu.out.alloc (.cells #[.int .u64 x.b, .int .u64 x.n, .string (str x.data), .slice sa x.slots.length sc] 52))
        replace O1 := Hid.mk (own_below O1.out ((Gr.refl W8).alloc (.cells #[.int .u64 x.b, .int .u64 x.n, .string (str x.data), .slice sa x.slots.length sc] 52)).below)
        replace E1 := Hid.mk (E1.out.imp fun _ _ q => q.step (grown_of ((Gr.refl W8).alloc (.cells #[.int .u64 x.b, .int .u64 x.n, .string (str x.data), .slice sa x.slots.length sc] 52)).below none) (nes_none _))
        replace h : Hid (DIn (W8.alloc (.cells #[.int .u64 x.b, .int .u64 x.n, .string (str x.data), .slice sa x.slots.length sc] 52)) kr S τ1) := Hid.mk (h.out.alloc _)
        replace hg := Hid.mk (hg.out.trans (grown_of ((Gr.refl W8).alloc (.cells #[.int .u64 x.b, .int .u64 x.n, .string (str x.data), .slice sa x.slots.length sc] 52)).below (some kr)))
        have hs := Hid.mk hg.out.size
        replace hA := Hid.mk hA
        go_wp2_with (at_builtin; refine wpList_append_el rfl (.tmp 56) (.tmp 58) 23 52 _ 4 56 rfl Tryd.underlying23 infoRegion rfl (by decide) (by decide) wv.heap.size (.slice aa A.length ac) A.length ac1.flatten [Value.int .u64 x.b, .int .u64 x.n, .string (str x.data), .slice sa x.slots.length sc] rfl O1.out W8.heap.size rfl hA.out rfl (by simp [Value.oneCell']) (by have := hL.out; omega) hs.out ?_)
        intro g c w5 hrow hgr
        replace Xx := Hid.mk (Box.keptRow Xx.out hgr (own_ne O1.out Xx.out (by decide)))
        replace Xu := Hid.mk (Box.keptRow Xu.out hgr (own_ne O1.out Xu.out (by decide)))
        replace E1 := Hid.mk (E1.out.imp fun _ _ q => q.step hgr (nes_own O1.out (by decide) (by decide) (by decide) (by decide)))
        replace h : Hid (DIn w5 kr S τ1) := Hid.mk (Box.keptRow h.out hgr (own_ne O1.out h.out (by decide)))
        replace hg := Hid.mk (hg.out.andThen hgr (fun i hq => .inl (own_block O1.out i hq).1))
        replace O1 := Hid.mk hrow
        clear hgr hA hs hrow
        clear zu pu fu
        have ⟨zu, pu, fu⟩ := Xu.out.at
        replace O1 : Hid ((w5.setCell ⟨wv.heap.size, 0, none⟩ (.slice (some ⟨g, 0, none⟩) (A.length + 1) c)).ownsRow wv.heap.size 52 4 (.slice (some ⟨g, 0, none⟩) (A.length + 1) c) (A.length + 1) (ac1.flatten ++ [Value.int .u64 x.b, .int .u64 x.n, .string (str x.data), .slice sa x.slots.length sc])) := Hid.mk (own_row [.slice (some ⟨g, 0, none⟩) (A.length + 1) c] (j := 0) O1.out Xu.out (by decide))
        replace Xx : Hid (Box (w5.setCell ⟨wv.heap.size, 0, none⟩ (.slice (some ⟨g, 0, none⟩) (A.length + 1) c)) w.heap.size #[.slice none 0 0, .slice none 0 0, .slice none 0 0, .int .i64 0] 27) := Hid.mk (Box.setRow_other (cs := [.slice (some ⟨g, 0, none⟩) (A.length + 1) c]) (j := 0) Xx.out nnxu.out.symm)
        replace E1 := Hid.mk (E1.out.imp fun _ _ q => q.step (grown_set w5 wv.heap.size 0 (.slice (some ⟨g, 0, none⟩) (A.length + 1) c)) (nes_box Xu.out (by decide) (by decide) (by decide) (by decide)))
        replace Xu : Hid (Box (w5.setCell ⟨wv.heap.size, 0, none⟩ (.slice (some ⟨g, 0, none⟩) (A.length + 1) c)) wv.heap.size #[.slice (some ⟨g, 0, none⟩) (A.length + 1) c, .slice none 0 0, .slice none 0 0, .int .i64 y0] 27) := Hid.mk (by have q := Xu.out.set 0 (.slice (some ⟨g, 0, none⟩) (A.length + 1) c); simpa using q)
        replace h : Hid (DIn (w5.setCell ⟨wv.heap.size, 0, none⟩ (.slice (some ⟨g, 0, none⟩) (A.length + 1) c)) kr S τ1) := Hid.mk (Box.setRow_other (cs := [.slice (some ⟨g, 0, none⟩) (A.length + 1) c]) (j := 0) h.out nku.out)
        replace hg : Hid (wv.grownBy (w5.setCell ⟨wv.heap.size, 0, none⟩ (.slice (some ⟨g, 0, none⟩) (A.length + 1) c)) (some kr)) := Hid.mk (grown_row [.slice (some ⟨g, 0, none⟩) (A.length + 1) c] (j := 0) hg.out lu.out)
        go_wp2_with fail
        go_roundw
        case rel => exact ⟨j + 1, ac1 ++ [[.int .u64 x.b, .int .u64 x.n, .string (str x.data), .slice sa x.slots.length sc]], A ++ [x], τ1, some ⟨g, 0, none⟩, c, by simp, by omega, ⟨Xx.out, by rw [List.length_append]; exact Xu.out, by rw [List.length_append, flat_snoc2]; exact O1.out, E1.out, by rw [List.length_append, hL.out]; rfl, h.out, hin1, hg.out, hF1.out⟩⟩
        case measure => simp [intOf]; omega
      | false =>
        obtain ⟨hlk, r1⟩ := hF.out.done (hb2.out rfl)
        replace r1 := Hid.mk r1
        clear hb1 hb2 hF hL hj
        replace hlk := Hid.mk (L2.out τ hlk)
        generalize τ = t1 at *
        go_upto_region 17 with fail
        go_loopw [12] (fun i wr => ∃ (j : Nat) (bc1 : List (List Value)) (B : List PComp) (τ : RS) (ba : Option Addr) (bc : Nat), i = .int .i64 j ∧ j ≤ n2 ∧ Hid (Box wr w.heap.size #[.slice none 0 0, .slice none 0 0, .slice none 0 0, .int .i64 0] 27 ∧ Box wr wv.heap.size #[.slice aa A.length ac, .slice ba B.length bc, .slice none 0 0, .int .i64 y0] 27 ∧ wr.ownsRow wv.heap.size 52 4 (.slice aa A.length ac) A.length ac1.flatten ∧ All2 (RegC wv.heap.size wr) ac1 A ∧ wr.ownsRow wv.heap.size 57 2 (.slice ba B.length bc) B.length bc1.flatten ∧ All2 (CompC wv.heap.size wr) bc1 B ∧ B.length = j ∧ DIn wr kr S τ ∧ τ.In S ∧ wv.grownBy wr (some kr) ∧ Lk (compP S) R2 (n2 - j) τ B)) (fun i _ => n2 - (intOf i).toNat)
        case atStart => exact ⟨0, [], [], _, none, 0, rfl, by omega, ⟨Xx.out, Xu.out, O1.out, E1.out, ⟨rfl, .inl ⟨rfl, rfl⟩⟩, trivial, rfl, h.out, hin, hg.out, hlk.out⟩⟩
        case round =>
          clear Xx Xu O1 E1 h hg hin hlk
          obtain ⟨j, bc1, B, τ, ba, bc, rfl, hj, ⟨Xx, Xu, O1, E1, O2, E2, hL, h, hin, hg, hF⟩⟩ := hrel
          replace Xx := Hid.mk Xx
          replace Xu := Hid.mk Xu
          replace O1 := Hid.mk O1
          replace E1 := Hid.mk E1
          replace O2 := Hid.mk O2
          replace E2 := Hid.mk E2
          replace h := Hid.mk h
          replace hg := Hid.mk hg
          replace hF := Hid.mk hF
          replace hL := Hid.mk hL
          go_upto_region 17 with fail
          go_cut [70] (fun v wx => (∃ b : Bool, v = .bool b ∧ Hid (b = true → j < n2 ∧ τ.e = 0) ∧ Hid (b = false → n2 - j = 0 ∨ τ.e ≠ 0)) ∧ wr = wx)
          case first =>
            by_cases hm0 : j < n2
            · have jl : (j : Int) < n2 := by omega
              have ⟨zh, ph, fh⟩ := h.out.at
              by_cases he : τ.e = 0
              · have he' : (τ.e == 0) = true := by simpa using he
                replace he := Hid.mk he
                go_wp2_with fail
                go_meet
                exact ⟨⟨true, rfl, Hid.mk (fun _ => ⟨hm0, he.out⟩), Hid.mk (fun q => by cases q)⟩, rfl⟩
              · have he' : (τ.e == 0) = false := by simpa using he
                replace he := Hid.mk he
                go_wp2_with fail
                go_meet
                exact ⟨⟨false, rfl, Hid.mk (fun q => by cases q), Hid.mk (fun _ => .inr he.out)⟩, rfl⟩
            · have jl : ¬ (j : Int) < n2 := by omega
              go_wp2_with fail
              go_meet
              exact ⟨⟨false, rfl, Hid.mk (fun q => by cases q), Hid.mk (fun _ => .inl (by omega))⟩, rfl⟩
          case rest =>
            obtain ⟨⟨b, hb, hb1, hb2⟩, hwx⟩ := hcut
            subst hwx
            subst hb
            cases b with
            | true =>
              obtain ⟨hm1, he⟩ := hb1.out rfl
              clear hb1 hb2
              have hiw := inc_w (m := j) (by omega)
              have ct := fun W h1 => dcomp_any S kr τ W h1 hin hS
              have hF1 : ∀ x τ', Like τ' (compP S τ).2 → ((compP S τ).2.e = 0 → x = (compP S τ).1) → Lk (compP S) R2 (n2 - (j + 1)) τ' (B ++ [x]) := fun x τ' q1 q => by
                have := hF.out.step (by omega) he q1 x q
                rw [show n2 - j - 1 = n2 - (j + 1) by omega] at this
                exact this
              clear hF he
              generalize (compP S τ).1 = x0 at *
              generalize (compP S τ).2 = τ1 at *
              replace hF1 := Hid.mk hF1
              go_wp2_with fail
              refine (ct _ h.out).mono ?_
              rintro z W7 ⟨x, ra, rc, ka, kc, τ2, rfl, hn1, hn2, h1, hg2, hl2, hin1, hx⟩
              replace hF1 := Hid.mk (hF1.out x τ2 hl2 hx)
              replace Xx := Hid.mk (Xx.out.kept hg2 nkx.out)
              replace Xu := Hid.mk (Xu.out.kept hg2 nku.out)
              replace O1 := Hid.mk (own_kept O1.out hg2 (own_ne O1.out h.out (by decide)))
              replace O2 := Hid.mk (own_kept O2.out hg2 (own_ne O2.out h.out (by decide)))
              replace E1 := Hid.mk (E1.out.imp fun _ _ q => q.step hg2 (nes_box h.out (by decide) (by decide) (by decide) (by decide)))
              replace E2 := Hid.mk (E2.out.imp fun _ _ q => q.step hg2 (nes_box h.out (by decide) (by decide) (by decide) (by decide)))
              have hsw := hg.out.size
              replace E2 := Hid.mk (E2.out.snoc (show CompC wv.heap.size W7 [.slice ra x.roots.length rc, .slice ka x.code.length kc] x from ⟨ra, rc, ka, kc, rfl, own_base hn1 hsw, own_base hn2 hsw⟩))
              replace hg := Hid.mk (hg.out.trans hg2)
              replace h := Hid.mk h1
              clear hg2 h1 ct hx hn1 hn2 hl2 hsw
              go_upto_region 20 with fail
              have Av : At (W7.alloc (.cells #[.slice ra x.roots.length rc, .slice ka x.code.length kc] 57)) W7.heap.size #[.slice ra x.roots.length rc, .slice ka x.code.length kc] := At.new _ _ _
              replace Xx := Hid.mk (Xx.out.alloc (.cells #[.slice ra x.roots.length rc, .slice ka x.code.length kc] 57))
              replace Xu := Hid.mk (Xu.out.alloc (.cells #[.slice ra x.roots.length rc, .slice ka x.code.length kc] 57))
              replace O1 := Hid.mk (own_below O1.out ((Gr.refl W7).alloc (.cells #[.slice ra x.roots.length rc, .slice ka x.code.length kc] 57)).below)
              replace O2 := Hid.mk (own_below O2.out ((Gr.refl W7).alloc (.cells #[.slice ra x.roots.length rc, .slice ka x.code.length kc] 57)).below)
              replace E1 := Hid.mk (E1.out.imp fun _ _ q => q.step (grown_of ((Gr.refl W7).alloc (.cells #[.slice ra x.roots.length rc, .slice ka x.code.length kc] 57)).below none) (nes_none _))
              replace E2 := Hid.mk (E2.out.imp fun _ _ q => q.step (grown_of ((Gr.refl W7).alloc (.cells #[.slice ra x.roots.length rc, .slice ka x.code.length kc] 57)).below none) (nes_none _))
              replace h : Hid (DIn (W7.alloc (.cells #[.slice ra x.roots.length rc, .slice ka x.code.length kc] 57)) kr S τ2) := Hid.mk (h.out.alloc _)
              replace hg := Hid.mk (hg.out.trans (grown_of ((Gr.refl W7).alloc (.cells #[.slice ra x.roots.length rc, .slice ka x.code.length kc] 57)).below (some kr)))
              generalize W7.alloc (.cells #[.slice ra x.roots.length rc, .slice ka x.code.length kc] 57) = W8 at *
              generalize W7.heap.size = kv at *
              have ⟨zv, pv, fv⟩ := Av
              clear Av
              have ⟨zu, pu, fu⟩ := Xu.out.at
              have hA : At (W8.alloc (.cells #[.slice ra x.roots.length rc, .slice ka x.code.length kc] 57)) W8.heap.size [Value.slice ra x.roots.length rc, .slice ka x.code.length kc].toArray := At.new _ _ _
              replace Xx := Hid.mk (Xx.out.alloc (.cells #[.slice ra x.roots.length rc, .slice ka x.code.length kc] 57))
              replace Xu := Hid.mk (Xu.out.alloc (.cells #[.slice ra x.roots.length rc, .slice ka x.code.length kc] 57))
              replace O1 := Hid.mk (own_below O1.out ((Gr.refl W8).alloc (.cells #[.slice ra x.roots.length rc, .slice ka x.code.length kc] 57)).below)
              replace O2 := Hid.mk (own_below O2.out ((Gr.refl W8).alloc (.cells #[.slice ra x.roots.length rc, .slice ka x.code.length kc] 57)).below)
              replace E1 := Hid.mk (E1.out.imp fun _ _ q => q.step (grown_of ((Gr.refl W8).alloc (.cells #[.slice ra x.roots.length rc, .slice ka x.code.length kc] 57)).below none) (nes_none _))
              replace E2 := Hid.mk (E2.out.imp fun _ _ q => q.step (grown_of ((Gr.refl W8).alloc (.cells #[.slice ra x.roots.length rc, .slice ka x.code.length kc] 57)).below none) (nes_none _))
              replace h : Hid (DIn (W8.alloc (.cells #[.slice ra x.roots.length rc, .slice ka x.code.length kc] 57)) kr S τ2) := Hid.mk (h.out.alloc _)
              replace hg := Hid.mk (hg.out.trans (grown_of ((Gr.refl W8).alloc (.cells #[.slice ra x.roots.length rc, .slice ka x.code.length kc] 57)).below (some kr)))
              have hs := Hid.mk hg.out.size
              replace hA := Hid.mk hA
              go_wp2_with (at_builtin; refine wpList_append_el rfl (.tmp 76) (.tmp 78) 24 57 _ 2 48 rfl Tryd.underlying24 infoComp rfl (by decide) (by decide) wv.heap.size (.slice ba B.length bc) B.length bc1.flatten [Value.slice ra x.roots.length rc, .slice ka x.code.length kc] rfl O2.out W8.heap.size rfl hA.out rfl (by simp [Value.oneCell']) (by have := hL.out; omega) hs.out ?_)
              intro g c w5 hrow hgr
              replace Xx := Hid.mk (Box.keptRow Xx.out hgr (own_ne O2.out Xx.out (by decide)))
              replace Xu := Hid.mk (Box.keptRow Xu.out hgr (own_ne O2.out Xu.out (by decide)))
              replace O1 := Hid.mk (own_ty O1.out hgr (tyNe_own O2.out (by decide)))
              replace E1 := Hid.mk (E1.out.imp fun _ _ q => q.step hgr (nes_own O2.out (by decide) (by decide) (by decide) (by decide)))
              replace E2 := Hid.mk (E2.out.imp fun _ _ q => q.step hgr (nes_own O2.out (by decide) (by decide) (by decide) (by decide)))
              replace h : Hid (DIn w5 kr S τ2) := Hid.mk (Box.keptRow h.out hgr (own_ne O2.out h.out (by decide)))
              replace hg := Hid.mk (hg.out.andThen hgr (fun i hq => .inl (own_block O2.out i hq).1))
              replace O2 := Hid.mk hrow
              clear hgr hA hs hrow
              clear zu pu fu
              have ⟨zu, pu, fu⟩ := Xu.out.at
              replace O1 : Hid ((w5.setCell ⟨wv.heap.size, 1, none⟩ (.slice (some ⟨g, 0, none⟩) (B.length + 1) c)).ownsRow wv.heap.size 52 4 (.slice aa A.length ac) A.length ac1.flatten) := Hid.mk (own_row [.slice (some ⟨g, 0, none⟩) (B.length + 1) c] (j := 1) O1.out Xu.out (by decide))
              replace O2 : Hid ((w5.setCell ⟨wv.heap.size, 1, none⟩ (.slice (some ⟨g, 0, none⟩) (B.length + 1) c)).ownsRow wv.heap.size 57 2 (.slice (some ⟨g, 0, none⟩) (B.length + 1) c) (B.length + 1) (bc1.flatten ++ [Value.slice ra x.roots.length rc, .slice ka x.code.length kc])) := Hid.mk (own_row [.slice (some ⟨g, 0, none⟩) (B.length + 1) c] (j := 1) O2.out Xu.out (by decide))
              replace Xx : Hid (Box (w5.setCell ⟨wv.heap.size, 1, none⟩ (.slice (some ⟨g, 0, none⟩) (B.length + 1) c)) w.heap.size #[.slice none 0 0, .slice none 0 0, .slice none 0 0, .int .i64 0] 27) := Hid.mk (Box.setRow_other (cs := [.slice (some ⟨g, 0, none⟩) (B.length + 1) c]) (j := 1) Xx.out nnxu.out.symm)
              replace E1 := Hid.mk (E1.out.imp fun _ _ q => q.step (grown_set w5 wv.heap.size 1 (.slice (some ⟨g, 0, none⟩) (B.length + 1) c)) (nes_box Xu.out (by decide) (by decide) (by decide) (by decide)))
              replace E2 := Hid.mk (E2.out.imp fun _ _ q => q.step (grown_set w5 wv.heap.size 1 (.slice (some ⟨g, 0, none⟩) (B.length + 1) c)) (nes_box Xu.out (by decide) (by decide) (by decide) (by decide)))
              replace Xu : Hid (Box (w5.setCell ⟨wv.heap.size, 1, none⟩ (.slice (some ⟨g, 0, none⟩) (B.length + 1) c)) wv.heap.size #[.slice aa A.length ac, .slice (some ⟨g, 0, none⟩) (B.length + 1) c, .slice none 0 0, .int .i64 y0] 27) := Hid.mk (by have q := Xu.out.set 1 (.slice (some ⟨g, 0, none⟩) (B.length + 1) c); simpa using q)
              replace h : Hid (DIn (w5.setCell ⟨wv.heap.size, 1, none⟩ (.slice (some ⟨g, 0, none⟩) (B.length + 1) c)) kr S τ2) := Hid.mk (Box.setRow_other (cs := [.slice (some ⟨g, 0, none⟩) (B.length + 1) c]) (j := 1) h.out nku.out)
              replace hg : Hid (wv.grownBy (w5.setCell ⟨wv.heap.size, 1, none⟩ (.slice (some ⟨g, 0, none⟩) (B.length + 1) c)) (some kr)) := Hid.mk (grown_row [.slice (some ⟨g, 0, none⟩) (B.length + 1) c] (j := 1) hg.out lu.out)
              go_wp2_with fail
              go_roundw
              case rel => exact ⟨j + 1, bc1 ++ [[.slice ra x.roots.length rc, .slice ka x.code.length kc]], B ++ [x], τ2, some ⟨g, 0, none⟩, c, by simp, by omega, ⟨Xx.out, by rw [List.length_append]; exact Xu.out, O1.out, E1.out, by rw [List.length_append, flat_snoc2]; exact O2.out, E2.out, by rw [List.length_append, hL.out]; rfl, h.out, hin1, hg.out, hF1.out⟩⟩
              case measure => simp [intOf]; omega
            | false =>
              obtain ⟨hlk, r2⟩ := hF.out.done (hb2.out rfl)
              replace r2 := Hid.mk r2
              clear hb1 hb2 hF hL hj
              replace hlk := Hid.mk (L3.out τ hlk)
              generalize τ = t2 at *
              go_upto_region 22 with fail
              go_loopw [14] (fun i wr => ∃ (j : Nat) (cc1 : List (List Value)) (C : List PGate) (τ : RS) (ga : Option Addr) (gc : Nat), i = .int .i64 j ∧ j ≤ n3 ∧ Hid (Box wr w.heap.size #[.slice none 0 0, .slice none 0 0, .slice none 0 0, .int .i64 0] 27 ∧ Box wr wv.heap.size #[.slice aa A.length ac, .slice ba B.length bc, .slice ga C.length gc, .int .i64 y0] 27 ∧ wr.ownsRow wv.heap.size 52 4 (.slice aa A.length ac) A.length ac1.flatten ∧ All2 (RegC wv.heap.size wr) ac1 A ∧ wr.ownsRow wv.heap.size 57 2 (.slice ba B.length bc) B.length bc1.flatten ∧ All2 (CompC wv.heap.size wr) bc1 B ∧ wr.ownsRow wv.heap.size 61 4 (.slice ga C.length gc) C.length cc1.flatten ∧ All2 (GateC wv.heap.size wr) cc1 C ∧ C.length = j ∧ DIn wr kr S τ ∧ τ.In S ∧ wv.grownBy wr (some kr) ∧ Lk (gateP S) R3 (n3 - j) τ C)) (fun i _ => n3 - (intOf i).toNat)
              case atStart => exact ⟨0, [], [], _, none, 0, rfl, by omega, ⟨Xx.out, Xu.out, O1.out, E1.out, O2.out, E2.out, ⟨rfl, .inl ⟨rfl, rfl⟩⟩, trivial, rfl, h.out, hin, hg.out, hlk.out⟩⟩
              case round =>
                clear Xx Xu O1 E1 O2 E2 h hg hin hlk
                obtain ⟨j, cc1, C, τ, ga, gc, rfl, hj, ⟨Xx, Xu, O1, E1, O2, E2, O3, E3, hL, h, hin, hg, hF⟩⟩ := hrel
                replace Xx := Hid.mk Xx
                replace Xu := Hid.mk Xu
                replace O1 := Hid.mk O1
                replace E1 := Hid.mk E1
                replace O2 := Hid.mk O2
                replace E2 := Hid.mk E2
                replace O3 := Hid.mk O3
                replace E3 := Hid.mk E3
                replace h := Hid.mk h
                replace hg := Hid.mk hg
                replace hF := Hid.mk hF
                replace hL := Hid.mk hL
                go_upto_region 22 with fail
                go_cut [90] (fun v wx => (∃ b : Bool, v = .bool b ∧ Hid (b = true → j < n3 ∧ τ.e = 0) ∧ Hid (b = false → n3 - j = 0 ∨ τ.e ≠ 0)) ∧ wr = wx)
                case first =>
                  by_cases hm0 : j < n3
                  · have jl : (j : Int) < n3 := by omega
                    have ⟨zh, ph, fh⟩ := h.out.at
                    by_cases he : τ.e = 0
                    · have he' : (τ.e == 0) = true := by simpa using he
                      replace he := Hid.mk he
                      go_wp2_with fail
                      go_meet
                      exact ⟨⟨true, rfl, Hid.mk (fun _ => ⟨hm0, he.out⟩), Hid.mk (fun q => by cases q)⟩, rfl⟩
                    · have he' : (τ.e == 0) = false := by simpa using he
                      replace he := Hid.mk he
                      go_wp2_with fail
                      go_meet
                      exact ⟨⟨false, rfl, Hid.mk (fun q => by cases q), Hid.mk (fun _ => .inr he.out)⟩, rfl⟩
                  · have jl : ¬ (j : Int) < n3 := by omega
                    go_wp2_with fail
                    go_meet
                    exact ⟨⟨false, rfl, Hid.mk (fun q => by cases q), Hid.mk (fun _ => .inl (by omega))⟩, rfl⟩
                case rest =>
                  obtain ⟨⟨b, hb, hb1, hb2⟩, hwx⟩ := hcut
                  subst hwx
                  subst hb
                  cases b with
                  | true =>
                    obtain ⟨hm1, he⟩ := hb1.out rfl
                    clear hb1 hb2
                    have hiw := inc_w (m := j) (by omega)
                    have g1 := fun W h1 => dcount_any S kr 1 τ W h1 hin hS2 (by omega)
                    have q1 := takeS_in (S := S) 1 hin
                    have g2 := fun W h1 => dcount_any S kr 2 (takeS S 1 τ) W h1 q1 hS2 (by omega)
                    have q2 : (gateS S τ).In S := takeS_in (S := S) 2 q1
                    have g3 := fun W h1 => dtypes_any S kr (gateS S τ) W h1 q2 hS
                    have q3 := kindsP_in q2
                    have g4 := fun W h1 => dtypes_any S kr (kindsP S (gateS S τ)).2 W h1 q3 hS
                    have hin1 := gateP_in hin
                    have hF1 : ∀ x y, ((kindsP S (gateS S τ)).2.e = 0 → x = (kindsP S (gateS S τ)).1) → ((gateP S τ).2.e = 0 → y = (kindsP S (kindsP S (gateS S τ)).2).1) → Lk (gateP S) R3 (n3 - (j + 1)) (gateP S τ).2 (C ++ [⟨numV S 1 τ, numV S 2 (takeS S 1 τ), x, y⟩]) := fun x y z1 z2 => by
                      have hz : (gateP S τ).2.e = 0 → (kindsP S (gateS S τ)).2.e = 0 := fun z => Classical.byContradiction fun q => q (by have e := kindsP_bad S (kindsP S (gateS S τ)).2 q; have e2 : (gateP S τ).2 = (kindsP S (kindsP S (gateS S τ)).2).2 := rfl; rw [e2, e] at z; exact z)
                      have := hF.out.step (by omega) he (Like.refl _) ⟨numV S 1 τ, numV S 2 (takeS S 1 τ), x, y⟩ (fun z => by rw [z1 (hz z), z2 z]; rfl)
                      rw [show n3 - j - 1 = n3 - (j + 1) by omega] at this
                      exact this
                    have e1 : takeS S 2 (takeS S 1 τ) = gateS S τ := rfl
                    have e2 : (kindsP S (kindsP S (gateS S τ)).2).2 = (gateP S τ).2 := rfl
                    rw [e1] at g2
                    rw [e2] at g4
                    clear e1 e2 q1 q2 q3 hF he
                    generalize (kindsP S (kindsP S (gateS S τ)).2).1 = ky at *
                    generalize (gateP S τ).2 = τ4 at *
                    generalize (kindsP S (gateS S τ)).1 = kx at *
                    generalize (kindsP S (gateS S τ)).2 = τ3 at *
                    generalize gateS S τ = τ2 at *
                    generalize numV S 2 (takeS S 1 τ) = y2 at *
                    generalize takeS S 1 τ = τ1 at *
                    generalize numV S 1 τ = y1 at *
                    replace hF1 := Hid.mk hF1
                    go_upto_region 25 with fail
                    have Xg0 := Box.new wr #[.int .i64 0, .int .i64 0, .slice none 0 0, .slice none 0 0] 61
                    have nkg0 : wr.heap.size ≠ kr := by have := h.out.lt; omega
                    have lg0 : wv.heap.size ≤ wr.heap.size := hg.out.size
                    have nnxg0 : w.heap.size ≠ wr.heap.size := by have := Xx.out.lt; omega
                    replace Xx := Hid.mk (Xx.out.alloc (.cells #[.int .i64 0, .int .i64 0, .slice none 0 0, .slice none 0 0] 61))
                    have nnug0 : wv.heap.size ≠ wr.heap.size := by have := Xu.out.lt; omega
                    replace Xu := Hid.mk (Xu.out.alloc (.cells #[.int .i64 0, .int .i64 0, .slice none 0 0, .slice none 0 0] 61))
                    have no3g0 : Value.ownBlock (.slice ga C.length gc) ≠ some wr.heap.size := fun e => by have := (own_block O3.out _ e).2; omega
                    replace O1 := Hid.mk (own_below O1.out ((Gr.refl wr).alloc (.cells #[.int .i64 0, .int .i64 0, .slice none 0 0, .slice none 0 0] 61)).below)
                    replace O2 := Hid.mk (own_below O2.out ((Gr.refl wr).alloc (.cells #[.int .i64 0, .int .i64 0, .slice none 0 0, .slice none 0 0] 61)).below)
                    replace O3 := Hid.mk (own_below O3.out ((Gr.refl wr).alloc (.cells #[.int .i64 0, .int .i64 0, .slice none 0 0, .slice none 0 0] 61)).below)
                    replace E1 := Hid.mk (E1.out.imp fun _ _ q => q.step (grown_of ((Gr.refl wr).alloc (.cells #[.int .i64 0, .int .i64 0, .slice none 0 0, .slice none 0 0] 61)).below none) (nes_none _))
                    replace E2 := Hid.mk (E2.out.imp fun _ _ q => q.step (grown_of ((Gr.refl wr).alloc (.cells #[.int .i64 0, .int .i64 0, .slice none 0 0, .slice none 0 0] 61)).below none) (nes_none _))
                    replace E3 := Hid.mk (E3.out.imp fun _ _ q => q.step (grown_of ((Gr.refl wr).alloc (.cells #[.int .i64 0, .int .i64 0, .slice none 0 0, .slice none 0 0] 61)).below none) (nes_none _))
                    replace h : Hid (DIn (wr.alloc (.cells #[.int .i64 0, .int .i64 0, .slice none 0 0, .slice none 0 0] 61)) kr S τ) := Hid.mk (h.out.alloc _)
                    replace hg := Hid.mk (hg.out.trans (grown_of ((Gr.refl wr).alloc (.cells #[.int .i64 0, .int .i64 0, .slice none 0 0, .slice none 0 0] 61)).below (some kr)))
                    generalize wr.alloc (.cells #[.int .i64 0, .int .i64 0, .slice none 0 0, .slice none 0 0] 61) = W7 at *
                    generalize wr.heap.size = kg0 at *
                    replace Xg0 := Hid.mk Xg0
                    replace nkg0 := Hid.mk nkg0
                    replace lg0 := Hid.mk lg0
                    replace nnxg0 := Hid.mk nnxg0
                    replace nnug0 := Hid.mk nnug0
                    replace no3g0 := Hid.mk no3g0
                    go_wp2_with fail
                    refine (g1 _ h.out).mono ?_
                    rintro x W8 ⟨rfl, h1, hg2⟩
                    replace Xx := Hid.mk (Xx.out.kept hg2 nkx.out)
                    replace Xu := Hid.mk (Xu.out.kept hg2 nku.out)
                    replace Xg0 := Hid.mk (Xg0.out.kept hg2 nkg0.out)
                    replace O1 := Hid.mk (own_kept O1.out hg2 (own_ne O1.out h.out (by decide)))
                    replace O2 := Hid.mk (own_kept O2.out hg2 (own_ne O2.out h.out (by decide)))
                    replace O3 := Hid.mk (own_kept O3.out hg2 (own_ne O3.out h.out (by decide)))
                    replace E1 := Hid.mk (E1.out.imp fun _ _ q => q.step hg2 (nes_box h.out (by decide) (by decide) (by decide) (by decide)))
                    replace E2 := Hid.mk (E2.out.imp fun _ _ q => q.step hg2 (nes_box h.out (by decide) (by decide) (by decide) (by decide)))
                    replace E3 := Hid.mk (E3.out.imp fun _ _ q => q.step hg2 (nes_box h.out (by decide) (by decide) (by decide) (by decide)))
                    replace hg := Hid.mk (hg.out.trans hg2)
                    replace h := Hid.mk h1
                    clear hg2 h1 g1
                    have ⟨zg0, pg0, fg0⟩ := Xg0.out.at
                    go_wp2_with fail
                    clear zg0 pg0 fg0
                    replace O1 : Hid ((W8.setCell ⟨kg0, 0, none⟩ (.int .i64 y1)).ownsRow wv.heap.size 52 4 (.slice aa A.length ac) A.length ac1.flatten) := Hid.mk (own_row [.int .i64 y1] (j := 0) O1.out Xg0.out (by decide))
                    replace O2 : Hid ((W8.setCell ⟨kg0, 0, none⟩ (.int .i64 y1)).ownsRow wv.heap.size 57 2 (.slice ba B.length bc) B.length bc1.flatten) := Hid.mk (own_row [.int .i64 y1] (j := 0) O2.out Xg0.out (by decide))
                    replace O3 : Hid ((W8.setCell ⟨kg0, 0, none⟩ (.int .i64 y1)).ownsRow wv.heap.size 61 4 (.slice ga C.length gc) C.length cc1.flatten) := Hid.mk (own_kept O3.out (grown_set W8 kg0 0 (.int .i64 y1)) no3g0.out)
                    replace Xx : Hid (Box (W8.setCell ⟨kg0, 0, none⟩ (.int .i64 y1)) w.heap.size #[.slice none 0 0, .slice none 0 0, .slice none 0 0, .int .i64 0] 27) := Hid.mk (Box.setRow_other (cs := [.int .i64 y1]) (j := 0) Xx.out nnxg0.out.symm)
                    replace Xu : Hid (Box (W8.setCell ⟨kg0, 0, none⟩ (.int .i64 y1)) wv.heap.size #[.slice aa A.length ac, .slice ba B.length bc, .slice ga C.length gc, .int .i64 y0] 27) := Hid.mk (Box.setRow_other (cs := [.int .i64 y1]) (j := 0) Xu.out nnug0.out.symm)
                    replace E1 := Hid.mk (E1.out.imp fun _ _ q => q.step (grown_set W8 kg0 0 (.int .i64 y1)) (nes_box Xg0.out (by decide) (by decide) (by decide) (by decide)))
                    replace E2 := Hid.mk (E2.out.imp fun _ _ q => q.step (grown_set W8 kg0 0 (.int .i64 y1)) (nes_box Xg0.out (by decide) (by decide) (by decide) (by decide)))
                    replace E3 := Hid.mk (E3.out.imp fun _ _ q => q.step (grown_set W8 kg0 0 (.int .i64 y1)) (nes_box Xg0.out (by decide) (by decide) (by decide) (by decide)))
                    replace Xg0 : Hid (Box (W8.setCell ⟨kg0, 0, none⟩ (.int .i64 y1)) kg0 #[.int .i64 y1, .int .i64 0, .slice none 0 0, .slice none 0 0] 61) := Hid.mk (by have q := Xg0.out.set 0 (.int .i64 y1); simpa using q)
                    replace h : Hid (DIn (W8.setCell ⟨kg0, 0, none⟩ (.int .i64 y1)) kr S τ1) := Hid.mk (Box.setRow_other (cs := [.int .i64 y1]) (j := 0) h.out nkg0.out)
                    replace hg : Hid (wv.grownBy (W8.setCell ⟨kg0, 0, none⟩ (.int .i64 y1)) (some kr)) := Hid.mk (grown_row [.int .i64 y1] (j := 0) hg.out lg0.out)
                    generalize (W8.setCell ⟨kg0, 0, none⟩ (.int .i64 y1)) = W9 at *
                    refine (g2 _ h.out).mono ?_
                    rintro x W10 ⟨rfl, h1, hg2⟩
                    replace Xx := Hid.mk (Xx.out.kept hg2 nkx.out)
                    replace Xu := Hid.mk (Xu.out.kept hg2 nku.out)
                    replace Xg0 := Hid.mk (Xg0.out.kept hg2 nkg0.out)
                    replace O1 := Hid.mk (own_kept O1.out hg2 (own_ne O1.out h.out (by decide)))
                    replace O2 := Hid.mk (own_kept O2.out hg2 (own_ne O2.out h.out (by decide)))
                    replace O3 := Hid.mk (own_kept O3.out hg2 (own_ne O3.out h.out (by decide)))
                    replace E1 := Hid.mk (E1.out.imp fun _ _ q => q.step hg2 (nes_box h.out (by decide) (by decide) (by decide) (by decide)))
                    replace E2 := Hid.mk (E2.out.imp fun _ _ q => q.step hg2 (nes_box h.out (by decide) (by decide) (by decide) (by decide)))
                    replace E3 := Hid.mk (E3.out.imp fun _ _ q => q.step hg2 (nes_box h.out (by decide) (by decide) (by decide) (by decide)))
                    replace hg := Hid.mk (hg.out.trans hg2)
                    replace h := Hid.mk h1
                    clear hg2 h1 g2
                    have ⟨zg0, pg0, fg0⟩ := Xg0.out.at
                    go_wp2_with fail
                    clear zg0 pg0 fg0
                    replace O1 : Hid ((W10.setCell ⟨kg0, 1, none⟩ (.int .i64 y2)).ownsRow wv.heap.size 52 4 (.slice aa A.length ac) A.length ac1.flatten) := Hid.mk (own_row [.int .i64 y2] (j := 1) O1.out Xg0.out (by decide))
                    replace O2 : Hid ((W10.setCell ⟨kg0, 1, none⟩ (.int .i64 y2)).ownsRow wv.heap.size 57 2 (.slice ba B.length bc) B.length bc1.flatten) := Hid.mk (own_row [.int .i64 y2] (j := 1) O2.out Xg0.out (by decide))
                    replace O3 : Hid ((W10.setCell ⟨kg0, 1, none⟩ (.int .i64 y2)).ownsRow wv.heap.size 61 4 (.slice ga C.length gc) C.length cc1.flatten) := Hid.mk (own_kept O3.out (grown_set W10 kg0 1 (.int .i64 y2)) no3g0.out)
                    replace Xx : Hid (Box (W10.setCell ⟨kg0, 1, none⟩ (.int .i64 y2)) w.heap.size #[.slice none 0 0, .slice none 0 0, .slice none 0 0, .int .i64 0] 27) := Hid.mk (Box.setRow_other (cs := [.int .i64 y2]) (j := 1) Xx.out nnxg0.out.symm)
                    replace Xu : Hid (Box (W10.setCell ⟨kg0, 1, none⟩ (.int .i64 y2)) wv.heap.size #[.slice aa A.length ac, .slice ba B.length bc, .slice ga C.length gc, .int .i64 y0] 27) := Hid.mk (Box.setRow_other (cs := [.int .i64 y2]) (j := 1) Xu.out nnug0.out.symm)
                    replace E1 := Hid.mk (E1.out.imp fun _ _ q => q.step (grown_set W10 kg0 1 (.int .i64 y2)) (nes_box Xg0.out (by decide) (by decide) (by decide) (by decide)))
                    replace E2 := Hid.mk (E2.out.imp fun _ _ q => q.step (grown_set W10 kg0 1 (.int .i64 y2)) (nes_box Xg0.out (by decide) (by decide) (by decide) (by decide)))
                    replace E3 := Hid.mk (E3.out.imp fun _ _ q => q.step (grown_set W10 kg0 1 (.int .i64 y2)) (nes_box Xg0.out (by decide) (by decide) (by decide) (by decide)))
                    replace Xg0 : Hid (Box (W10.setCell ⟨kg0, 1, none⟩ (.int .i64 y2)) kg0 #[.int .i64 y1, .int .i64 y2, .slice none 0 0, .slice none 0 0] 61) := Hid.mk (by have q := Xg0.out.set 1 (.int .i64 y2); simpa using q)
                    replace h : Hid (DIn (W10.setCell ⟨kg0, 1, none⟩ (.int .i64 y2)) kr S τ2) := Hid.mk (Box.setRow_other (cs := [.int .i64 y2]) (j := 1) h.out nkg0.out)
                    replace hg : Hid (wv.grownBy (W10.setCell ⟨kg0, 1, none⟩ (.int .i64 y2)) (some kr)) := Hid.mk (grown_row [.int .i64 y2] (j := 1) hg.out lg0.out)
                    generalize (W10.setCell ⟨kg0, 1, none⟩ (.int .i64 y2)) = W11 at *
                    refine (g3 _ h.out).mono ?_
                    rintro z W12 ⟨v, Xl, rfl, hO, h1, hg2, hx1⟩
                    obtain ⟨xva, xvc, rfl⟩ := own_slice hO
                    have hsw := hg.out.size
                    replace Xx := Hid.mk (Xx.out.kept hg2 nkx.out)
                    replace Xu := Hid.mk (Xu.out.kept hg2 nku.out)
                    replace Xg0 := Hid.mk (Xg0.out.kept hg2 nkg0.out)
                    replace O1 := Hid.mk (own_kept O1.out hg2 (own_ne O1.out h.out (by decide)))
                    replace O2 := Hid.mk (own_kept O2.out hg2 (own_ne O2.out h.out (by decide)))
                    replace O3 := Hid.mk (own_kept O3.out hg2 (own_ne O3.out h.out (by decide)))
                    replace E1 := Hid.mk (E1.out.imp fun _ _ q => q.step hg2 (nes_box h.out (by decide) (by decide) (by decide) (by decide)))
                    replace E2 := Hid.mk (E2.out.imp fun _ _ q => q.step hg2 (nes_box h.out (by decide) (by decide) (by decide) (by decide)))
                    replace E3 := Hid.mk (E3.out.imp fun _ _ q => q.step hg2 (nes_box h.out (by decide) (by decide) (by decide) (by decide)))
                    have Op := Hid.mk (own_base hO hsw)
                    replace hg := Hid.mk (hg.out.trans hg2)
                    replace h := Hid.mk h1
                    clear hg2 h1 g3 hO hsw
                    replace hx1 := Hid.mk hx1
                    have ⟨zg0, pg0, fg0⟩ := Xg0.out.at
                    go_wp2_with fail
                    clear zg0 pg0 fg0
                    replace O1 : Hid ((W12.setCell ⟨kg0, 2, none⟩ (.slice xva Xl.length xvc)).ownsRow wv.heap.size 52 4 (.slice aa A.length ac) A.length ac1.flatten) := Hid.mk (own_row [.slice xva Xl.length xvc] (j := 2) O1.out Xg0.out (by decide))
                    replace O2 : Hid ((W12.setCell ⟨kg0, 2, none⟩ (.slice xva Xl.length xvc)).ownsRow wv.heap.size 57 2 (.slice ba B.length bc) B.length bc1.flatten) := Hid.mk (own_row [.slice xva Xl.length xvc] (j := 2) O2.out Xg0.out (by decide))
                    replace O3 : Hid ((W12.setCell ⟨kg0, 2, none⟩ (.slice xva Xl.length xvc)).ownsRow wv.heap.size 61 4 (.slice ga C.length gc) C.length cc1.flatten) := Hid.mk (own_kept O3.out (grown_set W12 kg0 2 (.slice xva Xl.length xvc)) no3g0.out)
                    replace Op : Hid ((W12.setCell ⟨kg0, 2, none⟩ (.slice xva Xl.length xvc)).ownsRow wv.heap.size 88 7 (.slice xva Xl.length xvc) Xl.length (Xl.flatMap PTyp.vals)) := Hid.mk (own_row [.slice xva Xl.length xvc] (j := 2) Op.out Xg0.out (by decide))
                    replace Xx : Hid (Box (W12.setCell ⟨kg0, 2, none⟩ (.slice xva Xl.length xvc)) w.heap.size #[.slice none 0 0, .slice none 0 0, .slice none 0 0, .int .i64 0] 27) := Hid.mk (Box.setRow_other (cs := [.slice xva Xl.length xvc]) (j := 2) Xx.out nnxg0.out.symm)
                    replace Xu : Hid (Box (W12.setCell ⟨kg0, 2, none⟩ (.slice xva Xl.length xvc)) wv.heap.size #[.slice aa A.length ac, .slice ba B.length bc, .slice ga C.length gc, .int .i64 y0] 27) := Hid.mk (Box.setRow_other (cs := [.slice xva Xl.length xvc]) (j := 2) Xu.out nnug0.out.symm)
                    replace E1 := Hid.mk (E1.out.imp fun _ _ q => q.step (grown_set W12 kg0 2 (.slice xva Xl.length xvc)) (nes_box Xg0.out (by decide) (by decide) (by decide) (by decide)))
                    replace E2 := Hid.mk (E2.out.imp fun _ _ q => q.step (grown_set W12 kg0 2 (.slice xva Xl.length xvc)) (nes_box Xg0.out (by decide) (by decide) (by decide) (by decide)))
                    replace E3 := Hid.mk (E3.out.imp fun _ _ q => q.step (grown_set W12 kg0 2 (.slice xva Xl.length xvc)) (nes_box Xg0.out (by decide) (by decide) (by decide) (by decide)))
                    replace Xg0 : Hid (Box (W12.setCell ⟨kg0, 2, none⟩ (.slice xva Xl.length xvc)) kg0 #[.int .i64 y1, .int .i64 y2, .slice xva Xl.length xvc, .slice none 0 0] 61) := Hid.mk (by have q := Xg0.out.set 2 (.slice xva Xl.length xvc); simpa using q)
                    replace h : Hid (DIn (W12.setCell ⟨kg0, 2, none⟩ (.slice xva Xl.length xvc)) kr S τ3) := Hid.mk (Box.setRow_other (cs := [.slice xva Xl.length xvc]) (j := 2) h.out nkg0.out)
                    replace hg : Hid (wv.grownBy (W12.setCell ⟨kg0, 2, none⟩ (.slice xva Xl.length xvc)) (some kr)) := Hid.mk (grown_row [.slice xva Xl.length xvc] (j := 2) hg.out lg0.out)
                    generalize (W12.setCell ⟨kg0, 2, none⟩ (.slice xva Xl.length xvc)) = W13 at *
                    refine (g4 _ h.out).mono ?_
                    rintro z W14 ⟨v, Yl, rfl, hO, h1, hg2, hx2⟩
                    obtain ⟨yva, yvc, rfl⟩ := own_slice hO
                    have hsw := hg.out.size
                    replace Xx := Hid.mk (Xx.out.kept hg2 nkx.out)
                    replace Xu := Hid.mk (Xu.out.kept hg2 nku.out)
                    replace Xg0 := Hid.mk (Xg0.out.kept hg2 nkg0.out)
                    replace O1 := Hid.mk (own_kept O1.out hg2 (own_ne O1.out h.out (by decide)))
                    replace O2 := Hid.mk (own_kept O2.out hg2 (own_ne O2.out h.out (by decide)))
                    replace O3 := Hid.mk (own_kept O3.out hg2 (own_ne O3.out h.out (by decide)))
                    replace Op := Hid.mk (own_kept Op.out hg2 (own_ne Op.out h.out (by decide)))
                    replace E1 := Hid.mk (E1.out.imp fun _ _ q => q.step hg2 (nes_box h.out (by decide) (by decide) (by decide) (by decide)))
                    replace E2 := Hid.mk (E2.out.imp fun _ _ q => q.step hg2 (nes_box h.out (by decide) (by decide) (by decide) (by decide)))
                    replace E3 := Hid.mk (E3.out.imp fun _ _ q => q.step hg2 (nes_box h.out (by decide) (by decide) (by decide) (by decide)))
                    have Oq := Hid.mk (own_base hO hsw)
                    replace hg := Hid.mk (hg.out.trans hg2)
                    replace h := Hid.mk h1
                    clear hg2 h1 g4 hO hsw
                    replace hx2 := Hid.mk hx2
                    have ⟨zg0, pg0, fg0⟩ := Xg0.out.at
                    go_upto_region 29 with fail
                    clear zg0 pg0 fg0
                    replace O1 : Hid ((W14.setCell ⟨kg0, 3, none⟩ (.slice yva Yl.length yvc)).ownsRow wv.heap.size 52 4 (.slice aa A.length ac) A.length ac1.flatten) := Hid.mk (own_row [.slice yva Yl.length yvc] (j := 3) O1.out Xg0.out (by decide))
                    replace O2 : Hid ((W14.setCell ⟨kg0, 3, none⟩ (.slice yva Yl.length yvc)).ownsRow wv.heap.size 57 2 (.slice ba B.length bc) B.length bc1.flatten) := Hid.mk (own_row [.slice yva Yl.length yvc] (j := 3) O2.out Xg0.out (by decide))
                    replace O3 : Hid ((W14.setCell ⟨kg0, 3, none⟩ (.slice yva Yl.length yvc)).ownsRow wv.heap.size 61 4 (.slice ga C.length gc) C.length cc1.flatten) := Hid.mk (own_kept O3.out (grown_set W14 kg0 3 (.slice yva Yl.length yvc)) no3g0.out)
                    replace Op : Hid ((W14.setCell ⟨kg0, 3, none⟩ (.slice yva Yl.length yvc)).ownsRow wv.heap.size 88 7 (.slice xva Xl.length xvc) Xl.length (Xl.flatMap PTyp.vals)) := Hid.mk (own_row [.slice yva Yl.length yvc] (j := 3) Op.out Xg0.out (by decide))
                    replace Oq : Hid ((W14.setCell ⟨kg0, 3, none⟩ (.slice yva Yl.length yvc)).ownsRow wv.heap.size 88 7 (.slice yva Yl.length yvc) Yl.length (Yl.flatMap PTyp.vals)) := Hid.mk (own_row [.slice yva Yl.length yvc] (j := 3) Oq.out Xg0.out (by decide))
                    replace Xx : Hid (Box (W14.setCell ⟨kg0, 3, none⟩ (.slice yva Yl.length yvc)) w.heap.size #[.slice none 0 0, .slice none 0 0, .slice none 0 0, .int .i64 0] 27) := Hid.mk (Box.setRow_other (cs := [.slice yva Yl.length yvc]) (j := 3) Xx.out nnxg0.out.symm)
                    replace Xu : Hid (Box (W14.setCell ⟨kg0, 3, none⟩ (.slice yva Yl.length yvc)) wv.heap.size #[.slice aa A.length ac, .slice ba B.length bc, .slice ga C.length gc, .int .i64 y0] 27) := Hid.mk (Box.setRow_other (cs := [.slice yva Yl.length yvc]) (j := 3) Xu.out nnug0.out.symm)
                    replace E1 := Hid.mk (E1.out.imp fun _ _ q => q.step (grown_set W14 kg0 3 (.slice yva Yl.length yvc)) (nes_box Xg0.out (by decide) (by decide) (by decide) (by decide)))
                    replace E2 := Hid.mk (E2.out.imp fun _ _ q => q.step (grown_set W14 kg0 3 (.slice yva Yl.length yvc)) (nes_box Xg0.out (by decide) (by decide) (by decide) (by decide)))
                    replace E3 := Hid.mk (E3.out.imp fun _ _ q => q.step (grown_set W14 kg0 3 (.slice yva Yl.length yvc)) (nes_box Xg0.out (by decide) (by decide) (by decide) (by decide)))
                    replace Xg0 : Hid (Box (W14.setCell ⟨kg0, 3, none⟩ (.slice yva Yl.length yvc)) kg0 #[.int .i64 y1, .int .i64 y2, .slice xva Xl.length xvc, .slice yva Yl.length yvc] 61) := Hid.mk (by have q := Xg0.out.set 3 (.slice yva Yl.length yvc); simpa using q)
                    replace h : Hid (DIn (W14.setCell ⟨kg0, 3, none⟩ (.slice yva Yl.length yvc)) kr S τ4) := Hid.mk (Box.setRow_other (cs := [.slice yva Yl.length yvc]) (j := 3) h.out nkg0.out)
                    replace hg : Hid (wv.grownBy (W14.setCell ⟨kg0, 3, none⟩ (.slice yva Yl.length yvc)) (some kr)) := Hid.mk (grown_row [.slice yva Yl.length yvc] (j := 3) hg.out lg0.out)
                    generalize (W14.setCell ⟨kg0, 3, none⟩ (.slice yva Yl.length yvc)) = W15 at *
                    replace E3 := Hid.mk (E3.out.snoc (show GateC wv.heap.size W15 [.int .i64 y1, .int .i64 y2, .slice xva Xl.length xvc, .slice yva Yl.length yvc] ⟨y1, y2, Xl, Yl⟩ from ⟨xva, xvc, yva, yvc, rfl, Op.out, Oq.out⟩))
                    replace hF1 := Hid.mk (hF1.out Xl Yl hx1.out hx2.out)
                    clear Op Oq hx1 hx2
                    have ⟨zg0, pg0, fg0⟩ := Xg0.out.at
                    have ⟨zu, pu, fu⟩ := Xu.out.at
                    clear Xg0
                    have hA : At (W15.alloc (.cells #[.int .i64 y1, .int .i64 y2, .slice xva Xl.length xvc, .slice yva Yl.length yvc] 61)) W15.heap.size [Value.int .i64 y1, .int .i64 y2, .slice xva Xl.length xvc, .slice yva Yl.length yvc].toArray := At.new _ _ _
                    replace Xx := Hid.mk (Xx.out.alloc (.cells #[.int .i64 y1, .int .i64 y2, .slice xva Xl.length xvc, .slice yva Yl.length yvc] 61))
                    replace Xu := Hid.mk (Xu.out.alloc (.cells #[.int .i64 y1, .int .i64 y2, .slice xva Xl.length xvc, .slice yva Yl.length yvc] 61))
                    replace O1 := Hid.mk (own_below O1.out ((Gr.refl W15).alloc (.cells #[.int .i64 y1, .int .i64 y2, .slice xva Xl.length xvc, .slice yva Yl.length yvc] 61)).below)
                    replace O2 := Hid.mk (own_below O2.out ((Gr.refl W15).alloc (.cells #[.int .i64 y1, .int .i64 y2, .slice xva Xl.length xvc, .slice yva Yl.length yvc] 61)).below)
                    replace O3 := Hid.mk (own_below O3.out ((Gr.refl W15).alloc (.cells #[.int .i64 y1, .int .i64 y2, .slice xva Xl.length xvc, .slice yva Yl.length yvc] 61)).below)
                    replace E1 := Hid.mk (E1.out.imp fun _ _ q => q.step (grown_of ((Gr.refl W15).alloc (.cells #[.int .i64 y1, .int .i64 y2, .slice xva Xl.length xvc, .slice yva Yl.length yvc] 61)).below none) (nes_none _))
                    replace E2 := Hid.mk (E2.out.imp fun _ _ q => q.step (grown_of ((Gr.refl W15).alloc (.cells #[.int .i64 y1, .int .i64 y2, .slice xva Xl.length xvc, .slice yva Yl.length yvc] 61)).below none) (nes_none _))
                    replace E3 := Hid.mk (E3.out.imp fun _ _ q => q.step (grown_of ((Gr.refl W15).alloc (.cells #[.int .i64 y1, .int .i64 y2, .slice xva Xl.length xvc, .slice yva Yl.length yvc] 61)).below none) (nes_none _))
                    replace h : Hid (DIn (W15.alloc (.cells #[.int .i64 y1, .int .i64 y2, .slice xva Xl.length xvc, .slice yva Yl.length yvc] 61)) kr S τ4) := Hid.mk (h.out.alloc _)
                    replace hg := Hid.mk (hg.out.trans (grown_of ((Gr.refl W15).alloc (.cells #[.int .i64 y1, .int .i64 y2, .slice xva Xl.length xvc, .slice yva Yl.length yvc] 61)).below (some kr)))
                    have hs := Hid.mk hg.out.size
                    replace hA := Hid.mk hA
                    go_wp2_with (at_builtin; refine wpList_append_el rfl (.tmp 106) (.tmp 108) 25 61 _ 4 64 rfl Tryd.underlying25 infoGate rfl (by decide) (by decide) wv.heap.size (.slice ga C.length gc) C.length cc1.flatten [Value.int .i64 y1, .int .i64 y2, .slice xva Xl.length xvc, .slice yva Yl.length yvc] rfl O3.out W15.heap.size rfl hA.out rfl (by simp [Value.oneCell']) (by have := hL.out; omega) hs.out ?_)
                    intro g c w5 hrow hgr
                    replace Xx := Hid.mk (Box.keptRow Xx.out hgr (own_ne O3.out Xx.out (by decide)))
                    replace Xu := Hid.mk (Box.keptRow Xu.out hgr (own_ne O3.out Xu.out (by decide)))
                    replace O1 := Hid.mk (own_ty O1.out hgr (tyNe_own O3.out (by decide)))
                    replace O2 := Hid.mk (own_ty O2.out hgr (tyNe_own O3.out (by decide)))
                    replace E1 := Hid.mk (E1.out.imp fun _ _ q => q.step hgr (nes_own O3.out (by decide) (by decide) (by decide) (by decide)))
                    replace E2 := Hid.mk (E2.out.imp fun _ _ q => q.step hgr (nes_own O3.out (by decide) (by decide) (by decide) (by decide)))
                    replace E3 := Hid.mk (E3.out.imp fun _ _ q => q.step hgr (nes_own O3.out (by decide) (by decide) (by decide) (by decide)))
                    replace h : Hid (DIn w5 kr S τ4) := Hid.mk (Box.keptRow h.out hgr (own_ne O3.out h.out (by decide)))
                    replace hg := Hid.mk (hg.out.andThen hgr (fun i hq => .inl (own_block O3.out i hq).1))
                    replace O3 := Hid.mk hrow
                    clear hgr hA hs hrow
                    clear zu pu fu
                    have ⟨zu, pu, fu⟩ := Xu.out.at
                    replace O1 : Hid ((w5.setCell ⟨wv.heap.size, 2, none⟩ (.slice (some ⟨g, 0, none⟩) (C.length + 1) c)).ownsRow wv.heap.size 52 4 (.slice aa A.length ac) A.length ac1.flatten) := Hid.mk (own_row [.slice (some ⟨g, 0, none⟩) (C.length + 1) c] (j := 2) O1.out Xu.out (by decide))
                    replace O2 : Hid ((w5.setCell ⟨wv.heap.size, 2, none⟩ (.slice (some ⟨g, 0, none⟩) (C.length + 1) c)).ownsRow wv.heap.size 57 2 (.slice ba B.length bc) B.length bc1.flatten) := Hid.mk (own_row [.slice (some ⟨g, 0, none⟩) (C.length + 1) c] (j := 2) O2.out Xu.out (by decide))
                    replace O3 : Hid ((w5.setCell ⟨wv.heap.size, 2, none⟩ (.slice (some ⟨g, 0, none⟩) (C.length + 1) c)).ownsRow wv.heap.size 61 4 (.slice (some ⟨g, 0, none⟩) (C.length + 1) c) (C.length + 1) (cc1.flatten ++ [Value.int .i64 y1, .int .i64 y2, .slice xva Xl.length xvc, .slice yva Yl.length yvc])) := Hid.mk (own_row [.slice (some ⟨g, 0, none⟩) (C.length + 1) c] (j := 2) O3.out Xu.out (by decide))
                    replace Xx : Hid (Box (w5.setCell ⟨wv.heap.size, 2, none⟩ (.slice (some ⟨g, 0, none⟩) (C.length + 1) c)) w.heap.size #[.slice none 0 0, .slice none 0 0, .slice none 0 0, .int .i64 0] 27) := Hid.mk (Box.setRow_other (cs := [.slice (some ⟨g, 0, none⟩) (C.length + 1) c]) (j := 2) Xx.out nnxu.out.symm)
                    replace E1 := Hid.mk (E1.out.imp fun _ _ q => q.step (grown_set w5 wv.heap.size 2 (.slice (some ⟨g, 0, none⟩) (C.length + 1) c)) (nes_box Xu.out (by decide) (by decide) (by decide) (by decide)))
                    replace E2 := Hid.mk (E2.out.imp fun _ _ q => q.step (grown_set w5 wv.heap.size 2 (.slice (some ⟨g, 0, none⟩) (C.length + 1) c)) (nes_box Xu.out (by decide) (by decide) (by decide) (by decide)))
                    replace E3 := Hid.mk (E3.out.imp fun _ _ q => q.step (grown_set w5 wv.heap.size 2 (.slice (some ⟨g, 0, none⟩) (C.length + 1) c)) (nes_box Xu.out (by decide) (by decide) (by decide) (by decide)))
                    replace Xu : Hid (Box (w5.setCell ⟨wv.heap.size, 2, none⟩ (.slice (some ⟨g, 0, none⟩) (C.length + 1) c)) wv.heap.size #[.slice aa A.length ac, .slice ba B.length bc, .slice (some ⟨g, 0, none⟩) (C.length + 1) c, .int .i64 y0] 27) := Hid.mk (by have q := Xu.out.set 2 (.slice (some ⟨g, 0, none⟩) (C.length + 1) c); simpa using q)
                    replace h : Hid (DIn (w5.setCell ⟨wv.heap.size, 2, none⟩ (.slice (some ⟨g, 0, none⟩) (C.length + 1) c)) kr S τ4) := Hid.mk (Box.setRow_other (cs := [.slice (some ⟨g, 0, none⟩) (C.length + 1) c]) (j := 2) h.out nku.out)
                    replace hg : Hid (wv.grownBy (w5.setCell ⟨wv.heap.size, 2, none⟩ (.slice (some ⟨g, 0, none⟩) (C.length + 1) c)) (some kr)) := Hid.mk (grown_row [.slice (some ⟨g, 0, none⟩) (C.length + 1) c] (j := 2) hg.out lu.out)
                    go_wp2_with fail
                    go_roundw
                    case rel => exact ⟨j + 1, cc1 ++ [[.int .i64 y1, .int .i64 y2, .slice xva Xl.length xvc, .slice yva Yl.length yvc]], C ++ [⟨y1, y2, Xl, Yl⟩], τ4, some ⟨g, 0, none⟩, c, by simp, by omega, ⟨Xx.out, by rw [List.length_append]; exact Xu.out, O1.out, E1.out, O2.out, E2.out, by rw [List.length_append, flat_snoc2]; exact O3.out, E3.out, by rw [List.length_append, hL.out]; rfl, h.out, hin1, hg.out, hF1.out⟩⟩
                    case measure => simp [intOf]; omega
                  | false =>
                    obtain ⟨hlk, r3⟩ := hF.out.done (hb2.out rfl)
                    replace r3 := Hid.mk r3
                    clear hb1 hb2 hF hL hj
                    have ⟨zh, ph, fh⟩ := h.out.at
                    by_cases he : τ.e = 0
                    case neg =>
                      have hb : R3.2.e ≠ 0 := fun z => he (hlk.e.trans z)
                      have hv : decI S = (zImg, τ.e, τ.p) := by rw [hdec.out, rest_bad hb, if_neg hb, hlk.e, hlk.p]
                      have he2 : (τ.e == 0) = false := by simpa using he
                      have he3 : (τ.e != 0) = true := by simpa using he
                      have cf := fun W h1 => dno_any S kr τ 49 τ.i W h1
                      rw [failS_bad 49 τ.i he] at cf
                      replace he := Hid.mk he
                      replace hv := Hid.mk hv
                      replace hlk := Hid.mk hlk
                      clear hb
                      by_cases hlt : (τ.i : Int) < S.length
                      · go_wp2_with fail
                        clear zh ph fh
                        refine (cf _ h.out).mono ?_
                        rintro x W7 ⟨rfl, h1, hg2⟩
                        replace Xx := Hid.mk (Xx.out.kept hg2 nkx.out)
                        replace Xu := Hid.mk (Xu.out.kept hg2 nku.out)
                        replace O1 := Hid.mk (own_kept O1.out hg2 (own_ne O1.out h.out (by decide)))
                        replace O2 := Hid.mk (own_kept O2.out hg2 (own_ne O2.out h.out (by decide)))
                        replace O3 := Hid.mk (own_kept O3.out hg2 (own_ne O3.out h.out (by decide)))
                        replace E1 := Hid.mk (E1.out.imp fun _ _ q => q.step hg2 (nes_box h.out (by decide) (by decide) (by decide) (by decide)))
                        replace E2 := Hid.mk (E2.out.imp fun _ _ q => q.step hg2 (nes_box h.out (by decide) (by decide) (by decide) (by decide)))
                        replace E3 := Hid.mk (E3.out.imp fun _ _ q => q.step hg2 (nes_box h.out (by decide) (by decide) (by decide) (by decide)))
                        replace hg := Hid.mk (hg.out.trans hg2)
                        replace h := Hid.mk h1
                        clear hg2 h1 cf
                        have ⟨zh, ph, fh⟩ := h.out.at
                        go_upto_region 35 with fail
                        clear zh ph fh
                        have hBe := Hid.mk (hBw.out.trans (Below.of_grown hg.out hsz.out (fun g e => by cases e; exact hkr.out)))
                        have ⟨zh, ph, fh⟩ := h.out.at
                        have ⟨zx, px, fx⟩ := Xx.out.at
                        have nx1 := nkx.out
                        have nx2 := Ne.symm nkx.out
                        go_region
                        go_wp2_with fail
                        have b4 : Box ((((W7.setCell ⟨w.heap.size, 0, none⟩ (.slice none 0 0)).setCell ⟨w.heap.size, 1, none⟩ (.slice none 0 0)).setCell ⟨w.heap.size, 2, none⟩ (.slice none 0 0)).setCell ⟨w.heap.size, 3, none⟩ (.int .i64 0)) w.heap.size #[.slice none 0 0, .slice none 0 0, .slice none 0 0, .int .i64 0] 27 := Box.setRow Xx.out [.slice none 0 0, .slice none 0 0, .slice none 0 0, .int .i64 0] rfl
                        have hB4 : Below w.heap.size w ((((W7.setCell ⟨w.heap.size, 0, none⟩ (.slice none 0 0)).setCell ⟨w.heap.size, 1, none⟩ (.slice none 0 0)).setCell ⟨w.heap.size, 2, none⟩ (.slice none 0 0)).setCell ⟨w.heap.size, 3, none⟩ (.int .i64 0)) := ((((hBe.out.setCell (p := ⟨w.heap.size, 0, none⟩) (Nat.le_refl _) (.slice none 0 0)).setCell (p := ⟨w.heap.size, 1, none⟩) (Nat.le_refl _) (.slice none 0 0)).setCell (p := ⟨w.heap.size, 2, none⟩) (Nat.le_refl _) (.slice none 0 0)).setCell (p := ⟨w.heap.size, 3, none⟩) (Nat.le_refl _) (.int .i64 0))
                        have ⟨_, q4, _⟩ := b4.at
                        clear b4
                        generalize ((((W7.setCell ⟨w.heap.size, 0, none⟩ (.slice none 0 0)).setCell ⟨w.heap.size, 1, none⟩ (.slice none 0 0)).setCell ⟨w.heap.size, 2, none⟩ (.slice none 0 0)).setCell ⟨w.heap.size, 3, none⟩ (.int .i64 0)) = W4 at *
                        simp [bodyPost, results, Tryd.results6, go_sem, q4]
                        rw [hv.out]
                        exact ⟨none, 0, none, 0, none, 0, rfl, zOwn _ _, Below.drew hB4⟩
                      · clear cf
                        go_upto_region 35 with fail
                        clear zh ph fh
                        have hBe := Hid.mk (hBw.out.trans (Below.of_grown hg.out hsz.out (fun g e => by cases e; exact hkr.out)))
                        have ⟨zh, ph, fh⟩ := h.out.at
                        have ⟨zx, px, fx⟩ := Xx.out.at
                        have nx1 := nkx.out
                        have nx2 := Ne.symm nkx.out
                        go_region
                        go_wp2_with fail
                        have b4 : Box ((((wr.setCell ⟨w.heap.size, 0, none⟩ (.slice none 0 0)).setCell ⟨w.heap.size, 1, none⟩ (.slice none 0 0)).setCell ⟨w.heap.size, 2, none⟩ (.slice none 0 0)).setCell ⟨w.heap.size, 3, none⟩ (.int .i64 0)) w.heap.size #[.slice none 0 0, .slice none 0 0, .slice none 0 0, .int .i64 0] 27 := Box.setRow Xx.out [.slice none 0 0, .slice none 0 0, .slice none 0 0, .int .i64 0] rfl
                        have hB4 : Below w.heap.size w ((((wr.setCell ⟨w.heap.size, 0, none⟩ (.slice none 0 0)).setCell ⟨w.heap.size, 1, none⟩ (.slice none 0 0)).setCell ⟨w.heap.size, 2, none⟩ (.slice none 0 0)).setCell ⟨w.heap.size, 3, none⟩ (.int .i64 0)) := ((((hBe.out.setCell (p := ⟨w.heap.size, 0, none⟩) (Nat.le_refl _) (.slice none 0 0)).setCell (p := ⟨w.heap.size, 1, none⟩) (Nat.le_refl _) (.slice none 0 0)).setCell (p := ⟨w.heap.size, 2, none⟩) (Nat.le_refl _) (.slice none 0 0)).setCell (p := ⟨w.heap.size, 3, none⟩) (Nat.le_refl _) (.int .i64 0))
                        have ⟨_, q4, _⟩ := b4.at
                        clear b4
                        generalize ((((wr.setCell ⟨w.heap.size, 0, none⟩ (.slice none 0 0)).setCell ⟨w.heap.size, 1, none⟩ (.slice none 0 0)).setCell ⟨w.heap.size, 2, none⟩ (.slice none 0 0)).setCell ⟨w.heap.size, 3, none⟩ (.int .i64 0)) = W4 at *
                        simp [bodyPost, results, Tryd.results6, go_sem, q4]
                        rw [hv.out]
                        exact ⟨none, 0, none, 0, none, 0, rfl, zOwn _ _, Below.drew hB4⟩
                    have hb : R3.2.e = 0 := hlk.e.symm.trans he
                    obtain rfl := hlk.eq hb
                    have hp0 := hpz.out hb
                    obtain ⟨e2, e1⟩ := hg0.out hb
                    have a1 := r1.out e1
                    have a2 := r2.out e2
                    have a3 := r3.out hb
                    clear hlk
                    have cf := fun W h1 => dno_any S kr R3.2 49 R3.2.i W h1
                    rw [failS_ok 49 R3.2.i hb] at cf
                    by_cases hlt : (R3.2.i : Int) < S.length
                    case pos =>
                      have hv : decI S = (zImg, 49, (R3.2.i : Int)) := by
                        have hr : restS S R3.2 = ⟨R3.2.i, 49, R3.2.i⟩ := by unfold restS; rw [if_pos (by omega), failS_ok _ _ hb]
                        rw [hdec.out, hr]
                        rfl
                      replace hv := Hid.mk hv
                      replace hb := Hid.mk hb
                      replace he := Hid.mk he
                      clear hp0 a1 a2 a3 e1 e2
                      go_wp2_with fail
                      clear zh ph fh
                      refine (cf _ h.out).mono ?_
                      rintro x W7 ⟨rfl, h1, hg2⟩
                      replace Xx := Hid.mk (Xx.out.kept hg2 nkx.out)
                      replace Xu := Hid.mk (Xu.out.kept hg2 nku.out)
                      replace O1 := Hid.mk (own_kept O1.out hg2 (own_ne O1.out h.out (by decide)))
                      replace O2 := Hid.mk (own_kept O2.out hg2 (own_ne O2.out h.out (by decide)))
                      replace O3 := Hid.mk (own_kept O3.out hg2 (own_ne O3.out h.out (by decide)))
                      replace E1 := Hid.mk (E1.out.imp fun _ _ q => q.step hg2 (nes_box h.out (by decide) (by decide) (by decide) (by decide)))
                      replace E2 := Hid.mk (E2.out.imp fun _ _ q => q.step hg2 (nes_box h.out (by decide) (by decide) (by decide) (by decide)))
                      replace E3 := Hid.mk (E3.out.imp fun _ _ q => q.step hg2 (nes_box h.out (by decide) (by decide) (by decide) (by decide)))
                      replace hg := Hid.mk (hg.out.trans hg2)
                      replace h := Hid.mk h1
                      clear hg2 h1 cf
                      have ⟨zh, ph, fh⟩ := h.out.at
                      go_upto_region 35 with fail
                      clear zh ph fh
                      have hBe := Hid.mk (hBw.out.trans (Below.of_grown hg.out hsz.out (fun g e => by cases e; exact hkr.out)))
                      have ⟨zh, ph, fh⟩ := h.out.at
                      have ⟨zx, px, fx⟩ := Xx.out.at
                      have nx1 := nkx.out
                      have nx2 := Ne.symm nkx.out
                      go_region
                      go_wp2_with fail
                      have b4 : Box ((((W7.setCell ⟨w.heap.size, 0, none⟩ (.slice none 0 0)).setCell ⟨w.heap.size, 1, none⟩ (.slice none 0 0)).setCell ⟨w.heap.size, 2, none⟩ (.slice none 0 0)).setCell ⟨w.heap.size, 3, none⟩ (.int .i64 0)) w.heap.size #[.slice none 0 0, .slice none 0 0, .slice none 0 0, .int .i64 0] 27 := Box.setRow Xx.out [.slice none 0 0, .slice none 0 0, .slice none 0 0, .int .i64 0] rfl
                      have hB4 : Below w.heap.size w ((((W7.setCell ⟨w.heap.size, 0, none⟩ (.slice none 0 0)).setCell ⟨w.heap.size, 1, none⟩ (.slice none 0 0)).setCell ⟨w.heap.size, 2, none⟩ (.slice none 0 0)).setCell ⟨w.heap.size, 3, none⟩ (.int .i64 0)) := ((((hBe.out.setCell (p := ⟨w.heap.size, 0, none⟩) (Nat.le_refl _) (.slice none 0 0)).setCell (p := ⟨w.heap.size, 1, none⟩) (Nat.le_refl _) (.slice none 0 0)).setCell (p := ⟨w.heap.size, 2, none⟩) (Nat.le_refl _) (.slice none 0 0)).setCell (p := ⟨w.heap.size, 3, none⟩) (Nat.le_refl _) (.int .i64 0))
                      have ⟨_, q4, _⟩ := b4.at
                      clear b4
                      generalize ((((W7.setCell ⟨w.heap.size, 0, none⟩ (.slice none 0 0)).setCell ⟨w.heap.size, 1, none⟩ (.slice none 0 0)).setCell ⟨w.heap.size, 2, none⟩ (.slice none 0 0)).setCell ⟨w.heap.size, 3, none⟩ (.int .i64 0)) = W4 at *
                      simp [bodyPost, results, Tryd.results6, go_sem, q4]
                      rw [hv.out]
                      exact ⟨none, 0, none, 0, none, 0, rfl, zOwn _ _, Below.drew hB4⟩
                    have hr : restS S R3.2 = R3.2 := by unfold restS; rw [if_neg (by omega)]
                    have hv := hdec.out
                    rw [hr, if_pos hb] at hv
                    subst a1
                    subst a2
                    subst a3
                    clear hr cf e1 e2
                    have hO : ImgOwn wv.heap.size wr (.slice aa R1.1.length ac) (.slice ba R2.1.length bc) (.slice ga R3.1.length gc) ⟨R1.1, R2.1, R3.1, y0⟩ := ⟨⟨_, O1.out, E1.out⟩, ⟨_, O2.out, E2.out⟩, ⟨_, O3.out, E3.out⟩⟩
                    have cR := Q.refRight_any ⟨R1.1, R2.1, R3.1, y0⟩ aa ba ga ac bc gc wr hO.into hrng.out
                    simp only at cR
                    generalize (PImg.mk R1.1 R2.1 R3.1 y0).right = rt at *
                    have hbz : (R3.2.e == 0) = true := by simpa using hb
                    replace hO := Hid.mk hO
                    replace hv := Hid.mk hv
                    replace hb := Hid.mk hb
                    replace he := Hid.mk he
                    replace hp0 := Hid.mk hp0
                    clear O1 O2 O3 E1 E2 E3
                    have ⟨zu, pu, fu⟩ := Xu.out.at
                    go_wp2_with fail
                    clear zu pu fu zh ph fh
                    refine cR.mono ?_
                    rintro z W7 ⟨rfl, hG2⟩
                    replace Xx := Hid.mk (Xx.out.gr hG2)
                    replace Xu := Hid.mk (Xu.out.gr hG2)
                    replace h : Hid (DIn W7 kr S R3.2) := Hid.mk (Box.gr h.out hG2)
                    replace hO := Hid.mk (hO.out.step (grown_of hG2.below none) (ne7_none _))
                    replace hg := Hid.mk (hg.out.trans (grown_of hG2.below (some kr)))
                    clear hG2 cR
                    have ⟨zh, ph, fh⟩ := h.out.at
                    go_upto_region 34 with fail
                    clear zh ph fh
                    have nux := nkx.out
                    have nuu := nku.out
                    replace Xx : Hid (Box (W7.setCell ⟨kr, 2, none⟩ (.int .i64 rt)) w.heap.size #[.slice none 0 0, .slice none 0 0, .slice none 0 0, .int .i64 0] 27) := Hid.mk (Box.setRow_other (cs := [.int .i64 rt]) (j := 2) Xx.out (Ne.symm nux))
                    replace Xu : Hid (Box (W7.setCell ⟨kr, 2, none⟩ (.int .i64 rt)) wv.heap.size #[.slice aa R1.1.length ac, .slice ba R2.1.length bc, .slice ga R3.1.length gc, .int .i64 y0] 27) := Hid.mk (Box.setRow_other (cs := [.int .i64 rt]) (j := 2) Xu.out (Ne.symm nuu))
                    replace hO := Hid.mk (hO.out.step (grown_set W7 kr 2 (.int .i64 rt)) (ne7_box h.out (by decide)))
                    replace hg : Hid (wv.grownBy (W7.setCell ⟨kr, 2, none⟩ (.int .i64 rt)) (some kr)) := Hid.mk (hg.out.trans (grown_set W7 kr 2 (.int .i64 rt)))
                    replace h : Hid (DIn (W7.setCell ⟨kr, 2, none⟩ (.int .i64 rt)) kr S ⟨R3.2.i, rt, R3.2.p⟩) := Hid.mk (by have q := h.out.set 2 (.int .i64 rt); unfold DIn; simpa using q)
                    clear nux nuu
                    generalize (W7.setCell ⟨kr, 2, none⟩ (.int .i64 rt)) = W8 at *
                    by_cases hrt : rt = 0
                    case neg =>
                      have hv2 := hv.out
                      rw [if_neg hrt, ← hp0.out] at hv2
                      replace hv2 := Hid.mk hv2
                      have hr2 : (rt != 0) = true := by simpa using hrt
                      replace hrt := Hid.mk hrt
                      have ⟨zh, ph, fh⟩ := h.out.at
                      go_upto_region 35 with fail
                      clear zh ph fh
                      have hBe := Hid.mk (hBw.out.trans (Below.of_grown hg.out hsz.out (fun g e => by cases e; exact hkr.out)))
                      have ⟨zh, ph, fh⟩ := h.out.at
                      have ⟨zx, px, fx⟩ := Xx.out.at
                      have nx1 := nkx.out
                      have nx2 := Ne.symm nkx.out
                      go_region
                      go_wp2_with fail
                      have b4 : Box ((((W8.setCell ⟨w.heap.size, 0, none⟩ (.slice none 0 0)).setCell ⟨w.heap.size, 1, none⟩ (.slice none 0 0)).setCell ⟨w.heap.size, 2, none⟩ (.slice none 0 0)).setCell ⟨w.heap.size, 3, none⟩ (.int .i64 0)) w.heap.size #[.slice none 0 0, .slice none 0 0, .slice none 0 0, .int .i64 0] 27 := Box.setRow Xx.out [.slice none 0 0, .slice none 0 0, .slice none 0 0, .int .i64 0] rfl
                      have hB4 : Below w.heap.size w ((((W8.setCell ⟨w.heap.size, 0, none⟩ (.slice none 0 0)).setCell ⟨w.heap.size, 1, none⟩ (.slice none 0 0)).setCell ⟨w.heap.size, 2, none⟩ (.slice none 0 0)).setCell ⟨w.heap.size, 3, none⟩ (.int .i64 0)) := ((((hBe.out.setCell (p := ⟨w.heap.size, 0, none⟩) (Nat.le_refl _) (.slice none 0 0)).setCell (p := ⟨w.heap.size, 1, none⟩) (Nat.le_refl _) (.slice none 0 0)).setCell (p := ⟨w.heap.size, 2, none⟩) (Nat.le_refl _) (.slice none 0 0)).setCell (p := ⟨w.heap.size, 3, none⟩) (Nat.le_refl _) (.int .i64 0))
                      have ⟨_, q4, _⟩ := b4.at
                      clear b4
                      generalize ((((W8.setCell ⟨w.heap.size, 0, none⟩ (.slice none 0 0)).setCell ⟨w.heap.size, 1, none⟩ (.slice none 0 0)).setCell ⟨w.heap.size, 2, none⟩ (.slice none 0 0)).setCell ⟨w.heap.size, 3, none⟩ (.int .i64 0)) = W4 at *
                      simp [bodyPost, results, Tryd.results6, go_sem, q4]
                      rw [hv2.out]
                      exact ⟨none, 0, none, 0, none, 0, rfl, zOwn _ _, Below.drew hB4⟩
                    have hv2 := hv.out
                    rw [if_pos hrt] at hv2
                    replace hv2 := Hid.mk hv2
                    subst hrt
                    have hBe := Hid.mk (hBw.out.trans (Below.of_grown hg.out hsz.out (fun g e => by cases e; exact hkr.out)))
                    have ⟨zh, ph, fh⟩ := h.out.at
                    have ⟨zu, pu, fu⟩ := Xu.out.at
                    have ⟨zx, px, fx⟩ := Xx.out.at
                    go_wp2_with fail
                    have b4 : Box ((((W8.setCell ⟨w.heap.size, 0, none⟩ (.slice aa R1.1.length ac)).setCell ⟨w.heap.size, 1, none⟩ (.slice ba R2.1.length bc)).setCell ⟨w.heap.size, 2, none⟩ (.slice ga R3.1.length gc)).setCell ⟨w.heap.size, 3, none⟩ (.int .i64 y0)) w.heap.size #[.slice aa R1.1.length ac, .slice ba R2.1.length bc, .slice ga R3.1.length gc, .int .i64 y0] 27 := Box.setRow Xx.out [.slice aa R1.1.length ac, .slice ba R2.1.length bc, .slice ga R3.1.length gc, .int .i64 y0] rfl
                    have hB4 : Below w.heap.size w ((((W8.setCell ⟨w.heap.size, 0, none⟩ (.slice aa R1.1.length ac)).setCell ⟨w.heap.size, 1, none⟩ (.slice ba R2.1.length bc)).setCell ⟨w.heap.size, 2, none⟩ (.slice ga R3.1.length gc)).setCell ⟨w.heap.size, 3, none⟩ (.int .i64 y0)) := ((((hBe.out.setCell (p := ⟨w.heap.size, 0, none⟩) (Nat.le_refl _) (.slice aa R1.1.length ac)).setCell (p := ⟨w.heap.size, 1, none⟩) (Nat.le_refl _) (.slice ba R2.1.length bc)).setCell (p := ⟨w.heap.size, 2, none⟩) (Nat.le_refl _) (.slice ga R3.1.length gc)).setCell (p := ⟨w.heap.size, 3, none⟩) (Nat.le_refl _) (.int .i64 y0))
                    have hO4 : ImgOwn wv.heap.size ((((W8.setCell ⟨w.heap.size, 0, none⟩ (.slice aa R1.1.length ac)).setCell ⟨w.heap.size, 1, none⟩ (.slice ba R2.1.length bc)).setCell ⟨w.heap.size, 2, none⟩ (.slice ga R3.1.length gc)).setCell ⟨w.heap.size, 3, none⟩ (.int .i64 y0)) (.slice aa R1.1.length ac) (.slice ba R2.1.length bc) (.slice ga R3.1.length gc) ⟨R1.1, R2.1, R3.1, y0⟩ := ImgOwn.row (by decide) [.slice aa R1.1.length ac, .slice ba R2.1.length bc, .slice ga R3.1.length gc, .int .i64 y0] (j := 0) hO.out Xx.out
                    have ⟨_, q4, _⟩ := b4.at
                    clear b4
                    generalize ((((W8.setCell ⟨w.heap.size, 0, none⟩ (.slice aa R1.1.length ac)).setCell ⟨w.heap.size, 1, none⟩ (.slice ba R2.1.length bc)).setCell ⟨w.heap.size, 2, none⟩ (.slice ga R3.1.length gc)).setCell ⟨w.heap.size, 3, none⟩ (.int .i64 y0)) = W4 at *
                    simp [bodyPost, results, Tryd.results6, go_sem, q4]
                    rw [hv2.out]
                    exact ⟨aa, ac, ba, bc, ga, gc, rfl, hO4.base hsz.out, hB4⟩
end Go.Proofs.YtdmkedpnkejpbaaDoor
