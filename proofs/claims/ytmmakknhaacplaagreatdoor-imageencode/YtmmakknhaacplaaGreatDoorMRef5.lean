import Derived.Test.YtmmakknhaacplaaGreatDoorP28
import Derived.Test.YtmmakknhaacplaaGreatDoorP30
import Derived.Test.YtmmakknhaacplaaGreatDoorP31
import Derived.Test.YtmmakknhaacplaaGreatDoorP09
import Derived.Test.YtmmakknhaacplaaGreatDoorP11
import Derived.Test.YtmmakknhaacplaaGreatDoorP32
import Derived.BigFrame
/-
  The document's Right of any program.
-/
namespace Go.Proofs.YtmmakknhaacplaaGreatDoor
namespace Q
open Go.RowKit

theorem gr_belowR {w W : World} {B : Nat} (g : Gr w W) (hB : B ≤ w.heap.size) : Below B w W := ⟨g.below.os, g.below.tape, g.below.output, g.below.size, fun k hk => g.below.block k (by omega)⟩
theorem range2L {W : World} {b o : Nat} {v0 v1 : Value} (h0 : W.cell? ⟨b, o, none⟩ = some v0) (h1 : W.cell? ⟨b, o + 1, none⟩ = some v1) : W.rangeAt b o [v0, v1] := fun j v q => by
  match j with
  | 0 => simp at q; subst q; exact h0
  | 1 => simp at q; subst q; exact h1
  | j + 2 => simp at q
theorem drop_at {α : Type} (L : List α) (i : Nat) (h : i < L.length) : L.drop i = L[i] :: L.drop (i + 1) := List.drop_eq_getElem_cons h
theorem regE_place {r : PReg} {f : Int} (hb : 0 ≤ r.b) (h : regE r f = 0) : r.b < 65536 ∧ r.n ≤ 65536 := by
  unfold regE at h
  by_cases q : (placeB r.b r.n f && contentB r.n r.data r.slots.length) = true
  · rw [Bool.and_eq_true] at q
    have q1 := q.1
    unfold placeB at q1
    simp only [Bool.and_eq_true, decide_eq_true_eq, beq_iff_eq] at q1
    obtain ⟨⟨⟨⟨⟨_, _⟩, _⟩, _⟩, h1⟩, h2⟩ := q1
    exact ⟨h1, by omega⟩
  · rw [if_neg q] at h
    cases h
set_option maxRecDepth 100000 in
set_option maxHeartbeats 16000000 in
theorem refRight_any (m : PImg) (ra ca ga : Option Addr) (rc cc gc : Nat) (w : World) (hm0 : ImgIn w.heap.size w ra ca ga m) (hr : m.Rng) : Calls Tryz.prog 19 #[.agg #[.slice ra m.regs.length rc, .slice ca m.comps.length cc, .slice ga m.gates.length gc, .int .i64 m.depth]] w fun x w' => x = .returned (.int .i64 m.right) ∧ Gr w w' := by
  by_cases h0 : 8 < (m.regs.length : Int)
  · have hz : m.right = 42 := by
      unfold PImg.right
      rw [if_neg (by unfold countsB; simp only [Bool.and_eq_true, decide_eq_true_eq]; omega)]
    rw [hz]
    clear hz hr hm0
    go_enter Tryz.func19, Tryz.ntmps19
    go_wp2_with fail
    go_ret
    refine ⟨rfl, ?_⟩
    (with_reducible repeat (first | exact Gr.refl _ | refine Gr.alloc ?_ _ | refine Gr.grow ?_ _ | refine Gr.drew ?_ | refine Gr.setCell ?_ _ _ _ (gr_size ?_)))
  by_cases h1 : (m.comps.length : Int) < 1
  · have hz : m.right = 42 := by
      unfold PImg.right
      rw [if_neg (by unfold countsB; simp only [Bool.and_eq_true, decide_eq_true_eq]; omega)]
    rw [hz]
    clear hz hr hm0
    go_enter Tryz.func19, Tryz.ntmps19
    go_wp2_with fail
    go_ret
    refine ⟨rfl, ?_⟩
    (with_reducible repeat (first | exact Gr.refl _ | refine Gr.alloc ?_ _ | refine Gr.grow ?_ _ | refine Gr.drew ?_ | refine Gr.setCell ?_ _ _ _ (gr_size ?_)))
  by_cases h2 : 4 < (m.comps.length : Int)
  · have hz : m.right = 42 := by
      unfold PImg.right
      rw [if_neg (by unfold countsB; simp only [Bool.and_eq_true, decide_eq_true_eq]; omega)]
    rw [hz]
    clear hz hr hm0
    go_enter Tryz.func19, Tryz.ntmps19
    go_wp2_with fail
    go_ret
    refine ⟨rfl, ?_⟩
    (with_reducible repeat (first | exact Gr.refl _ | refine Gr.alloc ?_ _ | refine Gr.grow ?_ _ | refine Gr.drew ?_ | refine Gr.setCell ?_ _ _ _ (gr_size ?_)))
  by_cases h3 : (m.gates.length : Int) < 1
  · have hz : m.right = 42 := by
      unfold PImg.right
      rw [if_neg (by unfold countsB; simp only [Bool.and_eq_true, decide_eq_true_eq]; omega)]
    rw [hz]
    clear hz hr hm0
    go_enter Tryz.func19, Tryz.ntmps19
    go_wp2_with fail
    go_ret
    refine ⟨rfl, ?_⟩
    (with_reducible repeat (first | exact Gr.refl _ | refine Gr.alloc ?_ _ | refine Gr.grow ?_ _ | refine Gr.drew ?_ | refine Gr.setCell ?_ _ _ _ (gr_size ?_)))
  by_cases h4 : 16 < (m.gates.length : Int)
  · have hz : m.right = 42 := by
      unfold PImg.right
      rw [if_neg (by unfold countsB; simp only [Bool.and_eq_true, decide_eq_true_eq]; omega)]
    rw [hz]
    clear hz hr hm0
    go_enter Tryz.func19, Tryz.ntmps19
    go_wp2_with fail
    go_ret
    refine ⟨rfl, ?_⟩
    (with_reducible repeat (first | exact Gr.refl _ | refine Gr.alloc ?_ _ | refine Gr.grow ?_ _ | refine Gr.drew ?_ | refine Gr.setCell ?_ _ _ _ (gr_size ?_)))
  by_cases h5 : m.depth < 1
  · have hz : m.right = 42 := by
      unfold PImg.right
      rw [if_neg (by unfold countsB; simp only [Bool.and_eq_true, decide_eq_true_eq]; omega)]
    rw [hz]
    clear hz hr hm0
    go_enter Tryz.func19, Tryz.ntmps19
    go_wp2_with fail
    go_ret
    refine ⟨rfl, ?_⟩
    (with_reducible repeat (first | exact Gr.refl _ | refine Gr.alloc ?_ _ | refine Gr.grow ?_ _ | refine Gr.drew ?_ | refine Gr.setCell ?_ _ _ _ (gr_size ?_)))
  by_cases h6 : 16 < m.depth
  · have hz : m.right = 42 := by
      unfold PImg.right
      rw [if_neg (by unfold countsB; simp only [Bool.and_eq_true, decide_eq_true_eq]; omega)]
    rw [hz]
    clear hz hr hm0
    go_enter Tryz.func19, Tryz.ntmps19
    go_wp2_with fail
    go_ret
    refine ⟨rfl, ?_⟩
    (with_reducible repeat (first | exact Gr.refl _ | refine Gr.alloc ?_ _ | refine Gr.grow ?_ _ | refine Gr.drew ?_ | refine Gr.setCell ?_ _ _ _ (gr_size ?_)))
  have hz : m.right = (if regsR m.regs 0 = 0 then (if compsR m.gates.length m.comps = 0 then gatesR m.comps m.gates else compsR m.gates.length m.comps) else regsR m.regs 0) := by
    unfold PImg.right
    rw [if_pos (by unfold countsB; simp only [Bool.and_eq_true, decide_eq_true_eq]; omega)]
  replace hz := Hid.mk hz
  have l1 : m.regs.length ≤ 281474976710648 := by omega
  have l2 : m.comps.length ≤ 281474976710648 := by omega
  have l3 : m.gates.length ≤ 281474976710648 := by omega
  have hl2 := Hid.mk hr.comps.1
  have hr1 := Hid.mk hr.regs.2
  have hr2 := Hid.mk hr.comps.2
  have hr3 := Hid.mk hr.gates.2
  clear hr
  replace hm0 := Hid.mk hm0
  go_enter Tryz.func19, Tryz.ntmps19
  go_upto_region 1 with fail
  refine wp_world (fun W => At W w.heap.size #[.slice ra m.regs.length rc, .slice ca m.comps.length cc, .slice ga m.gates.length gc, .int .i64 m.depth] ∧ Gr w W) ⟨At.new w _ _, (Gr.refl w).alloc _⟩ ?_
  rintro W0 ⟨BM, G0⟩
  replace BM := Hid.mk BM
  replace G0 := Hid.mk G0
  have hm : Hid (ImgIn w.heap.size W0 ra ca ga m) := Hid.mk (hm0.out.below (gr_belowR G0.out (Nat.le_refl _)))
  have hB : Hid (w.heap.size ≤ W0.heap.size) := Hid.mk G0.out.below.size
  clear hm0
  have c0 : W0.cell? ⟨w.heap.size, 0, none⟩ = some (.slice ra m.regs.length rc) := BM.out.2.1 0
  have c1 : W0.cell? ⟨w.heap.size, 1, none⟩ = some (.slice ca m.comps.length cc) := BM.out.2.1 1
  have c2 : W0.cell? ⟨w.heap.size, 2, none⟩ = some (.slice ga m.gates.length gc) := BM.out.2.1 2
  have c3 : W0.cell? ⟨w.heap.size, 3, none⟩ = some (.int .i64 m.depth) := BM.out.2.1 3
  go_upto_region 5 with fail
  clear c0 c1 c2 c3
  have G := Hid.mk (Gr.refl W0)
  go_loopw [3, 4] (fun y x wr => ∃ (i : Nat) (fr : Int), y = .int .u64 fr ∧ x = .int .i64 i ∧ i ≤ m.regs.length ∧ Hid (regsR m.regs 0 = regsR (m.regs.drop i) fr) ∧ Hid (Gr W0 wr)) (fun _ x _ => m.regs.length - (intOf x).toNat)
  case atStart => exact ⟨0, 0, rfl, rfl, by omega, Hid.mk (by rw [List.drop_zero]), G⟩
  case round =>
    clear G
    obtain ⟨i, fr, rfl, rfl, hi, hE, G⟩ := hrel
    replace hE := hE.out
    have c0 : wr.cell? ⟨w.heap.size, 0, none⟩ = some (.slice ra m.regs.length rc) := (BM.out.gr G.out).2.1 0
    by_cases hn : i < m.regs.length
    · have hi1 : (i : Int) < (m.regs.length : Int) := by omega
      clear c0
      obtain ⟨b, off, sa, sc, hra, hb1, _, k0, k1, k2, k3, kf⟩ := hm.out.regs i hn
      subst hra
      have hrr := Hid.mk (hr1.out _ (List.getElem_mem hn))
      rw [drop_at _ _ hn, regsR_E] at hE
      generalize m.regs[i] = rr at k0 k1 k2 k3 kf hrr hE
      replace k0 := Hid.mk k0
      replace k1 := Hid.mk k1
      replace k2 := Hid.mk k2
      replace k3 := Hid.mk k3
      replace kf := Hid.mk (kf.below (gr_belowR G.out hB.out))
      have c0 : wr.cell? ⟨w.heap.size, 0, none⟩ = some (.slice (some ⟨b, off, none⟩) m.regs.length rc) := (BM.out.gr G.out).2.1 0
      have d0 := (((gr_belowR G.out hB.out).cell (p := ⟨b, off + i * 4, none⟩) hb1).trans k0.out)
      have d1 := (((gr_belowR G.out hB.out).cell (p := ⟨b, off + i * 4 + 1, none⟩) hb1).trans k1.out)
      have d2 := (((gr_belowR G.out hB.out).cell (p := ⟨b, off + i * 4 + 1 + 1, none⟩) hb1).trans k2.out)
      have d3 := (((gr_belowR G.out hB.out).cell (p := ⟨b, off + i * 4 + 1 + 1 + 1, none⟩) hb1).trans k3.out)
      have hcl := Hid.mk (refRegion_any rr sa sc fr wr (kf.out.mono (Nat.le_trans hB.out G.out.below.size)) hrr.out)
      replace hE := Hid.mk hE
      go_wp2_with fail
      refine hcl.out.mono ?_
      rintro x wq ⟨rfl, q9⟩
      clear c0 d0 d1 d2 d3 hcl kf k2 k3
      replace G := Hid.mk (G.out.trans q9)
      clear q9
      have hg := Hid.mk (regE_place (f := fr) hrr.out.1.1)
      have hb0 := hrr.out.1.1
      have hb2 := hrr.out.2.1.1
      clear hrr
      generalize regE rr fr = E at *
      by_cases h9 : E = 0
      · subst h9
        obtain ⟨p1, p2⟩ := hg.out rfl
        clear hg
        have e8 : IntKind.u64.wrap (rr.b + rr.n) = rr.b + rr.n := by rw [IntKind.wrap_u64]; omega
        replace hE := hE.out
        rw [if_pos rfl] at hE
        have c0 : wq.cell? ⟨w.heap.size, 0, none⟩ = some (.slice (some ⟨b, off, none⟩) m.regs.length rc) := (BM.out.gr G.out).2.1 0
        have d0 := (((gr_belowR G.out hB.out).cell (p := ⟨b, off + i * 4, none⟩) hb1).trans k0.out)
        have d1 := (((gr_belowR G.out hB.out).cell (p := ⟨b, off + i * 4 + 1, none⟩) hb1).trans k1.out)
        replace hE := Hid.mk hE
        clear p1 p2 hb0 hb2
        go_wp2_with fail
        go_quiet (fail)
        clear c0 d0 d1 k0 k1
        go_wp2_with fail
        exact ⟨⟨i + 1, _, rfl, by go_num, by omega, hE, Hid.mk (G.out.drewN _)⟩, by simp [intOf]; omega⟩
      · have h9b : (E == 0) = false := by simpa using h9
        clear hg hb0 hb2
        go_wp2_with fail
        go_ret
        refine ⟨retI ?_, G0.out.trans G.out⟩
        rw [hz.out, hE.out, if_neg h9, if_neg h9]
    · have hi1 : ¬ (i : Int) < (m.regs.length : Int) := by omega
      have ei : i = m.regs.length := by omega
      subst ei
      clear c0
      replace hE := Hid.mk hE
      have c0 : wr.cell? ⟨w.heap.size, 0, none⟩ = some (.slice ra m.regs.length rc) := (BM.out.gr G.out).2.1 0
      have hE1 := hE.out
      rw [List.drop_length] at hE1
      replace hE1 : Hid (regsR m.regs 0 = 0) := Hid.mk hE1
      clear hE
      go_upto_region 12 with fail
      clear c0
      have G4 := G
      clear G
      go_loopw [6] (fun x wr => ∃ i : Nat, x = .int .i64 i ∧ i ≤ m.comps.length ∧ Hid (compsR m.gates.length m.comps = compsR m.gates.length (m.comps.drop i)) ∧ Hid (Gr W0 wr)) (fun x _ => m.comps.length - (intOf x).toNat)
      case atStart => exact ⟨0, rfl, by omega, Hid.mk (by rw [List.drop_zero]), G4⟩
      case round =>
        clear G4
        obtain ⟨i, rfl, hi, hE, G⟩ := hrel
        replace hE := hE.out
        have c1 : wr.cell? ⟨w.heap.size, 1, none⟩ = some (.slice ca m.comps.length cc) := (BM.out.gr G.out).2.1 1
        by_cases hn : i < m.comps.length
        · have hi1 : (i : Int) < (m.comps.length : Int) := by omega
          clear c1
          obtain ⟨b, off, ra', rc', ka, kc', hca, hb1, _, k0, k1, kf, kl⟩ := hm.out.comps i hn
          subst hca
          have hrr := Hid.mk (hr2.out _ (List.getElem_mem hn))
          rw [drop_at _ _ hn, compsR_E] at hE
          generalize m.comps[i] = rr at k0 k1 kf kl hrr hE
          replace k0 := Hid.mk k0
          replace k1 := Hid.mk k1
          replace kf := Hid.mk kf
          replace kl := Hid.mk kl
          replace hE := Hid.mk hE
          have c1 : wr.cell? ⟨w.heap.size, 1, none⟩ = some (.slice (some ⟨b, off, none⟩) m.comps.length cc) := (BM.out.gr G.out).2.1 1
          have KS : Hid (∀ W, Gr wr W → W.cell? ⟨w.heap.size, 1, none⟩ = some (.slice (some ⟨b, off, none⟩) m.comps.length cc) ∧ W.cell? ⟨w.heap.size, 2, none⟩ = some (.slice ga m.gates.length gc) ∧ W.rangeAt b (off + i * 2) [Value.slice ra' rr.roots.length rc', .slice ka rr.code.length kc']) := Hid.mk (fun W q => ⟨(BM.out.gr (G.out.trans q)).2.1 1, (BM.out.gr (G.out.trans q)).2.1 2, range2L (((gr_belowR (G.out.trans q) hB.out).cell (p := ⟨b, off + i * 2, none⟩) hb1).trans k0.out) (((gr_belowR (G.out.trans q) hB.out).cell (p := ⟨b, off + i * 2 + 1, none⟩) hb1).trans k1.out)⟩)
          have hcl := Hid.mk (fun (W : World) (q : Gr wr W) => show Calls Tryz.prog 42 #[.agg (List.toArray [Value.slice ra' rr.roots.length rc', .slice ka rr.code.length kc']), .int .i64 m.gates.length] W _ from refComp_any rr ra' ka rc' kc' m.gates.length W ((kf.out.below (gr_belowR (G.out.trans q) hB.out)).mono (Nat.le_trans hB.out (G.out.trans q).below.size)) ((kl.out.below (gr_belowR (G.out.trans q) hB.out)).mono (Nat.le_trans hB.out (G.out.trans q).below.size)) hrr.out)
          go_upto_region 14 with fail
          have d1 : Gr wr wr.drew := (Gr.refl _).drew
          refine wp_region_held_drew (S := (fun W => W.cell? ⟨w.heap.size, 1, none⟩ = some (.slice (some ⟨b, off, none⟩) m.comps.length cc) ∧ W.cell? ⟨w.heap.size, 2, none⟩ = some (.slice ga m.gates.length gc) ∧ W.rangeAt b (off + i * 2) [Value.slice ra' rr.roots.length rc', .slice ka rr.code.length kc'])) (by kernel_rfl) (KS.out _ d1) (fun hHeld => ?_)
          refine wpAnyH_take (i := 0) (oi := { dst := some 85, op := Op.fieldAddr 26 (Operand.tmp 1) 1, type := 0, pos := "right.go:157", after := #[], guard := none }) (v := ?_) rfl (by kernel_rfl) (by kernel_rfl) (by kernel_rfl) (fun _ _ _ h => h) (Or.inl ⟨by rfl, ?_⟩) (by assumption) ?_
          rotate_left
          · intro w hSw; (try dsimp only at hSw); go_simp; first | done | with_reducible rfl
          try simp only [Act.put, List.setIfInBounds_toArray, List.set_cons_zero, List.set_cons_succ]
          refine wpAnyH_take (i := 1) (oi := { dst := some 86, op := Op.load 23 (Operand.tmp 85), type := 23, pos := "right.go:157", after := #[{ on := 0, ground := Ground.data }], guard := none }) (v := ?_) rfl (by kernel_rfl) (by kernel_rfl) (by kernel_rfl) (fun _ _ _ h => h) (Or.inl ⟨by rfl, ?_⟩) (by assumption) ?_
          rotate_left
          · intro w hSw; (try dsimp only at hSw); go_simp; first | done | with_reducible rfl
          try simp only [Act.put, List.setIfInBounds_toArray, List.set_cons_zero, List.set_cons_succ]
          refine wpAnyH_take (i := 2) (oi := { dst := some 87, op := Op.move (Operand.tmp 6), type := 3, pos := "right.go:157", after := #[], guard := none }) (v := ?_) rfl (by kernel_rfl) (by kernel_rfl) (by kernel_rfl) (fun _ _ _ h => h) (Or.inl ⟨by rfl, ?_⟩) (by assumption) ?_
          rotate_left
          · intro w hSw; (try dsimp only at hSw); go_simp; first | done | with_reducible rfl
          try simp only [Act.put, List.setIfInBounds_toArray, List.set_cons_zero, List.set_cons_succ]
          refine wpAnyH_take (i := 3) (oi := { dst := some 88, op := Op.indexAddr 23 (Operand.tmp 86) (Operand.tmp 87), type := 0, pos := "right.go:157", after := #[{ on := 1, ground := Ground.data }, { on := 2, ground := Ground.data }], guard := none }) (v := ?_) rfl (by kernel_rfl) (by kernel_rfl) (by kernel_rfl) (fun _ _ _ h => h) (Or.inl ⟨by rfl, ?_⟩) (by assumption) ?_
          rotate_left
          · intro w hSw; (try dsimp only at hSw); go_simp; first | done | with_reducible rfl
          try simp only [Act.put, List.setIfInBounds_toArray, List.set_cons_zero, List.set_cons_succ]
          refine wpAnyH_take (i := 4) (oi := { dst := some 89, op := Op.load 52 (Operand.tmp 88), type := 52, pos := "right.go:157", after := #[{ on := 3, ground := Ground.data }], guard := none }) (v := _) rfl (by kernel_rfl) (by kernel_rfl) (by kernel_rfl) (fun _ _ _ h => h) (yieldsIf_load_mid (by rfl) _ _ rfl _ _ rfl _ _ (fun _ h => h.2.2) Tryz.underlying52 rfl (by kernel_rfl)) (by assumption) ?_
          try simp only [Act.put, List.setIfInBounds_toArray, List.set_cons_zero, List.set_cons_succ]
          refine wpAnyH_take (i := 5) (oi := { dst := some 90, op := Op.fieldAddr 26 (Operand.tmp 1) 2, type := 0, pos := "right.go:157", after := #[], guard := none }) (v := ?_) rfl (by kernel_rfl) (by kernel_rfl) (by kernel_rfl) (fun _ _ _ h => h) (Or.inl ⟨by rfl, ?_⟩) (by assumption) ?_
          rotate_left
          · intro w hSw; (try dsimp only at hSw); go_simp; first | done | with_reducible rfl
          try simp only [Act.put, List.setIfInBounds_toArray, List.set_cons_zero, List.set_cons_succ]
          refine wpAnyH_take (i := 6) (oi := { dst := some 91, op := Op.load 24 (Operand.tmp 90), type := 24, pos := "right.go:157", after := #[{ on := 5, ground := Ground.data }], guard := none }) (v := ?_) rfl (by kernel_rfl) (by kernel_rfl) (by kernel_rfl) (fun _ _ _ h => h) (Or.inl ⟨by rfl, ?_⟩) (by assumption) ?_
          rotate_left
          · intro w hSw; (try dsimp only at hSw); go_simp; first | done | with_reducible rfl
          try simp only [Act.put, List.setIfInBounds_toArray, List.set_cons_zero, List.set_cons_succ]
          refine wpAnyH_take (i := 7) (oi := { dst := some 92, op := Op.call { callee := Callee.builtin Builtin.len, args := #[Operand.tmp 91], argTypes := #[24] }, type := 3, pos := "right.go:157", after := #[{ on := 6, ground := Ground.data }], guard := none }) (v := ?_) rfl (by kernel_rfl) (by kernel_rfl) (by kernel_rfl) (fun _ _ _ h => h) (Or.inl ⟨by rfl, ?_⟩) (by assumption) ?_
          rotate_left
          · intro w hSw; (try dsimp only at hSw); go_simp; first | done | with_reducible rfl
          try simp only [Act.put, List.setIfInBounds_toArray, List.set_cons_zero, List.set_cons_succ]
          refine wpAnyH_ready (rs := [8]) (by kernel_rfl) (by simp) ?_
          refine AllReadyH.cons (o := { dst := some 93, op := Op.call { callee := Callee.value (Operand.func 42), args := #[Operand.tmp 89, Operand.tmp 92], argTypes := #[52, 3] }, type := 3, pos := "right.go:157", after := #[{ on := 4, ground := Ground.data }, { on := 7, ground := Ground.data }], guard := none }) rfl (fun K hK => ?_) AllReadyH.nil
          go_simp
          go_wp2_with ((go_at_call 42; refine (hcl.out _ (by (with_reducible repeat (first | assumption | exact Gr.refl _ | refine Gr.alloc ?_ _ | refine Gr.grow ?_ _ | refine Gr.drew ?_ | refine Gr.setCell ?_ _ _ _ (gr_size ?_))))).mono ?_; rintro x wq ⟨rfl, q9⟩; have d1 : Gr wr wq := Gr.trans (by (with_reducible repeat (first | assumption | exact Gr.refl _ | refine Gr.alloc ?_ _ | refine Gr.grow ?_ _ | refine Gr.drew ?_ | refine Gr.setCell ?_ _ _ _ (gr_size ?_)))) q9; clear q9))
          refine hK.out _ _ (KS.out _ d1) (fun hHeld => ?_)
          clear hK K
          try simp only [Act.put, List.setIfInBounds_toArray, List.set_cons_zero, List.set_cons_succ]
          refine wpAnyH_take (i := 9) (oi := { dst := some 7, op := Op.assign (Operand.tmp 93), type := 3, pos := "right.go:157", after := #[{ on := 8, ground := Ground.data }, { on := 8, ground := Ground.chain }, { on := 0, ground := Ground.phase }, { on := 1, ground := Ground.phase }, { on := 2, ground := Ground.phase }, { on := 3, ground := Ground.phase }, { on := 4, ground := Ground.phase }, { on := 5, ground := Ground.phase }, { on := 6, ground := Ground.phase }, { on := 7, ground := Ground.phase }, { on := 8, ground := Ground.phase }], guard := none }) (v := ?_) rfl (by kernel_rfl) (by kernel_rfl) (by kernel_rfl) (fun _ _ _ h => h) (Or.inl ⟨by rfl, ?_⟩) (by assumption) ?_
          rotate_left
          · intro w hSw; (try dsimp only at hSw); go_simp; first | done | with_reducible rfl
          try simp only [Act.put, List.setIfInBounds_toArray, List.set_cons_zero, List.set_cons_succ]
          refine wpAnyH_done (by kernel_rfl) ?_ _
          clear hHeld KS hcl
          replace G := Hid.mk (G.out.trans d1)
          clear d1
          clear k0 k1 kf kl hrr c1
          generalize compE m.gates.length rr = E at *
          by_cases h9 : E = 0
          · subst h9
            replace hE := hE.out
            rw [if_pos rfl] at hE
            replace hE := Hid.mk hE
            go_wp2_with fail
            exact ⟨⟨i + 1, by go_num, by omega, hE, G⟩, by simp [intOf]; omega⟩
          · have h9b : (E == 0) = false := by simpa using h9
            go_wp2_with fail
            go_ret
            refine ⟨retI ?_, G0.out.trans G.out⟩
            rw [hz.out, if_pos hE1.out, hE.out, if_neg h9, if_neg h9]
        · have hi1 : ¬ (i : Int) < (m.comps.length : Int) := by omega
          have ei : i = m.comps.length := by omega
          subst ei
          clear c1
          replace hE := Hid.mk hE
          have c1 : wr.cell? ⟨w.heap.size, 1, none⟩ = some (.slice ca m.comps.length cc) := (BM.out.gr G.out).2.1 1
          have hE2 := hE.out
          rw [List.drop_length] at hE2
          replace hE2 : Hid (compsR m.gates.length m.comps = 0) := Hid.mk hE2
          clear hE
          go_upto_region 18 with fail
          clear c1
          have G5 := G
          clear G
          go_loopw [8] (fun x wr => ∃ i : Nat, x = .int .i64 i ∧ i ≤ m.gates.length ∧ Hid (gatesR m.comps m.gates = gatesR m.comps (m.gates.drop i)) ∧ Hid (Gr W0 wr)) (fun x _ => m.gates.length - (intOf x).toNat)
          case atStart => exact ⟨0, rfl, by omega, Hid.mk (by rw [List.drop_zero]), G5⟩
          case round =>
            clear G5
            obtain ⟨i, rfl, hi, hE, G⟩ := hrel
            replace hE := hE.out
            have c2 : wr.cell? ⟨w.heap.size, 2, none⟩ = some (.slice ga m.gates.length gc) := (BM.out.gr G.out).2.1 2
            by_cases hn : i < m.gates.length
            · have hi1 : (i : Int) < (m.gates.length : Int) := by omega
              clear c2
              obtain ⟨b, off, xa, xc, ya, yc, hga, hb1, _, k0, k1, k2, k3, kf, kl⟩ := hm.out.gates i hn
              subst hga
              have hrr := hr3.out _ (List.getElem_mem hn)
              rw [drop_at _ _ hn, gatesR_E] at hE
              generalize m.gates[i] = rr at k0 k1 k2 k3 kf kl hrr hE
              obtain ⟨gc', ge, ar, re⟩ := rr
              dsimp only at k0 k1 k2 k3 kf kl
              replace hrr := Hid.mk hrr
              replace k0 := Hid.mk k0
              replace k1 := Hid.mk k1
              replace k2 := Hid.mk k2
              replace k3 := Hid.mk k3
              replace kf := Hid.mk kf
              replace kl := Hid.mk kl
              replace hE := Hid.mk hE
              have c2 : wr.cell? ⟨w.heap.size, 2, none⟩ = some (.slice (some ⟨b, off, none⟩) m.gates.length gc) := (BM.out.gr G.out).2.1 2
              have KS : Hid (∀ W, Gr wr W → W.cell? ⟨w.heap.size, 2, none⟩ = some (.slice (some ⟨b, off, none⟩) m.gates.length gc) ∧ W.rangeAt w.heap.size 0 [Value.slice ra m.regs.length rc, .slice ca m.comps.length cc, .slice (some ⟨b, off, none⟩) m.gates.length gc, .int .i64 m.depth] ∧ W.rangeAt b (off + i * 4) [Value.int .i64 gc', .int .i64 ge, .slice xa ar.length xc, .slice ya re.length yc]) := Hid.mk (fun W q => ⟨(BM.out.gr (G.out.trans q)).2.1 2, (BM.out.gr (G.out.trans q)).range, range4L (((gr_belowR (G.out.trans q) hB.out).cell (p := ⟨b, off + i * 4, none⟩) hb1).trans k0.out) (((gr_belowR (G.out.trans q) hB.out).cell (p := ⟨b, off + i * 4 + 1, none⟩) hb1).trans k1.out) (((gr_belowR (G.out.trans q) hB.out).cell (p := ⟨b, off + i * 4 + 1 + 1, none⟩) hb1).trans k2.out) (((gr_belowR (G.out.trans q) hB.out).cell (p := ⟨b, off + i * 4 + 1 + 1 + 1, none⟩) hb1).trans k3.out)⟩)
              have hcl := Hid.mk (fun (W : World) (q : Gr wr W) => show Calls Tryz.prog 43 #[.agg (List.toArray [Value.int .i64 gc', .int .i64 ge, .slice xa ar.length xc, .slice ya re.length yc]), .agg (List.toArray [Value.slice ra m.regs.length rc, .slice ca m.comps.length cc, .slice (some ⟨b, off, none⟩) m.gates.length gc, .int .i64 m.depth])] W _ from refGate_any gc' ge ar re xa ya xc yc m.comps ra ca (some ⟨b, off, none⟩) m.regs.length rc cc m.gates.length gc m.depth W ((kf.out.below (gr_belowR (G.out.trans q) hB.out)).mono (Nat.le_trans hB.out (G.out.trans q).below.size)) ((kl.out.below (gr_belowR (G.out.trans q) hB.out)).mono (Nat.le_trans hB.out (G.out.trans q).below.size)) ((hm.out.comps.below (gr_belowR (G.out.trans q) hB.out)).mono (Nat.le_trans hB.out (G.out.trans q).below.size)) hrr.out.2.2.2.2.1 hrr.out.2.2.2.2.2 hrr.out.2.2.1 hrr.out.2.2.2.1 hl2.out)
              go_upto_region 20 with fail
              have d1 : Gr wr wr.drew := (Gr.refl _).drew
              refine wp_region_held_drew (S := (fun W => W.cell? ⟨w.heap.size, 2, none⟩ = some (.slice (some ⟨b, off, none⟩) m.gates.length gc) ∧ W.rangeAt w.heap.size 0 [Value.slice ra m.regs.length rc, .slice ca m.comps.length cc, .slice (some ⟨b, off, none⟩) m.gates.length gc, .int .i64 m.depth] ∧ W.rangeAt b (off + i * 4) [Value.int .i64 gc', .int .i64 ge, .slice xa ar.length xc, .slice ya re.length yc])) (by kernel_rfl) (KS.out _ d1) (fun hHeld => ?_)
              refine wpAnyH_take (i := 0) (oi := { dst := some 104, op := Op.fieldAddr 26 (Operand.tmp 1) 2, type := 0, pos := "right.go:163", after := #[], guard := none }) (v := ?_) rfl (by kernel_rfl) (by kernel_rfl) (by kernel_rfl) (fun _ _ _ h => h) (Or.inl ⟨by rfl, ?_⟩) (by assumption) ?_
              rotate_left
              · intro w hSw; (try dsimp only at hSw); go_simp; first | done | with_reducible rfl
              try simp only [Act.put, List.setIfInBounds_toArray, List.set_cons_zero, List.set_cons_succ]
              refine wpAnyH_take (i := 1) (oi := { dst := some 105, op := Op.load 24 (Operand.tmp 104), type := 24, pos := "right.go:163", after := #[{ on := 0, ground := Ground.data }], guard := none }) (v := ?_) rfl (by kernel_rfl) (by kernel_rfl) (by kernel_rfl) (fun _ _ _ h => h) (Or.inl ⟨by rfl, ?_⟩) (by assumption) ?_
              rotate_left
              · intro w hSw; (try dsimp only at hSw); go_simp; first | done | with_reducible rfl
              try simp only [Act.put, List.setIfInBounds_toArray, List.set_cons_zero, List.set_cons_succ]
              refine wpAnyH_take (i := 2) (oi := { dst := some 106, op := Op.move (Operand.tmp 8), type := 3, pos := "right.go:163", after := #[], guard := none }) (v := ?_) rfl (by kernel_rfl) (by kernel_rfl) (by kernel_rfl) (fun _ _ _ h => h) (Or.inl ⟨by rfl, ?_⟩) (by assumption) ?_
              rotate_left
              · intro w hSw; (try dsimp only at hSw); go_simp; first | done | with_reducible rfl
              try simp only [Act.put, List.setIfInBounds_toArray, List.set_cons_zero, List.set_cons_succ]
              refine wpAnyH_take (i := 3) (oi := { dst := some 107, op := Op.indexAddr 24 (Operand.tmp 105) (Operand.tmp 106), type := 0, pos := "right.go:163", after := #[{ on := 1, ground := Ground.data }, { on := 2, ground := Ground.data }], guard := none }) (v := ?_) rfl (by kernel_rfl) (by kernel_rfl) (by kernel_rfl) (fun _ _ _ h => h) (Or.inl ⟨by rfl, ?_⟩) (by assumption) ?_
              rotate_left
              · intro w hSw; (try dsimp only at hSw); go_simp; first | done | with_reducible rfl
              try simp only [Act.put, List.setIfInBounds_toArray, List.set_cons_zero, List.set_cons_succ]
              refine wpAnyH_take (i := 4) (oi := { dst := some 108, op := Op.load 55 (Operand.tmp 107), type := 55, pos := "right.go:163", after := #[{ on := 3, ground := Ground.data }], guard := none }) (v := _) rfl (by kernel_rfl) (by kernel_rfl) (by kernel_rfl) (fun _ _ _ h => h) (yieldsIf_load_mid (by rfl) _ _ rfl _ _ rfl _ _ (fun _ h => h.2.2) Tryz.underlying55 rfl (by kernel_rfl)) (by assumption) ?_
              try simp only [Act.put, List.setIfInBounds_toArray, List.set_cons_zero, List.set_cons_succ]
              refine wpAnyH_take (i := 5) (oi := { dst := some 109, op := Op.load 26 (Operand.tmp 1), type := 26, pos := "right.go:163", after := #[], guard := none }) (v := _) rfl (by kernel_rfl) (by kernel_rfl) (by kernel_rfl) (fun _ _ _ h => h) (yieldsIf_load_mid (by rfl) _ _ rfl _ _ rfl _ _ (fun _ h => h.2.1) Tryz.underlying26 rfl (by kernel_rfl)) (by assumption) ?_
              try simp only [Act.put, List.setIfInBounds_toArray, List.set_cons_zero, List.set_cons_succ]
              refine wpAnyH_ready (rs := [6]) (by kernel_rfl) (by simp) ?_
              refine AllReadyH.cons (o := { dst := some 110, op := Op.call { callee := Callee.value (Operand.func 43), args := #[Operand.tmp 108, Operand.tmp 109], argTypes := #[55, 26] }, type := 3, pos := "right.go:163", after := #[{ on := 4, ground := Ground.data }, { on := 5, ground := Ground.data }], guard := none }) rfl (fun K hK => ?_) AllReadyH.nil
              go_simp
              go_wp2_with ((go_at_call 43; refine (hcl.out _ (by (with_reducible repeat (first | assumption | exact Gr.refl _ | refine Gr.alloc ?_ _ | refine Gr.grow ?_ _ | refine Gr.drew ?_ | refine Gr.setCell ?_ _ _ _ (gr_size ?_))))).mono ?_; rintro x wq ⟨rfl, q9⟩; have d1 : Gr wr wq := Gr.trans (by (with_reducible repeat (first | assumption | exact Gr.refl _ | refine Gr.alloc ?_ _ | refine Gr.grow ?_ _ | refine Gr.drew ?_ | refine Gr.setCell ?_ _ _ _ (gr_size ?_)))) q9; clear q9))
              refine hK.out _ _ (KS.out _ d1) (fun hHeld => ?_)
              clear hK K
              try simp only [Act.put, List.setIfInBounds_toArray, List.set_cons_zero, List.set_cons_succ]
              refine wpAnyH_take (i := 7) (oi := { dst := some 9, op := Op.assign (Operand.tmp 110), type := 3, pos := "right.go:163", after := #[{ on := 6, ground := Ground.data }, { on := 6, ground := Ground.chain }, { on := 0, ground := Ground.phase }, { on := 1, ground := Ground.phase }, { on := 2, ground := Ground.phase }, { on := 3, ground := Ground.phase }, { on := 4, ground := Ground.phase }, { on := 5, ground := Ground.phase }, { on := 6, ground := Ground.phase }], guard := none }) (v := ?_) rfl (by kernel_rfl) (by kernel_rfl) (by kernel_rfl) (fun _ _ _ h => h) (Or.inl ⟨by rfl, ?_⟩) (by assumption) ?_
              rotate_left
              · intro w hSw; (try dsimp only at hSw); go_simp; first | done | with_reducible rfl
              try simp only [Act.put, List.setIfInBounds_toArray, List.set_cons_zero, List.set_cons_succ]
              refine wpAnyH_done (by kernel_rfl) ?_ _
              clear hHeld KS hcl
              replace G := Hid.mk (G.out.trans d1)
              clear d1
              clear k0 k1 k2 k3 kf kl hrr c2
              generalize gateE m.comps _ = E at *
              by_cases h9 : E = 0
              · subst h9
                replace hE := hE.out
                rw [if_pos rfl] at hE
                replace hE := Hid.mk hE
                go_wp2_with fail
                exact ⟨⟨i + 1, by go_num, by omega, hE, G⟩, by simp [intOf]; omega⟩
              · have h9b : (E == 0) = false := by simpa using h9
                go_wp2_with fail
                go_ret
                refine ⟨retI ?_, G0.out.trans G.out⟩
                rw [hz.out, if_pos hE1.out, if_pos hE2.out, hE.out, if_neg h9]
            · have hi1 : ¬ (i : Int) < (m.gates.length : Int) := by omega
              have ei : i = m.gates.length := by omega
              subst ei
              clear c2
              replace hE := Hid.mk hE
              have c2 : wr.cell? ⟨w.heap.size, 2, none⟩ = some (.slice ga m.gates.length gc) := (BM.out.gr G.out).2.1 2
              have hE3 := hE.out
              rw [List.drop_length] at hE3
              go_wp2_with fail
              go_ret
              refine ⟨retI ?_, G0.out.trans G.out⟩
              rw [hz.out, if_pos hE1.out, if_pos hE2.out, hE3]
              rfl
end Q
end Go.Proofs.YtmmakknhaacplaaGreatDoor
