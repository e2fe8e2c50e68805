import Derived.Test.YtcljibdikhpnlaaDoorMCopyL
/-
  Stage 4, image: Copy of a program.
-/
namespace Go.Proofs.YtcljibdikhpnlaaDoor
open Go.RowKit

/-- A program whose lists memory can hold twice. -/
structure PImg.Fits (m : PImg) : Prop where
  regs : FitB 56 m.regs.length ∧ ∀ r ∈ m.regs, r.data.length ≤ 140737488355328 ∧ FitB 64 r.slots.length
  comps : FitB 48 m.comps.length ∧ ∀ r ∈ m.comps, FitB 48 r.roots.length ∧ FitB 40 r.code.length
  gates : FitB 64 m.gates.length ∧ ∀ r ∈ m.gates, FitB 56 r.args.length ∧ FitB 56 r.res.length
theorem step_below2 {B : Nat} {R W w1 : World} (h : Below B R W) (hB : B ≤ R.heap.size) (hg : Below W.heap.size W w1) : Below B R w1 := h.trans (hg.mono (Nat.le_trans hB h.size))
set_option maxRecDepth 10000 in
set_option maxHeartbeats 8000000 in
theorem Copy_any (m : PImg) (ra ca ga : Option Addr) (rc cc gc : Nat) (w : World) (hm : ImgIn w.heap.size w ra ca ga m) (hf : m.Fits) :
    Calls Tryd.prog 6 #[.agg #[.slice ra m.regs.length rc, .slice ca m.comps.length cc, .slice ga m.gates.length gc, .int .i64 m.depth]] w fun x w' => ∃ ra2 rc2 ca2 cc2 ga2 gc2, x = .returned (.agg #[.slice ra2 m.regs.length rc2, .slice ca2 m.comps.length cc2, .slice ga2 m.gates.length gc2, .int .i64 m.depth]) ∧ ImgOwn w.heap.size w' (.slice ra2 m.regs.length rc2) (.slice ca2 m.comps.length cc2) (.slice ga2 m.gates.length gc2) m ∧ Below w.heap.size w w' := by
  have hC1 := fun W h1 => copiedRegion_any m.regs ra rc W h1 hf.regs.2 hf.regs.1
  have hC2 := fun W h1 => copiedComp_any m.comps ca cc W h1 hf.comps.2 hf.comps.1
  have hC3 := fun W h1 => copiedGate_any m.gates ga gc W h1 hf.gates.2 hf.gates.1
  have hB : Below w.heap.size w ((w.alloc (.cells #[.slice ra m.regs.length rc, .slice ca m.comps.length cc, .slice ga m.gates.length gc, .int .i64 m.depth] 26)).alloc (.cells #[.slice none 0 0, .slice none 0 0, .slice none 0 0, .int .i64 0] 26)) := (((Gr.refl w).alloc _).alloc _).below
  have RB : Box ((w.alloc (.cells #[.slice ra m.regs.length rc, .slice ca m.comps.length cc, .slice ga m.gates.length gc, .int .i64 m.depth] 26)).alloc (.cells #[.slice none 0 0, .slice none 0 0, .slice none 0 0, .int .i64 0] 26)) w.heap.size #[.slice ra m.regs.length rc, .slice ca m.comps.length cc, .slice ga m.gates.length gc, .int .i64 m.depth] 26 := (Box.new w _ _).alloc _
  have X : Box ((w.alloc (.cells #[.slice ra m.regs.length rc, .slice ca m.comps.length cc, .slice ga m.gates.length gc, .int .i64 m.depth] 26)).alloc (.cells #[.slice none 0 0, .slice none 0 0, .slice none 0 0, .int .i64 0] 26)) (w.heap.size + 1) #[.slice none 0 0, .slice none 0 0, .slice none 0 0, .int .i64 0] 26 := Box.next _ _ _ _
  replace hm := Hid.mk hm
  replace hB := Hid.mk hB
  replace RB := Hid.mk RB
  replace X := Hid.mk X
  clear hf
  go_enter Tryd.func6, Tryd.ntmps6
  go_wp2_with fail
  generalize (w.alloc (.cells #[.slice ra m.regs.length rc, .slice ca m.comps.length cc, .slice ga m.gates.length gc, .int .i64 m.depth] 26)).alloc (.cells #[.slice none 0 0, .slice none 0 0, .slice none 0 0, .int .i64 0] 26) = R0 at *
  have hn1 : w.heap.size + 1 ≤ R0.heap.size := Nat.le_of_lt X.out.lt
  have KS : ∀ W, Below (w.heap.size + 1) R0 W → W.cell? ⟨w.heap.size, 0, none⟩ = some (.slice ra m.regs.length rc) ∧ W.cell? ⟨w.heap.size, 1, none⟩ = some (.slice ca m.comps.length cc) ∧ W.cell? ⟨w.heap.size, 2, none⟩ = some (.slice ga m.gates.length gc) ∧ W.cell? ⟨w.heap.size, 3, none⟩ = some (.int .i64 m.depth) := fun W hW => ⟨(hW.cell (p := ⟨w.heap.size, 0, none⟩) (Nat.lt_succ_self _)).trans (RB.out.at.2.1 0), (hW.cell (p := ⟨w.heap.size, 1, none⟩) (Nat.lt_succ_self _)).trans (RB.out.at.2.1 1), (hW.cell (p := ⟨w.heap.size, 2, none⟩) (Nat.lt_succ_self _)).trans (RB.out.at.2.1 2), (hW.cell (p := ⟨w.heap.size, 3, none⟩) (Nat.lt_succ_self _)).trans (RB.out.at.2.1 3)⟩
  have hI : ∀ W, Below (w.heap.size + 1) R0 W → ImgIn W.heap.size W ra ca ga m := fun W hW => (hm.out.below (hB.out.trans (hW.mono (Nat.le_succ _)))).mono (Nat.le_trans hB.out.size hW.size)
  have hI1 := Hid.mk (fun W h => (hI W h).regs)
  have hI2 := Hid.mk (fun W h => (hI W h).comps)
  have hI3 := Hid.mk (fun W h => (hI W h).gates)
  replace KS := Hid.mk KS
  clear hI
  (go_region_held3 (fun W => W.cell? ⟨w.heap.size, 0, none⟩ = some (.slice ra m.regs.length rc) ∧ W.cell? ⟨w.heap.size, 1, none⟩ = some (.slice ca m.comps.length cc) ∧ W.cell? ⟨w.heap.size, 2, none⟩ = some (.slice ga m.gates.length gc) ∧ W.cell? ⟨w.heap.size, 3, none⟩ = some (.int .i64 m.depth)) (first | (refine KS.out _ ?_; ((repeat (first | assumption | with_reducible exact Below.refl _ _ | with_reducible refine Below.drew ?_))); done) | exact KS.out _ (Below.setCell (p := ⟨w.heap.size + 1, 3, none⟩) (Below.setCell (p := ⟨w.heap.size + 1, 2, none⟩) (Below.setCell (p := ⟨w.heap.size + 1, 1, none⟩) (Below.setCell (p := ⟨w.heap.size + 1, 0, none⟩) (by assumption) (Nat.le_refl _) _) (Nat.le_refl _) _) (Nat.le_refl _) _) (Nat.le_refl _) _) | exact KS.out _ (Below.drew (Below.setCell (p := ⟨w.heap.size + 1, 3, none⟩) (Below.setCell (p := ⟨w.heap.size + 1, 2, none⟩) (Below.setCell (p := ⟨w.heap.size + 1, 1, none⟩) (Below.setCell (p := ⟨w.heap.size + 1, 0, none⟩) (by assumption) (Nat.le_refl _) _) (Nat.le_refl _) _) (Nat.le_refl _) _) (Nat.le_refl _) _))) (first | (go_at_call 18; refine (hC1 _ (hI1.out _ (by ((repeat (first | assumption | with_reducible exact Below.refl _ _ | with_reducible refine Below.drew ?_)))))).mono ?_; rintro x w1 ⟨v, rfl, s1, hO1, hE1, hb1⟩; obtain ⟨ra2, rc2, rfl⟩ := own_slice hO1; have d1 : Below R0.heap.size R0 w1 := step_below2 (by ((repeat (first | assumption | with_reducible exact Below.refl _ _ | with_reducible refine Below.drew ?_)))) (Nat.le_refl _) hb1; have b1 : Below (w.heap.size + 1) R0 w1 := d1.mono hn1) | (go_at_call 20; refine (hC2 _ (hI2.out _ (by ((repeat (first | assumption | with_reducible exact Below.refl _ _ | with_reducible refine Below.drew ?_)))))).mono ?_; rintro x w2 ⟨v, rfl, s2, hO2, hE2, hb2⟩; obtain ⟨ca2, cc2, rfl⟩ := own_slice hO2; have d2 : Below R0.heap.size R0 w2 := step_below2 (by ((repeat (first | assumption | with_reducible exact Below.refl _ _ | with_reducible refine Below.drew ?_)))) (Nat.le_refl _) hb2; have b2 : Below (w.heap.size + 1) R0 w2 := d2.mono hn1) | (go_at_call 22; refine (hC3 _ (hI3.out _ (by ((repeat (first | assumption | with_reducible exact Below.refl _ _ | with_reducible refine Below.drew ?_)))))).mono ?_; rintro x w3 ⟨v, rfl, s3, hO3, hE3, hb3⟩; obtain ⟨ga2, gc2, rfl⟩ := own_slice hO3; have d3 : Below R0.heap.size R0 w3 := step_below2 (by ((repeat (first | assumption | with_reducible exact Below.refl _ _ | with_reducible refine Below.drew ?_)))) (Nat.le_refl _) hb3; have b3 : Below (w.heap.size + 1) R0 w3 := d3.mono hn1; have ⟨z1, p1, f1⟩ := (X.out.below d3 X.out.lt).at)))
  all_goals
    go_wp2_with fail
    have X2 := X.out.below d3 X.out.lt
    have g2 := grown_of hb2 none
    have g3 := grown_of hb3 none
    have e1 : w.heap.size ≤ w1.heap.size := Nat.le_trans hB.out.size d1.size
    have e2 : w.heap.size ≤ w2.heap.size := Nat.le_trans hB.out.size d2.size
    have hm1 : ImgOwn w.heap.size w3 (.slice ra2 m.regs.length rc2) (.slice ca2 m.comps.length cc2) (.slice ga2 m.gates.length gc2) m :=
      ⟨⟨s1, own_base (own_below (own_below hO1 hb2) hb3) hB.out.size, ((hE1.imp fun _ _ q => q.step g2 (nes_none _)).imp fun _ _ q => q.step g3 (nes_none _)).imp fun _ _ q => q.base hB.out.size⟩,
       ⟨s2, own_base (own_below hO2 hb3) e1, (hE2.imp fun _ _ q => q.step g3 (nes_none _)).imp fun _ _ q => q.base e1⟩,
       ⟨s3, own_base hO3 e2, hE3.imp fun _ _ q => q.base e2⟩⟩
    have B2 := hB.out.trans (d3.mono hB.out.size)
    have b4 : Box (((((w3).setCell ⟨(w.heap.size + 1), 0, none⟩ (.slice ra2 m.regs.length rc2)).setCell ⟨(w.heap.size + 1), 1, none⟩ (.slice ca2 m.comps.length cc2)).setCell ⟨(w.heap.size + 1), 2, none⟩ (.slice ga2 m.gates.length gc2)).setCell ⟨(w.heap.size + 1), 3, none⟩ (.int .i64 m.depth)) (w.heap.size + 1) #[.slice ra2 m.regs.length rc2, .slice ca2 m.comps.length cc2, .slice ga2 m.gates.length gc2, .int .i64 m.depth] 26 := Box.setRow X2 [.slice ra2 m.regs.length rc2, .slice ca2 m.comps.length cc2, .slice ga2 m.gates.length gc2, .int .i64 m.depth] rfl
    have B4 : Below w.heap.size w (((((w3).setCell ⟨(w.heap.size + 1), 0, none⟩ (.slice ra2 m.regs.length rc2)).setCell ⟨(w.heap.size + 1), 1, none⟩ (.slice ca2 m.comps.length cc2)).setCell ⟨(w.heap.size + 1), 2, none⟩ (.slice ga2 m.gates.length gc2)).setCell ⟨(w.heap.size + 1), 3, none⟩ (.int .i64 m.depth)) := below_row [.slice ra2 m.regs.length rc2, .slice ca2 m.comps.length cc2, .slice ga2 m.gates.length gc2, .int .i64 m.depth] B2 (by omega)
    have O4 : ImgOwn w.heap.size (((((w3).setCell ⟨(w.heap.size + 1), 0, none⟩ (.slice ra2 m.regs.length rc2)).setCell ⟨(w.heap.size + 1), 1, none⟩ (.slice ca2 m.comps.length cc2)).setCell ⟨(w.heap.size + 1), 2, none⟩ (.slice ga2 m.gates.length gc2)).setCell ⟨(w.heap.size + 1), 3, none⟩ (.int .i64 m.depth)) (.slice ra2 m.regs.length rc2) (.slice ca2 m.comps.length cc2) (.slice ga2 m.gates.length gc2) m := ImgOwn.row (by decide) [.slice ra2 m.regs.length rc2, .slice ca2 m.comps.length cc2, .slice ga2 m.gates.length gc2, .int .i64 m.depth] hm1 X2
    have ⟨_, q4, _⟩ := b4.at
    clear z1 p1 f1 RB X hB b4 X2 hm1 B2
    generalize ((((w3).setCell ⟨(w.heap.size + 1), 0, none⟩ (.slice ra2 m.regs.length rc2)).setCell ⟨(w.heap.size + 1), 1, none⟩ (.slice ca2 m.comps.length cc2)).setCell ⟨(w.heap.size + 1), 2, none⟩ (.slice ga2 m.gates.length gc2)).setCell ⟨(w.heap.size + 1), 3, none⟩ (.int .i64 m.depth) = W4 at *
    simp [bodyPost, results, Tryd.results6, go_sem, q4]
    exact ⟨ra2, rc2, ca2, cc2, ga2, gc2, ⟨⟨rfl, rfl⟩, ⟨rfl, rfl⟩, rfl, rfl⟩, O4, B4⟩
end Go.Proofs.YtcljibdikhpnlaaDoor
