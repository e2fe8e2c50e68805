/-
  Stage 9, regtype: the program's Under.
-/
import Derived.Test.YtbbpbfbifgfjdaaRProB
import Derived.Test.YtbbpbfbifgfjdaaSSet
import Derived.Deep.RegionWith
namespace Go.Proofs.Ytbbpbfbifgfjdaa
namespace R
open Go.RowKit

theorem cut_rule {X Y : Prop} (h : T.Hid X → Y) (x : X) : Y := h ⟨x⟩
def undRT (a b : RT) : Bool := decide (b.k = 0) || (decide (a.k = b.k) && inB a.n.lo a.n.hi b.n.lo b.n.hi && inB a.b.lo a.b.hi b.b.lo b.b.hi && inB a.e.lo a.e.hi b.e.lo b.e.hi && inB a.p.lo a.p.hi b.p.lo b.p.hi && amI b.mu a.mu && amI a.ma b.ma && swB a.s b.s)
theorem no_ok : Sp.no.ok := by unfold Sp.no Sp.ok; decide
theorem und_no : inB Sp.no.lo Sp.no.hi Sp.no.lo Sp.no.hi = true := by rw [und_told no_ok]; exact Sp.und_refl _
theorem undRT_eq {a b : RV} (ha : a.ok) (hb : b.ok) : undRT a.rt b.rt = a.und b := by
  cases b with
  | any => rw [RV.und_any]; simp [undRT, RV.rt]
  | int m =>
    cases a with
    | any => simp [undRT, RV.rt, RV.und]
    | cap => simp [undRT, RV.rt, RV.und]
    | int n =>
      simp only [undRT, RV.rt, RV.und, und_no, und_told ha]
      simp [amI, swB, amg]
  | cap b2 e2 p2 mu2 ma2 s2 =>
    cases a with
    | any => simp [undRT, RV.rt, RV.und]
    | int => simp [undRT, RV.rt, RV.und]
    | cap b1 e1 p1 mu1 ma1 s1 =>
      simp only [undRT, RV.rt, RV.und, und_no, und_told ha.1, und_told ha.2.1, und_told ha.2.2.1, amI_nat, swB_eq hb.2.2.2.2.2.1]
      simp
set_option maxHeartbeats 16000000 in
theorem pUnder_any (a b : RT) (w : World) (ha : a.Rng) (hb : b.Rng) : Calls Try.prog 11 #[a.agg, b.agg] w fun x w' => x = .returned (.bool (a.nm.und b.nm)) ∧ Gr w w' := by
  have hK1 := T.Hid.mk (fun W => pKnown_any a W ha)
  have hK2 := T.Hid.mk (fun W => pKnown_any b W hb)
  rw [← undRT_eq (RT.nm_ok ha) (RT.nm_ok hb)]
  have rA := RV.rt_rng (RT.nm_ok ha)
  have rB := RV.rt_rng (RT.nm_ok hb)
  generalize a.nm.rt = A at *
  generalize b.nm.rt = B at *
  have h1 : 0 ≤ (A.mu : Int) ∧ (A.mu : Int) < 256 := by have := rA.2.2.2.2.1; omega
  have h2 : 0 ≤ (A.ma : Int) ∧ (A.ma : Int) < 256 := by have := rA.2.2.2.2.2; omega
  have h3 : 0 ≤ (B.mu : Int) ∧ (B.mu : Int) < 256 := by have := rB.2.2.2.2.1; omega
  have h4 : 0 ≤ (B.ma : Int) ∧ (B.ma : Int) < 256 := by have := rB.2.2.2.2.2; omega
  clear ha hb rA rB
  unfold undRT
  obtain ⟨k, ⟨n1, n2⟩, ⟨b1, b2⟩, ⟨e1, e2⟩, ⟨p1, p2⟩, mu, ma, s⟩ := a
  obtain ⟨k', ⟨n1', n2'⟩, ⟨b1', b2'⟩, ⟨e1', e2'⟩, ⟨p1', p2'⟩, mu', ma', s'⟩ := b
  obtain ⟨ak, ⟨an1, an2⟩, ⟨ab1, ab2⟩, ⟨ae1, ae2⟩, ⟨ap1, ap2⟩, amu, ama, asl⟩ := A
  obtain ⟨bk, ⟨bn1, bn2⟩, ⟨bb1, bb2⟩, ⟨be1, be2⟩, ⟨bp1, bp2⟩, bmu, bma, bsl⟩ := B
  simp only [RT.agg] at hK1 hK2 h1 h2 h3 h4 ⊢
  generalize (amu : Int) = amu at *
  generalize (ama : Int) = ama at *
  generalize (bmu : Int) = bmu at *
  generalize (bma : Int) = bma at *
  replace h1 := T.Hid.mk h1
  replace h2 := T.Hid.mk h2
  replace h3 := T.Hid.mk h3
  replace h4 := T.Hid.mk h4
  have L1 := grow_cell
  have L2 := grow_frozen
  have L3 := grow_set
  have L4 := grow_lt
  have L5 := glt1
  have L6 := glt2
  have L7 := glt3
  have L8 := glt4
  have L9 := lt1
  have L10 := lt2
  have L11 := lt3
  have L12 := lt4
  have L13 := lt5
  go_enter Try.func11, Try.ntmps11
  go_upto_region 1 with fail
  apply cut_rule
  · intro key
    go_region_with (first | (have _ := mk1; go_at_call 24; refine (hK2.out _).mono ?_; rintro x w' ⟨rfl, l2, rfl⟩; rw [← grow_app]; generalize _ ++ l2 = lm; clear mk1) | (go_at_call 24; refine (hK1.out _).mono ?_; rintro x w' ⟨rfl, l, rfl⟩; have mk1 := True.intro))
    · revert lm
      exact key.out
    all_goals exact key.out _
  intro lm
  clear hK1 hK2
  go_wp2_with (first | (go_at_call 27; refine (Under_any _ _ _ _ _).mono ?_; rintro x w' ⟨rfl, l, rfl⟩; (try (rw [← grow_app]; generalize _ ++ l = lm))) | (go_at_call 32; refine (pAmong_int _ _ _ (by first | exact h1.out | exact h2.out | exact h3.out | exact h4.out) (by first | exact h1.out | exact h2.out | exact h3.out | exact h4.out)).mono ?_; rintro x w' ⟨rfl, rfl⟩) | (go_at_call 33; refine (pSeal_any _ _ _).mono ?_; rintro x w' ⟨rfl, rfl⟩))
  all_goals
    go_ret
    refine ⟨ret_bool (by simp_all), ?_⟩
    repeat (first | exact Gr.refl _ | refine Gr.alloc ?_ _ | refine Gr.grow ?_ _ | refine Gr.drew ?_)
end R
end Go.Proofs.Ytbbpbfbifgfjdaa
