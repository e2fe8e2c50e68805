/-
  Stage 4, image: Right.
-/
import Derived.Test.YthmfaafpdogpdaaDoorMRegs
import Derived.Test.YthmfaafpdogpdaaDoorMComps
namespace Go.Proofs.YthmfaafpdogpdaaDoor
open Go.RowKit

set_option maxHeartbeats 2000000 in
theorem imgRight_any (m : PImg) (ra ca ga : Option Addr) (rc cc gc : Nat) (w : World) (ht : TabIn w) (hm : ImgIn w.heap.size w ra ca ga m) (hr : m.Rng) :
    Calls Tryd.prog 16 #[.agg #[.slice ra m.regs.length rc, .slice ca m.comps.length cc, .slice ga m.gates.length gc, .int .i64 m.depth]] w fun x w' => x = .returned (.int .i64 m.right) ∧ Gr w w' := by
  have h1 := countsRight_any m.depth ra ca ga m.regs.length rc m.comps.length cc m.gates.length gc
  have h2 := fun W (h : RegIn W.heap.size W ra m.regs) => regionsRight_any m.regs rc ra W h hr.regs.2 hr.regs.1
  have h3 := fun W (h0 : TabIn W) (h : CompIn W.heap.size W ca m.comps) => compsRight_any m ra ca ga m.regs.length rc cc gc W h0 h hr.comps hr.gates.1
  have h4 := fun W (h : CompIn W.heap.size W ca m.comps) (h' : GateIn W.heap.size W ga m.gates) => gatesRight_any m ra ca ga m.regs.length rc cc gc W h h' hr.gates
  unfold PImg.right
  generalize countsB m.regs.length m.comps.length m.gates.length m.depth = q1 at *
  generalize regsR m.regs 0 = q2 at *
  generalize compsR m.gates.length m.comps = q3 at *
  generalize gatesR m.comps m.gates = q4 at *
  have hI : ∀ W, Gr w W → ImgIn W.heap.size W ra ca ga m := fun W h => (hm.below h.below).mono (gr_size h)
  have hT : ∀ W, Gr w W → TabIn W := fun W h => ht.gr h
  replace hI := Hid.mk hI
  replace hT := Hid.mk hT
  clear hm hr
  cases q1
  · go_enter Tryd.func16, Tryd.ntmps16
    go_wp2_with fail
    refine (h1 _).mono ?_
    rintro x w1 ⟨rfl, hG⟩
    replace hG := hG.of_alloc
    go_wp2_with fail
    go_ret
    exact ⟨rfl, hG⟩
  rw [if_pos rfl]
  generalize hR : (if q2 = 0 then (if q3 = 0 then q4 else q3) else q2) = R
  replace hR := Hid.mk hR
  go_enter Tryd.func16, Tryd.ntmps16
  go_wp2_with fail
  refine (h1 _).mono ?_
  rintro x w1 ⟨rfl, hG⟩
  have A0 : At w1 w.heap.size #[.slice ra m.regs.length rc, .slice ca m.comps.length cc, .slice ga m.gates.length gc, .int .i64 m.depth] := (At.new _ _ _).gr hG
  replace hG := hG.of_alloc
  have ⟨z0, p0, _⟩ := A0
  go_wp2_with fail
  refine (h2 _ (hI.out _ hG).regs).mono ?_
  rintro x w2 ⟨rfl, hG2⟩
  clear z0 p0
  replace A0 := A0.gr hG2
  replace hG := hG.trans hG2
  clear hG2
  have ⟨z0, p0, _⟩ := A0
  by_cases e2 : q2 = 0
  · have e2' : (q2 != 0) = false := by simpa using e2
    replace e2 := Hid.mk e2
    go_wp2_with fail
    refine (h3 _ (hT.out _ hG) (hI.out _ hG).comps).mono ?_
    rintro x w3 ⟨rfl, hG2⟩
    clear z0 p0
    replace A0 := A0.gr hG2
    replace hG := hG.trans hG2
    clear hG2
    have ⟨z0, p0, _⟩ := A0
    by_cases e3 : q3 = 0
    · have e3' : (q3 != 0) = false := by simpa using e3
      replace e3 := Hid.mk e3
      go_wp2_with fail
      refine (h4 _ (hI.out _ hG).comps (hI.out _ hG).gates).mono ?_
      rintro x w4 ⟨rfl, hG2⟩
      replace hG := hG.trans hG2
      go_wp2_with fail
      go_ret
      exact ⟨retI (by rw [← hR.out, if_pos e2.out, if_pos e3.out]), hG⟩
    · have e3' : (q3 != 0) = true := by simpa using e3
      replace e3 := Hid.mk e3
      go_wp2_with fail
      go_ret
      exact ⟨retI (by rw [← hR.out, if_pos e2.out, if_neg e3.out]), hG⟩
  · have e2' : (q2 != 0) = true := by simpa using e2
    replace e2 := Hid.mk e2
    go_wp2_with fail
    go_ret
    exact ⟨retI (by rw [← hR.out, if_neg e2.out]), hG⟩
end Go.Proofs.YthmfaafpdogpdaaDoor
