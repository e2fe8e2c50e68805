import Derived.Test.YtdmkedpnkejpbaaDoorP20
import Derived.Test.YtdmkedpnkejpbaaDoorP47
import Derived.Test.YtdmkedpnkejpbaaDoorMSameC
/-
  Stage 4, image: the walk of the statement on Decode of any bytes.
-/
namespace Go.Proofs.YtdmkedpnkejpbaaDoor
open Go.RowKit

theorem zImg_rng : zImg.Rng := by
  have h := imgP_rng [] (by simp)
  have e : imgP [] = (zImg, ⟨0, 40, 0⟩) := if_neg (by decide)
  rw [e] at h
  exact h
theorem decI_rng (S : List UInt8) : (decI S).1.Rng := by
  unfold decI
  split
  · exact zImg_rng
  · split
    · split
      · exact imgP_rng S (by omega)
      · exact zImg_rng
    · exact zImg_rng
set_option maxRecDepth 10000 in
set_option maxHeartbeats 4000000 in
theorem walk_ImageDecode (S : List UInt8) (w : World) (ht : TabIn w) (_ : S.length ≤ maxLen) :
    Calls Tryd.prog 3 #[.string (str S)] w fun x w' => x = .returned (.bool true) ∧ Below w.heap.size w w' := by
  have hE := fun W (h0 : TabIn W) => examples_any W h0
  have hD := fun W (h0 : TabIn W) => imgDecode_any S W h0
  have hF := fun W => ddecode_any S W
  have hr := decI_rng S
  have hsz := ht.size
  have hT : ∀ W, Below w.heap.size w W → TabIn W := fun W h => ht.below h hsz
  replace hT := Hid.mk hT
  generalize decI S = d at *
  obtain ⟨m, e, p⟩ := d
  simp only at hr
  have hq : m.eqB m = true := (PImg.eqB_iff m m).2 rfl
  have hS := fun ra ca ga ra' ca' ga' rc cc gc rc' cc' gc' W h1 h2 => same_any m m ra ca ga ra' ca' ga' rc cc gc rc' cc' gc' W h1 h2 hr
  rw [hq] at hS
  clear hq hr ht
  go_enter Tryd.func3, Tryd.ntmps3
  go_wp2_with fail
  refine (hE _ (hT.out _ (Below.refl _ _))).mono ?_
  rintro x w1 ⟨rfl, hB⟩
  have ht1 := hT.out _ hB
  replace hB := Hid.mk hB
  go_wp2_with fail
  refine (hD _ ht1).mono ?_
  rintro x w2 ⟨ra, rc, ca, cc, ga, gc, rfl, hO, hB2⟩
  replace hB := Hid.mk (hB.out.trans (hB2.mono hB.out.size))
  replace hO := Hid.mk hO
  go_upto_region 3 with fail
  replace hO := hO.out
  have hG : Gr w2 (w2.alloc (.cells #[.slice ra m.regs.length rc, .slice ca m.comps.length cc, .slice ga m.gates.length gc, .int .i64 m.depth] 27)) := (Gr.refl w2).alloc _
  have M := Box.new w2 #[.slice ra m.regs.length rc, .slice ca m.comps.length cc, .slice ga m.gates.length gc, .int .i64 m.depth] 27
  replace hO := hO.step (grown_of hG.below none) (ne7_none _)
  replace hB := Hid.mk (hB.out.trans (hG.below.mono hB.out.size))
  generalize w2.alloc (.cells #[.slice ra m.regs.length rc, .slice ca m.comps.length cc, .slice ga m.gates.length gc, .int .i64 m.depth] 27) = w3 at *
  generalize w2.heap.size = k1 at *
  replace M := Hid.mk M
  replace hO := Hid.mk hO
  clear hG hB2 ht1 hD hE
  go_wp2_with fail
  refine (hF _).mono ?_
  rintro x w4 ⟨ra', rc', ca', cc', ga', gc', rfl, hP, hB4⟩
  replace M := M.out.below hB4 M.out.lt
  replace hO := hO.out.step (grown_of hB4 none) (ne7_none _)
  replace hB := Hid.mk (hB.out.trans (hB4.mono hB.out.size))
  replace hO := Hid.mk hO
  replace hP := Hid.mk hP
  replace M := Hid.mk M
  go_upto_region 4 with fail
  replace hO := hO.out
  replace hP := hP.out
  replace M := M.out
  have hG : Gr w4 (w4.alloc (.cells #[.slice ra' m.regs.length rc', .slice ca' m.comps.length cc', .slice ga' m.gates.length gc', .int .i64 m.depth] 27)) := (Gr.refl w4).alloc _
  have M2 := Box.new w4 #[.slice ra' m.regs.length rc', .slice ca' m.comps.length cc', .slice ga' m.gates.length gc', .int .i64 m.depth] 27
  replace M := M.gr hG
  replace hO := hO.step (grown_of hG.below none) (ne7_none _)
  replace hP := hP.step (grown_of hG.below none) (ne7_none _)
  replace hB := Hid.mk (hB.out.trans (hG.below.mono hB.out.size))
  generalize w4.alloc (.cells #[.slice ra' m.regs.length rc', .slice ca' m.comps.length cc', .slice ga' m.gates.length gc', .int .i64 m.depth] 27) = w5 at *
  generalize w4.heap.size = k2 at *
  have ⟨z0, p0, f0⟩ := M.at
  have ⟨z1, p1, f1⟩ := M2.at
  have hI := hO.into
  have hJ := hP.into
  clear hG hB4 hF M M2 hO hP
  replace hI := Hid.mk hI
  replace hJ := Hid.mk hJ
  go_wp2_with fail
  refine (hS _ _ _ _ _ _ _ _ _ _ _ _ _ hI.out hJ.out).mono ?_
  rintro x w6 ⟨rfl, hG6⟩
  replace hB := Hid.mk (hB.out.trans (hG6.below.mono hB.out.size))
  clear hG6 hS hI hJ z0 p0 f0 z1 p1 f1
  go_wp2_with fail
  go_ret
  exact ⟨rfl, hB.out⟩
end Go.Proofs.YtdmkedpnkejpbaaDoor
