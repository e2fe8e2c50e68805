/-
  Stage 4, image: the walk of the statement that what is read is written so.
-/
import Derived.Test.YthmfaafpdogpdaaDoorMEx
import Derived.Test.YthmfaafpdogpdaaDoorMRdE
import Derived.Test.YthmfaafpdogpdaaDoorMAgM
namespace Go.Proofs.YthmfaafpdogpdaaDoor
open Go.RowKit

set_option maxRecDepth 10000 in
set_option maxHeartbeats 4000000 in
theorem walk_ImageAgain (S : List UInt8) (w : World) (ht : TabIn w) (_ : S.length ≤ maxLen) :
    Calls Tryd.prog 4 #[.string (str S)] w fun x w' => x = .returned (.bool true) ∧ Below w.heap.size w w' := by
  have ss := str_size S
  have hE := fun W (h0 : TabIn W) => examples_any W h0
  have hD := fun W (h0 : TabIn W) => imgDecode_any S W h0
  have hpl := decI_place S
  have hsz := ht.size
  have hT : ∀ W, Below w.heap.size w W → TabIn W := fun W h => ht.below h hsz
  replace hT := Hid.mk hT
  by_cases hok : (decI S).2.1 = 0
  · obtain ⟨hd, hr, he⟩ := decI_ok hok
    rw [hd] at hD
    have hlen : (imgP S).1.Rng := imgP_rng S (by
      have h1 : encI (imgP S).1 = (S, 0) := he
      unfold encI at h1
      rw [if_pos hr] at h1
      split at h1
      · have := congrArg Prod.fst h1
        simp only at this
        rw [← this]
        omega
      · have := congrArg Prod.snd h1
        simp at this)
    generalize (imgP S).1 = m at *
    have hR := fun ra ca ga rc cc gc W (h0 : TabIn W) h1 => imgRight_any m ra ca ga rc cc gc W h0 h1 hlen
    have hN := fun ra ca ga rc cc gc W (h0 : TabIn W) h1 => imgEncode_any m ra ca ga rc cc gc W h0 h1 hlen
    rw [hr] at hR
    rw [he] at hN
    clear hpl hok hd hr he hlen ht
    go_enter Tryd.func4, Tryd.ntmps4
    go_wp2_with fail
    refine (hE _ (hT.out _ (Below.refl _ _))).mono ?_
    rintro x w1 ⟨rfl, hB⟩
    have ht1 := hT.out _ hB
    replace hB := Hid.mk hB
    go_wp2_with fail
    refine (hD _ ht1).mono ?_
    rintro x w2 ⟨ra, rc, ca, cc, ga, gc, rfl, hO, hB2⟩
    replace hB := Hid.mk (hB.out.trans (hB2.mono hB.out.size))
    have hG : Gr w2 (w2.alloc (.cells #[.slice ra m.regs.length rc, .slice ca m.comps.length cc, .slice ga m.gates.length gc, .int .i64 m.depth] 41)) := (Gr.refl w2).alloc _
    have M := Box.new w2 #[.slice ra m.regs.length rc, .slice ca m.comps.length cc, .slice ga m.gates.length gc, .int .i64 m.depth] 41
    replace hO := hO.step (grown_of hG.below none) (ne7_none _)
    replace hB := Hid.mk (hB.out.trans (hG.below.mono hB.out.size))
    have ht3 := hT.out _ hB.out
    have hI := hO.into
    replace M := Hid.mk M
    replace hO := Hid.mk hO
    clear hG hB2 ht1 hD hE
    go_wp2_with fail
    refine (hR _ _ _ _ _ _ _ ht3 hI).mono ?_
    rintro x w4 ⟨rfl, hG4⟩
    replace M := M.out.gr hG4
    replace hO := hO.out.step (grown_of hG4.below none) (ne7_none _)
    replace hB := Hid.mk (hB.out.trans (hG4.below.mono hB.out.size))
    have ⟨z0, p0, f0⟩ := M.at
    have ht4 := hT.out _ hB.out
    replace hI := hO.into
    replace M := Hid.mk M
    replace hO := Hid.mk hO
    clear hG4 hR ht3
    go_wp2_with fail
    refine (hN _ _ _ _ _ _ _ ht4 hI).mono ?_
    rintro x w5 ⟨rfl, hB5⟩
    replace hB := Hid.mk (hB.out.trans (hB5.mono hB.out.size))
    clear hB5 hN ht4 hI z0 p0 f0
    go_wp2_with fail
    go_ret
    exact ⟨rfl, hB.out⟩
  · have hz := decI_bad hok
    generalize hdd : decI S = d at *
    obtain ⟨m, e, p⟩ := d
    simp only at hz hok hpl
    subst hz
    have he' : (e != 0) = true := by simpa using hok
    have q1 : ¬ p < 0 := by omega
    have q2 : ¬ (S.length : Int) < p := by omega
    replace hok := Hid.mk hok
    replace hpl := Hid.mk hpl
    clear hdd ht
    go_enter Tryd.func4, Tryd.ntmps4
    go_wp2_with fail
    refine (hE _ (hT.out _ (Below.refl _ _))).mono ?_
    rintro x w1 ⟨rfl, hB⟩
    have ht1 := hT.out _ hB
    replace hB := Hid.mk hB
    go_wp2_with fail
    refine (hD _ ht1).mono ?_
    rintro x w2 ⟨ra, rc, ca, cc, ga, gc, rfl, hO, hB2⟩
    replace hB := Hid.mk (hB.out.trans (hB2.mono hB.out.size))
    have hG : Gr w2 (w2.alloc (.cells #[.slice ra 0 rc, .slice ca 0 cc, .slice ga 0 gc, .int .i64 0] 41)) := (Gr.refl w2).alloc _
    have M := Box.new w2 #[.slice ra 0 rc, .slice ca 0 cc, .slice ga 0 gc, .int .i64 0] 41
    replace hB := Hid.mk (hB.out.trans (hG.below.mono hB.out.size))
    have ⟨z0, p0, f0⟩ := M.at
    clear hG hB2 ht1 hD hE hO
    replace M := Hid.mk M
    unfold zImg
    go_wp2_with fail
    go_ret
    exact ⟨rfl, hB.out⟩
end Go.Proofs.YthmfaafpdogpdaaDoor
