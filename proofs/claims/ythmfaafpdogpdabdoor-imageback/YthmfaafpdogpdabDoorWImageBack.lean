import Derived.Test.YthmfaafpdogpdabDoorP14
import Derived.Test.YthmfaafpdogpdabDoorP18
import Derived.Test.YthmfaafpdogpdabDoorP19
import Derived.Test.YthmfaafpdogpdabDoorP22
import Derived.Laws.Concat
/-
  Stage 4, image: the walk of the stage's theorem: what is written is read as it was.
-/
namespace Go.Proofs.YthmfaafpdogpdabDoor
open Go.RowKit
theorem add_str (A B : List UInt8) (h : A.length + B.length ≤ 9223372036854775807) (W : World) : (Op.stringOp .add (str A) (str B)).run Tryd.prog W = .ok (.string (str (A ++ B))) W := by
  have := run_string_add_sum (P := Tryd.prog) (w := W) (str A) (str B) (by rw [str_size, str_size]; exact h)
  rw [this]
  congr 2
theorem right_fits {m : PImg} (h : m.right = 0) (hR : m.Rng) : m.Fits := by
  have hp := rightParts h
  have n1 := hp.n1; have n2 := hp.n2; have n3 := hp.n3
  refine ⟨⟨by unfold Fit; omega, fun r hr => ?_⟩, ⟨by unfold Fit; omega, fun c hc => ?_⟩, ⟨by unfold Fit; omega, fun g hg => ?_⟩⟩
  · have hx := hR.regs.2 r hr
    obtain ⟨_, hn, hc, _, _⟩ := regsR_all hp.regs (by omega) r hr
    refine ⟨hx.2.2.1, ?_⟩
    have hb := hx.1
    unfold W64 at hb
    unfold contentB at hc
    split at hc
    · rw [Bool.and_eq_true] at hc
      have : r.n = 16 * (r.slots.length : Int) := by simpa using hc.2
      unfold Fit
      omega
    · unfold Fit; omega
  · obtain ⟨hr, _, hl⟩ := compsR_all hp.comps c hc
    obtain ⟨_, q⟩ := rootsR_all hr (by omega)
    refine ⟨?_, by unfold Fit; omega⟩
    rcases q with q | q
    · rw [q]; unfold Fit; simp
    · unfold Fit; omega
  · obtain ⟨_, h1, h2, _, _⟩ := gatesR_all hp.gates g hg
    exact ⟨by unfold Fit; omega, by unfold Fit; omega⟩
set_option maxRecDepth 100000 in
set_option maxHeartbeats 8000000 in
theorem walk_ImageBack (m : PImg) (ra ca ga : Option Addr) (rc cc gc : Nat) (w : World) (ht : TabIn w) (hm : ImgIn w.heap.size w ra ca ga m) (hr : m.Rng) :
    Calls Tryd.prog 3 #[.agg #[.slice ra m.regs.length rc, .slice ca m.comps.length cc, .slice ga m.gates.length gc, .int .i64 m.depth]] w fun x w' => x = .returned (.bool true) ∧ Below w.heap.size w w' := by
  have hE := fun W (h0 : TabIn W) => examples_any W h0
  have hR := fun W h0 h1 => imgRight_any m ra ca ga rc cc gc W h0 h1 hr
  have hN := fun W h0 h1 => imgEncode_any m ra ca ga rc cc gc W h0 h1 hr
  have hsz := ht.size
  have hT : ∀ W, Below w.heap.size w W → TabIn W := fun W h => ht.below h hsz
  have hI : ∀ W, Below w.heap.size w W → ImgIn W.heap.size W ra ca ga m := fun W h => (hm.below h).mono h.size
  have hB := Hid.mk ((Gr.refl w).alloc (.cells #[.slice ra m.regs.length rc, .slice ca m.comps.length cc, .slice ga m.gates.length gc, .int .i64 m.depth] 26)).below
  have M := Hid.mk (Box.new w #[.slice ra m.regs.length rc, .slice ca m.comps.length cc, .slice ga m.gates.length gc, .int .i64 m.depth] 26)
  replace hT := Hid.mk hT
  replace hI := Hid.mk hI
  clear ht hm
  by_cases h0 : m.right = 0
  case neg =>
    have e1 : encI m = ([], m.right) := by unfold encI; rw [if_neg h0]
    rw [e1] at hN
    simp only [str_nil] at hN
    have g1 : (m.right != 0) = true := by simpa using h0
    generalize m.right = q at *
    replace h0 := Hid.mk h0
    clear hr e1
    go_enter Tryd.func3, Tryd.ntmps3
    go_wp2_with fail
    refine (hE _ (hT.out _ hB.out)).mono ?_
    rintro x w1 ⟨rfl, hB1⟩
    replace M := M.out.below hB1 M.out.lt
    replace hB := Hid.mk (hB.out.trans (hB1.mono hB.out.size))
    have ⟨z0, p0, f0⟩ := M.at
    replace M := Hid.mk M
    clear hB1 hE
    go_wp2_with fail
    clear z0 p0 f0
    refine (hR _ (hT.out _ hB.out) (hI.out _ hB.out)).mono ?_
    rintro x w2 ⟨rfl, hG2⟩
    replace M := M.out.gr hG2
    replace hB := Hid.mk (hB.out.trans (hG2.below.mono hB.out.size))
    have ⟨z0, p0, f0⟩ := M.at
    replace M := Hid.mk M
    clear hG2 hR
    go_wp2_with fail
    clear z0 p0 f0
    refine (hN _ (hT.out _ hB.out) (hI.out _ hB.out)).mono ?_
    rintro x w3 ⟨rfl, hB3⟩
    replace M := M.out.below hB3 M.out.lt
    replace hB := Hid.mk (hB.out.trans (hB3.mono hB.out.size))
    have ⟨z0, p0, f0⟩ := M.at
    replace M := Hid.mk M
    clear hB3 hN
    go_wp2_with fail
    go_ret
    exact ⟨rfl, hB.out⟩
  rw [h0] at hR
  by_cases hl : (imgB m).length ≤ 40000
  case neg =>
    have e1 : encI m = ([], 42) := by unfold encI; rw [if_pos h0, if_neg hl]
    rw [e1] at hN
    simp only [str_nil] at hN
    clear hr e1 hl
    replace h0 := Hid.mk h0
    go_enter Tryd.func3, Tryd.ntmps3
    go_wp2_with fail
    refine (hE _ (hT.out _ hB.out)).mono ?_
    rintro x w1 ⟨rfl, hB1⟩
    replace M := M.out.below hB1 M.out.lt
    replace hB := Hid.mk (hB.out.trans (hB1.mono hB.out.size))
    have ⟨z0, p0, f0⟩ := M.at
    replace M := Hid.mk M
    clear hB1 hE
    go_wp2_with fail
    clear z0 p0 f0
    refine (hR _ (hT.out _ hB.out) (hI.out _ hB.out)).mono ?_
    rintro x w2 ⟨rfl, hG2⟩
    replace M := M.out.gr hG2
    replace hB := Hid.mk (hB.out.trans (hG2.below.mono hB.out.size))
    have ⟨z0, p0, f0⟩ := M.at
    replace M := Hid.mk M
    clear hG2 hR
    go_wp2_with fail
    clear z0 p0 f0
    refine (hN _ (hT.out _ hB.out) (hI.out _ hB.out)).mono ?_
    rintro x w3 ⟨rfl, hB3⟩
    replace M := M.out.below hB3 M.out.lt
    replace hB := Hid.mk (hB.out.trans (hB3.mono hB.out.size))
    have ⟨z0, p0, f0⟩ := M.at
    replace M := Hid.mk M
    clear hB3 hN
    go_wp2_with fail
    go_ret
    exact ⟨rfl, hB.out⟩
  have e1 : encI m = (imgB m, 0) := by unfold encI; rw [if_pos h0, if_pos hl]
  have hD1 := fun W h1 => imgDecode_any (imgB m) W h1
  have hD2 := fun W h1 => imgDecode_any ((imgB m).take ((imgB m).length - 1)) W h1
  have hD3 := fun W h1 => imgDecode_any (imgB m ++ [0]) W h1
  have hC := fun W h1 => Copy_any m ra ca ga rc cc gc W h1 (right_fits h0 hr)
  have hN2 := fun a b c d e f W h1 h2 => imgEncode_any m a b c d e f W h1 h2 hr
  have hS := fun a b c d e f W h1 h2 => same_any m m ra ca ga a b c rc cc gc d e f W h1 h2 hr
  rw [decI_back h0 hr hl] at hD1
  rw [decI_cut h0 hr hl] at hD2
  rw [(PImg.eqB_iff m m).2 rfl] at hS
  have hmore : (imgB m).length < 40000 → decI (imgB m ++ [0]) = (zImg, (49 : Int), ((imgB m).length : Int)) := fun h => decI_more h0 hr h 0
  have hpos : 6 < (imgB m).length := by rw [imgB_body h0]; simp [magicB, bodyB, leB_length]; omega
  rw [e1] at hN hN2
  have ss := str_size (imgB m)
  have hex := extract_any (imgB m) 0 ((imgB m).length - 1)
  rw [List.drop_zero] at hex
  have had := fun W => add_str (imgB m) [0] (by simp; omega) W
  clear e1 h0 hr
  generalize imgB m = S at *
  have hl2 : (S.length : Int) ≤ 40000 := by omega
  have k1 : IntKind.i64.wrap ((S.length : Int) - 1) = (S.length : Int) - 1 := by rw [IntKind.wrap_i64]; omega
  have k2 : (0 : Int) ≤ (S.length : Int) - 1 := by omega
  have k3 : ((S.length : Int) - 1) ≤ S.length := by omega
  have k4 : ((S.length : Int) - 1).toNat = S.length - 1 := by omega
  have k5 : (((S.length - 1 : Nat) : Int)) = (S.length : Int) - 1 := by omega
  rw [k5] at hD2
  generalize S.take (S.length - 1) = S1 at *
  have hcat : str (S ++ [0]) = str S ++ ⟨#[0]⟩ := by rw [str, str]; rfl
  rw [hcat] at hD3
  generalize S ++ [0] = S2 at *
  clear hcat had
  go_enter Tryd.func3, Tryd.ntmps3
  go_wp2_with fail
  refine (hE _ (hT.out _ hB.out)).mono ?_
  rintro x w1 ⟨rfl, hB1⟩
  replace M := M.out.below hB1 M.out.lt
  replace hB := Hid.mk (hB.out.trans (hB1.mono hB.out.size))
  have ⟨z0, p0, f0⟩ := M.at
  replace M := Hid.mk M
  clear hB1 hE
  go_wp2_with fail
  clear z0 p0 f0
  refine (hR _ (hT.out _ hB.out) (hI.out _ hB.out)).mono ?_
  rintro x w2 ⟨rfl, hG2⟩
  replace M := M.out.gr hG2
  replace hB := Hid.mk (hB.out.trans (hG2.below.mono hB.out.size))
  have ⟨z0, p0, f0⟩ := M.at
  replace M := Hid.mk M
  clear hG2 hR
  go_wp2_with fail
  clear z0 p0 f0
  refine (hN _ (hT.out _ hB.out) (hI.out _ hB.out)).mono ?_
  rintro x w3 ⟨rfl, hB3⟩
  replace M := M.out.below hB3 M.out.lt
  replace hB := Hid.mk (hB.out.trans (hB3.mono hB.out.size))
  have ⟨z0, p0, f0⟩ := M.at
  replace M := Hid.mk M
  clear hB3 hN
  go_wp2_with fail
  refine (hD1 _ (hT.out _ hB.out)).mono ?_
  rintro x w4 ⟨n1, n4, n2, n5, n3, n6, rfl, hO, hB4⟩
  replace M := M.out.below hB4 M.out.lt
  replace hB := Hid.mk (hB.out.trans (hB4.mono hB.out.size))
  have hG5 : Gr w4 (w4.alloc (.cells #[.slice n1 m.regs.length n4, .slice n2 m.comps.length n5, .slice n3 m.gates.length n6, .int .i64 m.depth] 26)) := (Gr.refl w4).alloc _
  replace M := M.gr hG5
  replace hB := Hid.mk (hB.out.trans (hG5.below.mono hB.out.size))
  replace hO := hO.step (grown_of hG5.below none) (ne7_none _)
  have NB := Box.new w4 #[.slice n1 m.regs.length n4, .slice n2 m.comps.length n5, .slice n3 m.gates.length n6, .int .i64 m.depth] 26
  clear z0 p0 f0 hB4 hG5 hD1
  have ⟨z0, p0, f0⟩ := M.at
  have ⟨z1, p1, f1⟩ := NB.at
  have hOI := hO.into
  have c1 := hS n1 n2 n3 n4 n5 n6 _ (hI.out _ hB.out) hOI
  replace M := Hid.mk M
  replace NB := Hid.mk NB
  replace hO := Hid.mk hO
  clear hS
  go_wp2_with fail
  refine c1.mono ?_
  rintro x w6 ⟨rfl, hG6⟩
  replace M := M.out.gr hG6
  replace NB := NB.out.gr hG6
  replace hB := Hid.mk (hB.out.trans (hG6.below.mono hB.out.size))
  replace hO := hO.out.step (grown_of hG6.below none) (ne7_none _)
  clear z0 p0 f0 z1 p1 f1 hG6 c1
  have ⟨z1, p1, f1⟩ := NB.at
  have c1 := hN2 n1 n2 n3 n4 n5 n6 _ (hT.out _ hB.out) hO.into
  replace M := Hid.mk M
  replace NB := Hid.mk NB
  replace hO := Hid.mk hO
  go_wp2_with fail
  refine c1.mono ?_
  rintro x w7 ⟨rfl, hB7⟩
  replace M := M.out.below hB7 M.out.lt
  replace hB := Hid.mk (hB.out.trans (hB7.mono hB.out.size))
  clear z1 p1 f1 hB7 c1 hO NB
  have ⟨z0, p0, f0⟩ := M.at
  replace M := Hid.mk M
  go_wp2_with fail
  refine (hD2 _ (hT.out _ hB.out)).mono ?_
  rintro x w8 ⟨q1, q4, q2, q5, q3, q6, rfl, _, hB8⟩
  replace M := M.out.below hB8 M.out.lt
  replace hB := Hid.mk (hB.out.trans (hB8.mono hB.out.size))
  clear z0 p0 f0 hB8 hD2
  replace M := Hid.mk (M.alloc (.cells #[.slice q1 zImg.regs.length q4, .slice q2 zImg.comps.length q5, .slice q3 zImg.gates.length q6, .int .i64 zImg.depth] 26))
  replace hB := Hid.mk (hB.out.trans (((Gr.refl w8).alloc (.cells #[.slice q1 zImg.regs.length q4, .slice q2 zImg.comps.length q5, .slice q3 zImg.gates.length q6, .int .i64 zImg.depth] 26)).below.mono hB.out.size))
  by_cases hlt : S.length < 40000
  · rw [hmore hlt] at hD3
    have h40 : (S.length : Int) < 40000 := by omega
    go_wp2_with fail
    refine (hD3 _ (hT.out _ hB.out)).mono ?_
    rintro x w10 ⟨u1, u4, u2, u5, u3, u6, rfl, _, hB10⟩
    replace M := M.out.below hB10 M.out.lt
    replace hB := Hid.mk (hB.out.trans (hB10.mono hB.out.size))
    replace M := M.alloc (.cells #[.slice u1 zImg.regs.length u4, .slice u2 zImg.comps.length u5, .slice u3 zImg.gates.length u6, .int .i64 zImg.depth] 26)
    replace hB := Hid.mk (hB.out.trans (((Gr.refl w10).alloc (.cells #[.slice u1 zImg.regs.length u4, .slice u2 zImg.comps.length u5, .slice u3 zImg.gates.length u6, .int .i64 zImg.depth] 26)).below.mono hB.out.size))
    have ⟨z0, p0, f0⟩ := M.at
    replace M := Hid.mk M
    clear hB10 hD3
    go_wp2_with fail
    refine (hC _ (hI.out _ hB.out)).mono ?_
    rintro x w12 ⟨v1, v4, v2, v5, v3, v6, rfl, hO, hB12⟩
    replace hB := Hid.mk (hB.out.trans (hB12.mono hB.out.size))
    have hG13 : Gr w12 (w12.alloc (.cells #[.slice v1 m.regs.length v4, .slice v2 m.comps.length v5, .slice v3 m.gates.length v6, .int .i64 m.depth] 26)) := (Gr.refl w12).alloc _
    replace hB := Hid.mk (hB.out.trans (hG13.below.mono hB.out.size))
    replace hO := hO.step (grown_of hG13.below none) (ne7_none _)
    have VB := Box.new w12 #[.slice v1 m.regs.length v4, .slice v2 m.comps.length v5, .slice v3 m.gates.length v6, .int .i64 m.depth] 26
    have ⟨z1, p1, f1⟩ := VB.at
    have c1 := hN2 v1 v2 v3 v4 v5 v6 _ (hT.out _ hB.out) hO.into
    replace VB := Hid.mk VB
    replace hO := Hid.mk hO
    clear z0 p0 f0 hB12 hG13 M hC
    go_wp2_with fail
    refine c1.mono ?_
    rintro x w14 ⟨rfl, hB14⟩
    replace hB := Hid.mk (hB.out.trans (hB14.mono hB.out.size))
    clear z1 p1 f1 hB14 c1 hO VB
    go_wp2_with fail
    go_ret
    exact ⟨rfl, hB.out⟩
  · clear hmore
    have h40 : decide ((S.length : Int) < 40000) = false := by rw [decide_eq_false_iff_not]; omega
    replace hlt := Hid.mk hlt
    replace hl := Hid.mk hl
    have hl3 : (S.length : Int) ≤ 9000000 := by omega
    clear hl2
    go_wp2_with fail
    refine (hD3 _ (hT.out _ hB.out)).mono ?_
    generalize decI S2 = dd at *
    obtain ⟨oo, gg, rr⟩ := dd
    rintro x w10 ⟨u1, u4, u2, u5, u3, u6, rfl, _, hB10⟩
    replace M := M.out.below hB10 M.out.lt
    replace hB := Hid.mk (hB.out.trans (hB10.mono hB.out.size))
    replace M := M.alloc (.cells #[.slice u1 oo.regs.length u4, .slice u2 oo.comps.length u5, .slice u3 oo.gates.length u6, .int .i64 oo.depth] 26)
    replace hB := Hid.mk (hB.out.trans (((Gr.refl w10).alloc (.cells #[.slice u1 oo.regs.length u4, .slice u2 oo.comps.length u5, .slice u3 oo.gates.length u6, .int .i64 oo.depth] 26)).below.mono hB.out.size))
    have ⟨z0, p0, f0⟩ := M.at
    replace M := Hid.mk M
    clear hB10 hD3
    go_wp2_with fail
    refine (hC _ (hI.out _ hB.out)).mono ?_
    rintro x w12 ⟨v1, v4, v2, v5, v3, v6, rfl, hO, hB12⟩
    replace hB := Hid.mk (hB.out.trans (hB12.mono hB.out.size))
    have hG13 : Gr w12 (w12.alloc (.cells #[.slice v1 m.regs.length v4, .slice v2 m.comps.length v5, .slice v3 m.gates.length v6, .int .i64 m.depth] 26)) := (Gr.refl w12).alloc _
    replace hB := Hid.mk (hB.out.trans (hG13.below.mono hB.out.size))
    replace hO := hO.step (grown_of hG13.below none) (ne7_none _)
    have VB := Box.new w12 #[.slice v1 m.regs.length v4, .slice v2 m.comps.length v5, .slice v3 m.gates.length v6, .int .i64 m.depth] 26
    have ⟨z1, p1, f1⟩ := VB.at
    have c1 := hN2 v1 v2 v3 v4 v5 v6 _ (hT.out _ hB.out) hO.into
    replace VB := Hid.mk VB
    replace hO := Hid.mk hO
    clear z0 p0 f0 hB12 hG13 M hC
    go_wp2_with fail
    refine c1.mono ?_
    rintro x w14 ⟨rfl, hB14⟩
    replace hB := Hid.mk (hB.out.trans (hB14.mono hB.out.size))
    clear z1 p1 f1 hB14 c1 hO VB
    go_wp2_with fail
    go_ret
    exact ⟨rfl, hB.out⟩
end Go.Proofs.YthmfaafpdogpdabDoor
