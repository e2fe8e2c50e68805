/-
  Stage 4, image: Encode.
-/
import Derived.Test.YthmfaafpdogpdaaDoorMSize
import Derived.Test.YthmfaafpdogpdaaDoorMRight
namespace Go.Proofs.YthmfaafpdogpdaaDoor
open Go.RowKit

theorem own_some {w : World} {base : Nat} {v : Value} {B : List UInt8} (h : BOwn w base v B) (hB : 0 < B.length) : ∃ g c, v = .slice (some ⟨g, 0, none⟩) B.length c := by
  rcases h.2 with ⟨rfl, h0⟩ | ⟨g, cap, cur, rfl, _⟩
  · omega
  · exact ⟨g, cap, rfl⟩
set_option maxRecDepth 10000 in
set_option maxHeartbeats 2000000 in
theorem imgEncode_any (m : PImg) (ra ca ga : Option Addr) (rc cc gc : Nat) (w : World) (ht : TabIn w) (hm : ImgIn w.heap.size w ra ca ga m) (hr : m.Rng) :
    Calls Tryd.prog 17 #[.agg #[.slice ra m.regs.length rc, .slice ca m.comps.length cc, .slice ga m.gates.length gc, .int .i64 m.depth]] w fun x w' => x = .returned (.tuple #[.string (str (encI m).1), .int .i64 (encI m).2]) ∧ Below w.heap.size w w' := by
  have hR := fun W h0 (h : ImgIn W.heap.size W ra ca ga m) => imgRight_any m ra ca ga rc cc gc W h0 h hr
  have hT : ∀ W, Gr w W → TabIn W := fun W h => ht.gr h
  have hI : ∀ W, Gr w W → ImgIn W.heap.size W ra ca ga m := fun W h => (hm.below h.below).mono (gr_size h)
  have h2 := ht.size
  have hsz := imgB_le hr
  have hmg : 6 ≤ (imgB m).length := by unfold imgB magicB; simp only [List.length_append, List.length_cons]; omega
  unfold encI
  replace hr := Hid.mk hr
  replace hI := Hid.mk hI
  replace hT := Hid.mk hT
  clear hm ht
  by_cases h0 : m.right = 0
  · rw [if_pos h0]
    have hsz := hsz h0
    have g0 : (m.right != 0) = false := by simpa using h0
    rw [h0] at hR
    clear h0 g0
    by_cases hbig : (imgB m).length ≤ 40000
    · rw [if_pos hbig]
      go_enter Tryd.func17, Tryd.ntmps17
      go_wp2_with fail
      refine (hR _ (hT.out _ ((Gr.refl w).alloc _)) (hI.out _ ((Gr.refl w).alloc _))).mono ?_
      rintro x w1 ⟨rfl, hG⟩
      have X1 := (Box.new w #[.slice ra m.regs.length rc, .slice ca m.comps.length cc, .slice ga m.gates.length gc, .int .i64 m.depth] 41).gr hG
      replace hG := hG.of_alloc
      have ⟨z1, p1, _⟩ := X1.at
      have hs1 := gr_size hG
      go_wp2_with fail
      refine (image_any m ra ca ga rc cc gc w1.heap.size w1.heap.size _ ((hT.out _ hG).gr ((Gr.refl w1).alloc _)) (by omega) ⟨Nat.le_refl _, _, Box.new w1 _ _, rfl, .inl ⟨rfl, rfl⟩⟩ ((hI.out _ hG).below ((Gr.refl w1).alloc _).below) hr.out (by omega)).mono ?_
      rintro x w2 ⟨rfl, hW, hWr⟩
      clear z1 p1
      replace hWr := (Wrote.gr (base := w1.heap.size) ((Gr.refl w1).alloc _) (Nat.le_refl _)).trans hWr
      obtain ⟨hk, v, hb2, h3⟩ := hW
      obtain ⟨g, c, rfl⟩ := own_some h3 (by omega)
      have hst := string_of h3
      have ⟨z1, p1, _⟩ := one_at hb2
      have hBe : Below w.heap.size w w2 := hG.below.trans (hWr.below.mono hs1)
      generalize hBB : imgB m = BB at *
      replace hBB := Hid.mk hBB
      have d1 : ¬ (40000 : Int) < BB.length := by omega
      replace hb2 := Hid.mk hb2
      replace h3 := Hid.mk h3
      replace hBe := Hid.mk hBe
      clear hWr hG X1 hbig hsz hmg
      go_wp2_with fail
      go_ret2
      exact ⟨by rw [hBB.out]; rfl, hBe.out⟩
    · rw [if_neg hbig]
      go_enter Tryd.func17, Tryd.ntmps17
      go_wp2_with fail
      refine (hR _ (hT.out _ ((Gr.refl w).alloc _)) (hI.out _ ((Gr.refl w).alloc _))).mono ?_
      rintro x w1 ⟨rfl, hG⟩
      have X1 := (Box.new w #[.slice ra m.regs.length rc, .slice ca m.comps.length cc, .slice ga m.gates.length gc, .int .i64 m.depth] 41).gr hG
      replace hG := hG.of_alloc
      have ⟨z1, p1, _⟩ := X1.at
      have hs1 := gr_size hG
      go_wp2_with fail
      refine (image_any m ra ca ga rc cc gc w1.heap.size w1.heap.size _ ((hT.out _ hG).gr ((Gr.refl w1).alloc _)) (by omega) ⟨Nat.le_refl _, _, Box.new w1 _ _, rfl, .inl ⟨rfl, rfl⟩⟩ ((hI.out _ hG).below ((Gr.refl w1).alloc _).below) hr.out (by omega)).mono ?_
      rintro x w2 ⟨rfl, hW, hWr⟩
      clear z1 p1
      replace hWr := (Wrote.gr (base := w1.heap.size) ((Gr.refl w1).alloc _) (Nat.le_refl _)).trans hWr
      obtain ⟨hk, v, hb2, h3⟩ := hW
      obtain ⟨g, c, rfl⟩ := own_some h3 (by omega)
      have ⟨z1, p1, _⟩ := one_at hb2
      have hBe : Below w.heap.size w w2 := hG.below.trans (hWr.below.mono hs1)
      generalize imgB m = BB at *
      have d1 : (40000 : Int) < BB.length := by omega
      replace hb2 := Hid.mk hb2
      replace h3 := Hid.mk h3
      replace hBe := Hid.mk hBe
      clear hWr hG X1 hbig hsz hmg
      go_wp2_with fail
      go_ret2
      exact ⟨rfl, hBe.out⟩
  · rw [if_neg h0]
    have g0 : (m.right != 0) = true := by simpa using h0
    generalize m.right = e at *
    go_enter Tryd.func17, Tryd.ntmps17
    go_wp2_with fail
    refine (hR _ (hT.out _ ((Gr.refl w).alloc _)) (hI.out _ ((Gr.refl w).alloc _))).mono ?_
    rintro x w1 ⟨rfl, hG⟩
    replace hG := hG.of_alloc
    go_wp2_with fail
    go_ret2
    exact ⟨rfl, hG.below⟩
end Go.Proofs.YthmfaafpdogpdaaDoor
