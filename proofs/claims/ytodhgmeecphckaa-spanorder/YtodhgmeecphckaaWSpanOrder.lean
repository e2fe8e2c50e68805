/-
  Stage 2, span: the walk of the statement that the order is kept.
-/
import Derived.Test.YtodhgmeecphckaaSPick
import Derived.Test.YtodhgmeecphckaaSOpsO
import Derived.Test.YtodhgmeecphckaaSNums
import Derived.Test.YtodhgmeecphckaaSOrdM
import Derived.Test.YtodhgmeecphckaaSSet
import Derived.Deep.RegionHeld3
import Derived.StillTactics
import Derived.Deep.DeepCutAuto
namespace Go.Proofs.Ytodhgmeecphckaa
open Go.RowKit
set_option maxRecDepth 100000 in
set_option maxHeartbeats 4000000 in
theorem walk_SpanOrder (k p q u v : Int) (an : Option Addr) (len cap : Nat) (w : World) (hk : -9223372036854775808 ≤ k ∧ k < 9223372036854775808) (hp : W64 p) (hq : W64 q) (hu : W64 u) (hv : W64 v) (hn : ∃ L : List Int, L.length = len ∧ NumsL w an L) (hlen : len ≤ maxLen) :
    Calls Try.prog 6 #[.int .i64 k, .int .u64 p, .int .u64 q, .int .u64 u, .int .u64 v, .slice an len cap] w fun x w' => x = .returned (.bool true) ∧ Below w.heap.size w w' := by
  have hB := Gr.refl w
  have ha : W64 (minI p q) := by unfold W64 minI at *; split <;> omega
  have hb : W64 (maxI p q) := by unfold W64 maxI at *; split <;> omega
  have hc : W64 (minI u v) := by unfold W64 minI at *; split <;> omega
  have hd : W64 (maxI u v) := by unfold W64 maxI at *; split <;> omega
  have hab : minI p q ≤ maxI p q := by unfold minI maxI; (repeat' split) <;> omega
  have hcd : minI u v ≤ maxI u v := by unfold minI maxI; (repeat' split) <;> omega
  have f1 := fit_any p q
  have f2 := fit_any u v
  generalize minI p q = a at ha hab f1
  generalize maxI p q = b at hb hab f1
  generalize minI u v = c at hc hcd f2
  generalize maxI u v = d at hd hcd f2
  have HA : Hid ((W64 a ∧ W64 b ∧ a ≤ b) ∧ (W64 c ∧ W64 d ∧ c ≤ d)) := ⟨⟨ha, hb, hab⟩, hc, hd, hcd⟩
  clear ha hb hc hd hab hcd hp hq hu hv
  go_enter Try.func6, Try.ntmps6
  go_wp2_with fail
  refine (head_any _).mono ?_
  rintro x w1 ⟨rfl, hG⟩
  replace hB := hB.trans hG
  clear hG
  go_wp2_with fail
  refine (f1 _).mono ?_
  rintro x w2 ⟨rfl, hG⟩
  replace hB := hB.trans hG
  clear hG
  go_wp2_with fail
  refine (f2 _).mono ?_
  rintro x w3 ⟨rfl, hG⟩
  replace hB := hB.trans (Gr.of_alloc hG)
  obtain ⟨L0, hL0, hN0⟩ := hn
  have A_a : At w3 w2.heap.size #[.int .u64 a, .int .u64 b] := (At.new w2 _ _).gr hG
  clear hG
  go_upto_region 4 with fail
  refine wp_world (fun w4 => At w4 w2.heap.size #[.int .u64 a, .int .u64 b] ∧ At w4 w3.heap.size #[.int .u64 c, .int .u64 d] ∧ NumsL w4 an L0 ∧ Below w.heap.size w w4) ⟨A_a.alloc _, At.new _ _ _, ?_, (hB.alloc _).below⟩ ?_
  · exact hN0.below (hB.alloc _).below
  clear A_a hN0 hB
  rintro w4 ⟨A_a, A_c, hN0, hB⟩
  go_loopw [5] (fun v5 wr => ∃ (an : Option Addr) (len cap : Nat) (L : List Int), v5 = .slice an len cap ∧ L.length = len ∧ len ≤ maxLen ∧ NumsL wr an L ∧ At wr w2.heap.size #[.int .u64 a, .int .u64 b] ∧ At wr w3.heap.size #[.int .u64 c, .int .u64 d] ∧ Below w.heap.size w wr) (fun v5 _ => 4 - lenOf v5)
  case atStart => exact ⟨an, len, cap, L0, rfl, hL0, hlen, hN0, A_a, A_c, hB⟩
  case round =>
    clear hN0 A_a A_c hB hL0
    obtain ⟨an, len, cap, L, rfl, hL, hlen, hN, A_a, A_c, hB⟩ := hrel
    by_cases hlt : len < 4
    · have jl : (len : Int) < 4 := by omega
      have hE : NOwn (wr.alloc (.cells #[] 22)) wr.heap.size (.slice (some ⟨wr.heap.size, 0, none⟩) 0 0) [] := NOwn.empty wr _ (Nat.le_refl _)
      have hN1 : NumsL (wr.alloc (.cells #[] 22)) an L := hN.below (below_one wr _)
      replace hE := hide hE
      replace hN1 := hide hN1
      replace hN := hide hN
      go_wp2_with (at_builtin; refine wpList_append_nums rfl (.tmp 46) (.tmp 47) rfl wr.heap.size (.slice (some ⟨wr.heap.size, 0, none⟩) 0 0) [] L rfl hE.out an len cap hL rfl hN1.out (by simp; omega) (by simp) ?_)
      intro v1 w5 hO1 hg1
      have hb1 : Below wr.heap.size wr w5 := (below_one wr _).trans (Below.of_grown hg1 (by simp) (fun g hg => by simp [Value.ownBlock] at hg; omega))
      have hO2 : NOwn (w5.alloc (.cells #[.int .u64 5] 22)) wr.heap.size v1 ([] ++ L) := hO1.below (below_one w5 _)
      replace hO1 := hide hO1
      replace hO2 := hide hO2
      go_wp2_with (at_builtin; refine wpList_append_num rfl (.tmp 48) (.tmp 49) rfl wr.heap.size v1 ([] ++ L) 5 rfl hO2.out w5.heap.size rfl (At.new _ _ _) (by simp; omega) (by have := hb1.size; simp; omega) ?_)
      intro g c6 w6 hO3 hg3
      have hb2 : Below wr.heap.size wr w6 := (hb1.trans ((below_one w5 _).mono hb1.size)).trans (Below.of_grown hg3 (by have := hb1.size; simp; omega) (fun g hg => hO1.out.block g hg))
      go_wp2_with fail
      have hW : ∀ x ∈ [] ++ L ++ [5], W64 x := by
        intro x hx
        simp at hx
        rcases hx with hx | rfl
        · obtain ⟨i, hi, rfl⟩ := List.mem_iff_getElem.1 hx
          obtain ⟨_, _, _, _, h, _⟩ := hN.out i hi
          exact h
        · exact ⟨by omega, by omega⟩
      exact ⟨⟨_, _, _, [] ++ L ++ [5], rfl, by simp [hL], by unfold maxLen at *; omega, hO3.nums hW, A_a.below hb2 A_a.1, A_c.below hb2 A_c.1, hB.trans (hb2.mono hB.size)⟩, by simp [lenOf]; omega⟩
    · have jl : ¬ (len : Int) < 4 := by omega
      obtain ⟨bn, off, rfl, hbn, h0, c0⟩ := hN 0 (by omega)
      obtain ⟨_, _, e1, _, h1, c1⟩ := hN 1 (by omega)
      obtain ⟨_, _, e2, _, h2, c2⟩ := hN 2 (by omega)
      obtain ⟨_, _, e3, _, h3, c3⟩ := hN 3 (by omega)
      cases e1; cases e2; cases e3
      generalize L[0] = n0 at h0 c0
      generalize L[1] = n1 at h1 c1
      generalize L[2] = n2 at h2 c2
      generalize L[3] = n3 at h3 c3
      rw [Nat.add_zero] at c0
      have i0 : (0 : Int) < len := by omega
      have i1 : (1 : Int) < len := by omega
      have i9 : 0 < len := by omega
      have i2 : (2 : Int) < len := by omega
      have i3 : (3 : Int) < len := by omega
      have x1 := wiN_in a b n0 HA.out.1.1 HA.out.1.2.1 HA.out.1.2.2 h0
      have x2 := wiN_in a b n1 HA.out.1.1 HA.out.1.2.1 HA.out.1.2.2 h1
      have y1 := wiN_in c d n2 HA.out.2.1 HA.out.2.2.1 HA.out.2.2.2 h2
      have y2 := wiN_in c d n3 HA.out.2.1 HA.out.2.2.1 HA.out.2.2.2 h3
      have pa := fun n w (h : Hid (W64 n)) => pick_any a b n w HA.out.1.1 HA.out.1.2.1 HA.out.1.2.2 h.out
      have pc := fun n w (h : Hid (W64 n)) => pick_any c d n w HA.out.2.1 HA.out.2.2.1 HA.out.2.2.2 h.out
      replace h0 := hide h0
      replace h1 := hide h1
      replace h2 := hide h2
      replace h3 := hide h3
      have f3 := fit_any (wiN a b n0) (wiN a b n1)
      have f4 := fit_any (wiN c d n2) (wiN c d n3)
      have I1 : Ins (minI (wiN a b n0) (wiN a b n1)) (maxI (wiN a b n0) (wiN a b n1)) a b := by unfold Ins minI maxI; (repeat' split) <;> omega
      have I2 : Ins (minI (wiN c d n2) (wiN c d n3)) (maxI (wiN c d n2) (wiN c d n3)) c d := by unfold Ins minI maxI; (repeat' split) <;> omega
      generalize minI (wiN a b n0) (wiN a b n1) = r1 at f3 I1
      generalize maxI (wiN a b n0) (wiN a b n1) = r2 at f3 I1
      generalize minI (wiN c d n2) (wiN c d n3) = s1 at f4 I2
      generalize maxI (wiN c d n2) (wiN c d n3) = s2 at f4 I2
      replace I1 := hide I1
      replace I2 := hide I2
      clear x1 x2 y1 y2 hN jl hlt f1 f2
      have ⟨z_a, q_a, _⟩ := A_a
      have ⟨z_c, q_c, _⟩ := A_c
      go_upto_region 6 with fail
      apply cut_rule
      · intro key
        have KS : ∀ W, Gr wr W → W.cell? ⟨w2.heap.size, 0, none⟩ = some (.int .u64 a) ∧ W.cell? ⟨w2.heap.size, 1, none⟩ = some (.int .u64 b) ∧ W.cell? ⟨bn, off, none⟩ = some (.int .u64 n0) ∧ W.cell? ⟨bn, off + 1, none⟩ = some (.int .u64 n1) := fun W hG => ⟨(hG.cell z_a _).trans (q_a 0), (hG.cell z_a _).trans (q_a 1), (hG.cell hbn _).trans c0, (hG.cell hbn _).trans c1⟩
        replace KS := Kb.mk KS
        have L1 := grow_cell
        have L2 := grow_frozen
        have L3 := grow_set
        have L4 := grow_lt
        have L5 := glt1
        have L6 := glt2
        have L7 := glt3
        have L8 := glt4
        have L9 := glt5
        have L10 := glt6
        have L11 := lt1
        have L12 := lt2
        have L13 := lt3
        have L14 := lt4
        have L15 := lt5
        have L16 := lt6
        have L17 := lt7
        have L18 := lt8
        go_region_held3 (fun W => W.cell? ⟨w2.heap.size, 0, none⟩ = some (.int .u64 a) ∧ W.cell? ⟨w2.heap.size, 1, none⟩ = some (.int .u64 b) ∧ W.cell? ⟨bn, off, none⟩ = some (.int .u64 n0) ∧ W.cell? ⟨bn, off + 1, none⟩ = some (.int .u64 n1)) ((refine KS.out _ ?_; with_reducible repeat (first | exact Gr.refl _ | refine Gr.alloc ?_ _ | refine Gr.grow ?_ _ | refine Gr.drew ?_ | refine Gr.setCell ?_ _ _ _ (gr_size ?_)))) (first | (go_at_call 12; refine (pa _ _ (by assumption)).mono ?_; rintro x w' ⟨rfl, hG⟩; (repeat (replace hG := Gr.of_grow hG)); obtain ⟨l, rfl⟩ := hG) | (go_at_call 8; refine (f3 _).mono ?_; rintro x w' ⟨rfl, hG⟩; (repeat (replace hG := Gr.of_grow hG)); obtain ⟨l, rfl⟩ := hG))
        · have hAt := At.new (grow wr.drew l) #[.int .u64 r1, .int .u64 r2] 26
          have hGr : Gr wr ((grow wr.drew l).alloc (.cells #[.int .u64 r1, .int .u64 r2] 26)) := ((Gr.refl wr).drew.grow l).alloc _
          generalize (grow wr.drew l).alloc (.cells #[.int .u64 r1, .int .u64 r2] 26) = w9 at hAt hGr ⊢
          generalize (grow wr.drew l).heap.size = K at hAt ⊢
          revert hGr hAt
          revert w9
          revert K
          exact key.out
        all_goals first | exact key.out _ _ (by with_reducible repeat (first | exact Gr.refl _ | refine Gr.alloc ?_ _ | refine Gr.grow ?_ _ | refine Gr.drew ?_ | refine Gr.setCell ?_ _ _ _ (gr_size ?_))) (At.new _ _ _) | exact key.out _ _ (by with_reducible repeat (first | exact Gr.refl _ | refine Gr.alloc ?_ _ | refine Gr.grow ?_ _ | refine Gr.drew ?_ | refine Gr.setCell ?_ _ _ _ (gr_size ?_))) ((At.new _ _ _).gr ⟨_, rfl⟩) | exact key.out _ _ (by with_reducible repeat (first | exact Gr.refl _ | refine Gr.alloc ?_ _ | refine Gr.grow ?_ _ | refine Gr.drew ?_ | refine Gr.setCell ?_ _ _ _ (gr_size ?_))) ((At.new _ _ _).drew.gr ⟨_, rfl⟩)
      intro K w5 hG A_r
      clear z_a q_a z_c q_c
      replace c2 := (hG.cell hbn _).trans c2
      replace c3 := (hG.cell hbn _).trans c3
      replace hbn := Nat.lt_of_lt_of_le hbn (gr_size hG)
      replace A_a := A_a.gr hG
      replace A_c := A_c.gr hG
      replace hB := hB.trans (hG.below.mono hB.size)
      clear hG c0 c1
      have ⟨z_c, q_c, _⟩ := A_c
      go_upto_region 7 with fail
      apply cut_rule
      · intro key
        have KS : ∀ W, Gr w5 W → W.cell? ⟨w3.heap.size, 0, none⟩ = some (.int .u64 c) ∧ W.cell? ⟨w3.heap.size, 1, none⟩ = some (.int .u64 d) ∧ W.cell? ⟨bn, off + 2, none⟩ = some (.int .u64 n2) ∧ W.cell? ⟨bn, off + 3, none⟩ = some (.int .u64 n3) := fun W hG => ⟨(hG.cell z_c _).trans (q_c 0), (hG.cell z_c _).trans (q_c 1), (hG.cell hbn _).trans c2, (hG.cell hbn _).trans c3⟩
        replace KS := Kb.mk KS
        have L1 := grow_cell
        have L2 := grow_frozen
        have L3 := grow_set
        have L4 := grow_lt
        have L5 := glt1
        have L6 := glt2
        have L7 := glt3
        have L8 := glt4
        have L9 := glt5
        have L10 := glt6
        have L11 := lt1
        have L12 := lt2
        have L13 := lt3
        have L14 := lt4
        have L15 := lt5
        have L16 := lt6
        have L17 := lt7
        have L18 := lt8
        go_region_held3 (fun W => W.cell? ⟨w3.heap.size, 0, none⟩ = some (.int .u64 c) ∧ W.cell? ⟨w3.heap.size, 1, none⟩ = some (.int .u64 d) ∧ W.cell? ⟨bn, off + 2, none⟩ = some (.int .u64 n2) ∧ W.cell? ⟨bn, off + 3, none⟩ = some (.int .u64 n3)) ((refine KS.out _ ?_; with_reducible repeat (first | exact Gr.refl _ | refine Gr.alloc ?_ _ | refine Gr.grow ?_ _ | refine Gr.drew ?_ | refine Gr.setCell ?_ _ _ _ (gr_size ?_)))) (first | (go_at_call 12; refine (pc _ _ (by assumption)).mono ?_; rintro x w' ⟨rfl, hG⟩; (repeat (replace hG := Gr.of_grow hG)); obtain ⟨l, rfl⟩ := hG) | (go_at_call 8; refine (f4 _).mono ?_; rintro x w' ⟨rfl, hG⟩; (repeat (replace hG := Gr.of_grow hG)); obtain ⟨l, rfl⟩ := hG))
        · have hAt := At.new (grow w5.drew l) #[.int .u64 s1, .int .u64 s2] 26
          have hGr : Gr w5 ((grow w5.drew l).alloc (.cells #[.int .u64 s1, .int .u64 s2] 26)) := ((Gr.refl w5).drew.grow l).alloc _
          generalize (grow w5.drew l).alloc (.cells #[.int .u64 s1, .int .u64 s2] 26) = w9 at hAt hGr ⊢
          generalize (grow w5.drew l).heap.size = K at hAt ⊢
          revert hGr hAt
          revert w9
          revert K
          exact key.out
        all_goals first | exact key.out _ _ (by with_reducible repeat (first | exact Gr.refl _ | refine Gr.alloc ?_ _ | refine Gr.grow ?_ _ | refine Gr.drew ?_ | refine Gr.setCell ?_ _ _ _ (gr_size ?_))) (At.new _ _ _) | exact key.out _ _ (by with_reducible repeat (first | exact Gr.refl _ | refine Gr.alloc ?_ _ | refine Gr.grow ?_ _ | refine Gr.drew ?_ | refine Gr.setCell ?_ _ _ _ (gr_size ?_))) ((At.new _ _ _).gr ⟨_, rfl⟩) | exact key.out _ _ (by with_reducible repeat (first | exact Gr.refl _ | refine Gr.alloc ?_ _ | refine Gr.grow ?_ _ | refine Gr.drew ?_ | refine Gr.setCell ?_ _ _ _ (gr_size ?_))) ((At.new _ _ _).drew.gr ⟨_, rfl⟩)
      intro K2 w6 hG A_s
      clear z_c q_c
      replace A_a := A_a.gr hG
      replace A_c := A_c.gr hG
      replace A_r := A_r.gr hG
      replace hB := hB.trans (hG.below.mono hB.size)
      clear hG c2 c3 hbn pa pc f3 f4 h0 h1 h2 h3 i0 i1 i2 i3 i9
      have HB : Kb (Below w.heap.size w w6) := ⟨hB⟩
      clear hB
      have hB := Gr.refl w6
      have ⟨kk, k0, k1, kp, kn⟩ : ∃ kk : Int, 0 ≤ kk ∧ kk < 9223372036854775808 ∧ (0 ≤ k → kk = k) ∧ (k < 0 → kk = -(k + 1)) := by
        by_cases h : k < 0
        · exact ⟨-(k + 1), by omega, by omega, by omega, by omega⟩
        · exact ⟨k, by omega, by omega, by omega, by omega⟩
      obtain ⟨op, ho1, ho2, ho3, ho4⟩ := ops_at (kk % 10).toNat (by omega)
      obtain ⟨br, hb1, hb2, hb3⟩ := br_at (kk % 4).toNat (by omega)
      have i1 : 0 ≤ kk % 10 := by omega
      have i2 : kk % 10 < 10 := by omega
      have i3 : kk.tmod 10 = kk % 10 := Int.tmod_eq_emod_of_nonneg k0
      have j1 : 0 ≤ kk % 4 := by omega
      have j2 : kk % 4 < 4 := by omega
      have j3 : kk.tmod 4 = kk % 4 := Int.tmod_eq_emod_of_nonneg k0
      obtain ⟨⟨ha, hb, hab⟩, hc, hd, hcd⟩ := HA.out
      have hr1 : W64 r1 := by have := I1.out; unfold Ins W64 at *; omega
      have hr2 : W64 r2 := by have := I1.out; unfold Ins W64 at *; omega
      have hs1 : W64 s1 := by have := I2.out; unfold Ins W64 at *; omega
      have hs2 : W64 s2 := by have := I2.out; unfold Ins W64 at *; omega
      have ap := fun p q r s w (h : Kb (W64 p ∧ W64 q ∧ W64 r ∧ W64 s)) => Apply_any op p q r s w ho3 ho4 h.out.1 h.out.2.1 h.out.2.2.1 h.out.2.2.2
      have kb1 : Kb (W64 r1 ∧ W64 r2 ∧ W64 s1 ∧ W64 s2) := ⟨⟨hr1, hr2, hs1, hs2⟩⟩
      have kb2 : Kb (W64 a ∧ W64 b ∧ W64 c ∧ W64 d) := ⟨⟨ha, hb, hc, hd⟩⟩
      have e1 := ins_in (apply_mono ho2 I1.out I2.out ha hb hc hd)
      have e2 := ins_in (join_mono I1.out I2.out)
      have rf1 := fun w => Refine_any br r1 r2 s1 s2 w (by omega) (by omega) hr1 hr2 hs1 hs2
      have rf2 := fun w => Refine_any br a b c d w (by omega) (by omega) ha hb hc hd
      have me1 := Meet_any r1 r2 s1 s2
      have me2 := Meet_any a b c d
      have mr : rOk br r1 r2 s1 s2 = true → rOk br a b c d = true ∧ inB (fA br r1 r2 s1 s2) (fB br r1 r2 s1 s2) (fA br a b c d) (fB br a b c d) = true ∧ inB (fC br r1 r2 s1 s2) (fD br r1 r2 s1 s2) (fC br a b c d) (fD br a b c d) = true := fun h => by
        obtain ⟨h1, h2, h3⟩ := refine_mono ⟨hb2, hb3⟩ I1.out I2.out h
        exact ⟨h1, ins_in h2, ins_in h3⟩
      have mm : mOk r1 r2 s1 s2 = true → mOk a b c d = true ∧ inB (mLo r1 r2 s1 s2) (mHi r1 r2 s1 s2) (mLo a b c d) (mHi a b c d) = true := fun h => by
        obtain ⟨h1, h2⟩ := meet_mono I1.out I2.out h
        exact ⟨h1, ins_in h2⟩
      generalize fA br r1 r2 s1 s2 = e1' at rf1 mr
      generalize fB br r1 r2 s1 s2 = e2' at rf1 mr
      generalize fC br r1 r2 s1 s2 = e3 at rf1 mr
      generalize fD br r1 r2 s1 s2 = e4 at rf1 mr
      generalize rOk br r1 r2 s1 s2 = ok1 at rf1 mr
      generalize fA br a b c d = g1 at rf2 mr
      generalize fB br a b c d = g2 at rf2 mr
      generalize fC br a b c d = g3 at rf2 mr
      generalize fD br a b c d = g4 at rf2 mr
      generalize rOk br a b c d = ok2 at rf2 mr
      generalize mLo r1 r2 s1 s2 = m1 at me1 mm
      generalize mHi r1 r2 s1 s2 = m2 at me1 mm
      generalize mOk r1 r2 s1 s2 = in1 at me1 mm
      generalize mLo a b c d = o1 at me2 mm
      generalize mHi a b c d = o2 at me2 mm
      generalize mOk a b c d = in2 at me2 mm
      replace mr := Kb.mk mr
      replace mm := Kb.mk mm
      clear ha hb hc hd hab hcd hr1 hr2 hs1 hs2 HA I1 I2 ho2 ho3 ho4 hb2 hb3
      by_cases h : k < 0
      case' pos =>
        have c1 : IntKind.i64.wrap (k + 1) = k + 1 := by rw [IntKind.wrap_i64]; omega
        have c2 : IntKind.i64.wrap (-(k + 1)) = kk := by rw [IntKind.wrap_i64, kn h]; omega
        clear kp kn hk
        have ⟨z_a, q_a, _⟩ := A_a
        go_upto_region 10 with fail
      case' neg =>
        obtain rfl : kk = k := kp (by omega)
        clear kp kn hk
        have ⟨z_a, q_a, _⟩ := A_a
        go_upto_region 10 with fail
      all_goals
        have ⟨z_a, q_a, _⟩ := A_a
        have ⟨z_c, q_c, _⟩ := A_c
        have ⟨z_r, q_r, _⟩ := A_r
        have ⟨z_s, q_s, _⟩ := A_s
        go_wp2_with fail
        refine (ops_any _).mono ?_
        rintro x w21 ⟨rfl, A_l, hG⟩
        clear z_a q_a z_c q_c z_r q_r z_s q_s
        replace A_a : At w21 (w2.heap.size) #[.int .u64 a, .int .u64 b] := At.gr (by repeat (first | exact A_a | refine At.alloc ?_ _)) hG
        replace A_c : At w21 (w3.heap.size) #[.int .u64 c, .int .u64 d] := At.gr (by repeat (first | exact A_c | refine At.alloc ?_ _)) hG
        replace A_r : At w21 (K) #[.int .u64 r1, .int .u64 r2] := At.gr (by repeat (first | exact A_r | refine At.alloc ?_ _)) hG
        replace A_s : At w21 (K2) #[.int .u64 s1, .int .u64 s2] := At.gr (by repeat (first | exact A_s | refine At.alloc ?_ _)) hG
        replace hB : Gr w6 w21 := Gr.trans (by repeat (first | exact hB | refine Gr.alloc ?_ _)) hG
        clear hG
        have ⟨z_a, q_a, _⟩ := A_a
        have ⟨z_c, q_c, _⟩ := A_c
        have ⟨z_r, q_r, _⟩ := A_r
        have ⟨z_s, q_s, _⟩ := A_s
        have ⟨z_l, q_l, _⟩ := A_l
        go_upto_region 12 with fail
        have ⟨z_a, q_a, _⟩ := A_a
        have ⟨z_c, q_c, _⟩ := A_c
        have ⟨z_r, q_r, _⟩ := A_r
        have ⟨z_s, q_s, _⟩ := A_s
        have ⟨z_l, q_l, _⟩ := A_l
        have KS : ∀ W, Gr w21 W → W.cell? ⟨K, 0, none⟩ = some (.int .u64 r1) ∧ W.cell? ⟨K, 1, none⟩ = some (.int .u64 r2) ∧ W.cell? ⟨K2, 0, none⟩ = some (.int .u64 s1) ∧ W.cell? ⟨K2, 1, none⟩ = some (.int .u64 s2) ∧ W.cell? ⟨w2.heap.size, 0, none⟩ = some (.int .u64 a) ∧ W.cell? ⟨w2.heap.size, 1, none⟩ = some (.int .u64 b) ∧ W.cell? ⟨w3.heap.size, 0, none⟩ = some (.int .u64 c) ∧ W.cell? ⟨w3.heap.size, 1, none⟩ = some (.int .u64 d) := fun W hG => ⟨(hG.cell z_r _).trans (q_r 0), (hG.cell z_r _).trans (q_r 1), (hG.cell z_s _).trans (q_s 0), (hG.cell z_s _).trans (q_s 1), (hG.cell z_a _).trans (q_a 0), (hG.cell z_a _).trans (q_a 1), (hG.cell z_c _).trans (q_c 0), (hG.cell z_c _).trans (q_c 1)⟩
        replace KS := Kb.mk KS
        have L1 := grow_cell
        have L2 := grow_frozen
        have L3 := grow_set
        have L4 := grow_lt
        have L5 := glt1
        have L6 := glt2
        have L7 := glt3
        have L8 := glt4
        have L9 := glt5
        have L10 := glt6
        have L11 := lt1
        have L12 := lt2
        have L13 := lt3
        have L14 := lt4
        have L15 := lt5
        have L16 := lt6
        have L17 := lt7
        have L18 := lt8
        go_region_held3 (fun W => W.cell? ⟨K, 0, none⟩ = some (.int .u64 r1) ∧ W.cell? ⟨K, 1, none⟩ = some (.int .u64 r2) ∧ W.cell? ⟨K2, 0, none⟩ = some (.int .u64 s1) ∧ W.cell? ⟨K2, 1, none⟩ = some (.int .u64 s2) ∧ W.cell? ⟨w2.heap.size, 0, none⟩ = some (.int .u64 a) ∧ W.cell? ⟨w2.heap.size, 1, none⟩ = some (.int .u64 b) ∧ W.cell? ⟨w3.heap.size, 0, none⟩ = some (.int .u64 c) ∧ W.cell? ⟨w3.heap.size, 1, none⟩ = some (.int .u64 d)) ((refine KS.out _ ?_; with_reducible repeat (first | exact Gr.refl _ | refine Gr.alloc ?_ _ | refine Gr.grow ?_ _ | refine Gr.drew ?_ | refine Gr.setCell ?_ _ _ _ (gr_size ?_)))) (first | (go_at_call 14; refine (ap _ _ _ _ _ (by assumption)).mono ?_; rintro x w' ⟨rfl, hG⟩; (repeat (replace hG := Gr.of_grow hG)); obtain ⟨l, rfl⟩ := hG) | (go_at_call 10; refine (Under_any _ _ _ _ _).mono ?_; rintro x w' ⟨rfl, hG⟩; (repeat (replace hG := Gr.of_grow hG)); obtain ⟨l, rfl⟩ := hG))
        clear z_a q_a z_c q_c z_r q_r z_s q_s z_l q_l
        clear L1 L2 L3 L4 L5 L6 L7 L8 L9 L10 L11 L12 L13 L14 L15 L16 L17 L18 KS
        have hG : Gr w21 (grow w21.drew l) := (Gr.refl _).drew.grow l
        generalize grow w21.drew l = w22 at hG ⊢
        replace A_a : At w22 (w2.heap.size) #[.int .u64 a, .int .u64 b] := At.gr (by repeat (first | exact A_a | refine At.alloc ?_ _)) hG
        replace A_c : At w22 (w3.heap.size) #[.int .u64 c, .int .u64 d] := At.gr (by repeat (first | exact A_c | refine At.alloc ?_ _)) hG
        replace A_r : At w22 (K) #[.int .u64 r1, .int .u64 r2] := At.gr (by repeat (first | exact A_r | refine At.alloc ?_ _)) hG
        replace A_s : At w22 (K2) #[.int .u64 s1, .int .u64 s2] := At.gr (by repeat (first | exact A_s | refine At.alloc ?_ _)) hG
        replace A_l : At w22 (w6.heap.size) opsA := At.gr (by repeat (first | exact A_l | refine At.alloc ?_ _)) hG
        replace hB : Gr w6 w22 := Gr.trans (by repeat (first | exact hB | refine Gr.alloc ?_ _)) hG
        clear hG
        clear A_l
        have ⟨z_a, q_a, _⟩ := A_a
        have ⟨z_c, q_c, _⟩ := A_c
        have ⟨z_r, q_r, _⟩ := A_r
        have ⟨z_s, q_s, _⟩ := A_s
        go_wp2_with fail
        refine (rf1 _).mono ?_
        rintro x w23 ⟨rfl, hG⟩
        clear z_a q_a z_c q_c z_r q_r z_s q_s
        replace A_a : At w23 (w2.heap.size) #[.int .u64 a, .int .u64 b] := At.gr (by repeat (first | exact A_a | refine At.alloc ?_ _)) hG
        replace A_c : At w23 (w3.heap.size) #[.int .u64 c, .int .u64 d] := At.gr (by repeat (first | exact A_c | refine At.alloc ?_ _)) hG
        replace A_r : At w23 (K) #[.int .u64 r1, .int .u64 r2] := At.gr (by repeat (first | exact A_r | refine At.alloc ?_ _)) hG
        replace A_s : At w23 (K2) #[.int .u64 s1, .int .u64 s2] := At.gr (by repeat (first | exact A_s | refine At.alloc ?_ _)) hG
        replace hB : Gr w6 w23 := Gr.trans (by repeat (first | exact hB | refine Gr.alloc ?_ _)) hG
        clear hG
        have ⟨z_a, q_a, _⟩ := A_a
        have ⟨z_c, q_c, _⟩ := A_c
        have ⟨z_r, q_r, _⟩ := A_r
        have ⟨z_s, q_s, _⟩ := A_s
        go_wp2_with fail
        refine (rf2 _).mono ?_
        rintro x w24 ⟨rfl, hG⟩
        clear z_a q_a z_c q_c z_r q_r z_s q_s
        replace A_a : At w24 (w2.heap.size) #[.int .u64 a, .int .u64 b] := At.gr (by repeat (first | exact A_a | refine At.alloc ?_ _)) hG
        replace A_c : At w24 (w3.heap.size) #[.int .u64 c, .int .u64 d] := At.gr (by repeat (first | exact A_c | refine At.alloc ?_ _)) hG
        replace A_r : At w24 (K) #[.int .u64 r1, .int .u64 r2] := At.gr (by repeat (first | exact A_r | refine At.alloc ?_ _)) hG
        replace A_s : At w24 (K2) #[.int .u64 s1, .int .u64 s2] := At.gr (by repeat (first | exact A_s | refine At.alloc ?_ _)) hG
        have A_e : At w24 (w23.heap.size) #[.int .u64 e1', .int .u64 e2'] := At.gr (by repeat (first | exact At.new _ _ _ | exact At.next _ _ _ _ | refine At.alloc ?_ _)) hG
        have A_f : At w24 (w23.heap.size + 1) #[.int .u64 e3, .int .u64 e4] := At.gr (by repeat (first | exact At.new _ _ _ | exact At.next _ _ _ _ | refine At.alloc ?_ _)) hG
        replace hB : Gr w6 w24 := Gr.trans (by repeat (first | exact hB | refine Gr.alloc ?_ _)) hG
        clear hG
        have ⟨z_a, q_a, _⟩ := A_a
        have ⟨z_c, q_c, _⟩ := A_c
        have ⟨z_r, q_r, _⟩ := A_r
        have ⟨z_s, q_s, _⟩ := A_s
        have ⟨z_e, q_e, _⟩ := A_e
        have ⟨z_f, q_f, _⟩ := A_f
        go_wp2_with fail
        refine (Under_any e1' e2' g1 g2 _).mono ?_
        rintro x w25 ⟨rfl, hG⟩
        clear z_a q_a z_c q_c z_r q_r z_s q_s z_e q_e z_f q_f
        replace A_a : At w25 (w2.heap.size) #[.int .u64 a, .int .u64 b] := At.gr (by repeat (first | exact A_a | refine At.alloc ?_ _)) hG
        replace A_c : At w25 (w3.heap.size) #[.int .u64 c, .int .u64 d] := At.gr (by repeat (first | exact A_c | refine At.alloc ?_ _)) hG
        replace A_r : At w25 (K) #[.int .u64 r1, .int .u64 r2] := At.gr (by repeat (first | exact A_r | refine At.alloc ?_ _)) hG
        replace A_s : At w25 (K2) #[.int .u64 s1, .int .u64 s2] := At.gr (by repeat (first | exact A_s | refine At.alloc ?_ _)) hG
        replace A_e : At w25 (w23.heap.size) #[.int .u64 e1', .int .u64 e2'] := At.gr (by repeat (first | exact A_e | refine At.alloc ?_ _)) hG
        replace A_f : At w25 (w23.heap.size + 1) #[.int .u64 e3, .int .u64 e4] := At.gr (by repeat (first | exact A_f | refine At.alloc ?_ _)) hG
        have A_g : At w25 (w24.heap.size) #[.int .u64 g1, .int .u64 g2] := At.gr (by repeat (first | exact At.new _ _ _ | exact At.next _ _ _ _ | refine At.alloc ?_ _)) hG
        have A_h : At w25 (w24.heap.size + 1) #[.int .u64 g3, .int .u64 g4] := At.gr (by repeat (first | exact At.new _ _ _ | exact At.next _ _ _ _ | refine At.alloc ?_ _)) hG
        replace hB : Gr w6 w25 := Gr.trans (by repeat (first | exact hB | refine Gr.alloc ?_ _)) hG
        clear hG
        have ⟨z_a, q_a, _⟩ := A_a
        have ⟨z_c, q_c, _⟩ := A_c
        have ⟨z_r, q_r, _⟩ := A_r
        have ⟨z_s, q_s, _⟩ := A_s
        have ⟨z_e, q_e, _⟩ := A_e
        have ⟨z_f, q_f, _⟩ := A_f
        have ⟨z_g, q_g, _⟩ := A_g
        have ⟨z_h, q_h, _⟩ := A_h
        go_wp2_with fail
        refine (Under_any e3 e4 g3 g4 _).mono ?_
        rintro x w26 ⟨rfl, hG⟩
        clear z_a q_a z_c q_c z_r q_r z_s q_s z_e q_e z_f q_f z_g q_g z_h q_h
        replace A_a : At w26 (w2.heap.size) #[.int .u64 a, .int .u64 b] := At.gr (by repeat (first | exact A_a | refine At.alloc ?_ _)) hG
        replace A_c : At w26 (w3.heap.size) #[.int .u64 c, .int .u64 d] := At.gr (by repeat (first | exact A_c | refine At.alloc ?_ _)) hG
        replace A_r : At w26 (K) #[.int .u64 r1, .int .u64 r2] := At.gr (by repeat (first | exact A_r | refine At.alloc ?_ _)) hG
        replace A_s : At w26 (K2) #[.int .u64 s1, .int .u64 s2] := At.gr (by repeat (first | exact A_s | refine At.alloc ?_ _)) hG
        replace A_e : At w26 (w23.heap.size) #[.int .u64 e1', .int .u64 e2'] := At.gr (by repeat (first | exact A_e | refine At.alloc ?_ _)) hG
        replace A_f : At w26 (w23.heap.size + 1) #[.int .u64 e3, .int .u64 e4] := At.gr (by repeat (first | exact A_f | refine At.alloc ?_ _)) hG
        replace A_g : At w26 (w24.heap.size) #[.int .u64 g1, .int .u64 g2] := At.gr (by repeat (first | exact A_g | refine At.alloc ?_ _)) hG
        replace A_h : At w26 (w24.heap.size + 1) #[.int .u64 g3, .int .u64 g4] := At.gr (by repeat (first | exact A_h | refine At.alloc ?_ _)) hG
        replace hB : Gr w6 w26 := Gr.trans (by repeat (first | exact hB | refine Gr.alloc ?_ _)) hG
        clear hG
        clear A_e A_f A_g A_h
        have ⟨z_a, q_a, _⟩ := A_a
        have ⟨z_c, q_c, _⟩ := A_c
        have ⟨z_r, q_r, _⟩ := A_r
        have ⟨z_s, q_s, _⟩ := A_s
        go_upto_region 18 with fail
        have ⟨z_a, q_a, _⟩ := A_a
        have ⟨z_c, q_c, _⟩ := A_c
        have ⟨z_r, q_r, _⟩ := A_r
        have ⟨z_s, q_s, _⟩ := A_s
        have KS : ∀ W, Gr w26 W → W.cell? ⟨K, 0, none⟩ = some (.int .u64 r1) ∧ W.cell? ⟨K, 1, none⟩ = some (.int .u64 r2) ∧ W.cell? ⟨K2, 0, none⟩ = some (.int .u64 s1) ∧ W.cell? ⟨K2, 1, none⟩ = some (.int .u64 s2) ∧ W.cell? ⟨w2.heap.size, 0, none⟩ = some (.int .u64 a) ∧ W.cell? ⟨w2.heap.size, 1, none⟩ = some (.int .u64 b) ∧ W.cell? ⟨w3.heap.size, 0, none⟩ = some (.int .u64 c) ∧ W.cell? ⟨w3.heap.size, 1, none⟩ = some (.int .u64 d) := fun W hG => ⟨(hG.cell z_r _).trans (q_r 0), (hG.cell z_r _).trans (q_r 1), (hG.cell z_s _).trans (q_s 0), (hG.cell z_s _).trans (q_s 1), (hG.cell z_a _).trans (q_a 0), (hG.cell z_a _).trans (q_a 1), (hG.cell z_c _).trans (q_c 0), (hG.cell z_c _).trans (q_c 1)⟩
        replace KS := Kb.mk KS
        have L1 := grow_cell
        have L2 := grow_frozen
        have L3 := grow_set
        have L4 := grow_lt
        have L5 := glt1
        have L6 := glt2
        have L7 := glt3
        have L8 := glt4
        have L9 := glt5
        have L10 := glt6
        have L11 := lt1
        have L12 := lt2
        have L13 := lt3
        have L14 := lt4
        have L15 := lt5
        have L16 := lt6
        have L17 := lt7
        have L18 := lt8
        go_region_held3 (fun W => W.cell? ⟨K, 0, none⟩ = some (.int .u64 r1) ∧ W.cell? ⟨K, 1, none⟩ = some (.int .u64 r2) ∧ W.cell? ⟨K2, 0, none⟩ = some (.int .u64 s1) ∧ W.cell? ⟨K2, 1, none⟩ = some (.int .u64 s2) ∧ W.cell? ⟨w2.heap.size, 0, none⟩ = some (.int .u64 a) ∧ W.cell? ⟨w2.heap.size, 1, none⟩ = some (.int .u64 b) ∧ W.cell? ⟨w3.heap.size, 0, none⟩ = some (.int .u64 c) ∧ W.cell? ⟨w3.heap.size, 1, none⟩ = some (.int .u64 d)) ((refine KS.out _ ?_; with_reducible repeat (first | exact Gr.refl _ | refine Gr.alloc ?_ _ | refine Gr.grow ?_ _ | refine Gr.drew ?_ | refine Gr.setCell ?_ _ _ _ (gr_size ?_)))) (first | (go_at_call 21; refine (Join_any _ _ _ _ _).mono ?_; rintro x w' ⟨rfl, hG⟩; (repeat (replace hG := Gr.of_grow hG)); obtain ⟨l, rfl⟩ := hG) | (go_at_call 10; refine (Under_any _ _ _ _ _).mono ?_; rintro x w' ⟨rfl, hG⟩; (repeat (replace hG := Gr.of_grow hG)); obtain ⟨l, rfl⟩ := hG))
        clear z_a q_a z_c q_c z_r q_r z_s q_s
        clear L1 L2 L3 L4 L5 L6 L7 L8 L9 L10 L11 L12 L13 L14 L15 L16 L17 L18 KS
        have hG : Gr w26 (grow w26.drew l) := (Gr.refl _).drew.grow l
        generalize grow w26.drew l = w27 at hG ⊢
        replace A_a : At w27 (w2.heap.size) #[.int .u64 a, .int .u64 b] := At.gr (by repeat (first | exact A_a | refine At.alloc ?_ _)) hG
        replace A_c : At w27 (w3.heap.size) #[.int .u64 c, .int .u64 d] := At.gr (by repeat (first | exact A_c | refine At.alloc ?_ _)) hG
        replace A_r : At w27 (K) #[.int .u64 r1, .int .u64 r2] := At.gr (by repeat (first | exact A_r | refine At.alloc ?_ _)) hG
        replace A_s : At w27 (K2) #[.int .u64 s1, .int .u64 s2] := At.gr (by repeat (first | exact A_s | refine At.alloc ?_ _)) hG
        replace hB : Gr w6 w27 := Gr.trans (by repeat (first | exact hB | refine Gr.alloc ?_ _)) hG
        clear hG
        have ⟨z_a, q_a, _⟩ := A_a
        have ⟨z_c, q_c, _⟩ := A_c
        have ⟨z_r, q_r, _⟩ := A_r
        have ⟨z_s, q_s, _⟩ := A_s
        go_wp2_with fail
        refine (me1 _).mono ?_
        rintro x w28 ⟨rfl, hG⟩
        clear z_a q_a z_c q_c z_r q_r z_s q_s
        replace A_a : At w28 (w2.heap.size) #[.int .u64 a, .int .u64 b] := At.gr (by repeat (first | exact A_a | refine At.alloc ?_ _)) hG
        replace A_c : At w28 (w3.heap.size) #[.int .u64 c, .int .u64 d] := At.gr (by repeat (first | exact A_c | refine At.alloc ?_ _)) hG
        replace A_r : At w28 (K) #[.int .u64 r1, .int .u64 r2] := At.gr (by repeat (first | exact A_r | refine At.alloc ?_ _)) hG
        replace A_s : At w28 (K2) #[.int .u64 s1, .int .u64 s2] := At.gr (by repeat (first | exact A_s | refine At.alloc ?_ _)) hG
        replace hB : Gr w6 w28 := Gr.trans (by repeat (first | exact hB | refine Gr.alloc ?_ _)) hG
        clear hG
        have ⟨z_a, q_a, _⟩ := A_a
        have ⟨z_c, q_c, _⟩ := A_c
        have ⟨z_r, q_r, _⟩ := A_r
        have ⟨z_s, q_s, _⟩ := A_s
        go_wp2_with fail
        refine (me2 _).mono ?_
        rintro x w29 ⟨rfl, hG⟩
        clear z_a q_a z_c q_c z_r q_r z_s q_s
        replace A_a : At w29 (w2.heap.size) #[.int .u64 a, .int .u64 b] := At.gr (by repeat (first | exact A_a | refine At.alloc ?_ _)) hG
        replace A_c : At w29 (w3.heap.size) #[.int .u64 c, .int .u64 d] := At.gr (by repeat (first | exact A_c | refine At.alloc ?_ _)) hG
        replace A_r : At w29 (K) #[.int .u64 r1, .int .u64 r2] := At.gr (by repeat (first | exact A_r | refine At.alloc ?_ _)) hG
        replace A_s : At w29 (K2) #[.int .u64 s1, .int .u64 s2] := At.gr (by repeat (first | exact A_s | refine At.alloc ?_ _)) hG
        have A_m : At w29 (w28.heap.size) #[.int .u64 m1, .int .u64 m2] := At.gr (by repeat (first | exact At.new _ _ _ | exact At.next _ _ _ _ | refine At.alloc ?_ _)) hG
        replace hB : Gr w6 w29 := Gr.trans (by repeat (first | exact hB | refine Gr.alloc ?_ _)) hG
        clear hG
        have ⟨z_a, q_a, _⟩ := A_a
        have ⟨z_c, q_c, _⟩ := A_c
        have ⟨z_r, q_r, _⟩ := A_r
        have ⟨z_s, q_s, _⟩ := A_s
        have ⟨z_m, q_m, _⟩ := A_m
        go_wp2_with fail
        refine (Under_any m1 m2 o1 o2 _).mono ?_
        rintro x w30 ⟨rfl, hG⟩
        clear z_a q_a z_c q_c z_r q_r z_s q_s z_m q_m
        replace A_a : At w30 (w2.heap.size) #[.int .u64 a, .int .u64 b] := At.gr (by repeat (first | exact A_a | refine At.alloc ?_ _)) hG
        replace A_c : At w30 (w3.heap.size) #[.int .u64 c, .int .u64 d] := At.gr (by repeat (first | exact A_c | refine At.alloc ?_ _)) hG
        replace A_r : At w30 (K) #[.int .u64 r1, .int .u64 r2] := At.gr (by repeat (first | exact A_r | refine At.alloc ?_ _)) hG
        replace A_s : At w30 (K2) #[.int .u64 s1, .int .u64 s2] := At.gr (by repeat (first | exact A_s | refine At.alloc ?_ _)) hG
        replace A_m : At w30 (w28.heap.size) #[.int .u64 m1, .int .u64 m2] := At.gr (by repeat (first | exact A_m | refine At.alloc ?_ _)) hG
        have A_o : At w30 (w29.heap.size) #[.int .u64 o1, .int .u64 o2] := At.gr (by repeat (first | exact At.new _ _ _ | exact At.next _ _ _ _ | refine At.alloc ?_ _)) hG
        replace hB : Gr w6 w30 := Gr.trans (by repeat (first | exact hB | refine Gr.alloc ?_ _)) hG
        clear hG
        clear A_a A_c A_r A_s A_m A_o rf1 rf2 me1 me2 ap kb1 kb2 e1 e2
        have hE : Below w.heap.size w w30 := HB.out.trans (hB.below.mono HB.out.size)
        replace hE := Kb.mk hE
        clear HB hB
        have m1' := mr.out
        have m2' := mm.out
        clear mr mm
        generalize inB e1' e2' g1 g2 = t1 at m1' ⊢
        generalize inB e3 e4 g3 g4 = t2 at m1' ⊢
        generalize inB m1 m2 o1 o2 = t3 at m2' ⊢
        have q1 : ok1 = false ∨ (ok1 = true ∧ ok2 = true ∧ t1 = true ∧ t2 = true) := by
          cases ok1 with
          | false => exact .inl rfl
          | true => exact .inr ⟨rfl, m1' rfl⟩
        have q2 : in1 = false ∨ (in1 = true ∧ in2 = true ∧ t3 = true) := by
          cases in1 with
          | false => exact .inl rfl
          | true => exact .inr ⟨rfl, m2' rfl⟩
        clear m1' m2'
        rcases q1 with rfl | ⟨rfl, rfl, rfl, rfl⟩
        all_goals rcases q2 with rfl | ⟨rfl, rfl, rfl⟩
        all_goals
          go_wp2_with fail
          go_ret
          exact ⟨rfl, hE.out⟩
end Go.Proofs.Ytodhgmeecphckaa
