import Derived.Test.YthfphgjjieddjaaGreatP42
namespace Go.Proofs.YthfphgjjieddjaaGreat
namespace Z
open Go.RowKit
open T (Sep Ob Kp Mf FlIn boxOb)

theorem own_set1 {w : World} {lo e n c g : Nat} {xs : List Value} (h : w.ownsRow lo e 1 (.slice (some ⟨g, 0, none⟩) n c) n xs) (i : Nat) (v : Value) : (w.setCell ⟨g, i, none⟩ v).ownsRow lo e 1 (.slice (some ⟨g, 0, none⟩) n c) n (xs.set i v) := by
 refine ⟨by rw [List.length_set]; exact h.1, ?_⟩
 rcases h.2 with ⟨q, _⟩ | ⟨g', cap, cur, q, hb, hg, hnc, hc, hz, ht⟩
 · cases q
 · cases q
   refine .inr ⟨g, c, cur.setIfInBounds i v, rfl, hb, heap_setCell_same w g i cur e v hg, hnc, hc, by simpa using hz, ?_⟩
   rw [Array.toList_setIfInBounds, List.take_set, ht]
theorem mV_len (m : Nat → UInt8) : (mV m).length = 65536 := by simp only [mV, List.length_map, List.length_range]
theorem mV_at (m : Nat → UInt8) (i : Nat) (h : i < 65536) : (mV m)[i]? = some (.int .u8 (m i).toNat) := by
 unfold mV
 rw [List.getElem?_map, List.getElem?_range h]
 rfl
theorem mV_set (m : Nat → UInt8) (i : Nat) (v : UInt8) : (mV m).set i (.int .u8 v.toNat) = mV (T.upd m i v) := by
 apply List.ext_getElem?
 intro j
 by_cases hj : j < 65536
 · rw [mV_at _ j hj]
   by_cases q : i = j
   · subst q
     rw [List.getElem?_set_self (by rw [mV_len]; exact hj)]
     unfold T.upd
     rw [if_pos rfl]
   · rw [List.getElem?_set_ne q, mV_at _ j hj]
     unfold T.upd
     rw [if_neg (Ne.symm q)]
 · rw [List.getElem?_eq_none (by rw [List.length_set, mV_len]; omega), List.getElem?_eq_none (by rw [mV_len]; omega)]
section
variable {B : Nat} {W : World} {b : Nat} {c : Dc} {P : Pr} {s : Fm} {og op : Nat} {l : List Ob}
theorem DIo.mem (h : DIo B W b c P s og op l) : ∃ g k, W.cell? ⟨b, 23, none⟩ = some (.slice (some ⟨g, 0, none⟩) 65536 k) ∧ g < W.heap.size ∧ (∀ i, i < 65536 → W.cell? ⟨g, i, none⟩ = some (.int .u8 (s.m i).toNat) ∧ W.frozen? ⟨g, i, none⟩ = false) ∧
   ∀ i, i < 65536 → ∀ v : UInt8, DIo B (W.setCell ⟨g, i, none⟩ (.int .u8 v.toNat)) b c P { s with m := T.upd s.m i v } og op l ∧ Below B W (W.setCell ⟨g, i, none⟩ (.int .u8 v.toNat)) := by
 obtain ⟨⟨q, h1, ia, ic, e, h2⟩, le⟩ := h
 have hb := h1.ins (dbOb b (dxOf c P s q og op)) (by simp [dobs])
 have hO : W.ownsRow B 5 1 q.mv 65536 (mV s.m) := h1.ins (rowOb B 5 1 q.mv 65536 (mV s.m)) (by simp [dobs])
 rcases hO.2 with ⟨_, h9⟩ | ⟨g, cap, cur, e1, hbb, hg, hc1, hc2, hc3, hc4⟩
 · simp at h9
 · have hgl : g < W.heap.size := (Array.getElem?_eq_some_iff.1 hg).1
   refine ⟨g, cap, by have := hb.at_ 23 (by omega); rw [show (dxOf c P s q og op).at 23 = q.mv from rfl, e1] at this; exact this, hgl, fun i hi => ⟨?_, by simp [World.frozen?, hg]⟩, fun i hi v => ?_⟩
   · have := mV_at s.m i hi
     rw [← hc4, List.getElem?_take_of_lt (by omega)] at this
     have e2 : W.cell? ⟨g, i, none⟩ = cur[i]? := by simp [World.cell?, hg]
     rw [e2, ← this]
     simp
   · have hO2 := hO
     rw [e1] at hO2
     have hk : Kp (fun k => k = g) W (W.setCell ⟨g, i, none⟩ (.int .u8 v.toNat)) := Kp.set (S := fun k => k = g) W ⟨g, i, none⟩ _ rfl
     have hk2 : Kp (rowOb B 5 1 q.mv 65536 (mV s.m)).S W (W.setCell ⟨g, i, none⟩ (.int .u8 v.toNat)) := by
       refine Kp.mono hk (fun k r => .inl ?_)
       subst r
       show q.mv.ownBlock = some k
       rw [e1]
       rfl
     have hn := own_set1 hO2 i (.int .u8 v.toNat)
     rw [mV_set s.m i v, ← e1] at hn
     have h3 := sep_change (l1 := [dbOb b (dxOf c P s q og op), rowOb B 119 18 q.sv s.st.length (s.st.flatMap Fr.vals)]) (o := rowOb B 5 1 q.mv 65536 (mV s.m)) (o' := rowOb B 5 1 q.mv 65536 (mV (T.upd s.m i v))) (l2 := ouOb B q.ov_ s.out :: tcOb B q.tv s.tc :: giOb B q.iv s.inp :: l) h1 hn hk2 (fun k r => .inl r) le
     have b3 := sep_below (l1 := [dbOb b (dxOf c P s q og op), rowOb B 119 18 q.sv s.st.length (s.st.flatMap Fr.vals)]) (o := rowOb B 5 1 q.mv 65536 (mV s.m)) (l2 := ouOb B q.ov_ s.out :: tcOb B q.tv s.tc :: giOb B q.iv s.inp :: l) h1 hk2 le
     exact ⟨⟨⟨q, h3, ia, ic, e, h2.below b3⟩, Nat.le_trans le b3.size⟩, b3⟩
end
end Z
end Go.Proofs.YthfphgjjieddjaaGreat
