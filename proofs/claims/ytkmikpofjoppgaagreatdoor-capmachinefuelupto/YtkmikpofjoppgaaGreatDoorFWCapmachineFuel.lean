import Derived.Test.YtkmikpofjoppgaaGreatDoorF44
import Derived.Test.YtkmikpofjoppgaaGreatDoorF45
namespace Go.Proofs.YtkmikpofjoppgaaGreatDoor
set_option maxRecDepth 100000
set_option maxHeartbeats 40000000
namespace C
open Go.RowKit
open T (Sep Ob Kp Mf TgIn boxOb Fm Tc Ed Vl Cp Bx tgOb mRow updV flt regRow regRow_at regRow_len Vl.row_len)

theorem fuel_nil (m : PImg) (gate fuel : Int) (A I : List Nat) (ra ca ga aa ia : Option Addr) (rc cc gc ac ic : Nat) (w : World) (ht : TabIn w) (hBg : ∀ X, Bl w X → Calls Tryz.prog 13 #[.agg #[.slice ra m.regs.length rc, .slice ca m.comps.length cc, .slice ga m.gates.length gc, .int .i64 m.depth], .int .i64 gate, .slice aa A.length ac, .slice ia I.length ic] X fun x w' => x = .returned (.pointer none) ∧ Bl X w') : Calls Tryz.prog 5 #[.agg #[.slice ra m.regs.length rc, .slice ca m.comps.length cc, .slice ga m.gates.length gc, .int .i64 m.depth], .int .i64 gate, .slice aa A.length ac, .slice ia I.length ic, .int .i64 fuel] w fun x w' => x = .returned (.bool true) ∧ Below w.heap.size w w' := by
 go_enter Tryz.func5, Tryz.ntmps5
 go_upto_region 1 with fail
 refine wp_world (fun W => At W w.heap.size #[.slice ra m.regs.length rc, .slice ca m.comps.length cc, .slice ga m.gates.length gc, .int .i64 m.depth] ∧ Bl w W) ⟨At.new w _ _, (Bl.refl _).alloc _⟩ ?_
 rintro W ⟨A0, g0⟩
 have hEx := Hz.mk (examples_any W (TabIn.bl ht g0))
 replace A0 := Hz.mk A0
 replace g0 := Hz.mk g0
 obtain ⟨k0, hk0⟩ : ∃ k0, w.heap.size = k0 := ⟨_, rfl⟩
 rw [hk0] at A0 ⊢
 replace hk0 := Hz.mk hk0
 go_wp2_with fail
 refine hEx.out.mono ?_
 rintro r W2 ⟨rfl, e1⟩
 replace g0 := Hz.mk (Bl.trans g0.out e1)
 replace A0 := Hz.mk (Bl.at_ e1 A0.out)
 clear e1 hEx
 have ⟨l0, p0, _⟩ := A0.out
 go_wp2_with fail
 refine (hBg _ g0.out).mono ?_
 rintro r W3 ⟨rfl, e1⟩
 replace g0 := Hz.mk (Bl.trans g0.out e1)
 replace A0 := Hz.mk (Bl.at_ e1 A0.out)
 clear p0 l0 e1
 have ⟨l0, p0, _⟩ := A0.out
 go_wp2_with fail
 refine (hBg _ g0.out).mono ?_
 rintro r W4 ⟨rfl, e1⟩
 replace g0 := Hz.mk (Bl.trans g0.out e1)
 clear p0 l0 A0 e1
 go_wp2_with fail
 go_ret
 exact ⟨rfl, g0.out⟩
theorem fuel_some (m : PImg) (gate fuel : Int) (A I : List Nat) (ra ca ga aa ia : Option Addr) (rc cc gc ac ic : Nat) (w : World) (ht : TabIn w) (hf : -9223372036854775808 ≤ fuel ∧ fuel < 9223372036854775808) (P : PImg) (s0 : Ms) (hP : POk P) (hs : Okm P 0 s0) (he0 : s0.over.e = 0) (hBg : ∀ X, Bl w X → Calls Tryz.prog 13 #[.agg #[.slice ra m.regs.length rc, .slice ca m.comps.length cc, .slice ga m.gates.length gc, .int .i64 m.depth], .int .i64 gate, .slice aa A.length ac, .slice ia I.length ic] X fun x w' => ∃ a B, x = .returned (.pointer (some ⟨a, 0, none⟩)) ∧ MIn B w' a P s0 [] ∧ X.heap.size ≤ B ∧ Bl X w') : Calls Tryz.prog 5 #[.agg #[.slice ra m.regs.length rc, .slice ca m.comps.length cc, .slice ga m.gates.length gc, .int .i64 m.depth], .int .i64 gate, .slice aa A.length ac, .slice ia I.length ic, .int .i64 fuel] w fun x w' => x = .returned (.bool true) ∧ Below w.heap.size w w' := by
 replace hP := Hz.mk hP
 replace hs := Hz.mk hs
 replace he0 := Hz.mk he0
 replace hf := Hz.mk hf
 go_enter Tryz.func5, Tryz.ntmps5
 go_upto_region 1 with fail
 refine wp_world (fun W => At W w.heap.size #[.slice ra m.regs.length rc, .slice ca m.comps.length cc, .slice ga m.gates.length gc, .int .i64 m.depth] ∧ Bl w W) ⟨At.new w _ _, (Bl.refl _).alloc _⟩ ?_
 rintro W ⟨A0, g0⟩
 have hEx := Hz.mk (examples_any W (TabIn.bl ht g0))
 replace A0 := Hz.mk A0
 replace g0 := Hz.mk g0
 obtain ⟨k0, hk0⟩ : ∃ k0, w.heap.size = k0 := ⟨_, rfl⟩
 rw [hk0] at A0 ⊢
 replace hk0 := Hz.mk hk0
 go_wp2_with fail
 refine hEx.out.mono ?_
 rintro r W2 ⟨rfl, e1⟩
 replace g0 := Hz.mk (Bl.trans g0.out e1)
 replace A0 := Hz.mk (Bl.at_ e1 A0.out)
 clear e1 hEx
 have ⟨l0, p0, _⟩ := A0.out
 go_wp2_with fail
 refine (hBg _ g0.out).mono ?_
 rintro r V2 ⟨ax, B, rfl, hMx, hBk, e1⟩
 replace g0 := Hz.mk (Bl.trans g0.out e1)
 have hwB : w.heap.size ≤ B := by rw [hk0.out]; omega
 replace A0 := Hz.mk (Bl.at_ e1 A0.out)
 replace hMx := Hz.mk hMx
 replace hwB := Hz.mk hwB
 clear p0 l0 e1 hBk
 have ⟨l0, p0, _⟩ := A0.out
 go_wp2_with fail
 refine (hBg _ g0.out).mono ?_
 rintro r V3 ⟨ay, By, rfl, hMy, hBy, e1⟩
 have hM := Hz.mk (hMx.out.both hMy hBy e1)
 replace g0 := Hz.mk (Bl.trans g0.out e1)
 have hfin : Hz (∀ X, Below B V3 X → Below w.heap.size w X) := Hz.mk (fun X q => Below.trans g0.out (Below.mono q hwB.out))
 have hG : Hz (Below B V3 V3) := Hz.mk (Below.refl _ _)
 clear p0 l0 e1 hBy hMy hMx A0 hBg g0 hwB hk0
 by_cases hfu : fuel < 0
 · have w1 : wrap64 (fuel + 1) = fuel + 1 := by have := hf.out; unfold wrap64; omega
   have w2 : wrap64 (-(fuel + 1)) = -(fuel + 1) := by have := hf.out; unfold wrap64; omega
   have w3 : IntKind.i64.wrap (-(fuel + 1)) = -(fuel + 1) := by have := hf.out; rw [IntKind.wrap_i64]; omega
   obtain ⟨N, hN, hN3⟩ := tmodN (-(fuel + 1)) (by omega)
   go_upto_region 11 with fail
   clear w1 w2 w3 hN hfu hf
   obtain ⟨z, hz⟩ : ∃ z, runM P (N : Int) s0 = z := ⟨_, rfl⟩
   have hcl := Hz.mk (hM.out.call (fun l' h => run_oc P hP.out s0 0 N hs.out (by omega) (by omega) z hz B V3 ax l' h))
   replace hz := Hz.mk hz.symm
   go_wp2_with fail
   refine hcl.out.mono ?_
   rintro r V5 ⟨rfl, hM1, hBn⟩
   clear hcl
   replace hG := Hz.mk (hG.out.trans hBn)
   replace hM := Hz.mk hM1
   clear hBn hM1
   go_upto_region 12 with fail
   refine wp_world (fun V => ∃ k, k = V5.heap.size ∧ M2 B V P ax z ay s0 [boxOb k (List.toArray [Value.int .i64 z.over.e, .int .u64 z.over.v, .int .i64 z.over.f, .int .i64 z.at_.gate, .int .i64 z.at_.pc])] ∧ Below B V5 V) ⟨_, rfl, hM.out.new _ _⟩ ?_
   rintro V6 ⟨ko, hkk, hM1, hBn⟩
   rw [← hkk]
   clear hkk
   replace hG := Hz.mk (hG.out.trans hBn)
   replace hM := Hz.mk hM1
   clear hBn hM1
   go_upto_region 14 with fail
   refine wp_world (fun V => ∃ k, k = V6.heap.size ∧ M2 B V P ax z ay s0 [boxOb k (wO s0 0).toArray, boxOb ko (List.toArray [Value.int .i64 z.over.e, .int .u64 z.over.v, .int .i64 z.over.f, .int .i64 z.at_.gate, .int .i64 z.at_.pc])] ∧ Below B V6 V) ⟨_, rfl, hM.out.new _ _⟩ ?_
   rintro V7 ⟨kw, hkk, hM1, hBn⟩
   rw [← hkk]
   clear hkk
   replace hG := Hz.mk (hG.out.trans hBn)
   replace hM := Hz.mk hM1
   clear hBn hM1
   go_loopw [16] (fun x wr => ∃ j : Nat, x = .int .i64 j ∧ j ≤ N ∧ Hz (M2 B wr P ax z ay (stepsM P j s0) [boxOb kw (wO (stepsM P j s0) j).toArray, boxOb ko (List.toArray [Value.int .i64 z.over.e, .int .u64 z.over.v, .int .i64 z.over.f, .int .i64 z.at_.gate, .int .i64 z.at_.pc])]) ∧ Hz (∀ i, i < j → (stepsM P i s0).over.e = 0) ∧ Hz (Below B V3 wr)) (fun x _ => N - (intOf x).toNat)
   case atStart => exact ⟨0, rfl, Nat.zero_le _, hM, Hz.mk (fun i hi => absurd hi (Nat.not_lt_zero i)), hG⟩
   case round =>
     clear hM hG
     obtain ⟨j, rfl, hj, hM, hpre, hG⟩ := hrel
     have A1 := hM.out.there (boxOb kw (wO (stepsM P j s0) j).toArray) (by simp)
     have y0 : wr.cell? ⟨kw, 0, none⟩ = some (.int .i64 (stepsM P j s0).over.e) := by have := A1.2.1 0; rw [this, List.getElem?_toArray]; exact wO_at P s0 j he0.out
     clear A1
     by_cases hjl : j < N
     · have hjl1 : (j : Int) < (N : Int) := Int.ofNat_lt.2 hjl
       by_cases hej : (stepsM P j s0).over.e = 0
       · have hej1 : ((stepsM P j s0).over.e == 0) = true := by simp [hej]
         have hcl := Hz.mk (hM.out.turn.call (fun l' h => step_oc P hP.out (stepsM P j s0) j (by have := okm_steps hP.out j hs.out; rwa [Nat.zero_add] at this) (by omega) (stepsM P (j + 1) s0) (stepsM_one P j s0) B wr ay l' h))
         go_upto_region 15 with fail
         clear y0
         refine wp_region_lit ?_
         refine wpList_plain rfl (fun K hK => ?_)
         go_simp
         with_reducible refine hK _ _ ?_
         clear hK K
         try simp only [xap]
         refine wpList_plain rfl (fun K hK => ?_)
         go_simp
         refine hcl.out.mono ?_
         rintro r V5 ⟨rfl, hM1, hBn⟩
         clear hcl
         replace hM1 := hM1.turn
         replace hG := Hz.mk (hG.out.trans hBn)
         with_reducible refine hK _ _ ?_
         clear hK K
         try simp only [xap]
         have A1 := hM1.there (boxOb kw (wO (stepsM P j s0) j).toArray) (by simp)
         have hth := Hz.mk (A1.there 0 5 (by rw [wO_len]; omega))
         have hA9 := At.setAll A1 [Value.int .i64 (stepsM P (j + 1) s0).over.e, .int .u64 (stepsM P (j + 1) s0).over.v, .int .i64 (stepsM P (j + 1) s0).over.f, .int .i64 (stepsM P (j + 1) s0).at_.gate, .int .i64 (stepsM P (j + 1) s0).at_.pc] (by rw [wO_len]; rfl)
         rw [← wO_succ] at hA9
         have hK9 := T.kp_setCells (fun k => k = kw) kw rfl [Value.int .i64 (stepsM P (j + 1) s0).over.e, .int .u64 (stepsM P (j + 1) s0).over.v, .int .i64 (stepsM P (j + 1) s0).over.f, .int .i64 (stepsM P (j + 1) s0).at_.gate, .int .i64 (stepsM P (j + 1) s0).at_.pc] 0 V5
         rw [← wO_succ] at hK9
         obtain ⟨hM3, hB3⟩ := hM1.side (o' := boxOb kw (wO (stepsM P (j + 1) s0) (j + 1)).toArray) hA9 hK9 (fun _ r => .inl r)
         replace hG := Hz.mk (hG.out.trans hB3)
         replace hM := Hz.mk hM3
         clear hM1 hM3 hA9 hK9 hB3 A1 hBn
         refine wpList_plain rfl (fun K hK => ?_)
         refine wp_store_mid _ _ _ rfl _ _ (List.toArray (wO (stepsM P (j + 1) s0) (j + 1))) rfl rfl hth.out (by kernel_rfl) (by simp [wO_succ, Value.oneCell']) (hK _ _ ?_)
         clear hK K hth
         try simp only [Act.put]
         generalize World.setCells _ _ _ _ = V6 at *
         go_wp2_with fail
         refine ⟨⟨j + 1, ?_, hjl, hM, Hz.mk (pre_succ (f := fun i => stepsM P i s0) hpre.out hej), hG⟩, ?_⟩
         · first | rfl | (rw [show wrap64 ((j : Int) + 1) = ((j + 1 : Nat) : Int) by unfold wrap64; omega]) | go_num
         · first | (simp [intOf]; omega) | (rw [show wrap64 ((j : Int) + 1) = ((j + 1 : Nat) : Int) by unfold wrap64; omega]; simp [intOf]; omega)
       · have hej1 : ((stepsM P j s0).over.e == 0) = false := beq_false_of_ne hej
         have hend : stepsM P N s0 = stepsM P j s0 := by rw [show N = j + (N - j) by omega]; exact stepsM_over P _ j s0 hej
         go_upto_region 17 with fail
         clear y0 hej1 hjl1
         have hjN : stepsM P N s0 = stepsM P j s0 := hend
         have hsz : Hz (Okm P N z) := Hz.mk (by rw [hz.out, runM_nat P N (by omega) s0]; have := okm_spent (okm_steps hP.out N hs.out); rwa [Nat.zero_add] at this)
         have hsu := Hz.mk (okm_steps hP.out j hs.out)
         rw [Nat.zero_add] at hsu
         have hz2 : z = spent (stepsM P j s0) := by rw [hz.out, runM_nat P N (by omega) s0, hjN]
         replace hz := Hz.mk hz2
         clear hz2
         have hze : Hz (¬ z.over.e = 0) := Hz.mk (by rw [hz.out]; exact spent_e _)
         have hw0 := Hz.mk (wO_at P s0 j he0.out)
         obtain ⟨u, hu⟩ : ∃ u, stepsM P j s0 = u := ⟨_, rfl⟩
         rw [hu] at hM hsu hz hw0
         clear hjN hend
         replace hu := Hz.mk hu.symm
         obtain ⟨b1, b2, b3, b4⟩ := spent_as u
         have b5 := spent_snR u
         rw [← hz.out] at b1 b2 b3 b4 b5
         have a1 := Hz.mk b1
         have a2 := Hz.mk b2
         have a3 := Hz.mk b5
         have a5 := Hz.mk b3
         have hol : Hz (z.out.length ≤ 1000000) := Hz.mk (Nat.le_trans hsz.out.out (by omega))
         have htl : Hz (z.tou.length ≤ 1000000) := Hz.mk (Nat.le_trans hsz.out.tou (by omega))
         have hol2 : Hz (u.out.length ≤ 1000000) := Hz.mk (Nat.le_trans hsu.out.out (by omega))
         have htl2 : Hz (u.tou.length ≤ 1000000) := Hz.mk (Nat.le_trans hsu.out.tou (by omega))
         have hlo : Hz (¬ (j : Int) < (z.out.length : Int)) := Hz.mk (by rw [b1]; have := hsu.out.out; omega)
         have hlt : Hz (¬ (j : Int) < (z.tou.length : Int)) := Hz.mk (by rw [b2]; have := hsu.out.tou; omega)
         clear b1 b2 b3 b4 b5 hsu
         by_cases heN : u.over.e = 0
         · skip
           have hzo : z.over = ⟨4, 0, 0⟩ := by rw [hz.out]; unfold spent; rw [if_pos heN]; rfl
           have e4 : z.over.e = 4 := by rw [hzo]
           have e5 : z.over.v = 0 := by rw [hzo]
           have e6 : z.over.f = 0 := by rw [hzo]
           clear hzo
           have A3 := hM.out.there (boxOb ko (List.toArray [Value.int .i64 z.over.e, .int .u64 z.over.v, .int .i64 z.over.f, .int .i64 z.at_.gate, .int .i64 z.at_.pc])) (by simp)
           have z0 : wr.cell? ⟨ko, 0, none⟩ = some (.int .i64 4) := by have := A3.2.1 0; rw [this]; simp [e4]
           clear A3
           go_upto_region 18 with fail
           clear z0
           obtain ⟨ly, hY⟩ := hM.out.turn.one
           replace hY := Hz.mk hY
           refine wp_region_lit ?_
           refine wpList_plain rfl (fun K hK => ?_)
           go_simp
           with_reducible refine hK _ _ ?_
           clear hK K
           try simp only [xap]
           refine wpList_plain rfl (fun K hK => ?_)
           go_simp
           (refine (snap_any B ay P u ly _ hY.out).mono ?_; rintro r V5 ⟨rfl, hBn⟩; clear hY; replace hG := Hz.mk (hG.out.trans (Below.mono hBn hM.out.le)); replace hM := Hz.mk (hM.out.gr hBn); clear hBn; have hA7 : At (V5.alloc (.cells (snR zS).toArray 38)) V5.heap.size (snR zS).toArray := At.new V5 _ _; have hth := Hz.mk (At.there hA7 0 115 (by rw [snR_len]; decide)); have hA8 := Hz.mk (At.setAll hA7 (snR u) (by rw [snR_len, snR_len])); have g9 := Hz.mk (((Bl.refl V5).alloc (.cells (snR zS).toArray 38)).sets V5.heap.size (Nat.le_refl _) (snR u) 0); replace hA7 := Hz.mk hA7)
           with_reducible refine hK _ _ ?_
           clear hK K
           try simp only [xap]
           refine wpList_plain rfl (fun K hK => ?_)
           refine wp_alloc_sn rfl (hK _ _ ?_)
           clear hK K
           try simp only [xap]
           refine wpList_store_mid rfl _ _ _ rfl _ _ (List.toArray (snR u)) rfl rfl (show World.there _ _ _ _ by rw [show (snR u).toArray.size = 115 from snR_len u]; exact hth.out) (by rw [List.size_toArray, snR_len]; kernel_rfl) (snR_one u) ?_
           try simp only [Act.put]
           clear hth hA7
           have h9 := Hz.mk (hM.out.add (boxOb V5.heap.size (snR u).toArray) hA8.out (fun k q => by have : k = V5.heap.size := q; omega) g9.out)
           replace hG := Hz.mk (hG.out.trans (Below.mono g9.out hM.out.le))
           replace hM := h9
           clear h9 g9 hA8
           generalize World.setCells _ _ _ _ = V6 at *
           generalize V5.heap.size = ks at *
           have A0 := hM.out.there (boxOb ks (snR u).toArray) (by simp)
           have A1 := hM.out.there (boxOb kw (wO u j).toArray) (by simp)
           have A3 := hM.out.there (boxOb ko (List.toArray [Value.int .i64 z.over.e, .int .u64 z.over.v, .int .i64 z.over.f, .int .i64 z.at_.gate, .int .i64 z.at_.pc])) (by simp)
           have x0 : V6.cell? ⟨ks, 0, none⟩ = some (.int .i64 u.at_.gate) := A0.2.1 0
           have x1 : V6.cell? ⟨ks, 1, none⟩ = some (.int .i64 u.at_.pc) := A0.2.1 1
           have y0 : V6.cell? ⟨kw, 0, none⟩ = some (.int .i64 0) := by have := A1.2.1 0; rw [this, List.getElem?_toArray, hw0.out, heN]
           have z0 : V6.cell? ⟨ko, 0, none⟩ = some (.int .i64 4) := by have := A3.2.1 0; rw [this]; simp [e4, e5, e6, a5.out]
           have z1 : V6.cell? ⟨ko, 1, none⟩ = some (.int .u64 0) := by have := A3.2.1 1; rw [this]; simp [e4, e5, e6, a5.out]
           have z2 : V6.cell? ⟨ko, 2, none⟩ = some (.int .i64 0) := by have := A3.2.1 2; rw [this]; simp [e4, e5, e6, a5.out]
           have z3 : V6.cell? ⟨ko, 3, none⟩ = some (.int .i64 u.at_.gate) := by have := A3.2.1 3; rw [this]; simp [e4, e5, e6, a5.out]
           have z4 : V6.cell? ⟨ko, 4, none⟩ = some (.int .i64 u.at_.pc) := by have := A3.2.1 4; rw [this]; simp [e4, e5, e6, a5.out]
           clear A0 A1 A3 e5 e6
           have hq2 := oc_ne5 4 0 0 u.at_.gate u.at_.pc
           go_upto_region 23 with fail
           clear x0 x1 y0 z0 z1 z2 z3 z4 hq2 e4
           generalize (wO u j).toArray = wv at *
           replace hM := Hz.mk (hM.out.drop)
           generalize V6 = V8 at *
           obtain ⟨lx, hX⟩ := hM.out.one
           go_wp2_with fail
           refine (outs_any B V8 ax P z lx hX hol.out).mono ?_
           rintro r V9 ⟨va1, c1, rfl, hW1, hBn⟩
           replace hW1 := Hz.mk hW1
           replace hG := Hz.mk (hG.out.trans (Below.mono hBn hM.out.le))
           replace hM := Hz.mk (hM.out.gr hBn)
           clear hBn
           clear hX
           obtain ⟨ly, hY⟩ := hM.out.turn.one
           go_wp2_with fail
           refine (outs_any B V9 ay P u ly hY hol2.out).mono ?_
           rintro r V10 ⟨va2, c2, rfl, hW2, hBn⟩
           replace hW2 := Hz.mk hW2
           replace hW1 := Hz.mk (hW1.out.bl hBn)
           replace hG := Hz.mk (hG.out.trans (Below.mono hBn hM.out.le))
           replace hM := Hz.mk (hM.out.gr hBn)
           clear hBn
           clear hY
           rw [a1.out] at hW1
           go_wp2_with fail
           refine ((show Calls Tryz.prog 14 #[.slice va1 z.out.length c1, .slice va2 u.out.length c2] V10 _ by rw [a1.out]; exact sameW_self u.out va1 va2 c1 c2 V10 hW1.out hW2.out hol2.out)).mono ?_
           rintro r V11 ⟨rfl, hBn⟩
           replace hG := Hz.mk (hG.out.trans (Below.mono hBn hM.out.le))
           replace hM := Hz.mk (hM.out.gr hBn)
           clear hBn
           clear hW1 hW2
           obtain ⟨lx, hX⟩ := hM.out.one
           go_wp2_with fail
           refine (tcs_any B V11 ax P z lx hX htl.out).mono ?_
           rintro r V12 ⟨va1, c1, rfl, hW1, hBn⟩
           replace hW1 := Hz.mk hW1
           replace hG := Hz.mk (hG.out.trans (Below.mono hBn hM.out.le))
           replace hM := Hz.mk (hM.out.gr hBn)
           clear hBn
           clear hX
           obtain ⟨ly, hY⟩ := hM.out.turn.one
           go_wp2_with fail
           refine (tcs_any B V12 ay P u ly hY htl2.out).mono ?_
           rintro r V13 ⟨va2, c2, rfl, hW2, hBn⟩
           replace hW2 := Hz.mk hW2
           replace hW1 := Hz.mk (hW1.out.below hBn)
           replace hG := Hz.mk (hG.out.trans (Below.mono hBn hM.out.le))
           replace hM := Hz.mk (hM.out.gr hBn)
           clear hBn
           clear hY
           rw [a2.out] at hW1
           go_wp2_with fail
           refine ((show Calls Tryz.prog 15 #[.slice va1 z.tou.length c1, .slice va2 u.tou.length c2] V13 _ by rw [a2.out]; exact sameT_self u.tou va1 va2 c1 c2 V13 hW1.out hW2.out htl2.out)).mono ?_
           rintro r V14 ⟨rfl, hBn⟩
           replace hG := Hz.mk (hG.out.trans (Below.mono hBn hM.out.le))
           replace hM := Hz.mk (hM.out.gr hBn)
           clear hBn
           clear hW1 hW2
           obtain ⟨lx, hX⟩ := hM.out.one
           go_wp2_with fail
           refine (outs_any B V14 ax P z lx hX hol.out).mono ?_
           rintro r V15 ⟨va1, c1, rfl, hW1, hBn⟩
           clear hW1
           replace hG := Hz.mk (hG.out.trans (Below.mono hBn hM.out.le))
           replace hM := Hz.mk (hM.out.gr hBn)
           clear hBn
           clear hX
           have n1 : ¬ (j : Int) < (z.out.length : Int) := by have := hlo.out; omega
           obtain ⟨lx, hX⟩ := hM.out.one
           go_wp2_with fail
           refine (tcs_any B V15 ax P z lx hX htl.out).mono ?_
           rintro r V16 ⟨va1, c1, rfl, hW1, hBn⟩
           clear hW1
           replace hG := Hz.mk (hG.out.trans (Below.mono hBn hM.out.le))
           replace hM := Hz.mk (hM.out.gr hBn)
           clear hBn
           clear hX
           have n2 : ¬ (j : Int) < (z.tou.length : Int) := by have := hlt.out; omega
           obtain ⟨lx, hX⟩ := hM.out.one
           go_wp2_with fail
           refine (snap_any B ax P z lx V16 hX).mono ?_
           rintro r V17 ⟨rfl, hBn⟩
           replace hG := Hz.mk (hG.out.trans (Below.mono hBn hM.out.le))
           replace hM := Hz.mk (hM.out.gr hBn)
           clear hBn
           clear hX
           obtain ⟨ly, hY⟩ := hM.out.turn.one
           go_wp2_with fail
           refine (snap_any B ay P u ly V17 hY).mono ?_
           rintro r V18 ⟨rfl, hBn⟩
           replace hG := Hz.mk (hG.out.trans (Below.mono hBn hM.out.le))
           replace hM := Hz.mk (hM.out.gr hBn)
           clear hBn
           clear hY
           rw [a3.out]
           have hne := sn_neq u
           generalize (snR u).toArray = sv at *
           go_upto_region 27 with fail
           clear hne n1 n2
           go_wp2_with fail
           refine (hM.out.call (fun l' h => step_oc P hP.out z N hsz.out (by omega) z (stepsM_end hze.out 1) B V18 ax l' h)).mono ?_
           rintro r V21 ⟨rfl, hM1, hBn⟩
           replace hG := Hz.mk (hG.out.trans hBn)
           replace hM := Hz.mk hM1
           clear hBn hM1
           go_upto_region 28 with fail
           refine wp_world (fun V => ∃ k, k = V21.heap.size ∧ M2 B V P ax z ay u (boxOb k (List.toArray [Value.int .i64 z.over.e, .int .u64 z.over.v, .int .i64 z.over.f, .int .i64 z.at_.gate, .int .i64 z.at_.pc]) :: [boxOb kw wv, boxOb ko (List.toArray [Value.int .i64 z.over.e, .int .u64 z.over.v, .int .i64 z.over.f, .int .i64 z.at_.gate, .int .i64 z.at_.pc])]) ∧ Below B V21 V) ⟨_, rfl, hM.out.new _ _⟩ ?_
           rintro V22 ⟨k1, hkk, hM1, hBn⟩
           rw [← hkk]
           clear hkk
           replace hG := Hz.mk (hG.out.trans hBn)
           replace hM := Hz.mk hM1
           clear hBn hM1
           go_wp2_with fail
           refine (hM.out.call (fun l' h => run_oc P hP.out z N 5 hsz.out (by omega) (by omega) z (runM_end P 5 z hze.out) B V22 ax l' h)).mono ?_
           rintro r V23 ⟨rfl, hM1, hBn⟩
           replace hG := Hz.mk (hG.out.trans hBn)
           replace hM := Hz.mk hM1
           clear hBn hM1
           go_upto_region 29 with fail
           refine wp_world (fun V => ∃ k, k = V23.heap.size ∧ M2 B V P ax z ay u (boxOb k (List.toArray [Value.int .i64 z.over.e, .int .u64 z.over.v, .int .i64 z.over.f, .int .i64 z.at_.gate, .int .i64 z.at_.pc]) :: boxOb k1 (List.toArray [Value.int .i64 z.over.e, .int .u64 z.over.v, .int .i64 z.over.f, .int .i64 z.at_.gate, .int .i64 z.at_.pc]) :: [boxOb kw wv, boxOb ko (List.toArray [Value.int .i64 z.over.e, .int .u64 z.over.v, .int .i64 z.over.f, .int .i64 z.at_.gate, .int .i64 z.at_.pc])]) ∧ Below B V23 V) ⟨_, rfl, hM.out.new _ _⟩ ?_
           rintro V24 ⟨k2, hkk, hM1, hBn⟩
           rw [← hkk]
           clear hkk
           replace hG := Hz.mk (hG.out.trans hBn)
           replace hM := Hz.mk hM1
           clear hBn hM1
           have A1 := hM.out.there (boxOb k2 (List.toArray [Value.int .i64 z.over.e, .int .u64 z.over.v, .int .i64 z.over.f, .int .i64 z.at_.gate, .int .i64 z.at_.pc])) (by simp)
           have A2 := hM.out.there (boxOb k1 (List.toArray [Value.int .i64 z.over.e, .int .u64 z.over.v, .int .i64 z.over.f, .int .i64 z.at_.gate, .int .i64 z.at_.pc])) (by simp)
           have A3 := hM.out.there (boxOb ko (List.toArray [Value.int .i64 z.over.e, .int .u64 z.over.v, .int .i64 z.over.f, .int .i64 z.at_.gate, .int .i64 z.at_.pc])) (by simp)
           have x0 : V24.cell? ⟨k2, 0, none⟩ = some (.int .i64 z.over.e) := A1.2.1 0
           have x1 : V24.cell? ⟨k2, 1, none⟩ = some (.int .u64 z.over.v) := A1.2.1 1
           have x2 : V24.cell? ⟨k2, 2, none⟩ = some (.int .i64 z.over.f) := A1.2.1 2
           have x3 : V24.cell? ⟨k2, 3, none⟩ = some (.int .i64 z.at_.gate) := A1.2.1 3
           have x4 : V24.cell? ⟨k2, 4, none⟩ = some (.int .i64 z.at_.pc) := A1.2.1 4
           have y0 : V24.cell? ⟨k1, 0, none⟩ = some (.int .i64 z.over.e) := A2.2.1 0
           have y1 : V24.cell? ⟨k1, 1, none⟩ = some (.int .u64 z.over.v) := A2.2.1 1
           have y2 : V24.cell? ⟨k1, 2, none⟩ = some (.int .i64 z.over.f) := A2.2.1 2
           have y3 : V24.cell? ⟨k1, 3, none⟩ = some (.int .i64 z.at_.gate) := A2.2.1 3
           have y4 : V24.cell? ⟨k1, 4, none⟩ = some (.int .i64 z.at_.pc) := A2.2.1 4
           have z0 : V24.cell? ⟨ko, 0, none⟩ = some (.int .i64 z.over.e) := A3.2.1 0
           have z1 : V24.cell? ⟨ko, 1, none⟩ = some (.int .u64 z.over.v) := A3.2.1 1
           have z2 : V24.cell? ⟨ko, 2, none⟩ = some (.int .i64 z.over.f) := A3.2.1 2
           have z3 : V24.cell? ⟨ko, 3, none⟩ = some (.int .i64 z.at_.gate) := A3.2.1 3
           have z4 : V24.cell? ⟨ko, 4, none⟩ = some (.int .i64 z.at_.pc) := A3.2.1 4
           clear A1 A2 A3
           have hq1 : (z.over.e == 0) = false := beq_false_of_ne hze.out
           have hq2 := oc_eq5 z.over.e z.over.v z.over.f z.at_.gate z.at_.pc
           go_wp2_with fail
           go_ret
           exact ⟨rfl, hfin.out _ hG.out⟩
         · skip
           have ez : z = u := by rw [hz.out]; exact (if_neg heN)
           have hj0 : j ≠ 0 := fun q => by apply heN; rw [hu.out, q]; exact he0.out
           have e4 : (z.over.e == 4) = false := beq_false_of_ne (by rw [ez, hu.out]; exact stepsM_e P j s0 he0.out)
           have A3 := hM.out.there (boxOb ko (List.toArray [Value.int .i64 z.over.e, .int .u64 z.over.v, .int .i64 z.over.f, .int .i64 z.at_.gate, .int .i64 z.at_.pc])) (by simp)
           have A1 := hM.out.there (boxOb kw (wO u j).toArray) (by simp)
           have ew : wO u j = [Value.int .i64 z.over.e, .int .u64 z.over.v, .int .i64 z.over.f, .int .i64 z.at_.gate, .int .i64 z.at_.pc] := by rw [ez]; unfold wO; rw [if_neg hj0]; rfl
           rw [ew] at A1
           have y0 : wr.cell? ⟨kw, 0, none⟩ = some (.int .i64 z.over.e) := A1.2.1 0
           have y1 : wr.cell? ⟨kw, 1, none⟩ = some (.int .u64 z.over.v) := A1.2.1 1
           have y2 : wr.cell? ⟨kw, 2, none⟩ = some (.int .i64 z.over.f) := A1.2.1 2
           have y3 : wr.cell? ⟨kw, 3, none⟩ = some (.int .i64 z.at_.gate) := A1.2.1 3
           have y4 : wr.cell? ⟨kw, 4, none⟩ = some (.int .i64 z.at_.pc) := A1.2.1 4
           have z0 : wr.cell? ⟨ko, 0, none⟩ = some (.int .i64 z.over.e) := A3.2.1 0
           have z1 : wr.cell? ⟨ko, 1, none⟩ = some (.int .u64 z.over.v) := A3.2.1 1
           have z2 : wr.cell? ⟨ko, 2, none⟩ = some (.int .i64 z.over.f) := A3.2.1 2
           have z3 : wr.cell? ⟨ko, 3, none⟩ = some (.int .i64 z.at_.gate) := A3.2.1 3
           have z4 : wr.cell? ⟨ko, 4, none⟩ = some (.int .i64 z.at_.pc) := A3.2.1 4
           clear A1 A3 ew ez hj0
           have hq2 := oc_ne5 z.over.e z.over.v z.over.f z.at_.gate z.at_.pc
           go_upto_region 23 with fail
           clear y0 y1 y2 y3 y4 z0 z1 z2 z3 z4 hq2 e4
           generalize (wO u j).toArray = wv at *
           generalize wr = V8 at *
           obtain ⟨lx, hX⟩ := hM.out.one
           go_wp2_with fail
           refine (outs_any B V8 ax P z lx hX hol.out).mono ?_
           rintro r V9 ⟨va1, c1, rfl, hW1, hBn⟩
           replace hW1 := Hz.mk hW1
           replace hG := Hz.mk (hG.out.trans (Below.mono hBn hM.out.le))
           replace hM := Hz.mk (hM.out.gr hBn)
           clear hBn
           clear hX
           obtain ⟨ly, hY⟩ := hM.out.turn.one
           go_wp2_with fail
           refine (outs_any B V9 ay P u ly hY hol2.out).mono ?_
           rintro r V10 ⟨va2, c2, rfl, hW2, hBn⟩
           replace hW2 := Hz.mk hW2
           replace hW1 := Hz.mk (hW1.out.bl hBn)
           replace hG := Hz.mk (hG.out.trans (Below.mono hBn hM.out.le))
           replace hM := Hz.mk (hM.out.gr hBn)
           clear hBn
           clear hY
           rw [a1.out] at hW1
           go_wp2_with fail
           refine ((show Calls Tryz.prog 14 #[.slice va1 z.out.length c1, .slice va2 u.out.length c2] V10 _ by rw [a1.out]; exact sameW_self u.out va1 va2 c1 c2 V10 hW1.out hW2.out hol2.out)).mono ?_
           rintro r V11 ⟨rfl, hBn⟩
           replace hG := Hz.mk (hG.out.trans (Below.mono hBn hM.out.le))
           replace hM := Hz.mk (hM.out.gr hBn)
           clear hBn
           clear hW1 hW2
           obtain ⟨lx, hX⟩ := hM.out.one
           go_wp2_with fail
           refine (tcs_any B V11 ax P z lx hX htl.out).mono ?_
           rintro r V12 ⟨va1, c1, rfl, hW1, hBn⟩
           replace hW1 := Hz.mk hW1
           replace hG := Hz.mk (hG.out.trans (Below.mono hBn hM.out.le))
           replace hM := Hz.mk (hM.out.gr hBn)
           clear hBn
           clear hX
           obtain ⟨ly, hY⟩ := hM.out.turn.one
           go_wp2_with fail
           refine (tcs_any B V12 ay P u ly hY htl2.out).mono ?_
           rintro r V13 ⟨va2, c2, rfl, hW2, hBn⟩
           replace hW2 := Hz.mk hW2
           replace hW1 := Hz.mk (hW1.out.below hBn)
           replace hG := Hz.mk (hG.out.trans (Below.mono hBn hM.out.le))
           replace hM := Hz.mk (hM.out.gr hBn)
           clear hBn
           clear hY
           rw [a2.out] at hW1
           go_wp2_with fail
           refine ((show Calls Tryz.prog 15 #[.slice va1 z.tou.length c1, .slice va2 u.tou.length c2] V13 _ by rw [a2.out]; exact sameT_self u.tou va1 va2 c1 c2 V13 hW1.out hW2.out htl2.out)).mono ?_
           rintro r V14 ⟨rfl, hBn⟩
           replace hG := Hz.mk (hG.out.trans (Below.mono hBn hM.out.le))
           replace hM := Hz.mk (hM.out.gr hBn)
           clear hBn
           clear hW1 hW2
           obtain ⟨lx, hX⟩ := hM.out.one
           go_wp2_with fail
           refine (outs_any B V14 ax P z lx hX hol.out).mono ?_
           rintro r V15 ⟨va1, c1, rfl, hW1, hBn⟩
           clear hW1
           replace hG := Hz.mk (hG.out.trans (Below.mono hBn hM.out.le))
           replace hM := Hz.mk (hM.out.gr hBn)
           clear hBn
           clear hX
           have n1 : ¬ (j : Int) < (z.out.length : Int) := by have := hlo.out; omega
           obtain ⟨lx, hX⟩ := hM.out.one
           go_wp2_with fail
           refine (tcs_any B V15 ax P z lx hX htl.out).mono ?_
           rintro r V16 ⟨va1, c1, rfl, hW1, hBn⟩
           clear hW1
           replace hG := Hz.mk (hG.out.trans (Below.mono hBn hM.out.le))
           replace hM := Hz.mk (hM.out.gr hBn)
           clear hBn
           clear hX
           have n2 : ¬ (j : Int) < (z.tou.length : Int) := by have := hlt.out; omega
           obtain ⟨lx, hX⟩ := hM.out.one
           go_wp2_with fail
           refine (snap_any B ax P z lx V16 hX).mono ?_
           rintro r V17 ⟨rfl, hBn⟩
           replace hG := Hz.mk (hG.out.trans (Below.mono hBn hM.out.le))
           replace hM := Hz.mk (hM.out.gr hBn)
           clear hBn
           clear hX
           obtain ⟨ly, hY⟩ := hM.out.turn.one
           go_wp2_with fail
           refine (snap_any B ay P u ly V17 hY).mono ?_
           rintro r V18 ⟨rfl, hBn⟩
           replace hG := Hz.mk (hG.out.trans (Below.mono hBn hM.out.le))
           replace hM := Hz.mk (hM.out.gr hBn)
           clear hBn
           clear hY
           rw [a3.out]
           have hne := sn_neq u
           generalize (snR u).toArray = sv at *
           go_upto_region 27 with fail
           clear hne n1 n2
           go_wp2_with fail
           refine (hM.out.call (fun l' h => step_oc P hP.out z N hsz.out (by omega) z (stepsM_end hze.out 1) B V18 ax l' h)).mono ?_
           rintro r V21 ⟨rfl, hM1, hBn⟩
           replace hG := Hz.mk (hG.out.trans hBn)
           replace hM := Hz.mk hM1
           clear hBn hM1
           go_upto_region 28 with fail
           refine wp_world (fun V => ∃ k, k = V21.heap.size ∧ M2 B V P ax z ay u (boxOb k (List.toArray [Value.int .i64 z.over.e, .int .u64 z.over.v, .int .i64 z.over.f, .int .i64 z.at_.gate, .int .i64 z.at_.pc]) :: [boxOb kw wv, boxOb ko (List.toArray [Value.int .i64 z.over.e, .int .u64 z.over.v, .int .i64 z.over.f, .int .i64 z.at_.gate, .int .i64 z.at_.pc])]) ∧ Below B V21 V) ⟨_, rfl, hM.out.new _ _⟩ ?_
           rintro V22 ⟨k1, hkk, hM1, hBn⟩
           rw [← hkk]
           clear hkk
           replace hG := Hz.mk (hG.out.trans hBn)
           replace hM := Hz.mk hM1
           clear hBn hM1
           go_wp2_with fail
           refine (hM.out.call (fun l' h => run_oc P hP.out z N 5 hsz.out (by omega) (by omega) z (runM_end P 5 z hze.out) B V22 ax l' h)).mono ?_
           rintro r V23 ⟨rfl, hM1, hBn⟩
           replace hG := Hz.mk (hG.out.trans hBn)
           replace hM := Hz.mk hM1
           clear hBn hM1
           go_upto_region 29 with fail
           refine wp_world (fun V => ∃ k, k = V23.heap.size ∧ M2 B V P ax z ay u (boxOb k (List.toArray [Value.int .i64 z.over.e, .int .u64 z.over.v, .int .i64 z.over.f, .int .i64 z.at_.gate, .int .i64 z.at_.pc]) :: boxOb k1 (List.toArray [Value.int .i64 z.over.e, .int .u64 z.over.v, .int .i64 z.over.f, .int .i64 z.at_.gate, .int .i64 z.at_.pc]) :: [boxOb kw wv, boxOb ko (List.toArray [Value.int .i64 z.over.e, .int .u64 z.over.v, .int .i64 z.over.f, .int .i64 z.at_.gate, .int .i64 z.at_.pc])]) ∧ Below B V23 V) ⟨_, rfl, hM.out.new _ _⟩ ?_
           rintro V24 ⟨k2, hkk, hM1, hBn⟩
           rw [← hkk]
           clear hkk
           replace hG := Hz.mk (hG.out.trans hBn)
           replace hM := Hz.mk hM1
           clear hBn hM1
           have A1 := hM.out.there (boxOb k2 (List.toArray [Value.int .i64 z.over.e, .int .u64 z.over.v, .int .i64 z.over.f, .int .i64 z.at_.gate, .int .i64 z.at_.pc])) (by simp)
           have A2 := hM.out.there (boxOb k1 (List.toArray [Value.int .i64 z.over.e, .int .u64 z.over.v, .int .i64 z.over.f, .int .i64 z.at_.gate, .int .i64 z.at_.pc])) (by simp)
           have A3 := hM.out.there (boxOb ko (List.toArray [Value.int .i64 z.over.e, .int .u64 z.over.v, .int .i64 z.over.f, .int .i64 z.at_.gate, .int .i64 z.at_.pc])) (by simp)
           have x0 : V24.cell? ⟨k2, 0, none⟩ = some (.int .i64 z.over.e) := A1.2.1 0
           have x1 : V24.cell? ⟨k2, 1, none⟩ = some (.int .u64 z.over.v) := A1.2.1 1
           have x2 : V24.cell? ⟨k2, 2, none⟩ = some (.int .i64 z.over.f) := A1.2.1 2
           have x3 : V24.cell? ⟨k2, 3, none⟩ = some (.int .i64 z.at_.gate) := A1.2.1 3
           have x4 : V24.cell? ⟨k2, 4, none⟩ = some (.int .i64 z.at_.pc) := A1.2.1 4
           have y0 : V24.cell? ⟨k1, 0, none⟩ = some (.int .i64 z.over.e) := A2.2.1 0
           have y1 : V24.cell? ⟨k1, 1, none⟩ = some (.int .u64 z.over.v) := A2.2.1 1
           have y2 : V24.cell? ⟨k1, 2, none⟩ = some (.int .i64 z.over.f) := A2.2.1 2
           have y3 : V24.cell? ⟨k1, 3, none⟩ = some (.int .i64 z.at_.gate) := A2.2.1 3
           have y4 : V24.cell? ⟨k1, 4, none⟩ = some (.int .i64 z.at_.pc) := A2.2.1 4
           have z0 : V24.cell? ⟨ko, 0, none⟩ = some (.int .i64 z.over.e) := A3.2.1 0
           have z1 : V24.cell? ⟨ko, 1, none⟩ = some (.int .u64 z.over.v) := A3.2.1 1
           have z2 : V24.cell? ⟨ko, 2, none⟩ = some (.int .i64 z.over.f) := A3.2.1 2
           have z3 : V24.cell? ⟨ko, 3, none⟩ = some (.int .i64 z.at_.gate) := A3.2.1 3
           have z4 : V24.cell? ⟨ko, 4, none⟩ = some (.int .i64 z.at_.pc) := A3.2.1 4
           clear A1 A2 A3
           have hq1 : (z.over.e == 0) = false := beq_false_of_ne hze.out
           have hq2 := oc_eq5 z.over.e z.over.v z.over.f z.at_.gate z.at_.pc
           go_wp2_with fail
           go_ret
           exact ⟨rfl, hfin.out _ hG.out⟩
     · obtain rfl : j = N := by omega
       have hjl1 : ¬ (j : Int) < (j : Int) := by omega
       have hend : stepsM P j s0 = stepsM P j s0 := rfl
       go_upto_region 17 with fail
       clear y0 hjl1
       have hjN : stepsM P j s0 = stepsM P j s0 := hend
       have hsz : Hz (Okm P j z) := Hz.mk (by rw [hz.out, runM_nat P j (by omega) s0]; have := okm_spent (okm_steps hP.out j hs.out); rwa [Nat.zero_add] at this)
       have hsu := Hz.mk (okm_steps hP.out j hs.out)
       rw [Nat.zero_add] at hsu
       have hz2 : z = spent (stepsM P j s0) := by rw [hz.out, runM_nat P j (by omega) s0, hjN]
       replace hz := Hz.mk hz2
       clear hz2
       have hze : Hz (¬ z.over.e = 0) := Hz.mk (by rw [hz.out]; exact spent_e _)
       have hw0 := Hz.mk (wO_at P s0 j he0.out)
       obtain ⟨u, hu⟩ : ∃ u, stepsM P j s0 = u := ⟨_, rfl⟩
       rw [hu] at hM hsu hz hw0
       clear hjN hend
       replace hu := Hz.mk hu.symm
       obtain ⟨b1, b2, b3, b4⟩ := spent_as u
       have b5 := spent_snR u
       rw [← hz.out] at b1 b2 b3 b4 b5
       have a1 := Hz.mk b1
       have a2 := Hz.mk b2
       have a3 := Hz.mk b5
       have a5 := Hz.mk b3
       have hol : Hz (z.out.length ≤ 1000000) := Hz.mk (Nat.le_trans hsz.out.out (by omega))
       have htl : Hz (z.tou.length ≤ 1000000) := Hz.mk (Nat.le_trans hsz.out.tou (by omega))
       have hol2 : Hz (u.out.length ≤ 1000000) := Hz.mk (Nat.le_trans hsu.out.out (by omega))
       have htl2 : Hz (u.tou.length ≤ 1000000) := Hz.mk (Nat.le_trans hsu.out.tou (by omega))
       have hlo : Hz (¬ (j : Int) < (z.out.length : Int)) := Hz.mk (by rw [b1]; have := hsu.out.out; omega)
       have hlt : Hz (¬ (j : Int) < (z.tou.length : Int)) := Hz.mk (by rw [b2]; have := hsu.out.tou; omega)
       clear b1 b2 b3 b4 b5 hsu
       by_cases heN : u.over.e = 0
       · skip
         have hzo : z.over = ⟨4, 0, 0⟩ := by rw [hz.out]; unfold spent; rw [if_pos heN]; rfl
         have e4 : z.over.e = 4 := by rw [hzo]
         have e5 : z.over.v = 0 := by rw [hzo]
         have e6 : z.over.f = 0 := by rw [hzo]
         clear hzo
         have A3 := hM.out.there (boxOb ko (List.toArray [Value.int .i64 z.over.e, .int .u64 z.over.v, .int .i64 z.over.f, .int .i64 z.at_.gate, .int .i64 z.at_.pc])) (by simp)
         have z0 : wr.cell? ⟨ko, 0, none⟩ = some (.int .i64 4) := by have := A3.2.1 0; rw [this]; simp [e4]
         clear A3
         go_upto_region 18 with fail
         clear z0
         obtain ⟨ly, hY⟩ := hM.out.turn.one
         replace hY := Hz.mk hY
         refine wp_region_lit ?_
         refine wpList_plain rfl (fun K hK => ?_)
         go_simp
         with_reducible refine hK _ _ ?_
         clear hK K
         try simp only [xap]
         refine wpList_plain rfl (fun K hK => ?_)
         go_simp
         (refine (snap_any B ay P u ly _ hY.out).mono ?_; rintro r V5 ⟨rfl, hBn⟩; clear hY; replace hG := Hz.mk (hG.out.trans (Below.mono hBn hM.out.le)); replace hM := Hz.mk (hM.out.gr hBn); clear hBn; have hA7 : At (V5.alloc (.cells (snR zS).toArray 38)) V5.heap.size (snR zS).toArray := At.new V5 _ _; have hth := Hz.mk (At.there hA7 0 115 (by rw [snR_len]; decide)); have hA8 := Hz.mk (At.setAll hA7 (snR u) (by rw [snR_len, snR_len])); have g9 := Hz.mk (((Bl.refl V5).alloc (.cells (snR zS).toArray 38)).sets V5.heap.size (Nat.le_refl _) (snR u) 0); replace hA7 := Hz.mk hA7)
         with_reducible refine hK _ _ ?_
         clear hK K
         try simp only [xap]
         refine wpList_plain rfl (fun K hK => ?_)
         refine wp_alloc_sn rfl (hK _ _ ?_)
         clear hK K
         try simp only [xap]
         refine wpList_store_mid rfl _ _ _ rfl _ _ (List.toArray (snR u)) rfl rfl (show World.there _ _ _ _ by rw [show (snR u).toArray.size = 115 from snR_len u]; exact hth.out) (by rw [List.size_toArray, snR_len]; kernel_rfl) (snR_one u) ?_
         try simp only [Act.put]
         clear hth hA7
         have h9 := Hz.mk (hM.out.add (boxOb V5.heap.size (snR u).toArray) hA8.out (fun k q => by have : k = V5.heap.size := q; omega) g9.out)
         replace hG := Hz.mk (hG.out.trans (Below.mono g9.out hM.out.le))
         replace hM := h9
         clear h9 g9 hA8
         generalize World.setCells _ _ _ _ = V6 at *
         generalize V5.heap.size = ks at *
         have A0 := hM.out.there (boxOb ks (snR u).toArray) (by simp)
         have A1 := hM.out.there (boxOb kw (wO u j).toArray) (by simp)
         have A3 := hM.out.there (boxOb ko (List.toArray [Value.int .i64 z.over.e, .int .u64 z.over.v, .int .i64 z.over.f, .int .i64 z.at_.gate, .int .i64 z.at_.pc])) (by simp)
         have x0 : V6.cell? ⟨ks, 0, none⟩ = some (.int .i64 u.at_.gate) := A0.2.1 0
         have x1 : V6.cell? ⟨ks, 1, none⟩ = some (.int .i64 u.at_.pc) := A0.2.1 1
         have y0 : V6.cell? ⟨kw, 0, none⟩ = some (.int .i64 0) := by have := A1.2.1 0; rw [this, List.getElem?_toArray, hw0.out, heN]
         have z0 : V6.cell? ⟨ko, 0, none⟩ = some (.int .i64 4) := by have := A3.2.1 0; rw [this]; simp [e4, e5, e6, a5.out]
         have z1 : V6.cell? ⟨ko, 1, none⟩ = some (.int .u64 0) := by have := A3.2.1 1; rw [this]; simp [e4, e5, e6, a5.out]
         have z2 : V6.cell? ⟨ko, 2, none⟩ = some (.int .i64 0) := by have := A3.2.1 2; rw [this]; simp [e4, e5, e6, a5.out]
         have z3 : V6.cell? ⟨ko, 3, none⟩ = some (.int .i64 u.at_.gate) := by have := A3.2.1 3; rw [this]; simp [e4, e5, e6, a5.out]
         have z4 : V6.cell? ⟨ko, 4, none⟩ = some (.int .i64 u.at_.pc) := by have := A3.2.1 4; rw [this]; simp [e4, e5, e6, a5.out]
         clear A0 A1 A3 e5 e6
         have hq2 := oc_ne5 4 0 0 u.at_.gate u.at_.pc
         go_upto_region 23 with fail
         clear x0 x1 y0 z0 z1 z2 z3 z4 hq2 e4
         generalize (wO u j).toArray = wv at *
         replace hM := Hz.mk (hM.out.drop)
         generalize V6 = V8 at *
         obtain ⟨lx, hX⟩ := hM.out.one
         go_wp2_with fail
         refine (outs_any B V8 ax P z lx hX hol.out).mono ?_
         rintro r V9 ⟨va1, c1, rfl, hW1, hBn⟩
         replace hW1 := Hz.mk hW1
         replace hG := Hz.mk (hG.out.trans (Below.mono hBn hM.out.le))
         replace hM := Hz.mk (hM.out.gr hBn)
         clear hBn
         clear hX
         obtain ⟨ly, hY⟩ := hM.out.turn.one
         go_wp2_with fail
         refine (outs_any B V9 ay P u ly hY hol2.out).mono ?_
         rintro r V10 ⟨va2, c2, rfl, hW2, hBn⟩
         replace hW2 := Hz.mk hW2
         replace hW1 := Hz.mk (hW1.out.bl hBn)
         replace hG := Hz.mk (hG.out.trans (Below.mono hBn hM.out.le))
         replace hM := Hz.mk (hM.out.gr hBn)
         clear hBn
         clear hY
         rw [a1.out] at hW1
         go_wp2_with fail
         refine ((show Calls Tryz.prog 14 #[.slice va1 z.out.length c1, .slice va2 u.out.length c2] V10 _ by rw [a1.out]; exact sameW_self u.out va1 va2 c1 c2 V10 hW1.out hW2.out hol2.out)).mono ?_
         rintro r V11 ⟨rfl, hBn⟩
         replace hG := Hz.mk (hG.out.trans (Below.mono hBn hM.out.le))
         replace hM := Hz.mk (hM.out.gr hBn)
         clear hBn
         clear hW1 hW2
         obtain ⟨lx, hX⟩ := hM.out.one
         go_wp2_with fail
         refine (tcs_any B V11 ax P z lx hX htl.out).mono ?_
         rintro r V12 ⟨va1, c1, rfl, hW1, hBn⟩
         replace hW1 := Hz.mk hW1
         replace hG := Hz.mk (hG.out.trans (Below.mono hBn hM.out.le))
         replace hM := Hz.mk (hM.out.gr hBn)
         clear hBn
         clear hX
         obtain ⟨ly, hY⟩ := hM.out.turn.one
         go_wp2_with fail
         refine (tcs_any B V12 ay P u ly hY htl2.out).mono ?_
         rintro r V13 ⟨va2, c2, rfl, hW2, hBn⟩
         replace hW2 := Hz.mk hW2
         replace hW1 := Hz.mk (hW1.out.below hBn)
         replace hG := Hz.mk (hG.out.trans (Below.mono hBn hM.out.le))
         replace hM := Hz.mk (hM.out.gr hBn)
         clear hBn
         clear hY
         rw [a2.out] at hW1
         go_wp2_with fail
         refine ((show Calls Tryz.prog 15 #[.slice va1 z.tou.length c1, .slice va2 u.tou.length c2] V13 _ by rw [a2.out]; exact sameT_self u.tou va1 va2 c1 c2 V13 hW1.out hW2.out htl2.out)).mono ?_
         rintro r V14 ⟨rfl, hBn⟩
         replace hG := Hz.mk (hG.out.trans (Below.mono hBn hM.out.le))
         replace hM := Hz.mk (hM.out.gr hBn)
         clear hBn
         clear hW1 hW2
         obtain ⟨lx, hX⟩ := hM.out.one
         go_wp2_with fail
         refine (outs_any B V14 ax P z lx hX hol.out).mono ?_
         rintro r V15 ⟨va1, c1, rfl, hW1, hBn⟩
         clear hW1
         replace hG := Hz.mk (hG.out.trans (Below.mono hBn hM.out.le))
         replace hM := Hz.mk (hM.out.gr hBn)
         clear hBn
         clear hX
         have n1 : ¬ (j : Int) < (z.out.length : Int) := by have := hlo.out; omega
         obtain ⟨lx, hX⟩ := hM.out.one
         go_wp2_with fail
         refine (tcs_any B V15 ax P z lx hX htl.out).mono ?_
         rintro r V16 ⟨va1, c1, rfl, hW1, hBn⟩
         clear hW1
         replace hG := Hz.mk (hG.out.trans (Below.mono hBn hM.out.le))
         replace hM := Hz.mk (hM.out.gr hBn)
         clear hBn
         clear hX
         have n2 : ¬ (j : Int) < (z.tou.length : Int) := by have := hlt.out; omega
         obtain ⟨lx, hX⟩ := hM.out.one
         go_wp2_with fail
         refine (snap_any B ax P z lx V16 hX).mono ?_
         rintro r V17 ⟨rfl, hBn⟩
         replace hG := Hz.mk (hG.out.trans (Below.mono hBn hM.out.le))
         replace hM := Hz.mk (hM.out.gr hBn)
         clear hBn
         clear hX
         obtain ⟨ly, hY⟩ := hM.out.turn.one
         go_wp2_with fail
         refine (snap_any B ay P u ly V17 hY).mono ?_
         rintro r V18 ⟨rfl, hBn⟩
         replace hG := Hz.mk (hG.out.trans (Below.mono hBn hM.out.le))
         replace hM := Hz.mk (hM.out.gr hBn)
         clear hBn
         clear hY
         rw [a3.out]
         have hne := sn_neq u
         generalize (snR u).toArray = sv at *
         go_upto_region 27 with fail
         clear hne n1 n2
         go_wp2_with fail
         refine (hM.out.call (fun l' h => step_oc P hP.out z j hsz.out (by omega) z (stepsM_end hze.out 1) B V18 ax l' h)).mono ?_
         rintro r V21 ⟨rfl, hM1, hBn⟩
         replace hG := Hz.mk (hG.out.trans hBn)
         replace hM := Hz.mk hM1
         clear hBn hM1
         go_upto_region 28 with fail
         refine wp_world (fun V => ∃ k, k = V21.heap.size ∧ M2 B V P ax z ay u (boxOb k (List.toArray [Value.int .i64 z.over.e, .int .u64 z.over.v, .int .i64 z.over.f, .int .i64 z.at_.gate, .int .i64 z.at_.pc]) :: [boxOb kw wv, boxOb ko (List.toArray [Value.int .i64 z.over.e, .int .u64 z.over.v, .int .i64 z.over.f, .int .i64 z.at_.gate, .int .i64 z.at_.pc])]) ∧ Below B V21 V) ⟨_, rfl, hM.out.new _ _⟩ ?_
         rintro V22 ⟨k1, hkk, hM1, hBn⟩
         rw [← hkk]
         clear hkk
         replace hG := Hz.mk (hG.out.trans hBn)
         replace hM := Hz.mk hM1
         clear hBn hM1
         go_wp2_with fail
         refine (hM.out.call (fun l' h => run_oc P hP.out z j 5 hsz.out (by omega) (by omega) z (runM_end P 5 z hze.out) B V22 ax l' h)).mono ?_
         rintro r V23 ⟨rfl, hM1, hBn⟩
         replace hG := Hz.mk (hG.out.trans hBn)
         replace hM := Hz.mk hM1
         clear hBn hM1
         go_upto_region 29 with fail
         refine wp_world (fun V => ∃ k, k = V23.heap.size ∧ M2 B V P ax z ay u (boxOb k (List.toArray [Value.int .i64 z.over.e, .int .u64 z.over.v, .int .i64 z.over.f, .int .i64 z.at_.gate, .int .i64 z.at_.pc]) :: boxOb k1 (List.toArray [Value.int .i64 z.over.e, .int .u64 z.over.v, .int .i64 z.over.f, .int .i64 z.at_.gate, .int .i64 z.at_.pc]) :: [boxOb kw wv, boxOb ko (List.toArray [Value.int .i64 z.over.e, .int .u64 z.over.v, .int .i64 z.over.f, .int .i64 z.at_.gate, .int .i64 z.at_.pc])]) ∧ Below B V23 V) ⟨_, rfl, hM.out.new _ _⟩ ?_
         rintro V24 ⟨k2, hkk, hM1, hBn⟩
         rw [← hkk]
         clear hkk
         replace hG := Hz.mk (hG.out.trans hBn)
         replace hM := Hz.mk hM1
         clear hBn hM1
         have A1 := hM.out.there (boxOb k2 (List.toArray [Value.int .i64 z.over.e, .int .u64 z.over.v, .int .i64 z.over.f, .int .i64 z.at_.gate, .int .i64 z.at_.pc])) (by simp)
         have A2 := hM.out.there (boxOb k1 (List.toArray [Value.int .i64 z.over.e, .int .u64 z.over.v, .int .i64 z.over.f, .int .i64 z.at_.gate, .int .i64 z.at_.pc])) (by simp)
         have A3 := hM.out.there (boxOb ko (List.toArray [Value.int .i64 z.over.e, .int .u64 z.over.v, .int .i64 z.over.f, .int .i64 z.at_.gate, .int .i64 z.at_.pc])) (by simp)
         have x0 : V24.cell? ⟨k2, 0, none⟩ = some (.int .i64 z.over.e) := A1.2.1 0
         have x1 : V24.cell? ⟨k2, 1, none⟩ = some (.int .u64 z.over.v) := A1.2.1 1
         have x2 : V24.cell? ⟨k2, 2, none⟩ = some (.int .i64 z.over.f) := A1.2.1 2
         have x3 : V24.cell? ⟨k2, 3, none⟩ = some (.int .i64 z.at_.gate) := A1.2.1 3
         have x4 : V24.cell? ⟨k2, 4, none⟩ = some (.int .i64 z.at_.pc) := A1.2.1 4
         have y0 : V24.cell? ⟨k1, 0, none⟩ = some (.int .i64 z.over.e) := A2.2.1 0
         have y1 : V24.cell? ⟨k1, 1, none⟩ = some (.int .u64 z.over.v) := A2.2.1 1
         have y2 : V24.cell? ⟨k1, 2, none⟩ = some (.int .i64 z.over.f) := A2.2.1 2
         have y3 : V24.cell? ⟨k1, 3, none⟩ = some (.int .i64 z.at_.gate) := A2.2.1 3
         have y4 : V24.cell? ⟨k1, 4, none⟩ = some (.int .i64 z.at_.pc) := A2.2.1 4
         have z0 : V24.cell? ⟨ko, 0, none⟩ = some (.int .i64 z.over.e) := A3.2.1 0
         have z1 : V24.cell? ⟨ko, 1, none⟩ = some (.int .u64 z.over.v) := A3.2.1 1
         have z2 : V24.cell? ⟨ko, 2, none⟩ = some (.int .i64 z.over.f) := A3.2.1 2
         have z3 : V24.cell? ⟨ko, 3, none⟩ = some (.int .i64 z.at_.gate) := A3.2.1 3
         have z4 : V24.cell? ⟨ko, 4, none⟩ = some (.int .i64 z.at_.pc) := A3.2.1 4
         clear A1 A2 A3
         have hq1 : (z.over.e == 0) = false := beq_false_of_ne hze.out
         have hq2 := oc_eq5 z.over.e z.over.v z.over.f z.at_.gate z.at_.pc
         go_wp2_with fail
         go_ret
         exact ⟨rfl, hfin.out _ hG.out⟩
       · skip
         have ez : z = u := by rw [hz.out]; exact (if_neg heN)
         have hj0 : j ≠ 0 := fun q => by apply heN; rw [hu.out, q]; exact he0.out
         have e4 : (z.over.e == 4) = false := beq_false_of_ne (by rw [ez, hu.out]; exact stepsM_e P j s0 he0.out)
         have A3 := hM.out.there (boxOb ko (List.toArray [Value.int .i64 z.over.e, .int .u64 z.over.v, .int .i64 z.over.f, .int .i64 z.at_.gate, .int .i64 z.at_.pc])) (by simp)
         have A1 := hM.out.there (boxOb kw (wO u j).toArray) (by simp)
         have ew : wO u j = [Value.int .i64 z.over.e, .int .u64 z.over.v, .int .i64 z.over.f, .int .i64 z.at_.gate, .int .i64 z.at_.pc] := by rw [ez]; unfold wO; rw [if_neg hj0]; rfl
         rw [ew] at A1
         have y0 : wr.cell? ⟨kw, 0, none⟩ = some (.int .i64 z.over.e) := A1.2.1 0
         have y1 : wr.cell? ⟨kw, 1, none⟩ = some (.int .u64 z.over.v) := A1.2.1 1
         have y2 : wr.cell? ⟨kw, 2, none⟩ = some (.int .i64 z.over.f) := A1.2.1 2
         have y3 : wr.cell? ⟨kw, 3, none⟩ = some (.int .i64 z.at_.gate) := A1.2.1 3
         have y4 : wr.cell? ⟨kw, 4, none⟩ = some (.int .i64 z.at_.pc) := A1.2.1 4
         have z0 : wr.cell? ⟨ko, 0, none⟩ = some (.int .i64 z.over.e) := A3.2.1 0
         have z1 : wr.cell? ⟨ko, 1, none⟩ = some (.int .u64 z.over.v) := A3.2.1 1
         have z2 : wr.cell? ⟨ko, 2, none⟩ = some (.int .i64 z.over.f) := A3.2.1 2
         have z3 : wr.cell? ⟨ko, 3, none⟩ = some (.int .i64 z.at_.gate) := A3.2.1 3
         have z4 : wr.cell? ⟨ko, 4, none⟩ = some (.int .i64 z.at_.pc) := A3.2.1 4
         clear A1 A3 ew ez hj0
         have hq2 := oc_ne5 z.over.e z.over.v z.over.f z.at_.gate z.at_.pc
         go_upto_region 23 with fail
         clear y0 y1 y2 y3 y4 z0 z1 z2 z3 z4 hq2 e4
         generalize (wO u j).toArray = wv at *
         generalize wr = V8 at *
         obtain ⟨lx, hX⟩ := hM.out.one
         go_wp2_with fail
         refine (outs_any B V8 ax P z lx hX hol.out).mono ?_
         rintro r V9 ⟨va1, c1, rfl, hW1, hBn⟩
         replace hW1 := Hz.mk hW1
         replace hG := Hz.mk (hG.out.trans (Below.mono hBn hM.out.le))
         replace hM := Hz.mk (hM.out.gr hBn)
         clear hBn
         clear hX
         obtain ⟨ly, hY⟩ := hM.out.turn.one
         go_wp2_with fail
         refine (outs_any B V9 ay P u ly hY hol2.out).mono ?_
         rintro r V10 ⟨va2, c2, rfl, hW2, hBn⟩
         replace hW2 := Hz.mk hW2
         replace hW1 := Hz.mk (hW1.out.bl hBn)
         replace hG := Hz.mk (hG.out.trans (Below.mono hBn hM.out.le))
         replace hM := Hz.mk (hM.out.gr hBn)
         clear hBn
         clear hY
         rw [a1.out] at hW1
         go_wp2_with fail
         refine ((show Calls Tryz.prog 14 #[.slice va1 z.out.length c1, .slice va2 u.out.length c2] V10 _ by rw [a1.out]; exact sameW_self u.out va1 va2 c1 c2 V10 hW1.out hW2.out hol2.out)).mono ?_
         rintro r V11 ⟨rfl, hBn⟩
         replace hG := Hz.mk (hG.out.trans (Below.mono hBn hM.out.le))
         replace hM := Hz.mk (hM.out.gr hBn)
         clear hBn
         clear hW1 hW2
         obtain ⟨lx, hX⟩ := hM.out.one
         go_wp2_with fail
         refine (tcs_any B V11 ax P z lx hX htl.out).mono ?_
         rintro r V12 ⟨va1, c1, rfl, hW1, hBn⟩
         replace hW1 := Hz.mk hW1
         replace hG := Hz.mk (hG.out.trans (Below.mono hBn hM.out.le))
         replace hM := Hz.mk (hM.out.gr hBn)
         clear hBn
         clear hX
         obtain ⟨ly, hY⟩ := hM.out.turn.one
         go_wp2_with fail
         refine (tcs_any B V12 ay P u ly hY htl2.out).mono ?_
         rintro r V13 ⟨va2, c2, rfl, hW2, hBn⟩
         replace hW2 := Hz.mk hW2
         replace hW1 := Hz.mk (hW1.out.below hBn)
         replace hG := Hz.mk (hG.out.trans (Below.mono hBn hM.out.le))
         replace hM := Hz.mk (hM.out.gr hBn)
         clear hBn
         clear hY
         rw [a2.out] at hW1
         go_wp2_with fail
         refine ((show Calls Tryz.prog 15 #[.slice va1 z.tou.length c1, .slice va2 u.tou.length c2] V13 _ by rw [a2.out]; exact sameT_self u.tou va1 va2 c1 c2 V13 hW1.out hW2.out htl2.out)).mono ?_
         rintro r V14 ⟨rfl, hBn⟩
         replace hG := Hz.mk (hG.out.trans (Below.mono hBn hM.out.le))
         replace hM := Hz.mk (hM.out.gr hBn)
         clear hBn
         clear hW1 hW2
         obtain ⟨lx, hX⟩ := hM.out.one
         go_wp2_with fail
         refine (outs_any B V14 ax P z lx hX hol.out).mono ?_
         rintro r V15 ⟨va1, c1, rfl, hW1, hBn⟩
         clear hW1
         replace hG := Hz.mk (hG.out.trans (Below.mono hBn hM.out.le))
         replace hM := Hz.mk (hM.out.gr hBn)
         clear hBn
         clear hX
         have n1 : ¬ (j : Int) < (z.out.length : Int) := by have := hlo.out; omega
         obtain ⟨lx, hX⟩ := hM.out.one
         go_wp2_with fail
         refine (tcs_any B V15 ax P z lx hX htl.out).mono ?_
         rintro r V16 ⟨va1, c1, rfl, hW1, hBn⟩
         clear hW1
         replace hG := Hz.mk (hG.out.trans (Below.mono hBn hM.out.le))
         replace hM := Hz.mk (hM.out.gr hBn)
         clear hBn
         clear hX
         have n2 : ¬ (j : Int) < (z.tou.length : Int) := by have := hlt.out; omega
         obtain ⟨lx, hX⟩ := hM.out.one
         go_wp2_with fail
         refine (snap_any B ax P z lx V16 hX).mono ?_
         rintro r V17 ⟨rfl, hBn⟩
         replace hG := Hz.mk (hG.out.trans (Below.mono hBn hM.out.le))
         replace hM := Hz.mk (hM.out.gr hBn)
         clear hBn
         clear hX
         obtain ⟨ly, hY⟩ := hM.out.turn.one
         go_wp2_with fail
         refine (snap_any B ay P u ly V17 hY).mono ?_
         rintro r V18 ⟨rfl, hBn⟩
         replace hG := Hz.mk (hG.out.trans (Below.mono hBn hM.out.le))
         replace hM := Hz.mk (hM.out.gr hBn)
         clear hBn
         clear hY
         rw [a3.out]
         have hne := sn_neq u
         generalize (snR u).toArray = sv at *
         go_upto_region 27 with fail
         clear hne n1 n2
         go_wp2_with fail
         refine (hM.out.call (fun l' h => step_oc P hP.out z j hsz.out (by omega) z (stepsM_end hze.out 1) B V18 ax l' h)).mono ?_
         rintro r V21 ⟨rfl, hM1, hBn⟩
         replace hG := Hz.mk (hG.out.trans hBn)
         replace hM := Hz.mk hM1
         clear hBn hM1
         go_upto_region 28 with fail
         refine wp_world (fun V => ∃ k, k = V21.heap.size ∧ M2 B V P ax z ay u (boxOb k (List.toArray [Value.int .i64 z.over.e, .int .u64 z.over.v, .int .i64 z.over.f, .int .i64 z.at_.gate, .int .i64 z.at_.pc]) :: [boxOb kw wv, boxOb ko (List.toArray [Value.int .i64 z.over.e, .int .u64 z.over.v, .int .i64 z.over.f, .int .i64 z.at_.gate, .int .i64 z.at_.pc])]) ∧ Below B V21 V) ⟨_, rfl, hM.out.new _ _⟩ ?_
         rintro V22 ⟨k1, hkk, hM1, hBn⟩
         rw [← hkk]
         clear hkk
         replace hG := Hz.mk (hG.out.trans hBn)
         replace hM := Hz.mk hM1
         clear hBn hM1
         go_wp2_with fail
         refine (hM.out.call (fun l' h => run_oc P hP.out z j 5 hsz.out (by omega) (by omega) z (runM_end P 5 z hze.out) B V22 ax l' h)).mono ?_
         rintro r V23 ⟨rfl, hM1, hBn⟩
         replace hG := Hz.mk (hG.out.trans hBn)
         replace hM := Hz.mk hM1
         clear hBn hM1
         go_upto_region 29 with fail
         refine wp_world (fun V => ∃ k, k = V23.heap.size ∧ M2 B V P ax z ay u (boxOb k (List.toArray [Value.int .i64 z.over.e, .int .u64 z.over.v, .int .i64 z.over.f, .int .i64 z.at_.gate, .int .i64 z.at_.pc]) :: boxOb k1 (List.toArray [Value.int .i64 z.over.e, .int .u64 z.over.v, .int .i64 z.over.f, .int .i64 z.at_.gate, .int .i64 z.at_.pc]) :: [boxOb kw wv, boxOb ko (List.toArray [Value.int .i64 z.over.e, .int .u64 z.over.v, .int .i64 z.over.f, .int .i64 z.at_.gate, .int .i64 z.at_.pc])]) ∧ Below B V23 V) ⟨_, rfl, hM.out.new _ _⟩ ?_
         rintro V24 ⟨k2, hkk, hM1, hBn⟩
         rw [← hkk]
         clear hkk
         replace hG := Hz.mk (hG.out.trans hBn)
         replace hM := Hz.mk hM1
         clear hBn hM1
         have A1 := hM.out.there (boxOb k2 (List.toArray [Value.int .i64 z.over.e, .int .u64 z.over.v, .int .i64 z.over.f, .int .i64 z.at_.gate, .int .i64 z.at_.pc])) (by simp)
         have A2 := hM.out.there (boxOb k1 (List.toArray [Value.int .i64 z.over.e, .int .u64 z.over.v, .int .i64 z.over.f, .int .i64 z.at_.gate, .int .i64 z.at_.pc])) (by simp)
         have A3 := hM.out.there (boxOb ko (List.toArray [Value.int .i64 z.over.e, .int .u64 z.over.v, .int .i64 z.over.f, .int .i64 z.at_.gate, .int .i64 z.at_.pc])) (by simp)
         have x0 : V24.cell? ⟨k2, 0, none⟩ = some (.int .i64 z.over.e) := A1.2.1 0
         have x1 : V24.cell? ⟨k2, 1, none⟩ = some (.int .u64 z.over.v) := A1.2.1 1
         have x2 : V24.cell? ⟨k2, 2, none⟩ = some (.int .i64 z.over.f) := A1.2.1 2
         have x3 : V24.cell? ⟨k2, 3, none⟩ = some (.int .i64 z.at_.gate) := A1.2.1 3
         have x4 : V24.cell? ⟨k2, 4, none⟩ = some (.int .i64 z.at_.pc) := A1.2.1 4
         have y0 : V24.cell? ⟨k1, 0, none⟩ = some (.int .i64 z.over.e) := A2.2.1 0
         have y1 : V24.cell? ⟨k1, 1, none⟩ = some (.int .u64 z.over.v) := A2.2.1 1
         have y2 : V24.cell? ⟨k1, 2, none⟩ = some (.int .i64 z.over.f) := A2.2.1 2
         have y3 : V24.cell? ⟨k1, 3, none⟩ = some (.int .i64 z.at_.gate) := A2.2.1 3
         have y4 : V24.cell? ⟨k1, 4, none⟩ = some (.int .i64 z.at_.pc) := A2.2.1 4
         have z0 : V24.cell? ⟨ko, 0, none⟩ = some (.int .i64 z.over.e) := A3.2.1 0
         have z1 : V24.cell? ⟨ko, 1, none⟩ = some (.int .u64 z.over.v) := A3.2.1 1
         have z2 : V24.cell? ⟨ko, 2, none⟩ = some (.int .i64 z.over.f) := A3.2.1 2
         have z3 : V24.cell? ⟨ko, 3, none⟩ = some (.int .i64 z.at_.gate) := A3.2.1 3
         have z4 : V24.cell? ⟨ko, 4, none⟩ = some (.int .i64 z.at_.pc) := A3.2.1 4
         clear A1 A2 A3
         have hq1 : (z.over.e == 0) = false := beq_false_of_ne hze.out
         have hq2 := oc_eq5 z.over.e z.over.v z.over.f z.at_.gate z.at_.pc
         go_wp2_with fail
         go_ret
         exact ⟨rfl, hfin.out _ hG.out⟩
 · obtain ⟨N, hN, hN3⟩ := tmodN fuel (by omega)
   go_upto_region 11 with fail
   clear hN hfu hf
   obtain ⟨z, hz⟩ : ∃ z, runM P (N : Int) s0 = z := ⟨_, rfl⟩
   have hcl := Hz.mk (hM.out.call (fun l' h => run_oc P hP.out s0 0 N hs.out (by omega) (by omega) z hz B V3 ax l' h))
   replace hz := Hz.mk hz.symm
   go_wp2_with fail
   refine hcl.out.mono ?_
   rintro r V5 ⟨rfl, hM1, hBn⟩
   clear hcl
   replace hG := Hz.mk (hG.out.trans hBn)
   replace hM := Hz.mk hM1
   clear hBn hM1
   go_upto_region 12 with fail
   refine wp_world (fun V => ∃ k, k = V5.heap.size ∧ M2 B V P ax z ay s0 [boxOb k (List.toArray [Value.int .i64 z.over.e, .int .u64 z.over.v, .int .i64 z.over.f, .int .i64 z.at_.gate, .int .i64 z.at_.pc])] ∧ Below B V5 V) ⟨_, rfl, hM.out.new _ _⟩ ?_
   rintro V6 ⟨ko, hkk, hM1, hBn⟩
   rw [← hkk]
   clear hkk
   replace hG := Hz.mk (hG.out.trans hBn)
   replace hM := Hz.mk hM1
   clear hBn hM1
   go_upto_region 14 with fail
   refine wp_world (fun V => ∃ k, k = V6.heap.size ∧ M2 B V P ax z ay s0 [boxOb k (wO s0 0).toArray, boxOb ko (List.toArray [Value.int .i64 z.over.e, .int .u64 z.over.v, .int .i64 z.over.f, .int .i64 z.at_.gate, .int .i64 z.at_.pc])] ∧ Below B V6 V) ⟨_, rfl, hM.out.new _ _⟩ ?_
   rintro V7 ⟨kw, hkk, hM1, hBn⟩
   rw [← hkk]
   clear hkk
   replace hG := Hz.mk (hG.out.trans hBn)
   replace hM := Hz.mk hM1
   clear hBn hM1
   go_loopw [16] (fun x wr => ∃ j : Nat, x = .int .i64 j ∧ j ≤ N ∧ Hz (M2 B wr P ax z ay (stepsM P j s0) [boxOb kw (wO (stepsM P j s0) j).toArray, boxOb ko (List.toArray [Value.int .i64 z.over.e, .int .u64 z.over.v, .int .i64 z.over.f, .int .i64 z.at_.gate, .int .i64 z.at_.pc])]) ∧ Hz (∀ i, i < j → (stepsM P i s0).over.e = 0) ∧ Hz (Below B V3 wr)) (fun x _ => N - (intOf x).toNat)
   case atStart => exact ⟨0, rfl, Nat.zero_le _, hM, Hz.mk (fun i hi => absurd hi (Nat.not_lt_zero i)), hG⟩
   case round =>
     clear hM hG
     obtain ⟨j, rfl, hj, hM, hpre, hG⟩ := hrel
     have A1 := hM.out.there (boxOb kw (wO (stepsM P j s0) j).toArray) (by simp)
     have y0 : wr.cell? ⟨kw, 0, none⟩ = some (.int .i64 (stepsM P j s0).over.e) := by have := A1.2.1 0; rw [this, List.getElem?_toArray]; exact wO_at P s0 j he0.out
     clear A1
     by_cases hjl : j < N
     · have hjl1 : (j : Int) < (N : Int) := Int.ofNat_lt.2 hjl
       by_cases hej : (stepsM P j s0).over.e = 0
       · have hej1 : ((stepsM P j s0).over.e == 0) = true := by simp [hej]
         have hcl := Hz.mk (hM.out.turn.call (fun l' h => step_oc P hP.out (stepsM P j s0) j (by have := okm_steps hP.out j hs.out; rwa [Nat.zero_add] at this) (by omega) (stepsM P (j + 1) s0) (stepsM_one P j s0) B wr ay l' h))
         go_upto_region 15 with fail
         clear y0
         refine wp_region_lit ?_
         refine wpList_plain rfl (fun K hK => ?_)
         go_simp
         with_reducible refine hK _ _ ?_
         clear hK K
         try simp only [xap]
         refine wpList_plain rfl (fun K hK => ?_)
         go_simp
         refine hcl.out.mono ?_
         rintro r V5 ⟨rfl, hM1, hBn⟩
         clear hcl
         replace hM1 := hM1.turn
         replace hG := Hz.mk (hG.out.trans hBn)
         with_reducible refine hK _ _ ?_
         clear hK K
         try simp only [xap]
         have A1 := hM1.there (boxOb kw (wO (stepsM P j s0) j).toArray) (by simp)
         have hth := Hz.mk (A1.there 0 5 (by rw [wO_len]; omega))
         have hA9 := At.setAll A1 [Value.int .i64 (stepsM P (j + 1) s0).over.e, .int .u64 (stepsM P (j + 1) s0).over.v, .int .i64 (stepsM P (j + 1) s0).over.f, .int .i64 (stepsM P (j + 1) s0).at_.gate, .int .i64 (stepsM P (j + 1) s0).at_.pc] (by rw [wO_len]; rfl)
         rw [← wO_succ] at hA9
         have hK9 := T.kp_setCells (fun k => k = kw) kw rfl [Value.int .i64 (stepsM P (j + 1) s0).over.e, .int .u64 (stepsM P (j + 1) s0).over.v, .int .i64 (stepsM P (j + 1) s0).over.f, .int .i64 (stepsM P (j + 1) s0).at_.gate, .int .i64 (stepsM P (j + 1) s0).at_.pc] 0 V5
         rw [← wO_succ] at hK9
         obtain ⟨hM3, hB3⟩ := hM1.side (o' := boxOb kw (wO (stepsM P (j + 1) s0) (j + 1)).toArray) hA9 hK9 (fun _ r => .inl r)
         replace hG := Hz.mk (hG.out.trans hB3)
         replace hM := Hz.mk hM3
         clear hM1 hM3 hA9 hK9 hB3 A1 hBn
         refine wpList_plain rfl (fun K hK => ?_)
         refine wp_store_mid _ _ _ rfl _ _ (List.toArray (wO (stepsM P (j + 1) s0) (j + 1))) rfl rfl hth.out (by kernel_rfl) (by simp [wO_succ, Value.oneCell']) (hK _ _ ?_)
         clear hK K hth
         try simp only [Act.put]
         generalize World.setCells _ _ _ _ = V6 at *
         go_wp2_with fail
         refine ⟨⟨j + 1, ?_, hjl, hM, Hz.mk (pre_succ (f := fun i => stepsM P i s0) hpre.out hej), hG⟩, ?_⟩
         · first | rfl | (rw [show wrap64 ((j : Int) + 1) = ((j + 1 : Nat) : Int) by unfold wrap64; omega]) | go_num
         · first | (simp [intOf]; omega) | (rw [show wrap64 ((j : Int) + 1) = ((j + 1 : Nat) : Int) by unfold wrap64; omega]; simp [intOf]; omega)
       · have hej1 : ((stepsM P j s0).over.e == 0) = false := beq_false_of_ne hej
         have hend : stepsM P N s0 = stepsM P j s0 := by rw [show N = j + (N - j) by omega]; exact stepsM_over P _ j s0 hej
         go_upto_region 17 with fail
         clear y0 hej1 hjl1
         have hjN : stepsM P N s0 = stepsM P j s0 := hend
         have hsz : Hz (Okm P N z) := Hz.mk (by rw [hz.out, runM_nat P N (by omega) s0]; have := okm_spent (okm_steps hP.out N hs.out); rwa [Nat.zero_add] at this)
         have hsu := Hz.mk (okm_steps hP.out j hs.out)
         rw [Nat.zero_add] at hsu
         have hz2 : z = spent (stepsM P j s0) := by rw [hz.out, runM_nat P N (by omega) s0, hjN]
         replace hz := Hz.mk hz2
         clear hz2
         have hze : Hz (¬ z.over.e = 0) := Hz.mk (by rw [hz.out]; exact spent_e _)
         have hw0 := Hz.mk (wO_at P s0 j he0.out)
         obtain ⟨u, hu⟩ : ∃ u, stepsM P j s0 = u := ⟨_, rfl⟩
         rw [hu] at hM hsu hz hw0
         clear hjN hend
         replace hu := Hz.mk hu.symm
         obtain ⟨b1, b2, b3, b4⟩ := spent_as u
         have b5 := spent_snR u
         rw [← hz.out] at b1 b2 b3 b4 b5
         have a1 := Hz.mk b1
         have a2 := Hz.mk b2
         have a3 := Hz.mk b5
         have a5 := Hz.mk b3
         have hol : Hz (z.out.length ≤ 1000000) := Hz.mk (Nat.le_trans hsz.out.out (by omega))
         have htl : Hz (z.tou.length ≤ 1000000) := Hz.mk (Nat.le_trans hsz.out.tou (by omega))
         have hol2 : Hz (u.out.length ≤ 1000000) := Hz.mk (Nat.le_trans hsu.out.out (by omega))
         have htl2 : Hz (u.tou.length ≤ 1000000) := Hz.mk (Nat.le_trans hsu.out.tou (by omega))
         have hlo : Hz (¬ (j : Int) < (z.out.length : Int)) := Hz.mk (by rw [b1]; have := hsu.out.out; omega)
         have hlt : Hz (¬ (j : Int) < (z.tou.length : Int)) := Hz.mk (by rw [b2]; have := hsu.out.tou; omega)
         clear b1 b2 b3 b4 b5 hsu
         by_cases heN : u.over.e = 0
         · skip
           have hzo : z.over = ⟨4, 0, 0⟩ := by rw [hz.out]; unfold spent; rw [if_pos heN]; rfl
           have e4 : z.over.e = 4 := by rw [hzo]
           have e5 : z.over.v = 0 := by rw [hzo]
           have e6 : z.over.f = 0 := by rw [hzo]
           clear hzo
           have A3 := hM.out.there (boxOb ko (List.toArray [Value.int .i64 z.over.e, .int .u64 z.over.v, .int .i64 z.over.f, .int .i64 z.at_.gate, .int .i64 z.at_.pc])) (by simp)
           have z0 : wr.cell? ⟨ko, 0, none⟩ = some (.int .i64 4) := by have := A3.2.1 0; rw [this]; simp [e4]
           clear A3
           go_upto_region 18 with fail
           clear z0
           obtain ⟨ly, hY⟩ := hM.out.turn.one
           replace hY := Hz.mk hY
           refine wp_region_lit ?_
           refine wpList_plain rfl (fun K hK => ?_)
           go_simp
           with_reducible refine hK _ _ ?_
           clear hK K
           try simp only [xap]
           refine wpList_plain rfl (fun K hK => ?_)
           go_simp
           (refine (snap_any B ay P u ly _ hY.out).mono ?_; rintro r V5 ⟨rfl, hBn⟩; clear hY; replace hG := Hz.mk (hG.out.trans (Below.mono hBn hM.out.le)); replace hM := Hz.mk (hM.out.gr hBn); clear hBn; have hA7 : At (V5.alloc (.cells (snR zS).toArray 38)) V5.heap.size (snR zS).toArray := At.new V5 _ _; have hth := Hz.mk (At.there hA7 0 115 (by rw [snR_len]; decide)); have hA8 := Hz.mk (At.setAll hA7 (snR u) (by rw [snR_len, snR_len])); have g9 := Hz.mk (((Bl.refl V5).alloc (.cells (snR zS).toArray 38)).sets V5.heap.size (Nat.le_refl _) (snR u) 0); replace hA7 := Hz.mk hA7)
           with_reducible refine hK _ _ ?_
           clear hK K
           try simp only [xap]
           refine wpList_plain rfl (fun K hK => ?_)
           refine wp_alloc_sn rfl (hK _ _ ?_)
           clear hK K
           try simp only [xap]
           refine wpList_store_mid rfl _ _ _ rfl _ _ (List.toArray (snR u)) rfl rfl (show World.there _ _ _ _ by rw [show (snR u).toArray.size = 115 from snR_len u]; exact hth.out) (by rw [List.size_toArray, snR_len]; kernel_rfl) (snR_one u) ?_
           try simp only [Act.put]
           clear hth hA7
           have h9 := Hz.mk (hM.out.add (boxOb V5.heap.size (snR u).toArray) hA8.out (fun k q => by have : k = V5.heap.size := q; omega) g9.out)
           replace hG := Hz.mk (hG.out.trans (Below.mono g9.out hM.out.le))
           replace hM := h9
           clear h9 g9 hA8
           generalize World.setCells _ _ _ _ = V6 at *
           generalize V5.heap.size = ks at *
           have A0 := hM.out.there (boxOb ks (snR u).toArray) (by simp)
           have A1 := hM.out.there (boxOb kw (wO u j).toArray) (by simp)
           have A3 := hM.out.there (boxOb ko (List.toArray [Value.int .i64 z.over.e, .int .u64 z.over.v, .int .i64 z.over.f, .int .i64 z.at_.gate, .int .i64 z.at_.pc])) (by simp)
           have x0 : V6.cell? ⟨ks, 0, none⟩ = some (.int .i64 u.at_.gate) := A0.2.1 0
           have x1 : V6.cell? ⟨ks, 1, none⟩ = some (.int .i64 u.at_.pc) := A0.2.1 1
           have y0 : V6.cell? ⟨kw, 0, none⟩ = some (.int .i64 0) := by have := A1.2.1 0; rw [this, List.getElem?_toArray, hw0.out, heN]
           have z0 : V6.cell? ⟨ko, 0, none⟩ = some (.int .i64 4) := by have := A3.2.1 0; rw [this]; simp [e4, e5, e6, a5.out]
           have z1 : V6.cell? ⟨ko, 1, none⟩ = some (.int .u64 0) := by have := A3.2.1 1; rw [this]; simp [e4, e5, e6, a5.out]
           have z2 : V6.cell? ⟨ko, 2, none⟩ = some (.int .i64 0) := by have := A3.2.1 2; rw [this]; simp [e4, e5, e6, a5.out]
           have z3 : V6.cell? ⟨ko, 3, none⟩ = some (.int .i64 u.at_.gate) := by have := A3.2.1 3; rw [this]; simp [e4, e5, e6, a5.out]
           have z4 : V6.cell? ⟨ko, 4, none⟩ = some (.int .i64 u.at_.pc) := by have := A3.2.1 4; rw [this]; simp [e4, e5, e6, a5.out]
           clear A0 A1 A3 e5 e6
           have hq2 := oc_ne5 4 0 0 u.at_.gate u.at_.pc
           go_upto_region 23 with fail
           clear x0 x1 y0 z0 z1 z2 z3 z4 hq2 e4
           generalize (wO u j).toArray = wv at *
           replace hM := Hz.mk (hM.out.drop)
           generalize V6 = V8 at *
           obtain ⟨lx, hX⟩ := hM.out.one
           go_wp2_with fail
           refine (outs_any B V8 ax P z lx hX hol.out).mono ?_
           rintro r V9 ⟨va1, c1, rfl, hW1, hBn⟩
           replace hW1 := Hz.mk hW1
           replace hG := Hz.mk (hG.out.trans (Below.mono hBn hM.out.le))
           replace hM := Hz.mk (hM.out.gr hBn)
           clear hBn
           clear hX
           obtain ⟨ly, hY⟩ := hM.out.turn.one
           go_wp2_with fail
           refine (outs_any B V9 ay P u ly hY hol2.out).mono ?_
           rintro r V10 ⟨va2, c2, rfl, hW2, hBn⟩
           replace hW2 := Hz.mk hW2
           replace hW1 := Hz.mk (hW1.out.bl hBn)
           replace hG := Hz.mk (hG.out.trans (Below.mono hBn hM.out.le))
           replace hM := Hz.mk (hM.out.gr hBn)
           clear hBn
           clear hY
           rw [a1.out] at hW1
           go_wp2_with fail
           refine ((show Calls Tryz.prog 14 #[.slice va1 z.out.length c1, .slice va2 u.out.length c2] V10 _ by rw [a1.out]; exact sameW_self u.out va1 va2 c1 c2 V10 hW1.out hW2.out hol2.out)).mono ?_
           rintro r V11 ⟨rfl, hBn⟩
           replace hG := Hz.mk (hG.out.trans (Below.mono hBn hM.out.le))
           replace hM := Hz.mk (hM.out.gr hBn)
           clear hBn
           clear hW1 hW2
           obtain ⟨lx, hX⟩ := hM.out.one
           go_wp2_with fail
           refine (tcs_any B V11 ax P z lx hX htl.out).mono ?_
           rintro r V12 ⟨va1, c1, rfl, hW1, hBn⟩
           replace hW1 := Hz.mk hW1
           replace hG := Hz.mk (hG.out.trans (Below.mono hBn hM.out.le))
           replace hM := Hz.mk (hM.out.gr hBn)
           clear hBn
           clear hX
           obtain ⟨ly, hY⟩ := hM.out.turn.one
           go_wp2_with fail
           refine (tcs_any B V12 ay P u ly hY htl2.out).mono ?_
           rintro r V13 ⟨va2, c2, rfl, hW2, hBn⟩
           replace hW2 := Hz.mk hW2
           replace hW1 := Hz.mk (hW1.out.below hBn)
           replace hG := Hz.mk (hG.out.trans (Below.mono hBn hM.out.le))
           replace hM := Hz.mk (hM.out.gr hBn)
           clear hBn
           clear hY
           rw [a2.out] at hW1
           go_wp2_with fail
           refine ((show Calls Tryz.prog 15 #[.slice va1 z.tou.length c1, .slice va2 u.tou.length c2] V13 _ by rw [a2.out]; exact sameT_self u.tou va1 va2 c1 c2 V13 hW1.out hW2.out htl2.out)).mono ?_
           rintro r V14 ⟨rfl, hBn⟩
           replace hG := Hz.mk (hG.out.trans (Below.mono hBn hM.out.le))
           replace hM := Hz.mk (hM.out.gr hBn)
           clear hBn
           clear hW1 hW2
           obtain ⟨lx, hX⟩ := hM.out.one
           go_wp2_with fail
           refine (outs_any B V14 ax P z lx hX hol.out).mono ?_
           rintro r V15 ⟨va1, c1, rfl, hW1, hBn⟩
           clear hW1
           replace hG := Hz.mk (hG.out.trans (Below.mono hBn hM.out.le))
           replace hM := Hz.mk (hM.out.gr hBn)
           clear hBn
           clear hX
           have n1 : ¬ (j : Int) < (z.out.length : Int) := by have := hlo.out; omega
           obtain ⟨lx, hX⟩ := hM.out.one
           go_wp2_with fail
           refine (tcs_any B V15 ax P z lx hX htl.out).mono ?_
           rintro r V16 ⟨va1, c1, rfl, hW1, hBn⟩
           clear hW1
           replace hG := Hz.mk (hG.out.trans (Below.mono hBn hM.out.le))
           replace hM := Hz.mk (hM.out.gr hBn)
           clear hBn
           clear hX
           have n2 : ¬ (j : Int) < (z.tou.length : Int) := by have := hlt.out; omega
           obtain ⟨lx, hX⟩ := hM.out.one
           go_wp2_with fail
           refine (snap_any B ax P z lx V16 hX).mono ?_
           rintro r V17 ⟨rfl, hBn⟩
           replace hG := Hz.mk (hG.out.trans (Below.mono hBn hM.out.le))
           replace hM := Hz.mk (hM.out.gr hBn)
           clear hBn
           clear hX
           obtain ⟨ly, hY⟩ := hM.out.turn.one
           go_wp2_with fail
           refine (snap_any B ay P u ly V17 hY).mono ?_
           rintro r V18 ⟨rfl, hBn⟩
           replace hG := Hz.mk (hG.out.trans (Below.mono hBn hM.out.le))
           replace hM := Hz.mk (hM.out.gr hBn)
           clear hBn
           clear hY
           rw [a3.out]
           have hne := sn_neq u
           generalize (snR u).toArray = sv at *
           go_upto_region 27 with fail
           clear hne n1 n2
           go_wp2_with fail
           refine (hM.out.call (fun l' h => step_oc P hP.out z N hsz.out (by omega) z (stepsM_end hze.out 1) B V18 ax l' h)).mono ?_
           rintro r V21 ⟨rfl, hM1, hBn⟩
           replace hG := Hz.mk (hG.out.trans hBn)
           replace hM := Hz.mk hM1
           clear hBn hM1
           go_upto_region 28 with fail
           refine wp_world (fun V => ∃ k, k = V21.heap.size ∧ M2 B V P ax z ay u (boxOb k (List.toArray [Value.int .i64 z.over.e, .int .u64 z.over.v, .int .i64 z.over.f, .int .i64 z.at_.gate, .int .i64 z.at_.pc]) :: [boxOb kw wv, boxOb ko (List.toArray [Value.int .i64 z.over.e, .int .u64 z.over.v, .int .i64 z.over.f, .int .i64 z.at_.gate, .int .i64 z.at_.pc])]) ∧ Below B V21 V) ⟨_, rfl, hM.out.new _ _⟩ ?_
           rintro V22 ⟨k1, hkk, hM1, hBn⟩
           rw [← hkk]
           clear hkk
           replace hG := Hz.mk (hG.out.trans hBn)
           replace hM := Hz.mk hM1
           clear hBn hM1
           go_wp2_with fail
           refine (hM.out.call (fun l' h => run_oc P hP.out z N 5 hsz.out (by omega) (by omega) z (runM_end P 5 z hze.out) B V22 ax l' h)).mono ?_
           rintro r V23 ⟨rfl, hM1, hBn⟩
           replace hG := Hz.mk (hG.out.trans hBn)
           replace hM := Hz.mk hM1
           clear hBn hM1
           go_upto_region 29 with fail
           refine wp_world (fun V => ∃ k, k = V23.heap.size ∧ M2 B V P ax z ay u (boxOb k (List.toArray [Value.int .i64 z.over.e, .int .u64 z.over.v, .int .i64 z.over.f, .int .i64 z.at_.gate, .int .i64 z.at_.pc]) :: boxOb k1 (List.toArray [Value.int .i64 z.over.e, .int .u64 z.over.v, .int .i64 z.over.f, .int .i64 z.at_.gate, .int .i64 z.at_.pc]) :: [boxOb kw wv, boxOb ko (List.toArray [Value.int .i64 z.over.e, .int .u64 z.over.v, .int .i64 z.over.f, .int .i64 z.at_.gate, .int .i64 z.at_.pc])]) ∧ Below B V23 V) ⟨_, rfl, hM.out.new _ _⟩ ?_
           rintro V24 ⟨k2, hkk, hM1, hBn⟩
           rw [← hkk]
           clear hkk
           replace hG := Hz.mk (hG.out.trans hBn)
           replace hM := Hz.mk hM1
           clear hBn hM1
           have A1 := hM.out.there (boxOb k2 (List.toArray [Value.int .i64 z.over.e, .int .u64 z.over.v, .int .i64 z.over.f, .int .i64 z.at_.gate, .int .i64 z.at_.pc])) (by simp)
           have A2 := hM.out.there (boxOb k1 (List.toArray [Value.int .i64 z.over.e, .int .u64 z.over.v, .int .i64 z.over.f, .int .i64 z.at_.gate, .int .i64 z.at_.pc])) (by simp)
           have A3 := hM.out.there (boxOb ko (List.toArray [Value.int .i64 z.over.e, .int .u64 z.over.v, .int .i64 z.over.f, .int .i64 z.at_.gate, .int .i64 z.at_.pc])) (by simp)
           have x0 : V24.cell? ⟨k2, 0, none⟩ = some (.int .i64 z.over.e) := A1.2.1 0
           have x1 : V24.cell? ⟨k2, 1, none⟩ = some (.int .u64 z.over.v) := A1.2.1 1
           have x2 : V24.cell? ⟨k2, 2, none⟩ = some (.int .i64 z.over.f) := A1.2.1 2
           have x3 : V24.cell? ⟨k2, 3, none⟩ = some (.int .i64 z.at_.gate) := A1.2.1 3
           have x4 : V24.cell? ⟨k2, 4, none⟩ = some (.int .i64 z.at_.pc) := A1.2.1 4
           have y0 : V24.cell? ⟨k1, 0, none⟩ = some (.int .i64 z.over.e) := A2.2.1 0
           have y1 : V24.cell? ⟨k1, 1, none⟩ = some (.int .u64 z.over.v) := A2.2.1 1
           have y2 : V24.cell? ⟨k1, 2, none⟩ = some (.int .i64 z.over.f) := A2.2.1 2
           have y3 : V24.cell? ⟨k1, 3, none⟩ = some (.int .i64 z.at_.gate) := A2.2.1 3
           have y4 : V24.cell? ⟨k1, 4, none⟩ = some (.int .i64 z.at_.pc) := A2.2.1 4
           have z0 : V24.cell? ⟨ko, 0, none⟩ = some (.int .i64 z.over.e) := A3.2.1 0
           have z1 : V24.cell? ⟨ko, 1, none⟩ = some (.int .u64 z.over.v) := A3.2.1 1
           have z2 : V24.cell? ⟨ko, 2, none⟩ = some (.int .i64 z.over.f) := A3.2.1 2
           have z3 : V24.cell? ⟨ko, 3, none⟩ = some (.int .i64 z.at_.gate) := A3.2.1 3
           have z4 : V24.cell? ⟨ko, 4, none⟩ = some (.int .i64 z.at_.pc) := A3.2.1 4
           clear A1 A2 A3
           have hq1 : (z.over.e == 0) = false := beq_false_of_ne hze.out
           have hq2 := oc_eq5 z.over.e z.over.v z.over.f z.at_.gate z.at_.pc
           go_wp2_with fail
           go_ret
           exact ⟨rfl, hfin.out _ hG.out⟩
         · skip
           have ez : z = u := by rw [hz.out]; exact (if_neg heN)
           have hj0 : j ≠ 0 := fun q => by apply heN; rw [hu.out, q]; exact he0.out
           have e4 : (z.over.e == 4) = false := beq_false_of_ne (by rw [ez, hu.out]; exact stepsM_e P j s0 he0.out)
           have A3 := hM.out.there (boxOb ko (List.toArray [Value.int .i64 z.over.e, .int .u64 z.over.v, .int .i64 z.over.f, .int .i64 z.at_.gate, .int .i64 z.at_.pc])) (by simp)
           have A1 := hM.out.there (boxOb kw (wO u j).toArray) (by simp)
           have ew : wO u j = [Value.int .i64 z.over.e, .int .u64 z.over.v, .int .i64 z.over.f, .int .i64 z.at_.gate, .int .i64 z.at_.pc] := by rw [ez]; unfold wO; rw [if_neg hj0]; rfl
           rw [ew] at A1
           have y0 : wr.cell? ⟨kw, 0, none⟩ = some (.int .i64 z.over.e) := A1.2.1 0
           have y1 : wr.cell? ⟨kw, 1, none⟩ = some (.int .u64 z.over.v) := A1.2.1 1
           have y2 : wr.cell? ⟨kw, 2, none⟩ = some (.int .i64 z.over.f) := A1.2.1 2
           have y3 : wr.cell? ⟨kw, 3, none⟩ = some (.int .i64 z.at_.gate) := A1.2.1 3
           have y4 : wr.cell? ⟨kw, 4, none⟩ = some (.int .i64 z.at_.pc) := A1.2.1 4
           have z0 : wr.cell? ⟨ko, 0, none⟩ = some (.int .i64 z.over.e) := A3.2.1 0
           have z1 : wr.cell? ⟨ko, 1, none⟩ = some (.int .u64 z.over.v) := A3.2.1 1
           have z2 : wr.cell? ⟨ko, 2, none⟩ = some (.int .i64 z.over.f) := A3.2.1 2
           have z3 : wr.cell? ⟨ko, 3, none⟩ = some (.int .i64 z.at_.gate) := A3.2.1 3
           have z4 : wr.cell? ⟨ko, 4, none⟩ = some (.int .i64 z.at_.pc) := A3.2.1 4
           clear A1 A3 ew ez hj0
           have hq2 := oc_ne5 z.over.e z.over.v z.over.f z.at_.gate z.at_.pc
           go_upto_region 23 with fail
           clear y0 y1 y2 y3 y4 z0 z1 z2 z3 z4 hq2 e4
           generalize (wO u j).toArray = wv at *
           generalize wr = V8 at *
           obtain ⟨lx, hX⟩ := hM.out.one
           go_wp2_with fail
           refine (outs_any B V8 ax P z lx hX hol.out).mono ?_
           rintro r V9 ⟨va1, c1, rfl, hW1, hBn⟩
           replace hW1 := Hz.mk hW1
           replace hG := Hz.mk (hG.out.trans (Below.mono hBn hM.out.le))
           replace hM := Hz.mk (hM.out.gr hBn)
           clear hBn
           clear hX
           obtain ⟨ly, hY⟩ := hM.out.turn.one
           go_wp2_with fail
           refine (outs_any B V9 ay P u ly hY hol2.out).mono ?_
           rintro r V10 ⟨va2, c2, rfl, hW2, hBn⟩
           replace hW2 := Hz.mk hW2
           replace hW1 := Hz.mk (hW1.out.bl hBn)
           replace hG := Hz.mk (hG.out.trans (Below.mono hBn hM.out.le))
           replace hM := Hz.mk (hM.out.gr hBn)
           clear hBn
           clear hY
           rw [a1.out] at hW1
           go_wp2_with fail
           refine ((show Calls Tryz.prog 14 #[.slice va1 z.out.length c1, .slice va2 u.out.length c2] V10 _ by rw [a1.out]; exact sameW_self u.out va1 va2 c1 c2 V10 hW1.out hW2.out hol2.out)).mono ?_
           rintro r V11 ⟨rfl, hBn⟩
           replace hG := Hz.mk (hG.out.trans (Below.mono hBn hM.out.le))
           replace hM := Hz.mk (hM.out.gr hBn)
           clear hBn
           clear hW1 hW2
           obtain ⟨lx, hX⟩ := hM.out.one
           go_wp2_with fail
           refine (tcs_any B V11 ax P z lx hX htl.out).mono ?_
           rintro r V12 ⟨va1, c1, rfl, hW1, hBn⟩
           replace hW1 := Hz.mk hW1
           replace hG := Hz.mk (hG.out.trans (Below.mono hBn hM.out.le))
           replace hM := Hz.mk (hM.out.gr hBn)
           clear hBn
           clear hX
           obtain ⟨ly, hY⟩ := hM.out.turn.one
           go_wp2_with fail
           refine (tcs_any B V12 ay P u ly hY htl2.out).mono ?_
           rintro r V13 ⟨va2, c2, rfl, hW2, hBn⟩
           replace hW2 := Hz.mk hW2
           replace hW1 := Hz.mk (hW1.out.below hBn)
           replace hG := Hz.mk (hG.out.trans (Below.mono hBn hM.out.le))
           replace hM := Hz.mk (hM.out.gr hBn)
           clear hBn
           clear hY
           rw [a2.out] at hW1
           go_wp2_with fail
           refine ((show Calls Tryz.prog 15 #[.slice va1 z.tou.length c1, .slice va2 u.tou.length c2] V13 _ by rw [a2.out]; exact sameT_self u.tou va1 va2 c1 c2 V13 hW1.out hW2.out htl2.out)).mono ?_
           rintro r V14 ⟨rfl, hBn⟩
           replace hG := Hz.mk (hG.out.trans (Below.mono hBn hM.out.le))
           replace hM := Hz.mk (hM.out.gr hBn)
           clear hBn
           clear hW1 hW2
           obtain ⟨lx, hX⟩ := hM.out.one
           go_wp2_with fail
           refine (outs_any B V14 ax P z lx hX hol.out).mono ?_
           rintro r V15 ⟨va1, c1, rfl, hW1, hBn⟩
           clear hW1
           replace hG := Hz.mk (hG.out.trans (Below.mono hBn hM.out.le))
           replace hM := Hz.mk (hM.out.gr hBn)
           clear hBn
           clear hX
           have n1 : ¬ (j : Int) < (z.out.length : Int) := by have := hlo.out; omega
           obtain ⟨lx, hX⟩ := hM.out.one
           go_wp2_with fail
           refine (tcs_any B V15 ax P z lx hX htl.out).mono ?_
           rintro r V16 ⟨va1, c1, rfl, hW1, hBn⟩
           clear hW1
           replace hG := Hz.mk (hG.out.trans (Below.mono hBn hM.out.le))
           replace hM := Hz.mk (hM.out.gr hBn)
           clear hBn
           clear hX
           have n2 : ¬ (j : Int) < (z.tou.length : Int) := by have := hlt.out; omega
           obtain ⟨lx, hX⟩ := hM.out.one
           go_wp2_with fail
           refine (snap_any B ax P z lx V16 hX).mono ?_
           rintro r V17 ⟨rfl, hBn⟩
           replace hG := Hz.mk (hG.out.trans (Below.mono hBn hM.out.le))
           replace hM := Hz.mk (hM.out.gr hBn)
           clear hBn
           clear hX
           obtain ⟨ly, hY⟩ := hM.out.turn.one
           go_wp2_with fail
           refine (snap_any B ay P u ly V17 hY).mono ?_
           rintro r V18 ⟨rfl, hBn⟩
           replace hG := Hz.mk (hG.out.trans (Below.mono hBn hM.out.le))
           replace hM := Hz.mk (hM.out.gr hBn)
           clear hBn
           clear hY
           rw [a3.out]
           have hne := sn_neq u
           generalize (snR u).toArray = sv at *
           go_upto_region 27 with fail
           clear hne n1 n2
           go_wp2_with fail
           refine (hM.out.call (fun l' h => step_oc P hP.out z N hsz.out (by omega) z (stepsM_end hze.out 1) B V18 ax l' h)).mono ?_
           rintro r V21 ⟨rfl, hM1, hBn⟩
           replace hG := Hz.mk (hG.out.trans hBn)
           replace hM := Hz.mk hM1
           clear hBn hM1
           go_upto_region 28 with fail
           refine wp_world (fun V => ∃ k, k = V21.heap.size ∧ M2 B V P ax z ay u (boxOb k (List.toArray [Value.int .i64 z.over.e, .int .u64 z.over.v, .int .i64 z.over.f, .int .i64 z.at_.gate, .int .i64 z.at_.pc]) :: [boxOb kw wv, boxOb ko (List.toArray [Value.int .i64 z.over.e, .int .u64 z.over.v, .int .i64 z.over.f, .int .i64 z.at_.gate, .int .i64 z.at_.pc])]) ∧ Below B V21 V) ⟨_, rfl, hM.out.new _ _⟩ ?_
           rintro V22 ⟨k1, hkk, hM1, hBn⟩
           rw [← hkk]
           clear hkk
           replace hG := Hz.mk (hG.out.trans hBn)
           replace hM := Hz.mk hM1
           clear hBn hM1
           go_wp2_with fail
           refine (hM.out.call (fun l' h => run_oc P hP.out z N 5 hsz.out (by omega) (by omega) z (runM_end P 5 z hze.out) B V22 ax l' h)).mono ?_
           rintro r V23 ⟨rfl, hM1, hBn⟩
           replace hG := Hz.mk (hG.out.trans hBn)
           replace hM := Hz.mk hM1
           clear hBn hM1
           go_upto_region 29 with fail
           refine wp_world (fun V => ∃ k, k = V23.heap.size ∧ M2 B V P ax z ay u (boxOb k (List.toArray [Value.int .i64 z.over.e, .int .u64 z.over.v, .int .i64 z.over.f, .int .i64 z.at_.gate, .int .i64 z.at_.pc]) :: boxOb k1 (List.toArray [Value.int .i64 z.over.e, .int .u64 z.over.v, .int .i64 z.over.f, .int .i64 z.at_.gate, .int .i64 z.at_.pc]) :: [boxOb kw wv, boxOb ko (List.toArray [Value.int .i64 z.over.e, .int .u64 z.over.v, .int .i64 z.over.f, .int .i64 z.at_.gate, .int .i64 z.at_.pc])]) ∧ Below B V23 V) ⟨_, rfl, hM.out.new _ _⟩ ?_
           rintro V24 ⟨k2, hkk, hM1, hBn⟩
           rw [← hkk]
           clear hkk
           replace hG := Hz.mk (hG.out.trans hBn)
           replace hM := Hz.mk hM1
           clear hBn hM1
           have A1 := hM.out.there (boxOb k2 (List.toArray [Value.int .i64 z.over.e, .int .u64 z.over.v, .int .i64 z.over.f, .int .i64 z.at_.gate, .int .i64 z.at_.pc])) (by simp)
           have A2 := hM.out.there (boxOb k1 (List.toArray [Value.int .i64 z.over.e, .int .u64 z.over.v, .int .i64 z.over.f, .int .i64 z.at_.gate, .int .i64 z.at_.pc])) (by simp)
           have A3 := hM.out.there (boxOb ko (List.toArray [Value.int .i64 z.over.e, .int .u64 z.over.v, .int .i64 z.over.f, .int .i64 z.at_.gate, .int .i64 z.at_.pc])) (by simp)
           have x0 : V24.cell? ⟨k2, 0, none⟩ = some (.int .i64 z.over.e) := A1.2.1 0
           have x1 : V24.cell? ⟨k2, 1, none⟩ = some (.int .u64 z.over.v) := A1.2.1 1
           have x2 : V24.cell? ⟨k2, 2, none⟩ = some (.int .i64 z.over.f) := A1.2.1 2
           have x3 : V24.cell? ⟨k2, 3, none⟩ = some (.int .i64 z.at_.gate) := A1.2.1 3
           have x4 : V24.cell? ⟨k2, 4, none⟩ = some (.int .i64 z.at_.pc) := A1.2.1 4
           have y0 : V24.cell? ⟨k1, 0, none⟩ = some (.int .i64 z.over.e) := A2.2.1 0
           have y1 : V24.cell? ⟨k1, 1, none⟩ = some (.int .u64 z.over.v) := A2.2.1 1
           have y2 : V24.cell? ⟨k1, 2, none⟩ = some (.int .i64 z.over.f) := A2.2.1 2
           have y3 : V24.cell? ⟨k1, 3, none⟩ = some (.int .i64 z.at_.gate) := A2.2.1 3
           have y4 : V24.cell? ⟨k1, 4, none⟩ = some (.int .i64 z.at_.pc) := A2.2.1 4
           have z0 : V24.cell? ⟨ko, 0, none⟩ = some (.int .i64 z.over.e) := A3.2.1 0
           have z1 : V24.cell? ⟨ko, 1, none⟩ = some (.int .u64 z.over.v) := A3.2.1 1
           have z2 : V24.cell? ⟨ko, 2, none⟩ = some (.int .i64 z.over.f) := A3.2.1 2
           have z3 : V24.cell? ⟨ko, 3, none⟩ = some (.int .i64 z.at_.gate) := A3.2.1 3
           have z4 : V24.cell? ⟨ko, 4, none⟩ = some (.int .i64 z.at_.pc) := A3.2.1 4
           clear A1 A2 A3
           have hq1 : (z.over.e == 0) = false := beq_false_of_ne hze.out
           have hq2 := oc_eq5 z.over.e z.over.v z.over.f z.at_.gate z.at_.pc
           go_wp2_with fail
           go_ret
           exact ⟨rfl, hfin.out _ hG.out⟩
     · obtain rfl : j = N := by omega
       have hjl1 : ¬ (j : Int) < (j : Int) := by omega
       have hend : stepsM P j s0 = stepsM P j s0 := rfl
       go_upto_region 17 with fail
       clear y0 hjl1
       have hjN : stepsM P j s0 = stepsM P j s0 := hend
       have hsz : Hz (Okm P j z) := Hz.mk (by rw [hz.out, runM_nat P j (by omega) s0]; have := okm_spent (okm_steps hP.out j hs.out); rwa [Nat.zero_add] at this)
       have hsu := Hz.mk (okm_steps hP.out j hs.out)
       rw [Nat.zero_add] at hsu
       have hz2 : z = spent (stepsM P j s0) := by rw [hz.out, runM_nat P j (by omega) s0, hjN]
       replace hz := Hz.mk hz2
       clear hz2
       have hze : Hz (¬ z.over.e = 0) := Hz.mk (by rw [hz.out]; exact spent_e _)
       have hw0 := Hz.mk (wO_at P s0 j he0.out)
       obtain ⟨u, hu⟩ : ∃ u, stepsM P j s0 = u := ⟨_, rfl⟩
       rw [hu] at hM hsu hz hw0
       clear hjN hend
       replace hu := Hz.mk hu.symm
       obtain ⟨b1, b2, b3, b4⟩ := spent_as u
       have b5 := spent_snR u
       rw [← hz.out] at b1 b2 b3 b4 b5
       have a1 := Hz.mk b1
       have a2 := Hz.mk b2
       have a3 := Hz.mk b5
       have a5 := Hz.mk b3
       have hol : Hz (z.out.length ≤ 1000000) := Hz.mk (Nat.le_trans hsz.out.out (by omega))
       have htl : Hz (z.tou.length ≤ 1000000) := Hz.mk (Nat.le_trans hsz.out.tou (by omega))
       have hol2 : Hz (u.out.length ≤ 1000000) := Hz.mk (Nat.le_trans hsu.out.out (by omega))
       have htl2 : Hz (u.tou.length ≤ 1000000) := Hz.mk (Nat.le_trans hsu.out.tou (by omega))
       have hlo : Hz (¬ (j : Int) < (z.out.length : Int)) := Hz.mk (by rw [b1]; have := hsu.out.out; omega)
       have hlt : Hz (¬ (j : Int) < (z.tou.length : Int)) := Hz.mk (by rw [b2]; have := hsu.out.tou; omega)
       clear b1 b2 b3 b4 b5 hsu
       by_cases heN : u.over.e = 0
       · skip
         have hzo : z.over = ⟨4, 0, 0⟩ := by rw [hz.out]; unfold spent; rw [if_pos heN]; rfl
         have e4 : z.over.e = 4 := by rw [hzo]
         have e5 : z.over.v = 0 := by rw [hzo]
         have e6 : z.over.f = 0 := by rw [hzo]
         clear hzo
         have A3 := hM.out.there (boxOb ko (List.toArray [Value.int .i64 z.over.e, .int .u64 z.over.v, .int .i64 z.over.f, .int .i64 z.at_.gate, .int .i64 z.at_.pc])) (by simp)
         have z0 : wr.cell? ⟨ko, 0, none⟩ = some (.int .i64 4) := by have := A3.2.1 0; rw [this]; simp [e4]
         clear A3
         go_upto_region 18 with fail
         clear z0
         obtain ⟨ly, hY⟩ := hM.out.turn.one
         replace hY := Hz.mk hY
         refine wp_region_lit ?_
         refine wpList_plain rfl (fun K hK => ?_)
         go_simp
         with_reducible refine hK _ _ ?_
         clear hK K
         try simp only [xap]
         refine wpList_plain rfl (fun K hK => ?_)
         go_simp
         (refine (snap_any B ay P u ly _ hY.out).mono ?_; rintro r V5 ⟨rfl, hBn⟩; clear hY; replace hG := Hz.mk (hG.out.trans (Below.mono hBn hM.out.le)); replace hM := Hz.mk (hM.out.gr hBn); clear hBn; have hA7 : At (V5.alloc (.cells (snR zS).toArray 38)) V5.heap.size (snR zS).toArray := At.new V5 _ _; have hth := Hz.mk (At.there hA7 0 115 (by rw [snR_len]; decide)); have hA8 := Hz.mk (At.setAll hA7 (snR u) (by rw [snR_len, snR_len])); have g9 := Hz.mk (((Bl.refl V5).alloc (.cells (snR zS).toArray 38)).sets V5.heap.size (Nat.le_refl _) (snR u) 0); replace hA7 := Hz.mk hA7)
         with_reducible refine hK _ _ ?_
         clear hK K
         try simp only [xap]
         refine wpList_plain rfl (fun K hK => ?_)
         refine wp_alloc_sn rfl (hK _ _ ?_)
         clear hK K
         try simp only [xap]
         refine wpList_store_mid rfl _ _ _ rfl _ _ (List.toArray (snR u)) rfl rfl (show World.there _ _ _ _ by rw [show (snR u).toArray.size = 115 from snR_len u]; exact hth.out) (by rw [List.size_toArray, snR_len]; kernel_rfl) (snR_one u) ?_
         try simp only [Act.put]
         clear hth hA7
         have h9 := Hz.mk (hM.out.add (boxOb V5.heap.size (snR u).toArray) hA8.out (fun k q => by have : k = V5.heap.size := q; omega) g9.out)
         replace hG := Hz.mk (hG.out.trans (Below.mono g9.out hM.out.le))
         replace hM := h9
         clear h9 g9 hA8
         generalize World.setCells _ _ _ _ = V6 at *
         generalize V5.heap.size = ks at *
         have A0 := hM.out.there (boxOb ks (snR u).toArray) (by simp)
         have A1 := hM.out.there (boxOb kw (wO u j).toArray) (by simp)
         have A3 := hM.out.there (boxOb ko (List.toArray [Value.int .i64 z.over.e, .int .u64 z.over.v, .int .i64 z.over.f, .int .i64 z.at_.gate, .int .i64 z.at_.pc])) (by simp)
         have x0 : V6.cell? ⟨ks, 0, none⟩ = some (.int .i64 u.at_.gate) := A0.2.1 0
         have x1 : V6.cell? ⟨ks, 1, none⟩ = some (.int .i64 u.at_.pc) := A0.2.1 1
         have y0 : V6.cell? ⟨kw, 0, none⟩ = some (.int .i64 0) := by have := A1.2.1 0; rw [this, List.getElem?_toArray, hw0.out, heN]
         have z0 : V6.cell? ⟨ko, 0, none⟩ = some (.int .i64 4) := by have := A3.2.1 0; rw [this]; simp [e4, e5, e6, a5.out]
         have z1 : V6.cell? ⟨ko, 1, none⟩ = some (.int .u64 0) := by have := A3.2.1 1; rw [this]; simp [e4, e5, e6, a5.out]
         have z2 : V6.cell? ⟨ko, 2, none⟩ = some (.int .i64 0) := by have := A3.2.1 2; rw [this]; simp [e4, e5, e6, a5.out]
         have z3 : V6.cell? ⟨ko, 3, none⟩ = some (.int .i64 u.at_.gate) := by have := A3.2.1 3; rw [this]; simp [e4, e5, e6, a5.out]
         have z4 : V6.cell? ⟨ko, 4, none⟩ = some (.int .i64 u.at_.pc) := by have := A3.2.1 4; rw [this]; simp [e4, e5, e6, a5.out]
         clear A0 A1 A3 e5 e6
         have hq2 := oc_ne5 4 0 0 u.at_.gate u.at_.pc
         go_upto_region 23 with fail
         clear x0 x1 y0 z0 z1 z2 z3 z4 hq2 e4
         generalize (wO u j).toArray = wv at *
         replace hM := Hz.mk (hM.out.drop)
         generalize V6 = V8 at *
         obtain ⟨lx, hX⟩ := hM.out.one
         go_wp2_with fail
         refine (outs_any B V8 ax P z lx hX hol.out).mono ?_
         rintro r V9 ⟨va1, c1, rfl, hW1, hBn⟩
         replace hW1 := Hz.mk hW1
         replace hG := Hz.mk (hG.out.trans (Below.mono hBn hM.out.le))
         replace hM := Hz.mk (hM.out.gr hBn)
         clear hBn
         clear hX
         obtain ⟨ly, hY⟩ := hM.out.turn.one
         go_wp2_with fail
         refine (outs_any B V9 ay P u ly hY hol2.out).mono ?_
         rintro r V10 ⟨va2, c2, rfl, hW2, hBn⟩
         replace hW2 := Hz.mk hW2
         replace hW1 := Hz.mk (hW1.out.bl hBn)
         replace hG := Hz.mk (hG.out.trans (Below.mono hBn hM.out.le))
         replace hM := Hz.mk (hM.out.gr hBn)
         clear hBn
         clear hY
         rw [a1.out] at hW1
         go_wp2_with fail
         refine ((show Calls Tryz.prog 14 #[.slice va1 z.out.length c1, .slice va2 u.out.length c2] V10 _ by rw [a1.out]; exact sameW_self u.out va1 va2 c1 c2 V10 hW1.out hW2.out hol2.out)).mono ?_
         rintro r V11 ⟨rfl, hBn⟩
         replace hG := Hz.mk (hG.out.trans (Below.mono hBn hM.out.le))
         replace hM := Hz.mk (hM.out.gr hBn)
         clear hBn
         clear hW1 hW2
         obtain ⟨lx, hX⟩ := hM.out.one
         go_wp2_with fail
         refine (tcs_any B V11 ax P z lx hX htl.out).mono ?_
         rintro r V12 ⟨va1, c1, rfl, hW1, hBn⟩
         replace hW1 := Hz.mk hW1
         replace hG := Hz.mk (hG.out.trans (Below.mono hBn hM.out.le))
         replace hM := Hz.mk (hM.out.gr hBn)
         clear hBn
         clear hX
         obtain ⟨ly, hY⟩ := hM.out.turn.one
         go_wp2_with fail
         refine (tcs_any B V12 ay P u ly hY htl2.out).mono ?_
         rintro r V13 ⟨va2, c2, rfl, hW2, hBn⟩
         replace hW2 := Hz.mk hW2
         replace hW1 := Hz.mk (hW1.out.below hBn)
         replace hG := Hz.mk (hG.out.trans (Below.mono hBn hM.out.le))
         replace hM := Hz.mk (hM.out.gr hBn)
         clear hBn
         clear hY
         rw [a2.out] at hW1
         go_wp2_with fail
         refine ((show Calls Tryz.prog 15 #[.slice va1 z.tou.length c1, .slice va2 u.tou.length c2] V13 _ by rw [a2.out]; exact sameT_self u.tou va1 va2 c1 c2 V13 hW1.out hW2.out htl2.out)).mono ?_
         rintro r V14 ⟨rfl, hBn⟩
         replace hG := Hz.mk (hG.out.trans (Below.mono hBn hM.out.le))
         replace hM := Hz.mk (hM.out.gr hBn)
         clear hBn
         clear hW1 hW2
         obtain ⟨lx, hX⟩ := hM.out.one
         go_wp2_with fail
         refine (outs_any B V14 ax P z lx hX hol.out).mono ?_
         rintro r V15 ⟨va1, c1, rfl, hW1, hBn⟩
         clear hW1
         replace hG := Hz.mk (hG.out.trans (Below.mono hBn hM.out.le))
         replace hM := Hz.mk (hM.out.gr hBn)
         clear hBn
         clear hX
         have n1 : ¬ (j : Int) < (z.out.length : Int) := by have := hlo.out; omega
         obtain ⟨lx, hX⟩ := hM.out.one
         go_wp2_with fail
         refine (tcs_any B V15 ax P z lx hX htl.out).mono ?_
         rintro r V16 ⟨va1, c1, rfl, hW1, hBn⟩
         clear hW1
         replace hG := Hz.mk (hG.out.trans (Below.mono hBn hM.out.le))
         replace hM := Hz.mk (hM.out.gr hBn)
         clear hBn
         clear hX
         have n2 : ¬ (j : Int) < (z.tou.length : Int) := by have := hlt.out; omega
         obtain ⟨lx, hX⟩ := hM.out.one
         go_wp2_with fail
         refine (snap_any B ax P z lx V16 hX).mono ?_
         rintro r V17 ⟨rfl, hBn⟩
         replace hG := Hz.mk (hG.out.trans (Below.mono hBn hM.out.le))
         replace hM := Hz.mk (hM.out.gr hBn)
         clear hBn
         clear hX
         obtain ⟨ly, hY⟩ := hM.out.turn.one
         go_wp2_with fail
         refine (snap_any B ay P u ly V17 hY).mono ?_
         rintro r V18 ⟨rfl, hBn⟩
         replace hG := Hz.mk (hG.out.trans (Below.mono hBn hM.out.le))
         replace hM := Hz.mk (hM.out.gr hBn)
         clear hBn
         clear hY
         rw [a3.out]
         have hne := sn_neq u
         generalize (snR u).toArray = sv at *
         go_upto_region 27 with fail
         clear hne n1 n2
         go_wp2_with fail
         refine (hM.out.call (fun l' h => step_oc P hP.out z j hsz.out (by omega) z (stepsM_end hze.out 1) B V18 ax l' h)).mono ?_
         rintro r V21 ⟨rfl, hM1, hBn⟩
         replace hG := Hz.mk (hG.out.trans hBn)
         replace hM := Hz.mk hM1
         clear hBn hM1
         go_upto_region 28 with fail
         refine wp_world (fun V => ∃ k, k = V21.heap.size ∧ M2 B V P ax z ay u (boxOb k (List.toArray [Value.int .i64 z.over.e, .int .u64 z.over.v, .int .i64 z.over.f, .int .i64 z.at_.gate, .int .i64 z.at_.pc]) :: [boxOb kw wv, boxOb ko (List.toArray [Value.int .i64 z.over.e, .int .u64 z.over.v, .int .i64 z.over.f, .int .i64 z.at_.gate, .int .i64 z.at_.pc])]) ∧ Below B V21 V) ⟨_, rfl, hM.out.new _ _⟩ ?_
         rintro V22 ⟨k1, hkk, hM1, hBn⟩
         rw [← hkk]
         clear hkk
         replace hG := Hz.mk (hG.out.trans hBn)
         replace hM := Hz.mk hM1
         clear hBn hM1
         go_wp2_with fail
         refine (hM.out.call (fun l' h => run_oc P hP.out z j 5 hsz.out (by omega) (by omega) z (runM_end P 5 z hze.out) B V22 ax l' h)).mono ?_
         rintro r V23 ⟨rfl, hM1, hBn⟩
         replace hG := Hz.mk (hG.out.trans hBn)
         replace hM := Hz.mk hM1
         clear hBn hM1
         go_upto_region 29 with fail
         refine wp_world (fun V => ∃ k, k = V23.heap.size ∧ M2 B V P ax z ay u (boxOb k (List.toArray [Value.int .i64 z.over.e, .int .u64 z.over.v, .int .i64 z.over.f, .int .i64 z.at_.gate, .int .i64 z.at_.pc]) :: boxOb k1 (List.toArray [Value.int .i64 z.over.e, .int .u64 z.over.v, .int .i64 z.over.f, .int .i64 z.at_.gate, .int .i64 z.at_.pc]) :: [boxOb kw wv, boxOb ko (List.toArray [Value.int .i64 z.over.e, .int .u64 z.over.v, .int .i64 z.over.f, .int .i64 z.at_.gate, .int .i64 z.at_.pc])]) ∧ Below B V23 V) ⟨_, rfl, hM.out.new _ _⟩ ?_
         rintro V24 ⟨k2, hkk, hM1, hBn⟩
         rw [← hkk]
         clear hkk
         replace hG := Hz.mk (hG.out.trans hBn)
         replace hM := Hz.mk hM1
         clear hBn hM1
         have A1 := hM.out.there (boxOb k2 (List.toArray [Value.int .i64 z.over.e, .int .u64 z.over.v, .int .i64 z.over.f, .int .i64 z.at_.gate, .int .i64 z.at_.pc])) (by simp)
         have A2 := hM.out.there (boxOb k1 (List.toArray [Value.int .i64 z.over.e, .int .u64 z.over.v, .int .i64 z.over.f, .int .i64 z.at_.gate, .int .i64 z.at_.pc])) (by simp)
         have A3 := hM.out.there (boxOb ko (List.toArray [Value.int .i64 z.over.e, .int .u64 z.over.v, .int .i64 z.over.f, .int .i64 z.at_.gate, .int .i64 z.at_.pc])) (by simp)
         have x0 : V24.cell? ⟨k2, 0, none⟩ = some (.int .i64 z.over.e) := A1.2.1 0
         have x1 : V24.cell? ⟨k2, 1, none⟩ = some (.int .u64 z.over.v) := A1.2.1 1
         have x2 : V24.cell? ⟨k2, 2, none⟩ = some (.int .i64 z.over.f) := A1.2.1 2
         have x3 : V24.cell? ⟨k2, 3, none⟩ = some (.int .i64 z.at_.gate) := A1.2.1 3
         have x4 : V24.cell? ⟨k2, 4, none⟩ = some (.int .i64 z.at_.pc) := A1.2.1 4
         have y0 : V24.cell? ⟨k1, 0, none⟩ = some (.int .i64 z.over.e) := A2.2.1 0
         have y1 : V24.cell? ⟨k1, 1, none⟩ = some (.int .u64 z.over.v) := A2.2.1 1
         have y2 : V24.cell? ⟨k1, 2, none⟩ = some (.int .i64 z.over.f) := A2.2.1 2
         have y3 : V24.cell? ⟨k1, 3, none⟩ = some (.int .i64 z.at_.gate) := A2.2.1 3
         have y4 : V24.cell? ⟨k1, 4, none⟩ = some (.int .i64 z.at_.pc) := A2.2.1 4
         have z0 : V24.cell? ⟨ko, 0, none⟩ = some (.int .i64 z.over.e) := A3.2.1 0
         have z1 : V24.cell? ⟨ko, 1, none⟩ = some (.int .u64 z.over.v) := A3.2.1 1
         have z2 : V24.cell? ⟨ko, 2, none⟩ = some (.int .i64 z.over.f) := A3.2.1 2
         have z3 : V24.cell? ⟨ko, 3, none⟩ = some (.int .i64 z.at_.gate) := A3.2.1 3
         have z4 : V24.cell? ⟨ko, 4, none⟩ = some (.int .i64 z.at_.pc) := A3.2.1 4
         clear A1 A2 A3
         have hq1 : (z.over.e == 0) = false := beq_false_of_ne hze.out
         have hq2 := oc_eq5 z.over.e z.over.v z.over.f z.at_.gate z.at_.pc
         go_wp2_with fail
         go_ret
         exact ⟨rfl, hfin.out _ hG.out⟩
       · skip
         have ez : z = u := by rw [hz.out]; exact (if_neg heN)
         have hj0 : j ≠ 0 := fun q => by apply heN; rw [hu.out, q]; exact he0.out
         have e4 : (z.over.e == 4) = false := beq_false_of_ne (by rw [ez, hu.out]; exact stepsM_e P j s0 he0.out)
         have A3 := hM.out.there (boxOb ko (List.toArray [Value.int .i64 z.over.e, .int .u64 z.over.v, .int .i64 z.over.f, .int .i64 z.at_.gate, .int .i64 z.at_.pc])) (by simp)
         have A1 := hM.out.there (boxOb kw (wO u j).toArray) (by simp)
         have ew : wO u j = [Value.int .i64 z.over.e, .int .u64 z.over.v, .int .i64 z.over.f, .int .i64 z.at_.gate, .int .i64 z.at_.pc] := by rw [ez]; unfold wO; rw [if_neg hj0]; rfl
         rw [ew] at A1
         have y0 : wr.cell? ⟨kw, 0, none⟩ = some (.int .i64 z.over.e) := A1.2.1 0
         have y1 : wr.cell? ⟨kw, 1, none⟩ = some (.int .u64 z.over.v) := A1.2.1 1
         have y2 : wr.cell? ⟨kw, 2, none⟩ = some (.int .i64 z.over.f) := A1.2.1 2
         have y3 : wr.cell? ⟨kw, 3, none⟩ = some (.int .i64 z.at_.gate) := A1.2.1 3
         have y4 : wr.cell? ⟨kw, 4, none⟩ = some (.int .i64 z.at_.pc) := A1.2.1 4
         have z0 : wr.cell? ⟨ko, 0, none⟩ = some (.int .i64 z.over.e) := A3.2.1 0
         have z1 : wr.cell? ⟨ko, 1, none⟩ = some (.int .u64 z.over.v) := A3.2.1 1
         have z2 : wr.cell? ⟨ko, 2, none⟩ = some (.int .i64 z.over.f) := A3.2.1 2
         have z3 : wr.cell? ⟨ko, 3, none⟩ = some (.int .i64 z.at_.gate) := A3.2.1 3
         have z4 : wr.cell? ⟨ko, 4, none⟩ = some (.int .i64 z.at_.pc) := A3.2.1 4
         clear A1 A3 ew ez hj0
         have hq2 := oc_ne5 z.over.e z.over.v z.over.f z.at_.gate z.at_.pc
         go_upto_region 23 with fail
         clear y0 y1 y2 y3 y4 z0 z1 z2 z3 z4 hq2 e4
         generalize (wO u j).toArray = wv at *
         generalize wr = V8 at *
         obtain ⟨lx, hX⟩ := hM.out.one
         go_wp2_with fail
         refine (outs_any B V8 ax P z lx hX hol.out).mono ?_
         rintro r V9 ⟨va1, c1, rfl, hW1, hBn⟩
         replace hW1 := Hz.mk hW1
         replace hG := Hz.mk (hG.out.trans (Below.mono hBn hM.out.le))
         replace hM := Hz.mk (hM.out.gr hBn)
         clear hBn
         clear hX
         obtain ⟨ly, hY⟩ := hM.out.turn.one
         go_wp2_with fail
         refine (outs_any B V9 ay P u ly hY hol2.out).mono ?_
         rintro r V10 ⟨va2, c2, rfl, hW2, hBn⟩
         replace hW2 := Hz.mk hW2
         replace hW1 := Hz.mk (hW1.out.bl hBn)
         replace hG := Hz.mk (hG.out.trans (Below.mono hBn hM.out.le))
         replace hM := Hz.mk (hM.out.gr hBn)
         clear hBn
         clear hY
         rw [a1.out] at hW1
         go_wp2_with fail
         refine ((show Calls Tryz.prog 14 #[.slice va1 z.out.length c1, .slice va2 u.out.length c2] V10 _ by rw [a1.out]; exact sameW_self u.out va1 va2 c1 c2 V10 hW1.out hW2.out hol2.out)).mono ?_
         rintro r V11 ⟨rfl, hBn⟩
         replace hG := Hz.mk (hG.out.trans (Below.mono hBn hM.out.le))
         replace hM := Hz.mk (hM.out.gr hBn)
         clear hBn
         clear hW1 hW2
         obtain ⟨lx, hX⟩ := hM.out.one
         go_wp2_with fail
         refine (tcs_any B V11 ax P z lx hX htl.out).mono ?_
         rintro r V12 ⟨va1, c1, rfl, hW1, hBn⟩
         replace hW1 := Hz.mk hW1
         replace hG := Hz.mk (hG.out.trans (Below.mono hBn hM.out.le))
         replace hM := Hz.mk (hM.out.gr hBn)
         clear hBn
         clear hX
         obtain ⟨ly, hY⟩ := hM.out.turn.one
         go_wp2_with fail
         refine (tcs_any B V12 ay P u ly hY htl2.out).mono ?_
         rintro r V13 ⟨va2, c2, rfl, hW2, hBn⟩
         replace hW2 := Hz.mk hW2
         replace hW1 := Hz.mk (hW1.out.below hBn)
         replace hG := Hz.mk (hG.out.trans (Below.mono hBn hM.out.le))
         replace hM := Hz.mk (hM.out.gr hBn)
         clear hBn
         clear hY
         rw [a2.out] at hW1
         go_wp2_with fail
         refine ((show Calls Tryz.prog 15 #[.slice va1 z.tou.length c1, .slice va2 u.tou.length c2] V13 _ by rw [a2.out]; exact sameT_self u.tou va1 va2 c1 c2 V13 hW1.out hW2.out htl2.out)).mono ?_
         rintro r V14 ⟨rfl, hBn⟩
         replace hG := Hz.mk (hG.out.trans (Below.mono hBn hM.out.le))
         replace hM := Hz.mk (hM.out.gr hBn)
         clear hBn
         clear hW1 hW2
         obtain ⟨lx, hX⟩ := hM.out.one
         go_wp2_with fail
         refine (outs_any B V14 ax P z lx hX hol.out).mono ?_
         rintro r V15 ⟨va1, c1, rfl, hW1, hBn⟩
         clear hW1
         replace hG := Hz.mk (hG.out.trans (Below.mono hBn hM.out.le))
         replace hM := Hz.mk (hM.out.gr hBn)
         clear hBn
         clear hX
         have n1 : ¬ (j : Int) < (z.out.length : Int) := by have := hlo.out; omega
         obtain ⟨lx, hX⟩ := hM.out.one
         go_wp2_with fail
         refine (tcs_any B V15 ax P z lx hX htl.out).mono ?_
         rintro r V16 ⟨va1, c1, rfl, hW1, hBn⟩
         clear hW1
         replace hG := Hz.mk (hG.out.trans (Below.mono hBn hM.out.le))
         replace hM := Hz.mk (hM.out.gr hBn)
         clear hBn
         clear hX
         have n2 : ¬ (j : Int) < (z.tou.length : Int) := by have := hlt.out; omega
         obtain ⟨lx, hX⟩ := hM.out.one
         go_wp2_with fail
         refine (snap_any B ax P z lx V16 hX).mono ?_
         rintro r V17 ⟨rfl, hBn⟩
         replace hG := Hz.mk (hG.out.trans (Below.mono hBn hM.out.le))
         replace hM := Hz.mk (hM.out.gr hBn)
         clear hBn
         clear hX
         obtain ⟨ly, hY⟩ := hM.out.turn.one
         go_wp2_with fail
         refine (snap_any B ay P u ly V17 hY).mono ?_
         rintro r V18 ⟨rfl, hBn⟩
         replace hG := Hz.mk (hG.out.trans (Below.mono hBn hM.out.le))
         replace hM := Hz.mk (hM.out.gr hBn)
         clear hBn
         clear hY
         rw [a3.out]
         have hne := sn_neq u
         generalize (snR u).toArray = sv at *
         go_upto_region 27 with fail
         clear hne n1 n2
         go_wp2_with fail
         refine (hM.out.call (fun l' h => step_oc P hP.out z j hsz.out (by omega) z (stepsM_end hze.out 1) B V18 ax l' h)).mono ?_
         rintro r V21 ⟨rfl, hM1, hBn⟩
         replace hG := Hz.mk (hG.out.trans hBn)
         replace hM := Hz.mk hM1
         clear hBn hM1
         go_upto_region 28 with fail
         refine wp_world (fun V => ∃ k, k = V21.heap.size ∧ M2 B V P ax z ay u (boxOb k (List.toArray [Value.int .i64 z.over.e, .int .u64 z.over.v, .int .i64 z.over.f, .int .i64 z.at_.gate, .int .i64 z.at_.pc]) :: [boxOb kw wv, boxOb ko (List.toArray [Value.int .i64 z.over.e, .int .u64 z.over.v, .int .i64 z.over.f, .int .i64 z.at_.gate, .int .i64 z.at_.pc])]) ∧ Below B V21 V) ⟨_, rfl, hM.out.new _ _⟩ ?_
         rintro V22 ⟨k1, hkk, hM1, hBn⟩
         rw [← hkk]
         clear hkk
         replace hG := Hz.mk (hG.out.trans hBn)
         replace hM := Hz.mk hM1
         clear hBn hM1
         go_wp2_with fail
         refine (hM.out.call (fun l' h => run_oc P hP.out z j 5 hsz.out (by omega) (by omega) z (runM_end P 5 z hze.out) B V22 ax l' h)).mono ?_
         rintro r V23 ⟨rfl, hM1, hBn⟩
         replace hG := Hz.mk (hG.out.trans hBn)
         replace hM := Hz.mk hM1
         clear hBn hM1
         go_upto_region 29 with fail
         refine wp_world (fun V => ∃ k, k = V23.heap.size ∧ M2 B V P ax z ay u (boxOb k (List.toArray [Value.int .i64 z.over.e, .int .u64 z.over.v, .int .i64 z.over.f, .int .i64 z.at_.gate, .int .i64 z.at_.pc]) :: boxOb k1 (List.toArray [Value.int .i64 z.over.e, .int .u64 z.over.v, .int .i64 z.over.f, .int .i64 z.at_.gate, .int .i64 z.at_.pc]) :: [boxOb kw wv, boxOb ko (List.toArray [Value.int .i64 z.over.e, .int .u64 z.over.v, .int .i64 z.over.f, .int .i64 z.at_.gate, .int .i64 z.at_.pc])]) ∧ Below B V23 V) ⟨_, rfl, hM.out.new _ _⟩ ?_
         rintro V24 ⟨k2, hkk, hM1, hBn⟩
         rw [← hkk]
         clear hkk
         replace hG := Hz.mk (hG.out.trans hBn)
         replace hM := Hz.mk hM1
         clear hBn hM1
         have A1 := hM.out.there (boxOb k2 (List.toArray [Value.int .i64 z.over.e, .int .u64 z.over.v, .int .i64 z.over.f, .int .i64 z.at_.gate, .int .i64 z.at_.pc])) (by simp)
         have A2 := hM.out.there (boxOb k1 (List.toArray [Value.int .i64 z.over.e, .int .u64 z.over.v, .int .i64 z.over.f, .int .i64 z.at_.gate, .int .i64 z.at_.pc])) (by simp)
         have A3 := hM.out.there (boxOb ko (List.toArray [Value.int .i64 z.over.e, .int .u64 z.over.v, .int .i64 z.over.f, .int .i64 z.at_.gate, .int .i64 z.at_.pc])) (by simp)
         have x0 : V24.cell? ⟨k2, 0, none⟩ = some (.int .i64 z.over.e) := A1.2.1 0
         have x1 : V24.cell? ⟨k2, 1, none⟩ = some (.int .u64 z.over.v) := A1.2.1 1
         have x2 : V24.cell? ⟨k2, 2, none⟩ = some (.int .i64 z.over.f) := A1.2.1 2
         have x3 : V24.cell? ⟨k2, 3, none⟩ = some (.int .i64 z.at_.gate) := A1.2.1 3
         have x4 : V24.cell? ⟨k2, 4, none⟩ = some (.int .i64 z.at_.pc) := A1.2.1 4
         have y0 : V24.cell? ⟨k1, 0, none⟩ = some (.int .i64 z.over.e) := A2.2.1 0
         have y1 : V24.cell? ⟨k1, 1, none⟩ = some (.int .u64 z.over.v) := A2.2.1 1
         have y2 : V24.cell? ⟨k1, 2, none⟩ = some (.int .i64 z.over.f) := A2.2.1 2
         have y3 : V24.cell? ⟨k1, 3, none⟩ = some (.int .i64 z.at_.gate) := A2.2.1 3
         have y4 : V24.cell? ⟨k1, 4, none⟩ = some (.int .i64 z.at_.pc) := A2.2.1 4
         have z0 : V24.cell? ⟨ko, 0, none⟩ = some (.int .i64 z.over.e) := A3.2.1 0
         have z1 : V24.cell? ⟨ko, 1, none⟩ = some (.int .u64 z.over.v) := A3.2.1 1
         have z2 : V24.cell? ⟨ko, 2, none⟩ = some (.int .i64 z.over.f) := A3.2.1 2
         have z3 : V24.cell? ⟨ko, 3, none⟩ = some (.int .i64 z.at_.gate) := A3.2.1 3
         have z4 : V24.cell? ⟨ko, 4, none⟩ = some (.int .i64 z.at_.pc) := A3.2.1 4
         clear A1 A2 A3
         have hq1 : (z.over.e == 0) = false := beq_false_of_ne hze.out
         have hq2 := oc_eq5 z.over.e z.over.v z.over.f z.at_.gate z.at_.pc
         go_wp2_with fail
         go_ret
         exact ⟨rfl, hfin.out _ hG.out⟩
theorem walk_CapmachineFuel (m : PImg) (gate fuel : Int) (A I : List Nat) (ra ca ga aa ia : Option Addr) (rc cc gc ac ic : Nat) (w : World) (ht : TabIn w) (hf : -9223372036854775808 ≤ fuel ∧ fuel < 9223372036854775808) (hm : ImgIn w.heap.size w ra ca ga m) (hr : m.Rng) (hft : Q.TwFit m) (hA : NumIn w aa A) (hI : InS w ia I ic) (hAb : ∀ x ∈ A, x < 18446744073709551616) (hIb : ∀ x ∈ I, x < 18446744073709551616) (hil : I.length ≤ 2000000) : Calls Tryz.prog 5 #[.agg #[.slice ra m.regs.length rc, .slice ca m.comps.length cc, .slice ga m.gates.length gc, .int .i64 m.depth], .int .i64 gate, .slice aa A.length ac, .slice ia I.length ic, .int .i64 fuel] w fun x w' => x = .returned (.bool true) ∧ Below w.heap.size w w' := by
 by_cases hrt : m.right = 0
 · have hth := th_of m hrt hr
   have hP : POk (bare m) := pok_of m hrt hr
   by_cases hg : gate < 0
   · exact fuel_nil m gate fuel A I ra ca ga aa ia rc cc gc ac ic w ht (fun X q => begun_neg m gate A I ra ca ga aa ia rc cc gc ac ic X (TabIn.bl ht q) ((hm.below q).mono q.size) hr hft hrt hg)
   · obtain ⟨n, rfl⟩ : ∃ n : Nat, gate = n := ⟨gate.toNat, by omega⟩
     have hgl : n % m.gates.length < m.gates.length := Nat.mod_lt _ hth.ne
     cases hent : isEnt m (n % m.gates.length)
     · exact fuel_nil m n fuel A I ra ca ga aa ia rc cc gc ac ic w ht (fun X q => begun_shut m n _ A I ra ca ga aa ia rc cc gc ac ic X (TabIn.bl ht q) ((hm.below q).mono q.size) hr hft (hA.bl q) hrt rfl hgl hent)
     · have hal : m.gates[n % m.gates.length].args.length ≤ 7 := (hP.gates _ hgl).2.2.2.2.1
       exact fuel_some m n fuel A I ra ca ga aa ia rc cc gc ac ic w ht hf (bare m) _ hP (start_ok hrt hr hgl (ents_lt A _ hAb (by omega)) hIb hil) rfl (fun X q => begun_ok m n _ A I ra ca ga aa ia rc cc gc ac ic X (TabIn.bl ht q) ((hm.below q).mono q.size) hr hft (hA.bl q) (hI.bl q) hil hrt rfl hgl hent)
 · exact fuel_nil m gate fuel A I ra ca ga aa ia rc cc gc ac ic w ht (fun X q => begun_wrong m gate A I ra ca ga aa ia rc cc gc ac ic X (TabIn.bl ht q) ((hm.below q).mono q.size) hr hrt)
end C
end Go.Proofs.YtkmikpofjoppgaaGreatDoor
