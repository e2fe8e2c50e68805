import Derived.Test.YtmohpcijpliilaaGreatDoorP40
namespace Go.Proofs.YtmohpcijpliilaaGreatDoor
set_option maxRecDepth 100000
set_option maxHeartbeats 40000000
namespace C
open Go.RowKit
open T (Sep Ob Kp Mf TgIn boxOb Fm Tc Ed Vl Cp Bx tgOb mRow updV flt)

def x20 : Array Value := #[.int .u8 1, .int .i64 1, .int .i64 0, .int .i64 0, .int .i64 5, .int .u8 62, .int .i64 1, .int .i64 8, .int .i64 0, .int .i64 3, .int .u8 60, .int .i64 2, .int .i64 8, .int .i64 0, .int .i64 3, .int .u8 27, .int .i64 2, .int .i64 0, .int .i64 0, .int .i64 0]
theorem x_lin {W : World} {b : Nat} (h : At W b x20) : LIn W.heap.size W (some ⟨b, 0, none⟩) xCode := fun i hi => by
 have hi' : i < 4 := hi
 refine ⟨b, 0, rfl, h.1, h.1, ?_⟩
 match i, hi' with
 | 0, _ => exact ⟨h.2.1 0, h.2.1 1, h.2.1 2, h.2.1 3, h.2.1 4⟩
 | 1, _ => exact ⟨h.2.1 5, h.2.1 6, h.2.1 7, h.2.1 8, h.2.1 9⟩
 | 2, _ => exact ⟨h.2.1 10, h.2.1 11, h.2.1 12, h.2.1 13, h.2.1 14⟩
 | 3, _ => exact ⟨h.2.1 15, h.2.1 16, h.2.1 17, h.2.1 18, h.2.1 19⟩
theorem own_two {w : World} {lo : Nat} {v : Value} {L : List Tc} (h : w.ownsRow lo 62 3 v L.length (L.flatMap Tc.row)) : ∃ va c, v = .slice va L.length c ∧ T.EIn 3 Tc.row w va L := by
 have hlt := h.lt
 rcases h.2 with ⟨rfl, h9⟩ | ⟨g, cap, cur, rfl, hb, hg, hc1, hc2, hc3, hc4⟩
 · exact ⟨none, 0, by rw [h9], fun i hi => by omega⟩
 · refine ⟨_, cap, rfl, fun i hi => ⟨g, 0, rfl, (hlt g rfl).2, fun j u q => ?_⟩⟩
   have hj : j < 3 := by have := (List.getElem?_eq_some_iff.1 q).1; simpa [Tc.row] using this
   have hf := flat_at' (f := Tc.row) (k := 3) (fun _ => rfl) L i hi j hj
   rw [q, ← hc4, List.getElem?_take_of_lt (by
     have : (i + 1) * 3 ≤ L.length * 3 := Nat.mul_le_mul_right 3 hi
     omega)] at hf
   have : w.cell? ⟨g, 0 + i * 3 + j, none⟩ = cur[i * 3 + j]? := by simp [World.cell?, hg]
   rw [this, ← hf]
   simp
theorem num_any (e : Int) (w : World) : Calls Tryz.prog 13 #[.int .i64 e] w fun x w' => x = .returned (.int .i64 e) ∧ w' = w := by
 go_enter Tryz.func13, Tryz.ntmps13
 go_wp2_with fail
 go_ret
 exact ⟨rfl, rfl⟩
theorem examples_any (w : World) (ht : TabIn w) : Calls Tryz.prog 4 #[] w fun x w' => x = .returned (.bool true) ∧ Bl w w' := by
 have hA0 := Hz.mk (At.new w x20 55)
 have gA : Hz (Bl w (w.alloc (.cells x20 55))) := Hz.mk ((Bl.refl w).alloc _)
 have hT0 : Hz (TabIn (w.alloc (.cells x20 55))) := Hz.mk (ht.gr ((Gr.refl w).alloc _))
 clear ht
 unfold x20 at *
 go_enter Tryz.func4, Tryz.ntmps4
 go_wp2_with fail
 generalize w.alloc _ = W1 at *
 refine (one_any w.heap.size 4 4 W1).mono ?_
 rintro r W2 ⟨k1, k2, k3, k4, rfl, a1, a2, a3, a4, g2⟩
 have hImg := Hz.mk (img_one a1 a2 a3 a4 (x_lin (Bl.at_ g2 hA0.out)))
 have gw := gA.out.trans g2
 have hTab2 := Hz.mk (hT0.out.below g2 hT0.out.size)
 have hNew : Hz (∀ X, Bl W2 X → Calls Tryz.prog 12 #[.agg #[.slice (some ⟨k1, 0, none⟩) 1 1, .slice (some ⟨k3, 0, none⟩) 1 1, .slice (some ⟨k4, 0, none⟩) 1 1, .int .i64 1], .int .i64 0, .slice none 0 0, .slice none 0 0] X fun x w' => ∃ a, x = .returned (.tuple #[.pointer (some ⟨a, 0, none⟩), .int .i64 0]) ∧ MIn X.heap.size w' a (bare xP) (start xP 0 [] []) [] ∧ Below X.heap.size X w') := Hz.mk (fun X q => new_ok xP 0 [] [] (some ⟨k1, 0, none⟩) (some ⟨k3, 0, none⟩) (some ⟨k4, 0, none⟩) none none 1 1 1 0 0 X (hTab2.out.below q hTab2.out.size) ((hImg.out.below q).mono q.size) x_rng x_right x_ent rfl (fun i hi => absurd hi (Nat.not_lt_zero i)) (.inl ⟨rfl, rfl, rfl⟩) (Nat.zero_le _))
 have gX : Bl W2 (W2.alloc (.cells #[.slice (some ⟨k1, 0, none⟩) 1 1, .slice (some ⟨k3, 0, none⟩) 1 1, .slice (some ⟨k4, 0, none⟩) 1 1, .int .i64 1] 51)) := (Bl.refl W2).alloc _
 replace gw := Hz.mk (gw.trans gX)
 replace gX := Hz.mk gX
 have hR := Hz.mk (fun B Y a l' (q : MIn B Y a (bare xP) (start xP 0 [] []) l') => run_any B Y a (bare xP) (start xP 0 [] []) l' 0 10 (pok_of xP x_right x_rng) q (start_ok x_right x_rng (by decide) (fun x hx => by cases hx) (fun x hx => by cases hx) (Nat.zero_le _)) (by decide))
 have e1 := x_tl
 have e2 := x_tou
 generalize runM (bare xP) 10 (start xP 0 [] []) = s9 at *
 rw [e1] at hR
 replace e1 := Hz.mk e1
 have hTo := Hz.mk (fun B Y a l' (q : MIn B Y a (bare xP) s9 l') => tou_any B a (bare xP) s9 l' Y q (by rw [e2]; decide))
 rw [e2] at hTo
 replace e2 := Hz.mk e2
 have hNum := Hz.mk num_any
 clear a1 a2 a3 a4 g2 hImg hTab2 hT0 hA0 gA
 go_wp2_with fail
 refine (hNew.out _ gX.out).mono ?_
 rintro r W3 ⟨a, rfl, hM, hB3⟩
 have hwB := gw.out.size
 replace gw := Hz.mk (gw.out.trans hB3)
 replace hM := Hz.mk hM
 clear hNew gX hB3
 generalize (W2.alloc _).heap.size = B at *
 go_wp2_with (refine (hNum.out _ _).mono ?_; rintro r X9 ⟨rfl, rfl⟩)
 refine (hR.out _ _ _ _ hM.out).mono ?_
 rintro r W4 ⟨rfl, h4, hB4⟩
 have g4 : Hz (Bl w W4) := Hz.mk (Below.trans gw.out (Below.mono hB4 hwB))
 replace h4 := Hz.mk h4
 clear hB4 hM hR gw
 have hT4 := Hz.mk (hTo.out _ _ _ _ (h4.out.gr ((Bl.refl W4).alloc (.cells #[.int .i64 1, .int .u64 5, .int .i64 0, .int .i64 0, .int .i64 3] 28))))
 clear hTo
 go_wp2_with fail
 refine hT4.out.mono ?_
 rintro r W6 ⟨v, rfl, hown, hB6⟩
 have a6 := Bl.at_ hB6 (At.new W4 #[.int .i64 1, .int .u64 5, .int .i64 0, .int .i64 0, .int .i64 3] 28)
 have ⟨_, p6, _⟩ := a6
 replace g4 := Hz.mk ((g4.out.alloc (.cells #[.int .i64 1, .int .u64 5, .int .i64 0, .int .i64 0, .int .i64 3] 28)).trans hB6)
 obtain ⟨va, c, rfl, hE⟩ := own_two (L := [⟨true, 3, 1⟩, ⟨false, 3, 1⟩]) hown
 obtain ⟨b, off, rfl, hb, h0⟩ := hE 0 (by decide)
 obtain ⟨b', off', e9, _, h1⟩ := hE 1 (by decide)
 injection e9 with e9
 injection e9 with e8 e9
 subst e8 e9
 have t0 : W6.cell? ⟨b, off, none⟩ = some (.bool true) := h0 0 _ rfl
 have t1 : W6.cell? ⟨b, off + 1, none⟩ = some (.int .u64 3) := h0 1 _ rfl
 have t2 : W6.cell? ⟨b, off + 2, none⟩ = some (.int .u64 1) := h0 2 _ rfl
 have t3 : W6.cell? ⟨b, off + 3, none⟩ = some (.bool false) := h1 0 _ rfl
 have t4 : W6.cell? ⟨b, off + 3 + 1, none⟩ = some (.int .u64 3) := h1 1 _ rfl
 have t5 : W6.cell? ⟨b, off + 3 + 2, none⟩ = some (.int .u64 1) := h1 2 _ rfl
 replace a6 := Hz.mk a6
 clear hE h0 h1 hown hB6 hT4 h4
 go_wp2_with fail
 go_ret
 exact ⟨rfl, g4.out⟩
end C
end Go.Proofs.YtmohpcijpliilaaGreatDoor


namespace Go.Proofs.YtmohpcijpliilaaGreatDoor
set_option maxRecDepth 100000
set_option maxHeartbeats 40000000
namespace C
open Go.RowKit
open T (Sep Ob Kp Mf TgIn boxOb Fm Tc Ed Vl Cp Bx tgOb mRow updV flt)

theorem Step_nil (w : World) : Calls Tryz.prog 5 #[.pointer none] w fun x w' => x = .returned (.agg (List.toArray [Value.int .i64 0, .int .u64 0, .int .i64 0, .int .i64 0, .int .i64 0])) ∧ Bl w w' := by
 have hA : At (w.alloc (.cells (List.toArray [Value.int .i64 0, .int .u64 0, .int .i64 0, .int .i64 0, .int .i64 0]) 28)) w.heap.size (List.toArray [Value.int .i64 0, .int .u64 0, .int .i64 0, .int .i64 0, .int .i64 0]) := At.new w _ _
 have hrun := Hz.mk (run_loadVar_mid (P := Tryz.prog) (w.alloc (.cells (List.toArray [Value.int .i64 0, .int .u64 0, .int .i64 0, .int .i64 0, .int .i64 0]) 28)) w.heap.size 0 28 [Value.int .i64 0, .int .u64 0, .int .i64 0, .int .i64 0, .int .i64 0] _ hA.range Tryz.underlying28 rfl (by kernel_rfl))
 clear hA
 go_enter Tryz.func5, Tryz.ntmps5
 go_wp2_with fail
 refine bodyPost_ret (v := .agg (List.toArray [Value.int .i64 0, .int .u64 0, .int .i64 0, .int .i64 0, .int .i64 0])) ?_ rfl ⟨rfl, (Bl.refl w).alloc _⟩
 exact results_cellE Tryz.results5 _ _ rfl hrun.out
theorem Run_nil (fuel : Int) (w : World) : Calls Tryz.prog 6 #[.pointer none, .int .i64 fuel] w fun x w' => x = .returned (.agg (List.toArray [Value.int .i64 0, .int .u64 0, .int .i64 0, .int .i64 0, .int .i64 0])) ∧ Bl w w' := by
 have hA : At (w.alloc (.cells (List.toArray [Value.int .i64 0, .int .u64 0, .int .i64 0, .int .i64 0, .int .i64 0]) 28)) w.heap.size (List.toArray [Value.int .i64 0, .int .u64 0, .int .i64 0, .int .i64 0, .int .i64 0]) := At.new w _ _
 have hrun := Hz.mk (run_loadVar_mid (P := Tryz.prog) (w.alloc (.cells (List.toArray [Value.int .i64 0, .int .u64 0, .int .i64 0, .int .i64 0, .int .i64 0]) 28)) w.heap.size 0 28 [Value.int .i64 0, .int .u64 0, .int .i64 0, .int .i64 0, .int .i64 0] _ hA.range Tryz.underlying28 rfl (by kernel_rfl))
 clear hA
 go_enter Tryz.func6, Tryz.ntmps6
 go_wp2_with fail
 refine bodyPost_ret (v := .agg (List.toArray [Value.int .i64 0, .int .u64 0, .int .i64 0, .int .i64 0, .int .i64 0])) ?_ rfl ⟨rfl, (Bl.refl w).alloc _⟩
 exact results_cellE Tryz.results6 _ _ rfl hrun.out
theorem Out_nil (w : World) : Calls Tryz.prog 8 #[.pointer none] w fun x w' => x = .returned (.slice none 0 0) ∧ w' = w := by
 go_enter Tryz.func8, Tryz.ntmps8
 go_wp2_with fail
 go_ret
 exact ⟨rfl, rfl⟩
theorem Touches_nil (w : World) : Calls Tryz.prog 9 #[.pointer none] w fun x w' => x = .returned (.slice none 0 0) ∧ w' = w := by
 go_enter Tryz.func9, Tryz.ntmps9
 go_wp2_with fail
 go_ret
 exact ⟨rfl, rfl⟩
theorem Memory_nil (w : World) : Calls Tryz.prog 10 #[.pointer none] w fun x w' => x = .returned (.pointer none) ∧ w' = w := by
 go_enter Tryz.func10, Tryz.ntmps10
 go_wp2_with fail
 go_ret
 exact ⟨rfl, rfl⟩
theorem build0 (W : World) : (Instr.build 38 #[]).run Tryz.prog W = .ok (.agg (snR zS).toArray) W := by kernel_rfl
theorem wp_build0 {o : Oper} {a : Act} {K : Act → World → Prop} {Q : Exit → Act → World → Prop} {w : World} (ho : o.op = .build 38 #[]) (h : K (a.put o.dst (.agg (snR zS).toArray)) w) : o.wp Tryz.prog a w K Q := by
 unfold Oper.wp execOp
 simp only [ho, List.map_toArray, List.map_nil, build0, Sem.run_bind, Sem.run_pure, Result.andThen_ok]
 exact h
theorem run_alloc_sn (W : World) : (Instr.alloc 38 true (.tuple #[])).run Tryz.prog W = .ok (.pointer (some ⟨W.heap.size, 0, none⟩)) (W.alloc (.cells (snR zS).toArray 38)) := by
 have : (Instr.alloc 38 true (.tuple #[])).run Tryz.prog W = .ok (.pointer (some ⟨W.heap.size, 0, none⟩)) (W.alloc (.cells Tryz.zeroCells38 38)) := by kernel_rfl
 rw [this, show Tryz.zeroCells38 = (snR zS).toArray by rw [← zero_sn]]
theorem wp_alloc_sn {o : Oper} {a : Act} {K : Act → World → Prop} {Q : Exit → Act → World → Prop} {w : World} (ho : o.op = .alloc 38) (h : K (a.put o.dst (.pointer (some ⟨w.heap.size, 0, none⟩))) (w.alloc (.cells (snR zS).toArray 38))) : o.wp Tryz.prog a w K Q := by
 unfold Oper.wp execOp
 simp only [ho, run_alloc_sn, Sem.run_bind, Sem.run_pure, Result.andThen_ok]
 exact h
theorem eql0 (W : World) : (binOp .eql 38 (.agg (snR zS).toArray) (.agg (snR zS).toArray)).run Tryz.prog W = .ok (.bool true) W := by kernel_rfl
theorem guard_sn (x y : Operand) (u v : Array Value) (W : World) : (eqGuard .eql 38 x y (.agg u) (.agg v)).run Tryz.prog W = .ok () W := by kernel_rfl
theorem wp_eql0 {o : Oper} {a : Act} {K : Act → World → Prop} {Q : Exit → Act → World → Prop} {w : World} (x y : Operand) (ho : o.op = .binOp .eql 38 x y 38) (hx : a.eval x = .agg (snR zS).toArray) (hy : a.eval y = .agg (snR zS).toArray) (h : K (a.put o.dst (.bool true)) w) : o.wp Tryz.prog a w K Q := by
 unfold Oper.wp execOp
 simp only [ho, hx, hy, guard_sn, eql0, Sem.run_bind, Sem.run_pure, Result.andThen_ok]
 exact h
theorem Snap_nil (w : World) : Calls Tryz.prog 7 #[.pointer none] w fun x w' => x = .returned (.agg (snR zS).toArray) ∧ Bl w w' := by
 have hR0 : At (w.alloc (.cells Tryz.zeroCells38 38)) w.heap.size (snR zS).toArray := by
   rw [← zero_sn]
   exact At.new w _ _
 have gV : Bl w (w.alloc (.cells Tryz.zeroCells38 38)) := (Bl.refl w).alloc _
 go_enter Tryz.func7, Tryz.ntmps7
 go_upto_region 2 with fail
 generalize w.alloc (.cells Tryz.zeroCells38 38) = V at *
 have hth : Hz (V.there w.heap.size 0 (snR zS).toArray.size) := Hz.mk (by rw [show (snR zS).toArray.size = 115 from snR_len zS]; exact At.there hR0 0 115 (by rw [snR_len]; decide))
 have hA8 := Hz.mk (At.setAll hR0 (snR zS) rfl).range
 have g9 := Hz.mk (gV.sets w.heap.size (Nat.le_refl _) (snR zS) 0)
 replace hR0 := Hz.mk hR0
 refine wp_region_lit ?_
 refine wpList_plain rfl (fun K hK => ?_)
 refine wp_build0 rfl (hK _ _ ?_)
 clear hK K
 try simp only [xap]
 refine wpList_store_mid rfl _ _ _ rfl _ _ (List.toArray (snR zS)) rfl rfl (show World.there _ _ _ _ from hth.out) (by rw [List.size_toArray, snR_len]; kernel_rfl) (snR_one zS) ?_
 try simp only [Act.put]
 generalize World.setCells _ _ _ _ = Y9 at *
 have hrun := run_loadVar_mid (P := Tryz.prog) Y9 w.heap.size 0 38 (snR zS) _ hA8.out Tryz.underlying38 rfl (by rw [snR_len]; kernel_rfl)
 go_wp2_with fail
 refine bodyPost_ret (v := .agg (snR zS).toArray) ?_ rfl ⟨rfl, g9.out⟩
 exact results_cellE Tryz.results7 _ _ rfl hrun
end C
end Go.Proofs.YtmohpcijpliilaaGreatDoor
