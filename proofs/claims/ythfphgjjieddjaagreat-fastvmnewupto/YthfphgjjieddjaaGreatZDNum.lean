import Derived.Test.YthfphgjjieddjaaGreatZDRec
namespace Go.Proofs.YthfphgjjieddjaaGreat
set_option maxRecDepth 100000
set_option maxHeartbeats 40000000
namespace Z
open Go.RowKit
open T (Sep Ob Kp Mf FlIn)

theorem dnum0 (a : Nat) (x : Dx) (ia ib ic : Nat) (imm : Int) (w : World) (h : DBx w a x) (hb : ib < 16) (hp : x.p ≤ 1000000) :
   Calls Tryz.prog 52 #[.pointer (some ⟨a, 0, none⟩), .agg #[.int .u8 0, .int .i64 ia, .int .i64 ib, .int .i64 ic, .int .u64 imm]] w fun r w' => r = .returned (.tuple #[]) ∧ DB1 a (x.next) w w' := by
 have hne : ¬ w.heap.size = a := by have := h.lt; omega
 have hx := Hz.mk h
 clear h
 go_enter Tryz.func52, Tryz.ntmps52
 go_upto_region 1 with fail
 refine wp_world (fun W => At W w.heap.size #[.int .u8 0, .int .i64 ia, .int .i64 ib, .int .i64 ic, .int .u64 imm] ∧ Gr w W) ⟨At.new w _ _, (Gr.refl _).alloc _⟩ ?_
 rintro W ⟨hA, G⟩
 generalize w.heap.size = kb at *
 replace hA := Hz.mk hA
 replace hx := Hz.mk (hx.out.gr G)
 have hkp : Hz (Kp (fun k => k = a) w W) := Hz.mk (Kp.ofGr G)
 clear G
 have KS := xk2 0 ia ib ic imm kb
 have hxd := hx.out.gr ((Gr.refl W).drew)
 have rr : W.drew.cell? ⟨a, 6 + ib, none⟩ = some (.int .u64 (x.r ib)) := (hxd.at_ (6 + ib) (by omega)).trans (congrArg some (Dx.reg x ib hb))
 have ri : (ib : Int) < 16 := by omega
 refine wp_region_held_drew (S := (fun W => W.cell? ⟨kb, 0, none⟩ = some (.int .u8 0) ∧ W.cell? ⟨kb, 1, none⟩ = some (.int .i64 ia) ∧ W.cell? ⟨kb, 2, none⟩ = some (.int .i64 ib) ∧ W.cell? ⟨kb, 3, none⟩ = some (.int .i64 ic) ∧ W.cell? ⟨kb, 4, none⟩ = some (.int .u64 imm))) (by kernel_rfl) (KS.out _ (hA.out.gr ((Gr.refl W).drew))) (fun hHeld => ?_)
 refine xso 0 ?_ rfl ?_ (xso 1 ?_ rfl ?_ (xso 2 ?_ rfl ?_ (xso 3 ?_ rfl ?_ (xso 4 ?_ rfl ?_ (xso 5 ?_ rfl ?_ ?_)))))
 iterate 6 (rotate_left; focus ((try simp only [xap]); intro w hSw; (try dsimp only at hSw); go_simp; first | done | with_reducible rfl))
 try simp only [xap]
 refine xrd 6 rfl (fun K hK => ?_)
 go_simp
 refine hK.out _ _ (KS.out _ (hA.out.gr ((Gr.refl W).drew))) (fun hHeld => ?_)
 clear hK K
 try simp only [xap]
 refine xso 7 ?_ rfl ?_ ?_
 rotate_left
 · intro w hSw; (try dsimp only at hSw); go_simp; first | done | with_reducible rfl
 try simp only [xap]
 refine xdn ?_ _
 clear hHeld rr ri
 replace hA := Hz.mk (hA.out.gr ((Gr.refl W).drew))
 replace hkp := Hz.mk (hkp.out.trans (Kp.ofGr ((Gr.refl W).drew)) (fun _ q => .inl q))
 replace hx := Hz.mk hxd
 clear hxd
 generalize W.drew = Wd at *
 have c5 : Wd.cell? ⟨a, 5, none⟩ = some (.int .i64 x.p) := hx.out.at_ 5 (by omega)
 have f5 := hx.out.fr 5
 have hlt := hx.out.lt
 have hw5 : wrap64 ((x.p : Int) + 1) = (x.p : Int) + 1 := by unfold wrap64; omega
 go_upto_region 3 with fail
 clear c5 f5 hlt hw5
 replace hx := Hz.mk (show DBx (Wd.setCell ⟨a, 5, none⟩ (.int .i64 ((x.p : Int) + 1))) a x.next from hx.out.p_ (x.p + 1))
 replace hA := Hz.mk (show At (Wd.setCell ⟨a, 5, none⟩ (.int .i64 ((x.p : Int) + 1))) kb #[.int .u8 0, .int .i64 ia, .int .i64 ib, .int .i64 ic, .int .u64 imm] from T.at_kp hA.out (kp_set1 (Kp.refl (fun k => k = a) Wd) 5 _) hne)
 replace hkp := Hz.mk (show Kp (fun k => k = a) w (Wd.setCell ⟨a, 5, none⟩ (.int .i64 ((x.p : Int) + 1))) from hkp.out.trans (kp_set1 (Kp.refl _ Wd) 5 _) (fun _ q => .inl q))
 generalize Wd.setCell ⟨a, 5, none⟩ (.int .i64 ((x.p : Int) + 1)) = V at *
 have k0 : V.cell? ⟨kb, 0, none⟩ = some (.int .u8 0) := hA.out.2.1 0
 have hfin : Hz (DB1 a x.next w V) := Hz.mk ⟨hx.out, hkp.out⟩
 go_wp2_with fail
 first | go_end0 | ((try simp only [Exit.inBlock, Exit.then]); refine bodyPost_ret (results_none rfl _ _ _) rfl ?_)
 exact ⟨rfl, hfin.out⟩
theorem dnum1 (a : Nat) (x : Dx) (ia ib ic : Nat) (imm : Int) (w : World) (h : DBx w a x) (ha : ia < 16) (hb : ib < 16) (hp : x.p ≤ 1000000) :
   Calls Tryz.prog 52 #[.pointer (some ⟨a, 0, none⟩), .agg #[.int .u8 1, .int .i64 ia, .int .i64 ib, .int .i64 ic, .int .u64 imm]] w fun r w' => r = .returned (.tuple #[]) ∧ DB1 a (x.lay ia (imm)) w w' := by
 have hne : ¬ w.heap.size = a := by have := h.lt; omega
 have hx := Hz.mk h
 clear h
 go_enter Tryz.func52, Tryz.ntmps52
 go_upto_region 1 with fail
 refine wp_world (fun W => At W w.heap.size #[.int .u8 1, .int .i64 ia, .int .i64 ib, .int .i64 ic, .int .u64 imm] ∧ Gr w W) ⟨At.new w _ _, (Gr.refl _).alloc _⟩ ?_
 rintro W ⟨hA, G⟩
 generalize w.heap.size = kb at *
 replace hA := Hz.mk hA
 replace hx := Hz.mk (hx.out.gr G)
 have hkp : Hz (Kp (fun k => k = a) w W) := Hz.mk (Kp.ofGr G)
 clear G
 have KS := xk2 1 ia ib ic imm kb
 have hxd := hx.out.gr ((Gr.refl W).drew)
 have rr : W.drew.cell? ⟨a, 6 + ib, none⟩ = some (.int .u64 (x.r ib)) := (hxd.at_ (6 + ib) (by omega)).trans (congrArg some (Dx.reg x ib hb))
 have ri : (ib : Int) < 16 := by omega
 refine wp_region_held_drew (S := (fun W => W.cell? ⟨kb, 0, none⟩ = some (.int .u8 1) ∧ W.cell? ⟨kb, 1, none⟩ = some (.int .i64 ia) ∧ W.cell? ⟨kb, 2, none⟩ = some (.int .i64 ib) ∧ W.cell? ⟨kb, 3, none⟩ = some (.int .i64 ic) ∧ W.cell? ⟨kb, 4, none⟩ = some (.int .u64 imm))) (by kernel_rfl) (KS.out _ (hA.out.gr ((Gr.refl W).drew))) (fun hHeld => ?_)
 refine xso 0 ?_ rfl ?_ (xso 1 ?_ rfl ?_ (xso 2 ?_ rfl ?_ (xso 3 ?_ rfl ?_ (xso 4 ?_ rfl ?_ (xso 5 ?_ rfl ?_ ?_)))))
 iterate 6 (rotate_left; focus ((try simp only [xap]); intro w hSw; (try dsimp only at hSw); go_simp; first | done | with_reducible rfl))
 try simp only [xap]
 refine xrd 6 rfl (fun K hK => ?_)
 go_simp
 refine hK.out _ _ (KS.out _ (hA.out.gr ((Gr.refl W).drew))) (fun hHeld => ?_)
 clear hK K
 try simp only [xap]
 refine xso 7 ?_ rfl ?_ ?_
 rotate_left
 · intro w hSw; (try dsimp only at hSw); go_simp; first | done | with_reducible rfl
 try simp only [xap]
 refine xdn ?_ _
 clear hHeld rr ri
 replace hA := Hz.mk (hA.out.gr ((Gr.refl W).drew))
 replace hkp := Hz.mk (hkp.out.trans (Kp.ofGr ((Gr.refl W).drew)) (fun _ q => .inl q))
 replace hx := Hz.mk hxd
 clear hxd
 generalize W.drew = Wd at *
 have c5 : Wd.cell? ⟨a, 5, none⟩ = some (.int .i64 x.p) := hx.out.at_ 5 (by omega)
 have f5 := hx.out.fr 5
 have hlt := hx.out.lt
 have hw5 : wrap64 ((x.p : Int) + 1) = (x.p : Int) + 1 := by unfold wrap64; omega
 go_upto_region 3 with fail
 clear c5 f5 hlt hw5
 replace hx := Hz.mk (show DBx (Wd.setCell ⟨a, 5, none⟩ (.int .i64 ((x.p : Int) + 1))) a x.next from hx.out.p_ (x.p + 1))
 replace hA := Hz.mk (show At (Wd.setCell ⟨a, 5, none⟩ (.int .i64 ((x.p : Int) + 1))) kb #[.int .u8 1, .int .i64 ia, .int .i64 ib, .int .i64 ic, .int .u64 imm] from T.at_kp hA.out (kp_set1 (Kp.refl (fun k => k = a) Wd) 5 _) hne)
 replace hkp := Hz.mk (show Kp (fun k => k = a) w (Wd.setCell ⟨a, 5, none⟩ (.int .i64 ((x.p : Int) + 1))) from hkp.out.trans (kp_set1 (Kp.refl _ Wd) 5 _) (fun _ q => .inl q))
 generalize Wd.setCell ⟨a, 5, none⟩ (.int .i64 ((x.p : Int) + 1)) = V at *
 have k0 : V.cell? ⟨kb, 0, none⟩ = some (.int .u8 1) := hA.out.2.1 0
 go_upto_region 7 with fail
 clear k0
 have hxd := hx.out.gr ((Gr.refl V).drew)
 have rr : V.drew.cell? ⟨a, 6 + ia, none⟩ = some (.int .u64 (x.r ia)) := (hxd.at_ (6 + ia) (by omega)).trans (congrArg some (Dx.reg x.next ia ha))
 have rf := hxd.fr (6 + ia)
 have ri : (ia : Int) < 16 := by omega
 have hAd := Hz.mk (hA.out.gr ((Gr.refl V).drew))
 have hlt := hxd.lt
 have hfin : Hz (DB1 a (x.lay ia (imm)) w (V.drew.setCell ⟨a, 6 + ia, none⟩ (.int .u64 (imm)))) := Hz.mk ⟨hxd.reg ia ha (imm), (hkp.out.trans (Kp.ofGr ((Gr.refl V).drew)) (fun _ q => .inl q)).trans (kp_set1 (Kp.refl _ V.drew) (6 + ia) _) (fun _ q => .inl q)⟩
 have hAf : Hz (At (V.drew.setCell ⟨a, 6 + ia, none⟩ (.int .u64 (imm))) kb #[.int .u8 1, .int .i64 ia, .int .i64 ib, .int .i64 ic, .int .u64 imm]) := Hz.mk (T.at_kp hAd.out (kp_set1 (Kp.refl (fun k => k = a) V.drew) (6 + ia) _) hne)
 replace hxd := Hz.mk hxd
 refine wp_region_held_drew (S := (fun W => W.cell? ⟨kb, 0, none⟩ = some (.int .u8 1) ∧ W.cell? ⟨kb, 1, none⟩ = some (.int .i64 ia) ∧ W.cell? ⟨kb, 2, none⟩ = some (.int .i64 ib) ∧ W.cell? ⟨kb, 3, none⟩ = some (.int .i64 ic) ∧ W.cell? ⟨kb, 4, none⟩ = some (.int .u64 imm))) (by kernel_rfl) (KS.out _ hAd.out) (fun hHeld => ?_)
 refine xso 0 ?_ rfl ?_ (xso 1 ?_ rfl ?_ (xso 2 ?_ rfl ?_ (xso 3 ?_ rfl ?_ (xso 4 ?_ rfl ?_ (xso 5 ?_ rfl ?_ (xso 6 ?_ rfl ?_ (xso 7 ?_ rfl ?_ ?_)))))))
 iterate 8 (rotate_left; focus ((try simp only [xap]); intro w hSw; (try dsimp only at hSw); go_simp; first | done | with_reducible rfl))
 try simp only [xap]
 refine xrd 8 rfl (fun K hK => ?_)
 go_simp
 refine hK.out _ _ (KS.out _ hAf.out) (fun hHeld => ?_)
 clear hK K
 try simp only [xap]
 refine xdn ?_ _
 clear hHeld rr rf ri
 go_wp2_with fail
 first | go_end0 | ((try simp only [Exit.inBlock, Exit.then]); refine bodyPost_ret (results_none rfl _ _ _) rfl ?_)
 exact ⟨rfl, hfin.out⟩
theorem dnum2 (a : Nat) (x : Dx) (ia ib ic : Nat) (imm : Int) (w : World) (h : DBx w a x) (ha : ia < 16) (hb : ib < 16) (hp : x.p ≤ 1000000) :
   Calls Tryz.prog 52 #[.pointer (some ⟨a, 0, none⟩), .agg #[.int .u8 2, .int .i64 ia, .int .i64 ib, .int .i64 ic, .int .u64 imm]] w fun r w' => r = .returned (.tuple #[]) ∧ DB1 a (x.lay ia (x.r ib)) w w' := by
 have hne : ¬ w.heap.size = a := by have := h.lt; omega
 have hx := Hz.mk h
 clear h
 go_enter Tryz.func52, Tryz.ntmps52
 go_upto_region 1 with fail
 refine wp_world (fun W => At W w.heap.size #[.int .u8 2, .int .i64 ia, .int .i64 ib, .int .i64 ic, .int .u64 imm] ∧ Gr w W) ⟨At.new w _ _, (Gr.refl _).alloc _⟩ ?_
 rintro W ⟨hA, G⟩
 generalize w.heap.size = kb at *
 replace hA := Hz.mk hA
 replace hx := Hz.mk (hx.out.gr G)
 have hkp : Hz (Kp (fun k => k = a) w W) := Hz.mk (Kp.ofGr G)
 clear G
 have KS := xk2 2 ia ib ic imm kb
 have hxd := hx.out.gr ((Gr.refl W).drew)
 have rr : W.drew.cell? ⟨a, 6 + ib, none⟩ = some (.int .u64 (x.r ib)) := (hxd.at_ (6 + ib) (by omega)).trans (congrArg some (Dx.reg x ib hb))
 have ri : (ib : Int) < 16 := by omega
 refine wp_region_held_drew (S := (fun W => W.cell? ⟨kb, 0, none⟩ = some (.int .u8 2) ∧ W.cell? ⟨kb, 1, none⟩ = some (.int .i64 ia) ∧ W.cell? ⟨kb, 2, none⟩ = some (.int .i64 ib) ∧ W.cell? ⟨kb, 3, none⟩ = some (.int .i64 ic) ∧ W.cell? ⟨kb, 4, none⟩ = some (.int .u64 imm))) (by kernel_rfl) (KS.out _ (hA.out.gr ((Gr.refl W).drew))) (fun hHeld => ?_)
 refine xso 0 ?_ rfl ?_ (xso 1 ?_ rfl ?_ (xso 2 ?_ rfl ?_ (xso 3 ?_ rfl ?_ (xso 4 ?_ rfl ?_ (xso 5 ?_ rfl ?_ ?_)))))
 iterate 6 (rotate_left; focus ((try simp only [xap]); intro w hSw; (try dsimp only at hSw); go_simp; first | done | with_reducible rfl))
 try simp only [xap]
 refine xrd 6 rfl (fun K hK => ?_)
 go_simp
 refine hK.out _ _ (KS.out _ (hA.out.gr ((Gr.refl W).drew))) (fun hHeld => ?_)
 clear hK K
 try simp only [xap]
 refine xso 7 ?_ rfl ?_ ?_
 rotate_left
 · intro w hSw; (try dsimp only at hSw); go_simp; first | done | with_reducible rfl
 try simp only [xap]
 refine xdn ?_ _
 clear hHeld rr ri
 replace hA := Hz.mk (hA.out.gr ((Gr.refl W).drew))
 replace hkp := Hz.mk (hkp.out.trans (Kp.ofGr ((Gr.refl W).drew)) (fun _ q => .inl q))
 replace hx := Hz.mk hxd
 clear hxd
 generalize W.drew = Wd at *
 have c5 : Wd.cell? ⟨a, 5, none⟩ = some (.int .i64 x.p) := hx.out.at_ 5 (by omega)
 have f5 := hx.out.fr 5
 have hlt := hx.out.lt
 have hw5 : wrap64 ((x.p : Int) + 1) = (x.p : Int) + 1 := by unfold wrap64; omega
 go_upto_region 3 with fail
 clear c5 f5 hlt hw5
 replace hx := Hz.mk (show DBx (Wd.setCell ⟨a, 5, none⟩ (.int .i64 ((x.p : Int) + 1))) a x.next from hx.out.p_ (x.p + 1))
 replace hA := Hz.mk (show At (Wd.setCell ⟨a, 5, none⟩ (.int .i64 ((x.p : Int) + 1))) kb #[.int .u8 2, .int .i64 ia, .int .i64 ib, .int .i64 ic, .int .u64 imm] from T.at_kp hA.out (kp_set1 (Kp.refl (fun k => k = a) Wd) 5 _) hne)
 replace hkp := Hz.mk (show Kp (fun k => k = a) w (Wd.setCell ⟨a, 5, none⟩ (.int .i64 ((x.p : Int) + 1))) from hkp.out.trans (kp_set1 (Kp.refl _ Wd) 5 _) (fun _ q => .inl q))
 generalize Wd.setCell ⟨a, 5, none⟩ (.int .i64 ((x.p : Int) + 1)) = V at *
 have k0 : V.cell? ⟨kb, 0, none⟩ = some (.int .u8 2) := hA.out.2.1 0
 go_upto_region 9 with fail
 clear k0
 have hxd := hx.out.gr ((Gr.refl V).drew)
 have rr : V.drew.cell? ⟨a, 6 + ia, none⟩ = some (.int .u64 (x.r ia)) := (hxd.at_ (6 + ia) (by omega)).trans (congrArg some (Dx.reg x.next ia ha))
 have rf := hxd.fr (6 + ia)
 have ri : (ia : Int) < 16 := by omega
 have hAd := Hz.mk (hA.out.gr ((Gr.refl V).drew))
 have hlt := hxd.lt
 have hfin : Hz (DB1 a (x.lay ia (x.r ib)) w (V.drew.setCell ⟨a, 6 + ia, none⟩ (.int .u64 (x.r ib)))) := Hz.mk ⟨hxd.reg ia ha (x.r ib), (hkp.out.trans (Kp.ofGr ((Gr.refl V).drew)) (fun _ q => .inl q)).trans (kp_set1 (Kp.refl _ V.drew) (6 + ia) _) (fun _ q => .inl q)⟩
 have hAf : Hz (At (V.drew.setCell ⟨a, 6 + ia, none⟩ (.int .u64 (x.r ib))) kb #[.int .u8 2, .int .i64 ia, .int .i64 ib, .int .i64 ic, .int .u64 imm]) := Hz.mk (T.at_kp hAd.out (kp_set1 (Kp.refl (fun k => k = a) V.drew) (6 + ia) _) hne)
 replace hxd := Hz.mk hxd
 refine wp_region_held_drew (S := (fun W => W.cell? ⟨kb, 0, none⟩ = some (.int .u8 2) ∧ W.cell? ⟨kb, 1, none⟩ = some (.int .i64 ia) ∧ W.cell? ⟨kb, 2, none⟩ = some (.int .i64 ib) ∧ W.cell? ⟨kb, 3, none⟩ = some (.int .i64 ic) ∧ W.cell? ⟨kb, 4, none⟩ = some (.int .u64 imm))) (by kernel_rfl) (KS.out _ hAd.out) (fun hHeld => ?_)
 refine xso 0 ?_ rfl ?_ (xso 1 ?_ rfl ?_ (xso 2 ?_ rfl ?_ (xso 3 ?_ rfl ?_ (xso 4 ?_ rfl ?_ (xso 5 ?_ rfl ?_ (xso 6 ?_ rfl ?_ ?_))))))
 iterate 7 (rotate_left; focus ((try simp only [xap]); intro w hSw; (try dsimp only at hSw); go_simp; first | done | with_reducible rfl))
 try simp only [xap]
 refine xrd 7 rfl (fun K hK => ?_)
 go_simp
 refine hK.out _ _ (KS.out _ hAf.out) (fun hHeld => ?_)
 clear hK K
 try simp only [xap]
 refine xdn ?_ _
 clear hHeld rr rf ri
 go_wp2_with fail
 first | go_end0 | ((try simp only [Exit.inBlock, Exit.then]); refine bodyPost_ret (results_none rfl _ _ _) rfl ?_)
 exact ⟨rfl, hfin.out⟩
theorem dnum11 (a : Nat) (x : Dx) (ia ib ic : Nat) (imm : Int) (w : World) (h : DBx w a x) (ha : ia < 16) (hb : ib < 16) (hp : x.p ≤ 1000000) :
   Calls Tryz.prog 52 #[.pointer (some ⟨a, 0, none⟩), .agg #[.int .u8 11, .int .i64 ia, .int .i64 ib, .int .i64 ic, .int .u64 imm]] w fun r w' => r = .returned (.tuple #[]) ∧ DB1 a (x.lay ia (IntKind.u64.wrap (x.r ib + imm))) w w' := by
 have hne : ¬ w.heap.size = a := by have := h.lt; omega
 have hx := Hz.mk h
 clear h
 go_enter Tryz.func52, Tryz.ntmps52
 go_upto_region 1 with fail
 refine wp_world (fun W => At W w.heap.size #[.int .u8 11, .int .i64 ia, .int .i64 ib, .int .i64 ic, .int .u64 imm] ∧ Gr w W) ⟨At.new w _ _, (Gr.refl _).alloc _⟩ ?_
 rintro W ⟨hA, G⟩
 generalize w.heap.size = kb at *
 replace hA := Hz.mk hA
 replace hx := Hz.mk (hx.out.gr G)
 have hkp : Hz (Kp (fun k => k = a) w W) := Hz.mk (Kp.ofGr G)
 clear G
 have KS := xk2 11 ia ib ic imm kb
 have hxd := hx.out.gr ((Gr.refl W).drew)
 have rr : W.drew.cell? ⟨a, 6 + ib, none⟩ = some (.int .u64 (x.r ib)) := (hxd.at_ (6 + ib) (by omega)).trans (congrArg some (Dx.reg x ib hb))
 have ri : (ib : Int) < 16 := by omega
 refine wp_region_held_drew (S := (fun W => W.cell? ⟨kb, 0, none⟩ = some (.int .u8 11) ∧ W.cell? ⟨kb, 1, none⟩ = some (.int .i64 ia) ∧ W.cell? ⟨kb, 2, none⟩ = some (.int .i64 ib) ∧ W.cell? ⟨kb, 3, none⟩ = some (.int .i64 ic) ∧ W.cell? ⟨kb, 4, none⟩ = some (.int .u64 imm))) (by kernel_rfl) (KS.out _ (hA.out.gr ((Gr.refl W).drew))) (fun hHeld => ?_)
 refine xso 0 ?_ rfl ?_ (xso 1 ?_ rfl ?_ (xso 2 ?_ rfl ?_ (xso 3 ?_ rfl ?_ (xso 4 ?_ rfl ?_ (xso 5 ?_ rfl ?_ ?_)))))
 iterate 6 (rotate_left; focus ((try simp only [xap]); intro w hSw; (try dsimp only at hSw); go_simp; first | done | with_reducible rfl))
 try simp only [xap]
 refine xrd 6 rfl (fun K hK => ?_)
 go_simp
 refine hK.out _ _ (KS.out _ (hA.out.gr ((Gr.refl W).drew))) (fun hHeld => ?_)
 clear hK K
 try simp only [xap]
 refine xso 7 ?_ rfl ?_ ?_
 rotate_left
 · intro w hSw; (try dsimp only at hSw); go_simp; first | done | with_reducible rfl
 try simp only [xap]
 refine xdn ?_ _
 clear hHeld rr ri
 replace hA := Hz.mk (hA.out.gr ((Gr.refl W).drew))
 replace hkp := Hz.mk (hkp.out.trans (Kp.ofGr ((Gr.refl W).drew)) (fun _ q => .inl q))
 replace hx := Hz.mk hxd
 clear hxd
 generalize W.drew = Wd at *
 have c5 : Wd.cell? ⟨a, 5, none⟩ = some (.int .i64 x.p) := hx.out.at_ 5 (by omega)
 have f5 := hx.out.fr 5
 have hlt := hx.out.lt
 have hw5 : wrap64 ((x.p : Int) + 1) = (x.p : Int) + 1 := by unfold wrap64; omega
 go_upto_region 3 with fail
 clear c5 f5 hlt hw5
 replace hx := Hz.mk (show DBx (Wd.setCell ⟨a, 5, none⟩ (.int .i64 ((x.p : Int) + 1))) a x.next from hx.out.p_ (x.p + 1))
 replace hA := Hz.mk (show At (Wd.setCell ⟨a, 5, none⟩ (.int .i64 ((x.p : Int) + 1))) kb #[.int .u8 11, .int .i64 ia, .int .i64 ib, .int .i64 ic, .int .u64 imm] from T.at_kp hA.out (kp_set1 (Kp.refl (fun k => k = a) Wd) 5 _) hne)
 replace hkp := Hz.mk (show Kp (fun k => k = a) w (Wd.setCell ⟨a, 5, none⟩ (.int .i64 ((x.p : Int) + 1))) from hkp.out.trans (kp_set1 (Kp.refl _ Wd) 5 _) (fun _ q => .inl q))
 generalize Wd.setCell ⟨a, 5, none⟩ (.int .i64 ((x.p : Int) + 1)) = V at *
 have k0 : V.cell? ⟨kb, 0, none⟩ = some (.int .u8 11) := hA.out.2.1 0
 go_upto_region 11 with fail
 clear k0
 have hxd := hx.out.gr ((Gr.refl V).drew)
 have rr : V.drew.cell? ⟨a, 6 + ia, none⟩ = some (.int .u64 (x.r ia)) := (hxd.at_ (6 + ia) (by omega)).trans (congrArg some (Dx.reg x.next ia ha))
 have rf := hxd.fr (6 + ia)
 have ri : (ia : Int) < 16 := by omega
 have hAd := Hz.mk (hA.out.gr ((Gr.refl V).drew))
 have hlt := hxd.lt
 have hfin : Hz (DB1 a (x.lay ia (IntKind.u64.wrap (x.r ib + imm))) w (V.drew.setCell ⟨a, 6 + ia, none⟩ (.int .u64 (IntKind.u64.wrap (x.r ib + imm))))) := Hz.mk ⟨hxd.reg ia ha (IntKind.u64.wrap (x.r ib + imm)), (hkp.out.trans (Kp.ofGr ((Gr.refl V).drew)) (fun _ q => .inl q)).trans (kp_set1 (Kp.refl _ V.drew) (6 + ia) _) (fun _ q => .inl q)⟩
 have hAf : Hz (At (V.drew.setCell ⟨a, 6 + ia, none⟩ (.int .u64 (IntKind.u64.wrap (x.r ib + imm)))) kb #[.int .u8 11, .int .i64 ia, .int .i64 ib, .int .i64 ic, .int .u64 imm]) := Hz.mk (T.at_kp hAd.out (kp_set1 (Kp.refl (fun k => k = a) V.drew) (6 + ia) _) hne)
 replace hxd := Hz.mk hxd
 refine wp_region_held_drew (S := (fun W => W.cell? ⟨kb, 0, none⟩ = some (.int .u8 11) ∧ W.cell? ⟨kb, 1, none⟩ = some (.int .i64 ia) ∧ W.cell? ⟨kb, 2, none⟩ = some (.int .i64 ib) ∧ W.cell? ⟨kb, 3, none⟩ = some (.int .i64 ic) ∧ W.cell? ⟨kb, 4, none⟩ = some (.int .u64 imm))) (by kernel_rfl) (KS.out _ hAd.out) (fun hHeld => ?_)
 refine xso 0 ?_ rfl ?_ (xso 1 ?_ rfl ?_ (xso 2 ?_ rfl ?_ (xso 3 ?_ rfl ?_ (xso 4 ?_ rfl ?_ (xso 5 ?_ rfl ?_ (xso 6 ?_ rfl ?_ (xso 7 ?_ rfl ?_ (xso 8 ?_ rfl ?_ (xso 9 ?_ rfl ?_ ?_)))))))))
 iterate 10 (rotate_left; focus ((try simp only [xap]); intro w hSw; (try dsimp only at hSw); go_simp; first | done | with_reducible rfl))
 try simp only [xap]
 refine xrd 10 rfl (fun K hK => ?_)
 go_simp
 refine hK.out _ _ (KS.out _ hAf.out) (fun hHeld => ?_)
 clear hK K
 try simp only [xap]
 refine xdn ?_ _
 clear hHeld rr rf ri
 go_wp2_with fail
 first | go_end0 | ((try simp only [Exit.inBlock, Exit.then]); refine bodyPost_ret (results_none rfl _ _ _) rfl ?_)
 exact ⟨rfl, hfin.out⟩
theorem dnumR (nn vv : Int) (a : Nat) (x : Dx) (ia ib ic : Nat) (imm : Int) (w : World) (h : DBx w a x) (ha : ia < 16) (hc : ic < 16) (hb : ib < 16) (hp : x.p ≤ 1000000) (hreck : ∀ W, Calls Tryz.prog 68 #[.int .u8 nn, .int .u64 (x.r ib), .int .u64 (x.r ic)] W fun r w' => r = .returned (.int .u64 vv) ∧ w' = W) (m0 : (nn == 0) = false) (m1 : (nn == 1) = false) (m2 : (nn == 2) = false) (m11 : (nn == 11) = false) :
   Calls Tryz.prog 52 #[.pointer (some ⟨a, 0, none⟩), .agg #[.int .u8 nn, .int .i64 ia, .int .i64 ib, .int .i64 ic, .int .u64 imm]] w fun r w' => r = .returned (.tuple #[]) ∧ DB1 a (x.lay ia vv) w w' := by
 have hne : ¬ w.heap.size = a := by have := h.lt; omega
 have hx := Hz.mk h
 clear h
 go_enter Tryz.func52, Tryz.ntmps52
 go_upto_region 1 with fail
 refine wp_world (fun W => At W w.heap.size #[.int .u8 nn, .int .i64 ia, .int .i64 ib, .int .i64 ic, .int .u64 imm] ∧ Gr w W) ⟨At.new w _ _, (Gr.refl _).alloc _⟩ ?_
 rintro W ⟨hA, G⟩
 generalize w.heap.size = kb at *
 replace hA := Hz.mk hA
 replace hx := Hz.mk (hx.out.gr G)
 have hkp : Hz (Kp (fun k => k = a) w W) := Hz.mk (Kp.ofGr G)
 clear G
 have KS : Hz (∀ V, At V kb #[.int .u8 nn, .int .i64 ia, .int .i64 ib, .int .i64 ic, .int .u64 imm] → V.cell? ⟨kb, 0, none⟩ = some (.int .u8 nn) ∧ V.cell? ⟨kb, 1, none⟩ = some (.int .i64 ia) ∧ V.cell? ⟨kb, 2, none⟩ = some (.int .i64 ib) ∧ V.cell? ⟨kb, 3, none⟩ = some (.int .i64 ic) ∧ V.cell? ⟨kb, 4, none⟩ = some (.int .u64 imm)) := Hz.mk (fun V q => ⟨q.2.1 0, q.2.1 1, q.2.1 2, q.2.1 3, q.2.1 4⟩)
 have hxd := hx.out.gr ((Gr.refl W).drew)
 have rr : W.drew.cell? ⟨a, 6 + ib, none⟩ = some (.int .u64 (x.r ib)) := (hxd.at_ (6 + ib) (by omega)).trans (congrArg some (Dx.reg x ib hb))
 have ri : (ib : Int) < 16 := by omega
 refine wp_region_held_drew (S := (fun W => W.cell? ⟨kb, 0, none⟩ = some (.int .u8 nn) ∧ W.cell? ⟨kb, 1, none⟩ = some (.int .i64 ia) ∧ W.cell? ⟨kb, 2, none⟩ = some (.int .i64 ib) ∧ W.cell? ⟨kb, 3, none⟩ = some (.int .i64 ic) ∧ W.cell? ⟨kb, 4, none⟩ = some (.int .u64 imm))) (by kernel_rfl) (KS.out _ (hA.out.gr ((Gr.refl W).drew))) (fun hHeld => ?_)
 refine xso 0 ?_ rfl ?_ (xso 1 ?_ rfl ?_ (xso 2 ?_ rfl ?_ (xso 3 ?_ rfl ?_ (xso 4 ?_ rfl ?_ (xso 5 ?_ rfl ?_ ?_)))))
 iterate 6 (rotate_left; focus ((try simp only [xap]); intro w hSw; (try dsimp only at hSw); go_simp; first | done | with_reducible rfl))
 try simp only [xap]
 refine xrd 6 rfl (fun K hK => ?_)
 go_simp
 refine hK.out _ _ (KS.out _ (hA.out.gr ((Gr.refl W).drew))) (fun hHeld => ?_)
 clear hK K
 try simp only [xap]
 refine xso 7 ?_ rfl ?_ ?_
 rotate_left
 · intro w hSw; (try dsimp only at hSw); go_simp; first | done | with_reducible rfl
 try simp only [xap]
 refine xdn ?_ _
 clear hHeld rr ri
 replace hA := Hz.mk (hA.out.gr ((Gr.refl W).drew))
 replace hkp := Hz.mk (hkp.out.trans (Kp.ofGr ((Gr.refl W).drew)) (fun _ q => .inl q))
 replace hx := Hz.mk hxd
 clear hxd
 generalize W.drew = Wd at *
 have c5 : Wd.cell? ⟨a, 5, none⟩ = some (.int .i64 x.p) := hx.out.at_ 5 (by omega)
 have f5 := hx.out.fr 5
 have hlt := hx.out.lt
 have hw5 : wrap64 ((x.p : Int) + 1) = (x.p : Int) + 1 := by unfold wrap64; omega
 go_upto_region 3 with fail
 clear c5 f5 hlt hw5
 replace hx := Hz.mk (show DBx (Wd.setCell ⟨a, 5, none⟩ (.int .i64 ((x.p : Int) + 1))) a x.next from hx.out.p_ (x.p + 1))
 replace hA := Hz.mk (show At (Wd.setCell ⟨a, 5, none⟩ (.int .i64 ((x.p : Int) + 1))) kb #[.int .u8 nn, .int .i64 ia, .int .i64 ib, .int .i64 ic, .int .u64 imm] from T.at_kp hA.out (kp_set1 (Kp.refl (fun k => k = a) Wd) 5 _) hne)
 replace hkp := Hz.mk (show Kp (fun k => k = a) w (Wd.setCell ⟨a, 5, none⟩ (.int .i64 ((x.p : Int) + 1))) from hkp.out.trans (kp_set1 (Kp.refl _ Wd) 5 _) (fun _ q => .inl q))
 generalize Wd.setCell ⟨a, 5, none⟩ (.int .i64 ((x.p : Int) + 1)) = V at *
 have k0 : V.cell? ⟨kb, 0, none⟩ = some (.int .u8 nn) := hA.out.2.1 0
 go_upto_region 4 with fail
 clear k0
 have hxd := hx.out.gr ((Gr.refl V).drew)
 have rr : V.drew.cell? ⟨a, 6 + ia, none⟩ = some (.int .u64 (x.r ia)) := (hxd.at_ (6 + ia) (by omega)).trans (congrArg some (Dx.reg x.next ia ha))
 have rf := hxd.fr (6 + ia)
 have ri : (ia : Int) < 16 := by omega
 have hAd := Hz.mk (hA.out.gr ((Gr.refl V).drew))
 have hlt := hxd.lt
 have rc : V.drew.cell? ⟨a, 6 + ic, none⟩ = some (.int .u64 (x.r ic)) := (hxd.at_ (6 + ic) (by omega)).trans (congrArg some (Dx.reg x.next ic hc))
 have rci : (ic : Int) < 16 := by omega
 have hrk := Hz.mk (hreck V.drew)
 have hfin : Hz (DB1 a (x.lay ia vv) w (V.drew.setCell ⟨a, 6 + ia, none⟩ (.int .u64 vv))) := Hz.mk ⟨hxd.reg ia ha vv, (hkp.out.trans (Kp.ofGr ((Gr.refl V).drew)) (fun _ q => .inl q)).trans (kp_set1 (Kp.refl _ V.drew) (6 + ia) _) (fun _ q => .inl q)⟩
 have hAf : Hz (At (V.drew.setCell ⟨a, 6 + ia, none⟩ (.int .u64 vv)) kb #[.int .u8 nn, .int .i64 ia, .int .i64 ib, .int .i64 ic, .int .u64 imm]) := Hz.mk (T.at_kp hAd.out (kp_set1 (Kp.refl (fun k => k = a) V.drew) (6 + ia) _) hne)
 replace hxd := Hz.mk hxd
 refine wp_region_held_drew (S := (fun W => W.cell? ⟨kb, 0, none⟩ = some (.int .u8 nn) ∧ W.cell? ⟨kb, 1, none⟩ = some (.int .i64 ia) ∧ W.cell? ⟨kb, 2, none⟩ = some (.int .i64 ib) ∧ W.cell? ⟨kb, 3, none⟩ = some (.int .i64 ic) ∧ W.cell? ⟨kb, 4, none⟩ = some (.int .u64 imm))) (by kernel_rfl) (KS.out _ hAd.out) (fun hHeld => ?_)
 refine xso 0 ?_ rfl ?_ (xso 1 ?_ rfl ?_ (xso 2 ?_ rfl ?_ (xso 3 ?_ rfl ?_ (xso 4 ?_ rfl ?_ (xso 5 ?_ rfl ?_ (xso 6 ?_ rfl ?_ (xso 7 ?_ rfl ?_ (xso 8 ?_ rfl ?_ (xso 9 ?_ rfl ?_ (xso 10 ?_ rfl ?_ (xso 11 ?_ rfl ?_ (xso 14 ?_ rfl ?_ (xso 15 ?_ rfl ?_ ?_)))))))))))))
 iterate 14 (rotate_left; focus ((try simp only [xap]); intro w hSw; (try dsimp only at hSw); go_simp; first | done | with_reducible rfl))
 try simp only [xap]
 refine xrd 12 rfl (fun K hK => ?_)
 go_simp
 refine hK.out _ _ (KS.out _ hAd.out) (fun hHeld => ?_)
 clear hK K
 try simp only [xap]
 refine xrd 13 rfl (fun K hK => ?_)
 go_simp
 go_wp2_with (refine hrk.out.mono ?_; rintro r V9 ⟨rfl, e9⟩; subst e9; clear hHeld)
 refine hK.out _ _ (KS.out _ hAd.out) (fun hHeld => ?_)
 clear hK K
 try simp only [xap]
 refine xso 16 ?_ rfl ?_ ?_
 rotate_left
 · intro w hSw; (try dsimp only at hSw); go_simp; first | done | with_reducible rfl
 try simp only [xap]
 refine xrd 17 rfl (fun K hK => ?_)
 go_simp
 refine hK.out _ _ (KS.out _ hAf.out) (fun hHeld => ?_)
 clear hK K
 try simp only [xap]
 refine xdn ?_ _
 clear hHeld rr rf ri
 go_wp2_with fail
 first | go_end0 | ((try simp only [Exit.inBlock, Exit.then]); refine bodyPost_ret (results_none rfl _ _ _) rfl ?_)
 exact ⟨rfl, hfin.out⟩
theorem dnum3 (a : Nat) (x : Dx) (ia ib ic : Nat) (imm : Int) (w : World) (h : DBx w a x) (ha : ia < 16) (hc : ic < 16) (hb : ib < 16) (hp : x.p ≤ 1000000) :
   Calls Tryz.prog 52 #[.pointer (some ⟨a, 0, none⟩), .agg #[.int .u8 3, .int .i64 ia, .int .i64 ib, .int .i64 ic, .int .u64 imm]] w fun r w' => r = .returned (.tuple #[]) ∧ DB1 a (x.lay ia (IntKind.u64.wrap (x.r ib + x.r ic))) w w' := dnumR 3 _ a x ia ib ic imm w h ha hc hb hp (fun W => reck3 (x.r ib) (x.r ic) W) (by decide) (by decide) (by decide) (by decide)
theorem dnum4 (a : Nat) (x : Dx) (ia ib ic : Nat) (imm : Int) (w : World) (h : DBx w a x) (ha : ia < 16) (hc : ic < 16) (hb : ib < 16) (hp : x.p ≤ 1000000) :
   Calls Tryz.prog 52 #[.pointer (some ⟨a, 0, none⟩), .agg #[.int .u8 4, .int .i64 ia, .int .i64 ib, .int .i64 ic, .int .u64 imm]] w fun r w' => r = .returned (.tuple #[]) ∧ DB1 a (x.lay ia (IntKind.u64.wrap (x.r ib - x.r ic))) w w' := dnumR 4 _ a x ia ib ic imm w h ha hc hb hp (fun W => reck4 (x.r ib) (x.r ic) W) (by decide) (by decide) (by decide) (by decide)
theorem dnum5 (a : Nat) (x : Dx) (ia ib ic : Nat) (imm : Int) (w : World) (h : DBx w a x) (ha : ia < 16) (hc : ic < 16) (hb : ib < 16) (hp : x.p ≤ 1000000) :
   Calls Tryz.prog 52 #[.pointer (some ⟨a, 0, none⟩), .agg #[.int .u8 5, .int .i64 ia, .int .i64 ib, .int .i64 ic, .int .u64 imm]] w fun r w' => r = .returned (.tuple #[]) ∧ DB1 a (x.lay ia (IntKind.u64.wrap (x.r ib * x.r ic))) w w' := dnumR 5 _ a x ia ib ic imm w h ha hc hb hp (fun W => reck5 (x.r ib) (x.r ic) W) (by decide) (by decide) (by decide) (by decide)
theorem dnum6 (a : Nat) (x : Dx) (ia ib ic : Nat) (imm : Int) (w : World) (h : DBx w a x) (ha : ia < 16) (hc : ic < 16) (hb : ib < 16) (hp : x.p ≤ 1000000) :
   Calls Tryz.prog 52 #[.pointer (some ⟨a, 0, none⟩), .agg #[.int .u8 6, .int .i64 ia, .int .i64 ib, .int .i64 ic, .int .u64 imm]] w fun r w' => r = .returned (.tuple #[]) ∧ DB1 a (x.lay ia (bits .and .u64 (x.r ib) (x.r ic))) w w' := dnumR 6 _ a x ia ib ic imm w h ha hc hb hp (fun W => reck6 (x.r ib) (x.r ic) W) (by decide) (by decide) (by decide) (by decide)
theorem dnum7 (a : Nat) (x : Dx) (ia ib ic : Nat) (imm : Int) (w : World) (h : DBx w a x) (ha : ia < 16) (hc : ic < 16) (hb : ib < 16) (hp : x.p ≤ 1000000) :
   Calls Tryz.prog 52 #[.pointer (some ⟨a, 0, none⟩), .agg #[.int .u8 7, .int .i64 ia, .int .i64 ib, .int .i64 ic, .int .u64 imm]] w fun r w' => r = .returned (.tuple #[]) ∧ DB1 a (x.lay ia (bits .or .u64 (x.r ib) (x.r ic))) w w' := dnumR 7 _ a x ia ib ic imm w h ha hc hb hp (fun W => reck7 (x.r ib) (x.r ic) W) (by decide) (by decide) (by decide) (by decide)
theorem dnum8 (a : Nat) (x : Dx) (ia ib ic : Nat) (imm : Int) (w : World) (h : DBx w a x) (ha : ia < 16) (hc : ic < 16) (hb : ib < 16) (hp : x.p ≤ 1000000) :
   Calls Tryz.prog 52 #[.pointer (some ⟨a, 0, none⟩), .agg #[.int .u8 8, .int .i64 ia, .int .i64 ib, .int .i64 ic, .int .u64 imm]] w fun r w' => r = .returned (.tuple #[]) ∧ DB1 a (x.lay ia (bits .xor .u64 (x.r ib) (x.r ic))) w w' := dnumR 8 _ a x ia ib ic imm w h ha hc hb hp (fun W => reck8 (x.r ib) (x.r ic) W) (by decide) (by decide) (by decide) (by decide)
theorem dnum9 (a : Nat) (x : Dx) (ia ib ic : Nat) (imm : Int) (w : World) (h : DBx w a x) (ha : ia < 16) (hc : ic < 16) (hn : 0 ≤ x.r ic) (hb : ib < 16) (hp : x.p ≤ 1000000) :
   Calls Tryz.prog 52 #[.pointer (some ⟨a, 0, none⟩), .agg #[.int .u8 9, .int .i64 ia, .int .i64 ib, .int .i64 ic, .int .u64 imm]] w fun r w' => r = .returned (.tuple #[]) ∧ DB1 a (x.lay ia (IntKind.u64.wrap (x.r ib * 2 ^ min ((x.r ic).tmod 64).toNat 64))) w w' := dnumR 9 _ a x ia ib ic imm w h ha hc hb hp (fun W => reck9 (x.r ib) (x.r ic) W hn) (by decide) (by decide) (by decide) (by decide)
theorem dnum10 (a : Nat) (x : Dx) (ia ib ic : Nat) (imm : Int) (w : World) (h : DBx w a x) (ha : ia < 16) (hc : ic < 16) (hn : 0 ≤ x.r ic) (hb : ib < 16) (hp : x.p ≤ 1000000) :
   Calls Tryz.prog 52 #[.pointer (some ⟨a, 0, none⟩), .agg #[.int .u8 10, .int .i64 ia, .int .i64 ib, .int .i64 ic, .int .u64 imm]] w fun r w' => r = .returned (.tuple #[]) ∧ DB1 a (x.lay ia (x.r ib / 2 ^ min ((x.r ic).tmod 64).toNat 64)) w w' := dnumR 10 _ a x ia ib ic imm w h ha hc hb hp (fun W => reck10 (x.r ib) (x.r ic) W hn) (by decide) (by decide) (by decide) (by decide)
theorem dnum12 (a : Nat) (x : Dx) (ia ib ic : Nat) (imm : Int) (w : World) (h : DBx w a x) (ha : ia < 16) (hc : ic < 16) (hb : ib < 16) (hp : x.p ≤ 1000000) :
   Calls Tryz.prog 52 #[.pointer (some ⟨a, 0, none⟩), .agg #[.int .u8 12, .int .i64 ia, .int .i64 ib, .int .i64 ic, .int .u64 imm]] w fun r w' => r = .returned (.tuple #[]) ∧ DB1 a (x.lay ia (if x.r ib < x.r ic then 1 else 0)) w w' := dnumR 12 _ a x ia ib ic imm w h ha hc hb hp (fun W => reck12 (x.r ib) (x.r ic) W) (by decide) (by decide) (by decide) (by decide)
theorem dnum13 (a : Nat) (x : Dx) (ia ib ic : Nat) (imm : Int) (w : World) (h : DBx w a x) (ha : ia < 16) (hc : ic < 16) (hb : ib < 16) (hp : x.p ≤ 1000000) :
   Calls Tryz.prog 52 #[.pointer (some ⟨a, 0, none⟩), .agg #[.int .u8 13, .int .i64 ia, .int .i64 ib, .int .i64 ic, .int .u64 imm]] w fun r w' => r = .returned (.tuple #[]) ∧ DB1 a (x.lay ia (if x.r ib = x.r ic then 1 else 0)) w w' := dnumR 13 _ a x ia ib ic imm w h ha hc hb hp (fun W => reck13 (x.r ib) (x.r ic) W) (by decide) (by decide) (by decide) (by decide)
end Z
end Go.Proofs.YthfphgjjieddjaaGreat
