import Derived.Test.YthfphgjjieddjaaGreatZDRec
import Derived.Test.YthfphgjjieddjaaGreatP31
import Derived.ArgAppend
import Derived.Deep.AppendSrc
import Derived.Test.YthfphgjjieddjaaGreatP35
namespace Go.Proofs.YthfphgjjieddjaaGreat
set_option maxRecDepth 100000
set_option maxHeartbeats 40000000
namespace Z
open Go.RowKit
open T (Sep Ob Kp Mf FlIn)

theorem djmp20 (a : Nat) (x : Dx) (ia ib ic : Nat) (imm : Int) (w : World) (h : DBx w a x) (ha : ia < 16) (hb : ib < 16) (hp : x.p ≤ 1000000) (tg : Nat) (ht : imm = (tg : Int)) (ht2 : tg ≤ 1000000) :
   Calls Tryz.prog 53 #[.pointer (some ⟨a, 0, none⟩), .agg #[.int .u8 20, .int .i64 ia, .int .i64 ib, .int .i64 ic, .int .u64 imm]] w fun r w' => r = .returned (.tuple #[]) ∧ DB1 a ({ x with p := tg }) w w' := by
 replace ht := Hz.mk ht
 have hne : ¬ w.heap.size = a := by have := h.lt; omega
 have hx := Hz.mk h
 clear h
 go_enter Tryz.func53, Tryz.ntmps53
 go_upto_region 1 with fail
 refine wp_world (fun W => At W w.heap.size #[.int .u8 20, .int .i64 ia, .int .i64 ib, .int .i64 ic, .int .u64 imm] ∧ Gr w W) ⟨At.new w _ _, (Gr.refl _).alloc _⟩ ?_
 rintro W ⟨hA, G⟩
 generalize w.heap.size = kb at *
 replace hA := Hz.mk hA
 replace hx := Hz.mk (hx.out.gr G)
 have hkp : Hz (Kp (fun k => k = a) w W) := Hz.mk (Kp.ofGr G)
 clear G
 have KS := xk2 20 ia ib ic imm kb
 have hxd := hx.out.gr ((Gr.refl W).drew)
 have rr : W.drew.cell? ⟨a, 6 + ia, none⟩ = some (.int .u64 (x.r ia)) := (hxd.at_ (6 + ia) (by omega)).trans (congrArg some (Dx.reg x ia ha))
 have ri : (ia : Int) < 16 := by omega
 refine wp_region_held_drew (S := (fun W => W.cell? ⟨kb, 0, none⟩ = some (.int .u8 20) ∧ W.cell? ⟨kb, 1, none⟩ = some (.int .i64 ia) ∧ W.cell? ⟨kb, 2, none⟩ = some (.int .i64 ib) ∧ W.cell? ⟨kb, 3, none⟩ = some (.int .i64 ic) ∧ W.cell? ⟨kb, 4, none⟩ = some (.int .u64 imm))) (by kernel_rfl) (KS.out _ (hA.out.gr ((Gr.refl W).drew))) (fun hHeld => ?_)
 refine xso 0 ?_ rfl ?_ (xso 1 ?_ rfl ?_ (xso 2 ?_ rfl ?_ (xso 3 ?_ rfl ?_ (xso 4 ?_ rfl ?_ (xso 5 ?_ rfl ?_ ?_)))))
 iterate 6 (rotate_left; focus ((try simp only [xap]); intro w hSw; (try dsimp only at hSw); go_simp; first | done | with_reducible rfl))
 try simp only [xap]
 refine xrd 6 rfl (fun K hK => ?_)
 go_simp
 refine hK.out _ _ (KS.out _ (hA.out.gr ((Gr.refl W).drew))) (fun hHeld => ?_)
 clear hK K
 try simp only [xap]
 refine xso 7 ?_ rfl ?_ ?_
 rotate_left
 · intro w hSw; (try dsimp only at hSw); go_simp; first | done | with_reducible rfl
 try simp only [xap]
 refine xdn ?_ _
 clear hHeld rr ri
 replace hA := Hz.mk (hA.out.gr ((Gr.refl W).drew))
 replace hkp := Hz.mk (hkp.out.trans (Kp.ofGr ((Gr.refl W).drew)) (fun _ q => .inl q))
 replace hx := Hz.mk hxd
 clear hxd
 generalize W.drew = W2 at *
 go_upto_region 2 with fail
 have hxd := hx.out.gr ((Gr.refl W2).drew)
 have rr : W2.drew.cell? ⟨a, 6 + ib, none⟩ = some (.int .u64 (x.r ib)) := (hxd.at_ (6 + ib) (by omega)).trans (congrArg some (Dx.reg x ib hb))
 have ri : (ib : Int) < 16 := by omega
 refine wp_region_held_drew (S := (fun W => W.cell? ⟨kb, 0, none⟩ = some (.int .u8 20) ∧ W.cell? ⟨kb, 1, none⟩ = some (.int .i64 ia) ∧ W.cell? ⟨kb, 2, none⟩ = some (.int .i64 ib) ∧ W.cell? ⟨kb, 3, none⟩ = some (.int .i64 ic) ∧ W.cell? ⟨kb, 4, none⟩ = some (.int .u64 imm))) (by kernel_rfl) (KS.out _ (hA.out.gr ((Gr.refl W2).drew))) (fun hHeld => ?_)
 refine xso 0 ?_ rfl ?_ (xso 1 ?_ rfl ?_ (xso 2 ?_ rfl ?_ (xso 3 ?_ rfl ?_ (xso 4 ?_ rfl ?_ (xso 5 ?_ rfl ?_ ?_)))))
 iterate 6 (rotate_left; focus ((try simp only [xap]); intro w hSw; (try dsimp only at hSw); go_simp; first | done | with_reducible rfl))
 try simp only [xap]
 refine xrd 6 rfl (fun K hK => ?_)
 go_simp
 refine hK.out _ _ (KS.out _ (hA.out.gr ((Gr.refl W2).drew))) (fun hHeld => ?_)
 clear hK K
 try simp only [xap]
 refine xso 7 ?_ rfl ?_ ?_
 rotate_left
 · intro w hSw; (try dsimp only at hSw); go_simp; first | done | with_reducible rfl
 try simp only [xap]
 refine xdn ?_ _
 clear hHeld rr ri
 replace hA := Hz.mk (hA.out.gr ((Gr.refl W2).drew))
 replace hkp := Hz.mk (hkp.out.trans (Kp.ofGr ((Gr.refl W2).drew)) (fun _ q => .inl q))
 replace hx := Hz.mk hxd
 clear hxd
 generalize W2.drew = V0 at *
 have k0 : V0.cell? ⟨kb, 0, none⟩ = some (.int .u8 20) := hA.out.2.1 0
 have c5 : V0.cell? ⟨a, 5, none⟩ = some (.int .i64 x.p) := hx.out.at_ 5 (by omega)
 have f5 := hx.out.fr 5
 have hlt := hx.out.lt
 have hw5 : wrap64 ((x.p : Int) + 1) = (x.p : Int) + 1 := by unfold wrap64; omega
 go_upto_region 5 with fail
 clear c5 f5 hlt hw5
 replace hx := Hz.mk (show DBx (V0.setCell ⟨a, 5, none⟩ (.int .i64 ((x.p : Int) + 1))) a x.next from hx.out.p_ (x.p + 1))
 replace hA := Hz.mk (show At (V0.setCell ⟨a, 5, none⟩ (.int .i64 ((x.p : Int) + 1))) kb #[.int .u8 20, .int .i64 ia, .int .i64 ib, .int .i64 ic, .int .u64 imm] from T.at_kp hA.out (kp_set1 (Kp.refl (fun k => k = a) V0) 5 _) hne)
 replace hkp := Hz.mk (show Kp (fun k => k = a) w (V0.setCell ⟨a, 5, none⟩ (.int .i64 ((x.p : Int) + 1))) from hkp.out.trans (kp_set1 (Kp.refl _ V0) 5 _) (fun _ q => .inl q))
 generalize V0.setCell ⟨a, 5, none⟩ (.int .i64 ((x.p : Int) + 1)) = V at *
 have k4 : V.cell? ⟨kb, 4, none⟩ = some (.int .u64 imm) := hA.out.2.1 4
 have hcv : IntKind.i64.wrap imm = (tg : Int) := by rw [IntKind.wrap_i64]; have := ht.out; omega
 have c5 : V.cell? ⟨a, 5, none⟩ = some (.int .i64 ((x.p : Int) + 1)) := hx.out.at_ 5 (by omega)
 have f5 := hx.out.fr 5
 have hlt := hx.out.lt
 have hfin : Hz (DB1 a { x with p := tg } w (V.setCell ⟨a, 5, none⟩ (.int .i64 tg))) := Hz.mk ⟨hx.out.p_ tg, hkp.out.trans (kp_set1 (Kp.refl _ V) 5 _) (fun _ q => .inl q)⟩
 go_wp2_with fail
 first | go_end0 | ((try simp only [Exit.inBlock, Exit.then]); refine bodyPost_ret (results_none rfl _ _ _) rfl ?_)
 exact ⟨rfl, hfin.out⟩
theorem djmp21y (a : Nat) (x : Dx) (ia ib ic : Nat) (imm : Int) (w : World) (h : DBx w a x) (ha : ia < 16) (hb : ib < 16) (hp : x.p ≤ 1000000) (hq : x.r ia = x.r ib) (tg : Nat) (ht : imm = (tg : Int)) (ht2 : tg ≤ 1000000) :
   Calls Tryz.prog 53 #[.pointer (some ⟨a, 0, none⟩), .agg #[.int .u8 21, .int .i64 ia, .int .i64 ib, .int .i64 ic, .int .u64 imm]] w fun r w' => r = .returned (.tuple #[]) ∧ DB1 a ({ x with p := tg }) w w' := by
 replace ht := Hz.mk ht
 have hne : ¬ w.heap.size = a := by have := h.lt; omega
 have hx := Hz.mk h
 clear h
 go_enter Tryz.func53, Tryz.ntmps53
 go_upto_region 1 with fail
 refine wp_world (fun W => At W w.heap.size #[.int .u8 21, .int .i64 ia, .int .i64 ib, .int .i64 ic, .int .u64 imm] ∧ Gr w W) ⟨At.new w _ _, (Gr.refl _).alloc _⟩ ?_
 rintro W ⟨hA, G⟩
 generalize w.heap.size = kb at *
 replace hA := Hz.mk hA
 replace hx := Hz.mk (hx.out.gr G)
 have hkp : Hz (Kp (fun k => k = a) w W) := Hz.mk (Kp.ofGr G)
 clear G
 have KS := xk2 21 ia ib ic imm kb
 have hxd := hx.out.gr ((Gr.refl W).drew)
 have rr : W.drew.cell? ⟨a, 6 + ia, none⟩ = some (.int .u64 (x.r ia)) := (hxd.at_ (6 + ia) (by omega)).trans (congrArg some (Dx.reg x ia ha))
 have ri : (ia : Int) < 16 := by omega
 refine wp_region_held_drew (S := (fun W => W.cell? ⟨kb, 0, none⟩ = some (.int .u8 21) ∧ W.cell? ⟨kb, 1, none⟩ = some (.int .i64 ia) ∧ W.cell? ⟨kb, 2, none⟩ = some (.int .i64 ib) ∧ W.cell? ⟨kb, 3, none⟩ = some (.int .i64 ic) ∧ W.cell? ⟨kb, 4, none⟩ = some (.int .u64 imm))) (by kernel_rfl) (KS.out _ (hA.out.gr ((Gr.refl W).drew))) (fun hHeld => ?_)
 refine xso 0 ?_ rfl ?_ (xso 1 ?_ rfl ?_ (xso 2 ?_ rfl ?_ (xso 3 ?_ rfl ?_ (xso 4 ?_ rfl ?_ (xso 5 ?_ rfl ?_ ?_)))))
 iterate 6 (rotate_left; focus ((try simp only [xap]); intro w hSw; (try dsimp only at hSw); go_simp; first | done | with_reducible rfl))
 try simp only [xap]
 refine xrd 6 rfl (fun K hK => ?_)
 go_simp
 refine hK.out _ _ (KS.out _ (hA.out.gr ((Gr.refl W).drew))) (fun hHeld => ?_)
 clear hK K
 try simp only [xap]
 refine xso 7 ?_ rfl ?_ ?_
 rotate_left
 · intro w hSw; (try dsimp only at hSw); go_simp; first | done | with_reducible rfl
 try simp only [xap]
 refine xdn ?_ _
 clear hHeld rr ri
 replace hA := Hz.mk (hA.out.gr ((Gr.refl W).drew))
 replace hkp := Hz.mk (hkp.out.trans (Kp.ofGr ((Gr.refl W).drew)) (fun _ q => .inl q))
 replace hx := Hz.mk hxd
 clear hxd
 generalize W.drew = W2 at *
 go_upto_region 2 with fail
 have hxd := hx.out.gr ((Gr.refl W2).drew)
 have rr : W2.drew.cell? ⟨a, 6 + ib, none⟩ = some (.int .u64 (x.r ib)) := (hxd.at_ (6 + ib) (by omega)).trans (congrArg some (Dx.reg x ib hb))
 have ri : (ib : Int) < 16 := by omega
 refine wp_region_held_drew (S := (fun W => W.cell? ⟨kb, 0, none⟩ = some (.int .u8 21) ∧ W.cell? ⟨kb, 1, none⟩ = some (.int .i64 ia) ∧ W.cell? ⟨kb, 2, none⟩ = some (.int .i64 ib) ∧ W.cell? ⟨kb, 3, none⟩ = some (.int .i64 ic) ∧ W.cell? ⟨kb, 4, none⟩ = some (.int .u64 imm))) (by kernel_rfl) (KS.out _ (hA.out.gr ((Gr.refl W2).drew))) (fun hHeld => ?_)
 refine xso 0 ?_ rfl ?_ (xso 1 ?_ rfl ?_ (xso 2 ?_ rfl ?_ (xso 3 ?_ rfl ?_ (xso 4 ?_ rfl ?_ (xso 5 ?_ rfl ?_ ?_)))))
 iterate 6 (rotate_left; focus ((try simp only [xap]); intro w hSw; (try dsimp only at hSw); go_simp; first | done | with_reducible rfl))
 try simp only [xap]
 refine xrd 6 rfl (fun K hK => ?_)
 go_simp
 refine hK.out _ _ (KS.out _ (hA.out.gr ((Gr.refl W2).drew))) (fun hHeld => ?_)
 clear hK K
 try simp only [xap]
 refine xso 7 ?_ rfl ?_ ?_
 rotate_left
 · intro w hSw; (try dsimp only at hSw); go_simp; first | done | with_reducible rfl
 try simp only [xap]
 refine xdn ?_ _
 clear hHeld rr ri
 replace hA := Hz.mk (hA.out.gr ((Gr.refl W2).drew))
 replace hkp := Hz.mk (hkp.out.trans (Kp.ofGr ((Gr.refl W2).drew)) (fun _ q => .inl q))
 replace hx := Hz.mk hxd
 clear hxd
 generalize W2.drew = V0 at *
 have k0 : V0.cell? ⟨kb, 0, none⟩ = some (.int .u8 21) := hA.out.2.1 0
 have hq2 : (x.r ia == x.r ib) = true := by simpa using hq
 have c5 : V0.cell? ⟨a, 5, none⟩ = some (.int .i64 x.p) := hx.out.at_ 5 (by omega)
 have f5 := hx.out.fr 5
 have hlt := hx.out.lt
 have hw5 : wrap64 ((x.p : Int) + 1) = (x.p : Int) + 1 := by unfold wrap64; omega
 go_upto_region 5 with fail
 clear c5 f5 hlt hw5
 replace hx := Hz.mk (show DBx (V0.setCell ⟨a, 5, none⟩ (.int .i64 ((x.p : Int) + 1))) a x.next from hx.out.p_ (x.p + 1))
 replace hA := Hz.mk (show At (V0.setCell ⟨a, 5, none⟩ (.int .i64 ((x.p : Int) + 1))) kb #[.int .u8 21, .int .i64 ia, .int .i64 ib, .int .i64 ic, .int .u64 imm] from T.at_kp hA.out (kp_set1 (Kp.refl (fun k => k = a) V0) 5 _) hne)
 replace hkp := Hz.mk (show Kp (fun k => k = a) w (V0.setCell ⟨a, 5, none⟩ (.int .i64 ((x.p : Int) + 1))) from hkp.out.trans (kp_set1 (Kp.refl _ V0) 5 _) (fun _ q => .inl q))
 generalize V0.setCell ⟨a, 5, none⟩ (.int .i64 ((x.p : Int) + 1)) = V at *
 have k4 : V.cell? ⟨kb, 4, none⟩ = some (.int .u64 imm) := hA.out.2.1 4
 have hcv : IntKind.i64.wrap imm = (tg : Int) := by rw [IntKind.wrap_i64]; have := ht.out; omega
 have c5 : V.cell? ⟨a, 5, none⟩ = some (.int .i64 ((x.p : Int) + 1)) := hx.out.at_ 5 (by omega)
 have f5 := hx.out.fr 5
 have hlt := hx.out.lt
 have hfin : Hz (DB1 a { x with p := tg } w (V.setCell ⟨a, 5, none⟩ (.int .i64 tg))) := Hz.mk ⟨hx.out.p_ tg, hkp.out.trans (kp_set1 (Kp.refl _ V) 5 _) (fun _ q => .inl q)⟩
 go_wp2_with fail
 first | go_end0 | ((try simp only [Exit.inBlock, Exit.then]); refine bodyPost_ret (results_none rfl _ _ _) rfl ?_)
 exact ⟨rfl, hfin.out⟩
theorem djmp21n (a : Nat) (x : Dx) (ia ib ic : Nat) (imm : Int) (w : World) (h : DBx w a x) (ha : ia < 16) (hb : ib < 16) (hp : x.p ≤ 1000000) (hq : ¬ x.r ia = x.r ib) :
   Calls Tryz.prog 53 #[.pointer (some ⟨a, 0, none⟩), .agg #[.int .u8 21, .int .i64 ia, .int .i64 ib, .int .i64 ic, .int .u64 imm]] w fun r w' => r = .returned (.tuple #[]) ∧ DB1 a (x.next) w w' := by
 have hne : ¬ w.heap.size = a := by have := h.lt; omega
 have hx := Hz.mk h
 clear h
 go_enter Tryz.func53, Tryz.ntmps53
 go_upto_region 1 with fail
 refine wp_world (fun W => At W w.heap.size #[.int .u8 21, .int .i64 ia, .int .i64 ib, .int .i64 ic, .int .u64 imm] ∧ Gr w W) ⟨At.new w _ _, (Gr.refl _).alloc _⟩ ?_
 rintro W ⟨hA, G⟩
 generalize w.heap.size = kb at *
 replace hA := Hz.mk hA
 replace hx := Hz.mk (hx.out.gr G)
 have hkp : Hz (Kp (fun k => k = a) w W) := Hz.mk (Kp.ofGr G)
 clear G
 have KS := xk2 21 ia ib ic imm kb
 have hxd := hx.out.gr ((Gr.refl W).drew)
 have rr : W.drew.cell? ⟨a, 6 + ia, none⟩ = some (.int .u64 (x.r ia)) := (hxd.at_ (6 + ia) (by omega)).trans (congrArg some (Dx.reg x ia ha))
 have ri : (ia : Int) < 16 := by omega
 refine wp_region_held_drew (S := (fun W => W.cell? ⟨kb, 0, none⟩ = some (.int .u8 21) ∧ W.cell? ⟨kb, 1, none⟩ = some (.int .i64 ia) ∧ W.cell? ⟨kb, 2, none⟩ = some (.int .i64 ib) ∧ W.cell? ⟨kb, 3, none⟩ = some (.int .i64 ic) ∧ W.cell? ⟨kb, 4, none⟩ = some (.int .u64 imm))) (by kernel_rfl) (KS.out _ (hA.out.gr ((Gr.refl W).drew))) (fun hHeld => ?_)
 refine xso 0 ?_ rfl ?_ (xso 1 ?_ rfl ?_ (xso 2 ?_ rfl ?_ (xso 3 ?_ rfl ?_ (xso 4 ?_ rfl ?_ (xso 5 ?_ rfl ?_ ?_)))))
 iterate 6 (rotate_left; focus ((try simp only [xap]); intro w hSw; (try dsimp only at hSw); go_simp; first | done | with_reducible rfl))
 try simp only [xap]
 refine xrd 6 rfl (fun K hK => ?_)
 go_simp
 refine hK.out _ _ (KS.out _ (hA.out.gr ((Gr.refl W).drew))) (fun hHeld => ?_)
 clear hK K
 try simp only [xap]
 refine xso 7 ?_ rfl ?_ ?_
 rotate_left
 · intro w hSw; (try dsimp only at hSw); go_simp; first | done | with_reducible rfl
 try simp only [xap]
 refine xdn ?_ _
 clear hHeld rr ri
 replace hA := Hz.mk (hA.out.gr ((Gr.refl W).drew))
 replace hkp := Hz.mk (hkp.out.trans (Kp.ofGr ((Gr.refl W).drew)) (fun _ q => .inl q))
 replace hx := Hz.mk hxd
 clear hxd
 generalize W.drew = W2 at *
 go_upto_region 2 with fail
 have hxd := hx.out.gr ((Gr.refl W2).drew)
 have rr : W2.drew.cell? ⟨a, 6 + ib, none⟩ = some (.int .u64 (x.r ib)) := (hxd.at_ (6 + ib) (by omega)).trans (congrArg some (Dx.reg x ib hb))
 have ri : (ib : Int) < 16 := by omega
 refine wp_region_held_drew (S := (fun W => W.cell? ⟨kb, 0, none⟩ = some (.int .u8 21) ∧ W.cell? ⟨kb, 1, none⟩ = some (.int .i64 ia) ∧ W.cell? ⟨kb, 2, none⟩ = some (.int .i64 ib) ∧ W.cell? ⟨kb, 3, none⟩ = some (.int .i64 ic) ∧ W.cell? ⟨kb, 4, none⟩ = some (.int .u64 imm))) (by kernel_rfl) (KS.out _ (hA.out.gr ((Gr.refl W2).drew))) (fun hHeld => ?_)
 refine xso 0 ?_ rfl ?_ (xso 1 ?_ rfl ?_ (xso 2 ?_ rfl ?_ (xso 3 ?_ rfl ?_ (xso 4 ?_ rfl ?_ (xso 5 ?_ rfl ?_ ?_)))))
 iterate 6 (rotate_left; focus ((try simp only [xap]); intro w hSw; (try dsimp only at hSw); go_simp; first | done | with_reducible rfl))
 try simp only [xap]
 refine xrd 6 rfl (fun K hK => ?_)
 go_simp
 refine hK.out _ _ (KS.out _ (hA.out.gr ((Gr.refl W2).drew))) (fun hHeld => ?_)
 clear hK K
 try simp only [xap]
 refine xso 7 ?_ rfl ?_ ?_
 rotate_left
 · intro w hSw; (try dsimp only at hSw); go_simp; first | done | with_reducible rfl
 try simp only [xap]
 refine xdn ?_ _
 clear hHeld rr ri
 replace hA := Hz.mk (hA.out.gr ((Gr.refl W2).drew))
 replace hkp := Hz.mk (hkp.out.trans (Kp.ofGr ((Gr.refl W2).drew)) (fun _ q => .inl q))
 replace hx := Hz.mk hxd
 clear hxd
 generalize W2.drew = V0 at *
 have k0 : V0.cell? ⟨kb, 0, none⟩ = some (.int .u8 21) := hA.out.2.1 0
 have hq2 : (x.r ia == x.r ib) = false := by simpa using hq
 have c5 : V0.cell? ⟨a, 5, none⟩ = some (.int .i64 x.p) := hx.out.at_ 5 (by omega)
 have f5 := hx.out.fr 5
 have hlt := hx.out.lt
 have hw5 : wrap64 ((x.p : Int) + 1) = (x.p : Int) + 1 := by unfold wrap64; omega
 go_upto_region 5 with fail
 clear c5 f5 hlt hw5
 replace hx := Hz.mk (show DBx (V0.setCell ⟨a, 5, none⟩ (.int .i64 ((x.p : Int) + 1))) a x.next from hx.out.p_ (x.p + 1))
 replace hA := Hz.mk (show At (V0.setCell ⟨a, 5, none⟩ (.int .i64 ((x.p : Int) + 1))) kb #[.int .u8 21, .int .i64 ia, .int .i64 ib, .int .i64 ic, .int .u64 imm] from T.at_kp hA.out (kp_set1 (Kp.refl (fun k => k = a) V0) 5 _) hne)
 replace hkp := Hz.mk (show Kp (fun k => k = a) w (V0.setCell ⟨a, 5, none⟩ (.int .i64 ((x.p : Int) + 1))) from hkp.out.trans (kp_set1 (Kp.refl _ V0) 5 _) (fun _ q => .inl q))
 generalize V0.setCell ⟨a, 5, none⟩ (.int .i64 ((x.p : Int) + 1)) = V at *
 have hfin : Hz (DB1 a x.next w V) := Hz.mk ⟨hx.out, hkp.out⟩
 go_wp2_with fail
 first | go_end0 | ((try simp only [Exit.inBlock, Exit.then]); refine bodyPost_ret (results_none rfl _ _ _) rfl ?_)
 exact ⟨rfl, hfin.out⟩
theorem djmp22y (a : Nat) (x : Dx) (ia ib ic : Nat) (imm : Int) (w : World) (h : DBx w a x) (ha : ia < 16) (hb : ib < 16) (hp : x.p ≤ 1000000) (hq : x.r ia ≠ x.r ib) (tg : Nat) (ht : imm = (tg : Int)) (ht2 : tg ≤ 1000000) :
   Calls Tryz.prog 53 #[.pointer (some ⟨a, 0, none⟩), .agg #[.int .u8 22, .int .i64 ia, .int .i64 ib, .int .i64 ic, .int .u64 imm]] w fun r w' => r = .returned (.tuple #[]) ∧ DB1 a ({ x with p := tg }) w w' := by
 replace ht := Hz.mk ht
 have hne : ¬ w.heap.size = a := by have := h.lt; omega
 have hx := Hz.mk h
 clear h
 go_enter Tryz.func53, Tryz.ntmps53
 go_upto_region 1 with fail
 refine wp_world (fun W => At W w.heap.size #[.int .u8 22, .int .i64 ia, .int .i64 ib, .int .i64 ic, .int .u64 imm] ∧ Gr w W) ⟨At.new w _ _, (Gr.refl _).alloc _⟩ ?_
 rintro W ⟨hA, G⟩
 generalize w.heap.size = kb at *
 replace hA := Hz.mk hA
 replace hx := Hz.mk (hx.out.gr G)
 have hkp : Hz (Kp (fun k => k = a) w W) := Hz.mk (Kp.ofGr G)
 clear G
 have KS := xk2 22 ia ib ic imm kb
 have hxd := hx.out.gr ((Gr.refl W).drew)
 have rr : W.drew.cell? ⟨a, 6 + ia, none⟩ = some (.int .u64 (x.r ia)) := (hxd.at_ (6 + ia) (by omega)).trans (congrArg some (Dx.reg x ia ha))
 have ri : (ia : Int) < 16 := by omega
 refine wp_region_held_drew (S := (fun W => W.cell? ⟨kb, 0, none⟩ = some (.int .u8 22) ∧ W.cell? ⟨kb, 1, none⟩ = some (.int .i64 ia) ∧ W.cell? ⟨kb, 2, none⟩ = some (.int .i64 ib) ∧ W.cell? ⟨kb, 3, none⟩ = some (.int .i64 ic) ∧ W.cell? ⟨kb, 4, none⟩ = some (.int .u64 imm))) (by kernel_rfl) (KS.out _ (hA.out.gr ((Gr.refl W).drew))) (fun hHeld => ?_)
 refine xso 0 ?_ rfl ?_ (xso 1 ?_ rfl ?_ (xso 2 ?_ rfl ?_ (xso 3 ?_ rfl ?_ (xso 4 ?_ rfl ?_ (xso 5 ?_ rfl ?_ ?_)))))
 iterate 6 (rotate_left; focus ((try simp only [xap]); intro w hSw; (try dsimp only at hSw); go_simp; first | done | with_reducible rfl))
 try simp only [xap]
 refine xrd 6 rfl (fun K hK => ?_)
 go_simp
 refine hK.out _ _ (KS.out _ (hA.out.gr ((Gr.refl W).drew))) (fun hHeld => ?_)
 clear hK K
 try simp only [xap]
 refine xso 7 ?_ rfl ?_ ?_
 rotate_left
 · intro w hSw; (try dsimp only at hSw); go_simp; first | done | with_reducible rfl
 try simp only [xap]
 refine xdn ?_ _
 clear hHeld rr ri
 replace hA := Hz.mk (hA.out.gr ((Gr.refl W).drew))
 replace hkp := Hz.mk (hkp.out.trans (Kp.ofGr ((Gr.refl W).drew)) (fun _ q => .inl q))
 replace hx := Hz.mk hxd
 clear hxd
 generalize W.drew = W2 at *
 go_upto_region 2 with fail
 have hxd := hx.out.gr ((Gr.refl W2).drew)
 have rr : W2.drew.cell? ⟨a, 6 + ib, none⟩ = some (.int .u64 (x.r ib)) := (hxd.at_ (6 + ib) (by omega)).trans (congrArg some (Dx.reg x ib hb))
 have ri : (ib : Int) < 16 := by omega
 refine wp_region_held_drew (S := (fun W => W.cell? ⟨kb, 0, none⟩ = some (.int .u8 22) ∧ W.cell? ⟨kb, 1, none⟩ = some (.int .i64 ia) ∧ W.cell? ⟨kb, 2, none⟩ = some (.int .i64 ib) ∧ W.cell? ⟨kb, 3, none⟩ = some (.int .i64 ic) ∧ W.cell? ⟨kb, 4, none⟩ = some (.int .u64 imm))) (by kernel_rfl) (KS.out _ (hA.out.gr ((Gr.refl W2).drew))) (fun hHeld => ?_)
 refine xso 0 ?_ rfl ?_ (xso 1 ?_ rfl ?_ (xso 2 ?_ rfl ?_ (xso 3 ?_ rfl ?_ (xso 4 ?_ rfl ?_ (xso 5 ?_ rfl ?_ ?_)))))
 iterate 6 (rotate_left; focus ((try simp only [xap]); intro w hSw; (try dsimp only at hSw); go_simp; first | done | with_reducible rfl))
 try simp only [xap]
 refine xrd 6 rfl (fun K hK => ?_)
 go_simp
 refine hK.out _ _ (KS.out _ (hA.out.gr ((Gr.refl W2).drew))) (fun hHeld => ?_)
 clear hK K
 try simp only [xap]
 refine xso 7 ?_ rfl ?_ ?_
 rotate_left
 · intro w hSw; (try dsimp only at hSw); go_simp; first | done | with_reducible rfl
 try simp only [xap]
 refine xdn ?_ _
 clear hHeld rr ri
 replace hA := Hz.mk (hA.out.gr ((Gr.refl W2).drew))
 replace hkp := Hz.mk (hkp.out.trans (Kp.ofGr ((Gr.refl W2).drew)) (fun _ q => .inl q))
 replace hx := Hz.mk hxd
 clear hxd
 generalize W2.drew = V0 at *
 have k0 : V0.cell? ⟨kb, 0, none⟩ = some (.int .u8 22) := hA.out.2.1 0
 have hq2 : (x.r ia != x.r ib) = true := by simpa using hq
 have c5 : V0.cell? ⟨a, 5, none⟩ = some (.int .i64 x.p) := hx.out.at_ 5 (by omega)
 have f5 := hx.out.fr 5
 have hlt := hx.out.lt
 have hw5 : wrap64 ((x.p : Int) + 1) = (x.p : Int) + 1 := by unfold wrap64; omega
 go_upto_region 5 with fail
 clear c5 f5 hlt hw5
 replace hx := Hz.mk (show DBx (V0.setCell ⟨a, 5, none⟩ (.int .i64 ((x.p : Int) + 1))) a x.next from hx.out.p_ (x.p + 1))
 replace hA := Hz.mk (show At (V0.setCell ⟨a, 5, none⟩ (.int .i64 ((x.p : Int) + 1))) kb #[.int .u8 22, .int .i64 ia, .int .i64 ib, .int .i64 ic, .int .u64 imm] from T.at_kp hA.out (kp_set1 (Kp.refl (fun k => k = a) V0) 5 _) hne)
 replace hkp := Hz.mk (show Kp (fun k => k = a) w (V0.setCell ⟨a, 5, none⟩ (.int .i64 ((x.p : Int) + 1))) from hkp.out.trans (kp_set1 (Kp.refl _ V0) 5 _) (fun _ q => .inl q))
 generalize V0.setCell ⟨a, 5, none⟩ (.int .i64 ((x.p : Int) + 1)) = V at *
 have k4 : V.cell? ⟨kb, 4, none⟩ = some (.int .u64 imm) := hA.out.2.1 4
 have hcv : IntKind.i64.wrap imm = (tg : Int) := by rw [IntKind.wrap_i64]; have := ht.out; omega
 have c5 : V.cell? ⟨a, 5, none⟩ = some (.int .i64 ((x.p : Int) + 1)) := hx.out.at_ 5 (by omega)
 have f5 := hx.out.fr 5
 have hlt := hx.out.lt
 have hfin : Hz (DB1 a { x with p := tg } w (V.setCell ⟨a, 5, none⟩ (.int .i64 tg))) := Hz.mk ⟨hx.out.p_ tg, hkp.out.trans (kp_set1 (Kp.refl _ V) 5 _) (fun _ q => .inl q)⟩
 go_wp2_with fail
 first | go_end0 | ((try simp only [Exit.inBlock, Exit.then]); refine bodyPost_ret (results_none rfl _ _ _) rfl ?_)
 exact ⟨rfl, hfin.out⟩
theorem djmp22n (a : Nat) (x : Dx) (ia ib ic : Nat) (imm : Int) (w : World) (h : DBx w a x) (ha : ia < 16) (hb : ib < 16) (hp : x.p ≤ 1000000) (hq : ¬ x.r ia ≠ x.r ib) :
   Calls Tryz.prog 53 #[.pointer (some ⟨a, 0, none⟩), .agg #[.int .u8 22, .int .i64 ia, .int .i64 ib, .int .i64 ic, .int .u64 imm]] w fun r w' => r = .returned (.tuple #[]) ∧ DB1 a (x.next) w w' := by
 have hne : ¬ w.heap.size = a := by have := h.lt; omega
 have hx := Hz.mk h
 clear h
 go_enter Tryz.func53, Tryz.ntmps53
 go_upto_region 1 with fail
 refine wp_world (fun W => At W w.heap.size #[.int .u8 22, .int .i64 ia, .int .i64 ib, .int .i64 ic, .int .u64 imm] ∧ Gr w W) ⟨At.new w _ _, (Gr.refl _).alloc _⟩ ?_
 rintro W ⟨hA, G⟩
 generalize w.heap.size = kb at *
 replace hA := Hz.mk hA
 replace hx := Hz.mk (hx.out.gr G)
 have hkp : Hz (Kp (fun k => k = a) w W) := Hz.mk (Kp.ofGr G)
 clear G
 have KS := xk2 22 ia ib ic imm kb
 have hxd := hx.out.gr ((Gr.refl W).drew)
 have rr : W.drew.cell? ⟨a, 6 + ia, none⟩ = some (.int .u64 (x.r ia)) := (hxd.at_ (6 + ia) (by omega)).trans (congrArg some (Dx.reg x ia ha))
 have ri : (ia : Int) < 16 := by omega
 refine wp_region_held_drew (S := (fun W => W.cell? ⟨kb, 0, none⟩ = some (.int .u8 22) ∧ W.cell? ⟨kb, 1, none⟩ = some (.int .i64 ia) ∧ W.cell? ⟨kb, 2, none⟩ = some (.int .i64 ib) ∧ W.cell? ⟨kb, 3, none⟩ = some (.int .i64 ic) ∧ W.cell? ⟨kb, 4, none⟩ = some (.int .u64 imm))) (by kernel_rfl) (KS.out _ (hA.out.gr ((Gr.refl W).drew))) (fun hHeld => ?_)
 refine xso 0 ?_ rfl ?_ (xso 1 ?_ rfl ?_ (xso 2 ?_ rfl ?_ (xso 3 ?_ rfl ?_ (xso 4 ?_ rfl ?_ (xso 5 ?_ rfl ?_ ?_)))))
 iterate 6 (rotate_left; focus ((try simp only [xap]); intro w hSw; (try dsimp only at hSw); go_simp; first | done | with_reducible rfl))
 try simp only [xap]
 refine xrd 6 rfl (fun K hK => ?_)
 go_simp
 refine hK.out _ _ (KS.out _ (hA.out.gr ((Gr.refl W).drew))) (fun hHeld => ?_)
 clear hK K
 try simp only [xap]
 refine xso 7 ?_ rfl ?_ ?_
 rotate_left
 · intro w hSw; (try dsimp only at hSw); go_simp; first | done | with_reducible rfl
 try simp only [xap]
 refine xdn ?_ _
 clear hHeld rr ri
 replace hA := Hz.mk (hA.out.gr ((Gr.refl W).drew))
 replace hkp := Hz.mk (hkp.out.trans (Kp.ofGr ((Gr.refl W).drew)) (fun _ q => .inl q))
 replace hx := Hz.mk hxd
 clear hxd
 generalize W.drew = W2 at *
 go_upto_region 2 with fail
 have hxd := hx.out.gr ((Gr.refl W2).drew)
 have rr : W2.drew.cell? ⟨a, 6 + ib, none⟩ = some (.int .u64 (x.r ib)) := (hxd.at_ (6 + ib) (by omega)).trans (congrArg some (Dx.reg x ib hb))
 have ri : (ib : Int) < 16 := by omega
 refine wp_region_held_drew (S := (fun W => W.cell? ⟨kb, 0, none⟩ = some (.int .u8 22) ∧ W.cell? ⟨kb, 1, none⟩ = some (.int .i64 ia) ∧ W.cell? ⟨kb, 2, none⟩ = some (.int .i64 ib) ∧ W.cell? ⟨kb, 3, none⟩ = some (.int .i64 ic) ∧ W.cell? ⟨kb, 4, none⟩ = some (.int .u64 imm))) (by kernel_rfl) (KS.out _ (hA.out.gr ((Gr.refl W2).drew))) (fun hHeld => ?_)
 refine xso 0 ?_ rfl ?_ (xso 1 ?_ rfl ?_ (xso 2 ?_ rfl ?_ (xso 3 ?_ rfl ?_ (xso 4 ?_ rfl ?_ (xso 5 ?_ rfl ?_ ?_)))))
 iterate 6 (rotate_left; focus ((try simp only [xap]); intro w hSw; (try dsimp only at hSw); go_simp; first | done | with_reducible rfl))
 try simp only [xap]
 refine xrd 6 rfl (fun K hK => ?_)
 go_simp
 refine hK.out _ _ (KS.out _ (hA.out.gr ((Gr.refl W2).drew))) (fun hHeld => ?_)
 clear hK K
 try simp only [xap]
 refine xso 7 ?_ rfl ?_ ?_
 rotate_left
 · intro w hSw; (try dsimp only at hSw); go_simp; first | done | with_reducible rfl
 try simp only [xap]
 refine xdn ?_ _
 clear hHeld rr ri
 replace hA := Hz.mk (hA.out.gr ((Gr.refl W2).drew))
 replace hkp := Hz.mk (hkp.out.trans (Kp.ofGr ((Gr.refl W2).drew)) (fun _ q => .inl q))
 replace hx := Hz.mk hxd
 clear hxd
 generalize W2.drew = V0 at *
 have k0 : V0.cell? ⟨kb, 0, none⟩ = some (.int .u8 22) := hA.out.2.1 0
 have hq2 : (x.r ia != x.r ib) = false := by simpa using hq
 have c5 : V0.cell? ⟨a, 5, none⟩ = some (.int .i64 x.p) := hx.out.at_ 5 (by omega)
 have f5 := hx.out.fr 5
 have hlt := hx.out.lt
 have hw5 : wrap64 ((x.p : Int) + 1) = (x.p : Int) + 1 := by unfold wrap64; omega
 go_upto_region 5 with fail
 clear c5 f5 hlt hw5
 replace hx := Hz.mk (show DBx (V0.setCell ⟨a, 5, none⟩ (.int .i64 ((x.p : Int) + 1))) a x.next from hx.out.p_ (x.p + 1))
 replace hA := Hz.mk (show At (V0.setCell ⟨a, 5, none⟩ (.int .i64 ((x.p : Int) + 1))) kb #[.int .u8 22, .int .i64 ia, .int .i64 ib, .int .i64 ic, .int .u64 imm] from T.at_kp hA.out (kp_set1 (Kp.refl (fun k => k = a) V0) 5 _) hne)
 replace hkp := Hz.mk (show Kp (fun k => k = a) w (V0.setCell ⟨a, 5, none⟩ (.int .i64 ((x.p : Int) + 1))) from hkp.out.trans (kp_set1 (Kp.refl _ V0) 5 _) (fun _ q => .inl q))
 generalize V0.setCell ⟨a, 5, none⟩ (.int .i64 ((x.p : Int) + 1)) = V at *
 have hfin : Hz (DB1 a x.next w V) := Hz.mk ⟨hx.out, hkp.out⟩
 go_wp2_with fail
 first | go_end0 | ((try simp only [Exit.inBlock, Exit.then]); refine bodyPost_ret (results_none rfl _ _ _) rfl ?_)
 exact ⟨rfl, hfin.out⟩
theorem djmp23y (a : Nat) (x : Dx) (ia ib ic : Nat) (imm : Int) (w : World) (h : DBx w a x) (ha : ia < 16) (hb : ib < 16) (hp : x.p ≤ 1000000) (hq : x.r ia < x.r ib) (tg : Nat) (ht : imm = (tg : Int)) (ht2 : tg ≤ 1000000) :
   Calls Tryz.prog 53 #[.pointer (some ⟨a, 0, none⟩), .agg #[.int .u8 23, .int .i64 ia, .int .i64 ib, .int .i64 ic, .int .u64 imm]] w fun r w' => r = .returned (.tuple #[]) ∧ DB1 a ({ x with p := tg }) w w' := by
 replace ht := Hz.mk ht
 have hne : ¬ w.heap.size = a := by have := h.lt; omega
 have hx := Hz.mk h
 clear h
 go_enter Tryz.func53, Tryz.ntmps53
 go_upto_region 1 with fail
 refine wp_world (fun W => At W w.heap.size #[.int .u8 23, .int .i64 ia, .int .i64 ib, .int .i64 ic, .int .u64 imm] ∧ Gr w W) ⟨At.new w _ _, (Gr.refl _).alloc _⟩ ?_
 rintro W ⟨hA, G⟩
 generalize w.heap.size = kb at *
 replace hA := Hz.mk hA
 replace hx := Hz.mk (hx.out.gr G)
 have hkp : Hz (Kp (fun k => k = a) w W) := Hz.mk (Kp.ofGr G)
 clear G
 have KS := xk2 23 ia ib ic imm kb
 have hxd := hx.out.gr ((Gr.refl W).drew)
 have rr : W.drew.cell? ⟨a, 6 + ia, none⟩ = some (.int .u64 (x.r ia)) := (hxd.at_ (6 + ia) (by omega)).trans (congrArg some (Dx.reg x ia ha))
 have ri : (ia : Int) < 16 := by omega
 refine wp_region_held_drew (S := (fun W => W.cell? ⟨kb, 0, none⟩ = some (.int .u8 23) ∧ W.cell? ⟨kb, 1, none⟩ = some (.int .i64 ia) ∧ W.cell? ⟨kb, 2, none⟩ = some (.int .i64 ib) ∧ W.cell? ⟨kb, 3, none⟩ = some (.int .i64 ic) ∧ W.cell? ⟨kb, 4, none⟩ = some (.int .u64 imm))) (by kernel_rfl) (KS.out _ (hA.out.gr ((Gr.refl W).drew))) (fun hHeld => ?_)
 refine xso 0 ?_ rfl ?_ (xso 1 ?_ rfl ?_ (xso 2 ?_ rfl ?_ (xso 3 ?_ rfl ?_ (xso 4 ?_ rfl ?_ (xso 5 ?_ rfl ?_ ?_)))))
 iterate 6 (rotate_left; focus ((try simp only [xap]); intro w hSw; (try dsimp only at hSw); go_simp; first | done | with_reducible rfl))
 try simp only [xap]
 refine xrd 6 rfl (fun K hK => ?_)
 go_simp
 refine hK.out _ _ (KS.out _ (hA.out.gr ((Gr.refl W).drew))) (fun hHeld => ?_)
 clear hK K
 try simp only [xap]
 refine xso 7 ?_ rfl ?_ ?_
 rotate_left
 · intro w hSw; (try dsimp only at hSw); go_simp; first | done | with_reducible rfl
 try simp only [xap]
 refine xdn ?_ _
 clear hHeld rr ri
 replace hA := Hz.mk (hA.out.gr ((Gr.refl W).drew))
 replace hkp := Hz.mk (hkp.out.trans (Kp.ofGr ((Gr.refl W).drew)) (fun _ q => .inl q))
 replace hx := Hz.mk hxd
 clear hxd
 generalize W.drew = W2 at *
 go_upto_region 2 with fail
 have hxd := hx.out.gr ((Gr.refl W2).drew)
 have rr : W2.drew.cell? ⟨a, 6 + ib, none⟩ = some (.int .u64 (x.r ib)) := (hxd.at_ (6 + ib) (by omega)).trans (congrArg some (Dx.reg x ib hb))
 have ri : (ib : Int) < 16 := by omega
 refine wp_region_held_drew (S := (fun W => W.cell? ⟨kb, 0, none⟩ = some (.int .u8 23) ∧ W.cell? ⟨kb, 1, none⟩ = some (.int .i64 ia) ∧ W.cell? ⟨kb, 2, none⟩ = some (.int .i64 ib) ∧ W.cell? ⟨kb, 3, none⟩ = some (.int .i64 ic) ∧ W.cell? ⟨kb, 4, none⟩ = some (.int .u64 imm))) (by kernel_rfl) (KS.out _ (hA.out.gr ((Gr.refl W2).drew))) (fun hHeld => ?_)
 refine xso 0 ?_ rfl ?_ (xso 1 ?_ rfl ?_ (xso 2 ?_ rfl ?_ (xso 3 ?_ rfl ?_ (xso 4 ?_ rfl ?_ (xso 5 ?_ rfl ?_ ?_)))))
 iterate 6 (rotate_left; focus ((try simp only [xap]); intro w hSw; (try dsimp only at hSw); go_simp; first | done | with_reducible rfl))
 try simp only [xap]
 refine xrd 6 rfl (fun K hK => ?_)
 go_simp
 refine hK.out _ _ (KS.out _ (hA.out.gr ((Gr.refl W2).drew))) (fun hHeld => ?_)
 clear hK K
 try simp only [xap]
 refine xso 7 ?_ rfl ?_ ?_
 rotate_left
 · intro w hSw; (try dsimp only at hSw); go_simp; first | done | with_reducible rfl
 try simp only [xap]
 refine xdn ?_ _
 clear hHeld rr ri
 replace hA := Hz.mk (hA.out.gr ((Gr.refl W2).drew))
 replace hkp := Hz.mk (hkp.out.trans (Kp.ofGr ((Gr.refl W2).drew)) (fun _ q => .inl q))
 replace hx := Hz.mk hxd
 clear hxd
 generalize W2.drew = V0 at *
 have k0 : V0.cell? ⟨kb, 0, none⟩ = some (.int .u8 23) := hA.out.2.1 0
 have hq2 : decide (x.r ia < x.r ib) = true := by exact decide_eq_true hq
 have c5 : V0.cell? ⟨a, 5, none⟩ = some (.int .i64 x.p) := hx.out.at_ 5 (by omega)
 have f5 := hx.out.fr 5
 have hlt := hx.out.lt
 have hw5 : wrap64 ((x.p : Int) + 1) = (x.p : Int) + 1 := by unfold wrap64; omega
 go_upto_region 5 with fail
 clear c5 f5 hlt hw5
 replace hx := Hz.mk (show DBx (V0.setCell ⟨a, 5, none⟩ (.int .i64 ((x.p : Int) + 1))) a x.next from hx.out.p_ (x.p + 1))
 replace hA := Hz.mk (show At (V0.setCell ⟨a, 5, none⟩ (.int .i64 ((x.p : Int) + 1))) kb #[.int .u8 23, .int .i64 ia, .int .i64 ib, .int .i64 ic, .int .u64 imm] from T.at_kp hA.out (kp_set1 (Kp.refl (fun k => k = a) V0) 5 _) hne)
 replace hkp := Hz.mk (show Kp (fun k => k = a) w (V0.setCell ⟨a, 5, none⟩ (.int .i64 ((x.p : Int) + 1))) from hkp.out.trans (kp_set1 (Kp.refl _ V0) 5 _) (fun _ q => .inl q))
 generalize V0.setCell ⟨a, 5, none⟩ (.int .i64 ((x.p : Int) + 1)) = V at *
 have k4 : V.cell? ⟨kb, 4, none⟩ = some (.int .u64 imm) := hA.out.2.1 4
 have hcv : IntKind.i64.wrap imm = (tg : Int) := by rw [IntKind.wrap_i64]; have := ht.out; omega
 have c5 : V.cell? ⟨a, 5, none⟩ = some (.int .i64 ((x.p : Int) + 1)) := hx.out.at_ 5 (by omega)
 have f5 := hx.out.fr 5
 have hlt := hx.out.lt
 have hfin : Hz (DB1 a { x with p := tg } w (V.setCell ⟨a, 5, none⟩ (.int .i64 tg))) := Hz.mk ⟨hx.out.p_ tg, hkp.out.trans (kp_set1 (Kp.refl _ V) 5 _) (fun _ q => .inl q)⟩
 go_wp2_with fail
 first | go_end0 | ((try simp only [Exit.inBlock, Exit.then]); refine bodyPost_ret (results_none rfl _ _ _) rfl ?_)
 exact ⟨rfl, hfin.out⟩
theorem djmp23n (a : Nat) (x : Dx) (ia ib ic : Nat) (imm : Int) (w : World) (h : DBx w a x) (ha : ia < 16) (hb : ib < 16) (hp : x.p ≤ 1000000) (hq : ¬ x.r ia < x.r ib) :
   Calls Tryz.prog 53 #[.pointer (some ⟨a, 0, none⟩), .agg #[.int .u8 23, .int .i64 ia, .int .i64 ib, .int .i64 ic, .int .u64 imm]] w fun r w' => r = .returned (.tuple #[]) ∧ DB1 a (x.next) w w' := by
 have hne : ¬ w.heap.size = a := by have := h.lt; omega
 have hx := Hz.mk h
 clear h
 go_enter Tryz.func53, Tryz.ntmps53
 go_upto_region 1 with fail
 refine wp_world (fun W => At W w.heap.size #[.int .u8 23, .int .i64 ia, .int .i64 ib, .int .i64 ic, .int .u64 imm] ∧ Gr w W) ⟨At.new w _ _, (Gr.refl _).alloc _⟩ ?_
 rintro W ⟨hA, G⟩
 generalize w.heap.size = kb at *
 replace hA := Hz.mk hA
 replace hx := Hz.mk (hx.out.gr G)
 have hkp : Hz (Kp (fun k => k = a) w W) := Hz.mk (Kp.ofGr G)
 clear G
 have KS := xk2 23 ia ib ic imm kb
 have hxd := hx.out.gr ((Gr.refl W).drew)
 have rr : W.drew.cell? ⟨a, 6 + ia, none⟩ = some (.int .u64 (x.r ia)) := (hxd.at_ (6 + ia) (by omega)).trans (congrArg some (Dx.reg x ia ha))
 have ri : (ia : Int) < 16 := by omega
 refine wp_region_held_drew (S := (fun W => W.cell? ⟨kb, 0, none⟩ = some (.int .u8 23) ∧ W.cell? ⟨kb, 1, none⟩ = some (.int .i64 ia) ∧ W.cell? ⟨kb, 2, none⟩ = some (.int .i64 ib) ∧ W.cell? ⟨kb, 3, none⟩ = some (.int .i64 ic) ∧ W.cell? ⟨kb, 4, none⟩ = some (.int .u64 imm))) (by kernel_rfl) (KS.out _ (hA.out.gr ((Gr.refl W).drew))) (fun hHeld => ?_)
 refine xso 0 ?_ rfl ?_ (xso 1 ?_ rfl ?_ (xso 2 ?_ rfl ?_ (xso 3 ?_ rfl ?_ (xso 4 ?_ rfl ?_ (xso 5 ?_ rfl ?_ ?_)))))
 iterate 6 (rotate_left; focus ((try simp only [xap]); intro w hSw; (try dsimp only at hSw); go_simp; first | done | with_reducible rfl))
 try simp only [xap]
 refine xrd 6 rfl (fun K hK => ?_)
 go_simp
 refine hK.out _ _ (KS.out _ (hA.out.gr ((Gr.refl W).drew))) (fun hHeld => ?_)
 clear hK K
 try simp only [xap]
 refine xso 7 ?_ rfl ?_ ?_
 rotate_left
 · intro w hSw; (try dsimp only at hSw); go_simp; first | done | with_reducible rfl
 try simp only [xap]
 refine xdn ?_ _
 clear hHeld rr ri
 replace hA := Hz.mk (hA.out.gr ((Gr.refl W).drew))
 replace hkp := Hz.mk (hkp.out.trans (Kp.ofGr ((Gr.refl W).drew)) (fun _ q => .inl q))
 replace hx := Hz.mk hxd
 clear hxd
 generalize W.drew = W2 at *
 go_upto_region 2 with fail
 have hxd := hx.out.gr ((Gr.refl W2).drew)
 have rr : W2.drew.cell? ⟨a, 6 + ib, none⟩ = some (.int .u64 (x.r ib)) := (hxd.at_ (6 + ib) (by omega)).trans (congrArg some (Dx.reg x ib hb))
 have ri : (ib : Int) < 16 := by omega
 refine wp_region_held_drew (S := (fun W => W.cell? ⟨kb, 0, none⟩ = some (.int .u8 23) ∧ W.cell? ⟨kb, 1, none⟩ = some (.int .i64 ia) ∧ W.cell? ⟨kb, 2, none⟩ = some (.int .i64 ib) ∧ W.cell? ⟨kb, 3, none⟩ = some (.int .i64 ic) ∧ W.cell? ⟨kb, 4, none⟩ = some (.int .u64 imm))) (by kernel_rfl) (KS.out _ (hA.out.gr ((Gr.refl W2).drew))) (fun hHeld => ?_)
 refine xso 0 ?_ rfl ?_ (xso 1 ?_ rfl ?_ (xso 2 ?_ rfl ?_ (xso 3 ?_ rfl ?_ (xso 4 ?_ rfl ?_ (xso 5 ?_ rfl ?_ ?_)))))
 iterate 6 (rotate_left; focus ((try simp only [xap]); intro w hSw; (try dsimp only at hSw); go_simp; first | done | with_reducible rfl))
 try simp only [xap]
 refine xrd 6 rfl (fun K hK => ?_)
 go_simp
 refine hK.out _ _ (KS.out _ (hA.out.gr ((Gr.refl W2).drew))) (fun hHeld => ?_)
 clear hK K
 try simp only [xap]
 refine xso 7 ?_ rfl ?_ ?_
 rotate_left
 · intro w hSw; (try dsimp only at hSw); go_simp; first | done | with_reducible rfl
 try simp only [xap]
 refine xdn ?_ _
 clear hHeld rr ri
 replace hA := Hz.mk (hA.out.gr ((Gr.refl W2).drew))
 replace hkp := Hz.mk (hkp.out.trans (Kp.ofGr ((Gr.refl W2).drew)) (fun _ q => .inl q))
 replace hx := Hz.mk hxd
 clear hxd
 generalize W2.drew = V0 at *
 have k0 : V0.cell? ⟨kb, 0, none⟩ = some (.int .u8 23) := hA.out.2.1 0
 have hq2 : decide (x.r ia < x.r ib) = false := by exact decide_eq_false hq
 have c5 : V0.cell? ⟨a, 5, none⟩ = some (.int .i64 x.p) := hx.out.at_ 5 (by omega)
 have f5 := hx.out.fr 5
 have hlt := hx.out.lt
 have hw5 : wrap64 ((x.p : Int) + 1) = (x.p : Int) + 1 := by unfold wrap64; omega
 go_upto_region 5 with fail
 clear c5 f5 hlt hw5
 replace hx := Hz.mk (show DBx (V0.setCell ⟨a, 5, none⟩ (.int .i64 ((x.p : Int) + 1))) a x.next from hx.out.p_ (x.p + 1))
 replace hA := Hz.mk (show At (V0.setCell ⟨a, 5, none⟩ (.int .i64 ((x.p : Int) + 1))) kb #[.int .u8 23, .int .i64 ia, .int .i64 ib, .int .i64 ic, .int .u64 imm] from T.at_kp hA.out (kp_set1 (Kp.refl (fun k => k = a) V0) 5 _) hne)
 replace hkp := Hz.mk (show Kp (fun k => k = a) w (V0.setCell ⟨a, 5, none⟩ (.int .i64 ((x.p : Int) + 1))) from hkp.out.trans (kp_set1 (Kp.refl _ V0) 5 _) (fun _ q => .inl q))
 generalize V0.setCell ⟨a, 5, none⟩ (.int .i64 ((x.p : Int) + 1)) = V at *
 have hfin : Hz (DB1 a x.next w V) := Hz.mk ⟨hx.out, hkp.out⟩
 go_wp2_with fail
 first | go_end0 | ((try simp only [Exit.inBlock, Exit.then]); refine bodyPost_ret (results_none rfl _ _ _) rfl ?_)
 exact ⟨rfl, hfin.out⟩
theorem djmp24y (a : Nat) (x : Dx) (ia ib ic : Nat) (imm : Int) (w : World) (h : DBx w a x) (ha : ia < 16) (hb : ib < 16) (hp : x.p ≤ 1000000) (hq : x.r ib ≤ x.r ia) (tg : Nat) (ht : imm = (tg : Int)) (ht2 : tg ≤ 1000000) :
   Calls Tryz.prog 53 #[.pointer (some ⟨a, 0, none⟩), .agg #[.int .u8 24, .int .i64 ia, .int .i64 ib, .int .i64 ic, .int .u64 imm]] w fun r w' => r = .returned (.tuple #[]) ∧ DB1 a ({ x with p := tg }) w w' := by
 replace ht := Hz.mk ht
 have hne : ¬ w.heap.size = a := by have := h.lt; omega
 have hx := Hz.mk h
 clear h
 go_enter Tryz.func53, Tryz.ntmps53
 go_upto_region 1 with fail
 refine wp_world (fun W => At W w.heap.size #[.int .u8 24, .int .i64 ia, .int .i64 ib, .int .i64 ic, .int .u64 imm] ∧ Gr w W) ⟨At.new w _ _, (Gr.refl _).alloc _⟩ ?_
 rintro W ⟨hA, G⟩
 generalize w.heap.size = kb at *
 replace hA := Hz.mk hA
 replace hx := Hz.mk (hx.out.gr G)
 have hkp : Hz (Kp (fun k => k = a) w W) := Hz.mk (Kp.ofGr G)
 clear G
 have KS := xk2 24 ia ib ic imm kb
 have hxd := hx.out.gr ((Gr.refl W).drew)
 have rr : W.drew.cell? ⟨a, 6 + ia, none⟩ = some (.int .u64 (x.r ia)) := (hxd.at_ (6 + ia) (by omega)).trans (congrArg some (Dx.reg x ia ha))
 have ri : (ia : Int) < 16 := by omega
 refine wp_region_held_drew (S := (fun W => W.cell? ⟨kb, 0, none⟩ = some (.int .u8 24) ∧ W.cell? ⟨kb, 1, none⟩ = some (.int .i64 ia) ∧ W.cell? ⟨kb, 2, none⟩ = some (.int .i64 ib) ∧ W.cell? ⟨kb, 3, none⟩ = some (.int .i64 ic) ∧ W.cell? ⟨kb, 4, none⟩ = some (.int .u64 imm))) (by kernel_rfl) (KS.out _ (hA.out.gr ((Gr.refl W).drew))) (fun hHeld => ?_)
 refine xso 0 ?_ rfl ?_ (xso 1 ?_ rfl ?_ (xso 2 ?_ rfl ?_ (xso 3 ?_ rfl ?_ (xso 4 ?_ rfl ?_ (xso 5 ?_ rfl ?_ ?_)))))
 iterate 6 (rotate_left; focus ((try simp only [xap]); intro w hSw; (try dsimp only at hSw); go_simp; first | done | with_reducible rfl))
 try simp only [xap]
 refine xrd 6 rfl (fun K hK => ?_)
 go_simp
 refine hK.out _ _ (KS.out _ (hA.out.gr ((Gr.refl W).drew))) (fun hHeld => ?_)
 clear hK K
 try simp only [xap]
 refine xso 7 ?_ rfl ?_ ?_
 rotate_left
 · intro w hSw; (try dsimp only at hSw); go_simp; first | done | with_reducible rfl
 try simp only [xap]
 refine xdn ?_ _
 clear hHeld rr ri
 replace hA := Hz.mk (hA.out.gr ((Gr.refl W).drew))
 replace hkp := Hz.mk (hkp.out.trans (Kp.ofGr ((Gr.refl W).drew)) (fun _ q => .inl q))
 replace hx := Hz.mk hxd
 clear hxd
 generalize W.drew = W2 at *
 go_upto_region 2 with fail
 have hxd := hx.out.gr ((Gr.refl W2).drew)
 have rr : W2.drew.cell? ⟨a, 6 + ib, none⟩ = some (.int .u64 (x.r ib)) := (hxd.at_ (6 + ib) (by omega)).trans (congrArg some (Dx.reg x ib hb))
 have ri : (ib : Int) < 16 := by omega
 refine wp_region_held_drew (S := (fun W => W.cell? ⟨kb, 0, none⟩ = some (.int .u8 24) ∧ W.cell? ⟨kb, 1, none⟩ = some (.int .i64 ia) ∧ W.cell? ⟨kb, 2, none⟩ = some (.int .i64 ib) ∧ W.cell? ⟨kb, 3, none⟩ = some (.int .i64 ic) ∧ W.cell? ⟨kb, 4, none⟩ = some (.int .u64 imm))) (by kernel_rfl) (KS.out _ (hA.out.gr ((Gr.refl W2).drew))) (fun hHeld => ?_)
 refine xso 0 ?_ rfl ?_ (xso 1 ?_ rfl ?_ (xso 2 ?_ rfl ?_ (xso 3 ?_ rfl ?_ (xso 4 ?_ rfl ?_ (xso 5 ?_ rfl ?_ ?_)))))
 iterate 6 (rotate_left; focus ((try simp only [xap]); intro w hSw; (try dsimp only at hSw); go_simp; first | done | with_reducible rfl))
 try simp only [xap]
 refine xrd 6 rfl (fun K hK => ?_)
 go_simp
 refine hK.out _ _ (KS.out _ (hA.out.gr ((Gr.refl W2).drew))) (fun hHeld => ?_)
 clear hK K
 try simp only [xap]
 refine xso 7 ?_ rfl ?_ ?_
 rotate_left
 · intro w hSw; (try dsimp only at hSw); go_simp; first | done | with_reducible rfl
 try simp only [xap]
 refine xdn ?_ _
 clear hHeld rr ri
 replace hA := Hz.mk (hA.out.gr ((Gr.refl W2).drew))
 replace hkp := Hz.mk (hkp.out.trans (Kp.ofGr ((Gr.refl W2).drew)) (fun _ q => .inl q))
 replace hx := Hz.mk hxd
 clear hxd
 generalize W2.drew = V0 at *
 have k0 : V0.cell? ⟨kb, 0, none⟩ = some (.int .u8 24) := hA.out.2.1 0
 have hq2 : decide (x.r ib ≤ x.r ia) = true := by exact decide_eq_true hq
 have hq3 : (x.r ia ≥ x.r ib) := hq
 have c5 : V0.cell? ⟨a, 5, none⟩ = some (.int .i64 x.p) := hx.out.at_ 5 (by omega)
 have f5 := hx.out.fr 5
 have hlt := hx.out.lt
 have hw5 : wrap64 ((x.p : Int) + 1) = (x.p : Int) + 1 := by unfold wrap64; omega
 go_upto_region 5 with fail
 clear c5 f5 hlt hw5
 replace hx := Hz.mk (show DBx (V0.setCell ⟨a, 5, none⟩ (.int .i64 ((x.p : Int) + 1))) a x.next from hx.out.p_ (x.p + 1))
 replace hA := Hz.mk (show At (V0.setCell ⟨a, 5, none⟩ (.int .i64 ((x.p : Int) + 1))) kb #[.int .u8 24, .int .i64 ia, .int .i64 ib, .int .i64 ic, .int .u64 imm] from T.at_kp hA.out (kp_set1 (Kp.refl (fun k => k = a) V0) 5 _) hne)
 replace hkp := Hz.mk (show Kp (fun k => k = a) w (V0.setCell ⟨a, 5, none⟩ (.int .i64 ((x.p : Int) + 1))) from hkp.out.trans (kp_set1 (Kp.refl _ V0) 5 _) (fun _ q => .inl q))
 generalize V0.setCell ⟨a, 5, none⟩ (.int .i64 ((x.p : Int) + 1)) = V at *
 have k4 : V.cell? ⟨kb, 4, none⟩ = some (.int .u64 imm) := hA.out.2.1 4
 have hcv : IntKind.i64.wrap imm = (tg : Int) := by rw [IntKind.wrap_i64]; have := ht.out; omega
 have c5 : V.cell? ⟨a, 5, none⟩ = some (.int .i64 ((x.p : Int) + 1)) := hx.out.at_ 5 (by omega)
 have f5 := hx.out.fr 5
 have hlt := hx.out.lt
 have hfin : Hz (DB1 a { x with p := tg } w (V.setCell ⟨a, 5, none⟩ (.int .i64 tg))) := Hz.mk ⟨hx.out.p_ tg, hkp.out.trans (kp_set1 (Kp.refl _ V) 5 _) (fun _ q => .inl q)⟩
 go_wp2_with fail
 first | go_end0 | ((try simp only [Exit.inBlock, Exit.then]); refine bodyPost_ret (results_none rfl _ _ _) rfl ?_)
 exact ⟨rfl, hfin.out⟩
theorem djmp24n (a : Nat) (x : Dx) (ia ib ic : Nat) (imm : Int) (w : World) (h : DBx w a x) (ha : ia < 16) (hb : ib < 16) (hp : x.p ≤ 1000000) (hq : ¬ x.r ib ≤ x.r ia) :
   Calls Tryz.prog 53 #[.pointer (some ⟨a, 0, none⟩), .agg #[.int .u8 24, .int .i64 ia, .int .i64 ib, .int .i64 ic, .int .u64 imm]] w fun r w' => r = .returned (.tuple #[]) ∧ DB1 a (x.next) w w' := by
 have hne : ¬ w.heap.size = a := by have := h.lt; omega
 have hx := Hz.mk h
 clear h
 go_enter Tryz.func53, Tryz.ntmps53
 go_upto_region 1 with fail
 refine wp_world (fun W => At W w.heap.size #[.int .u8 24, .int .i64 ia, .int .i64 ib, .int .i64 ic, .int .u64 imm] ∧ Gr w W) ⟨At.new w _ _, (Gr.refl _).alloc _⟩ ?_
 rintro W ⟨hA, G⟩
 generalize w.heap.size = kb at *
 replace hA := Hz.mk hA
 replace hx := Hz.mk (hx.out.gr G)
 have hkp : Hz (Kp (fun k => k = a) w W) := Hz.mk (Kp.ofGr G)
 clear G
 have KS := xk2 24 ia ib ic imm kb
 have hxd := hx.out.gr ((Gr.refl W).drew)
 have rr : W.drew.cell? ⟨a, 6 + ia, none⟩ = some (.int .u64 (x.r ia)) := (hxd.at_ (6 + ia) (by omega)).trans (congrArg some (Dx.reg x ia ha))
 have ri : (ia : Int) < 16 := by omega
 refine wp_region_held_drew (S := (fun W => W.cell? ⟨kb, 0, none⟩ = some (.int .u8 24) ∧ W.cell? ⟨kb, 1, none⟩ = some (.int .i64 ia) ∧ W.cell? ⟨kb, 2, none⟩ = some (.int .i64 ib) ∧ W.cell? ⟨kb, 3, none⟩ = some (.int .i64 ic) ∧ W.cell? ⟨kb, 4, none⟩ = some (.int .u64 imm))) (by kernel_rfl) (KS.out _ (hA.out.gr ((Gr.refl W).drew))) (fun hHeld => ?_)
 refine xso 0 ?_ rfl ?_ (xso 1 ?_ rfl ?_ (xso 2 ?_ rfl ?_ (xso 3 ?_ rfl ?_ (xso 4 ?_ rfl ?_ (xso 5 ?_ rfl ?_ ?_)))))
 iterate 6 (rotate_left; focus ((try simp only [xap]); intro w hSw; (try dsimp only at hSw); go_simp; first | done | with_reducible rfl))
 try simp only [xap]
 refine xrd 6 rfl (fun K hK => ?_)
 go_simp
 refine hK.out _ _ (KS.out _ (hA.out.gr ((Gr.refl W).drew))) (fun hHeld => ?_)
 clear hK K
 try simp only [xap]
 refine xso 7 ?_ rfl ?_ ?_
 rotate_left
 · intro w hSw; (try dsimp only at hSw); go_simp; first | done | with_reducible rfl
 try simp only [xap]
 refine xdn ?_ _
 clear hHeld rr ri
 replace hA := Hz.mk (hA.out.gr ((Gr.refl W).drew))
 replace hkp := Hz.mk (hkp.out.trans (Kp.ofGr ((Gr.refl W).drew)) (fun _ q => .inl q))
 replace hx := Hz.mk hxd
 clear hxd
 generalize W.drew = W2 at *
 go_upto_region 2 with fail
 have hxd := hx.out.gr ((Gr.refl W2).drew)
 have rr : W2.drew.cell? ⟨a, 6 + ib, none⟩ = some (.int .u64 (x.r ib)) := (hxd.at_ (6 + ib) (by omega)).trans (congrArg some (Dx.reg x ib hb))
 have ri : (ib : Int) < 16 := by omega
 refine wp_region_held_drew (S := (fun W => W.cell? ⟨kb, 0, none⟩ = some (.int .u8 24) ∧ W.cell? ⟨kb, 1, none⟩ = some (.int .i64 ia) ∧ W.cell? ⟨kb, 2, none⟩ = some (.int .i64 ib) ∧ W.cell? ⟨kb, 3, none⟩ = some (.int .i64 ic) ∧ W.cell? ⟨kb, 4, none⟩ = some (.int .u64 imm))) (by kernel_rfl) (KS.out _ (hA.out.gr ((Gr.refl W2).drew))) (fun hHeld => ?_)
 refine xso 0 ?_ rfl ?_ (xso 1 ?_ rfl ?_ (xso 2 ?_ rfl ?_ (xso 3 ?_ rfl ?_ (xso 4 ?_ rfl ?_ (xso 5 ?_ rfl ?_ ?_)))))
 iterate 6 (rotate_left; focus ((try simp only [xap]); intro w hSw; (try dsimp only at hSw); go_simp; first | done | with_reducible rfl))
 try simp only [xap]
 refine xrd 6 rfl (fun K hK => ?_)
 go_simp
 refine hK.out _ _ (KS.out _ (hA.out.gr ((Gr.refl W2).drew))) (fun hHeld => ?_)
 clear hK K
 try simp only [xap]
 refine xso 7 ?_ rfl ?_ ?_
 rotate_left
 · intro w hSw; (try dsimp only at hSw); go_simp; first | done | with_reducible rfl
 try simp only [xap]
 refine xdn ?_ _
 clear hHeld rr ri
 replace hA := Hz.mk (hA.out.gr ((Gr.refl W2).drew))
 replace hkp := Hz.mk (hkp.out.trans (Kp.ofGr ((Gr.refl W2).drew)) (fun _ q => .inl q))
 replace hx := Hz.mk hxd
 clear hxd
 generalize W2.drew = V0 at *
 have k0 : V0.cell? ⟨kb, 0, none⟩ = some (.int .u8 24) := hA.out.2.1 0
 have hq2 : decide (x.r ib ≤ x.r ia) = false := by exact decide_eq_false hq
 have hq3 : ¬ (x.r ia ≥ x.r ib) := hq
 have c5 : V0.cell? ⟨a, 5, none⟩ = some (.int .i64 x.p) := hx.out.at_ 5 (by omega)
 have f5 := hx.out.fr 5
 have hlt := hx.out.lt
 have hw5 : wrap64 ((x.p : Int) + 1) = (x.p : Int) + 1 := by unfold wrap64; omega
 go_upto_region 5 with fail
 clear c5 f5 hlt hw5
 replace hx := Hz.mk (show DBx (V0.setCell ⟨a, 5, none⟩ (.int .i64 ((x.p : Int) + 1))) a x.next from hx.out.p_ (x.p + 1))
 replace hA := Hz.mk (show At (V0.setCell ⟨a, 5, none⟩ (.int .i64 ((x.p : Int) + 1))) kb #[.int .u8 24, .int .i64 ia, .int .i64 ib, .int .i64 ic, .int .u64 imm] from T.at_kp hA.out (kp_set1 (Kp.refl (fun k => k = a) V0) 5 _) hne)
 replace hkp := Hz.mk (show Kp (fun k => k = a) w (V0.setCell ⟨a, 5, none⟩ (.int .i64 ((x.p : Int) + 1))) from hkp.out.trans (kp_set1 (Kp.refl _ V0) 5 _) (fun _ q => .inl q))
 generalize V0.setCell ⟨a, 5, none⟩ (.int .i64 ((x.p : Int) + 1)) = V at *
 have hfin : Hz (DB1 a x.next w V) := Hz.mk ⟨hx.out, hkp.out⟩
 go_wp2_with fail
 first | go_end0 | ((try simp only [Exit.inBlock, Exit.then]); refine bodyPost_ret (results_none rfl _ _ _) rfl ?_)
 exact ⟨rfl, hfin.out⟩
end Z
end Go.Proofs.YthfphgjjieddjaaGreat


namespace Go.Proofs.YthfphgjjieddjaaGreat
set_option maxRecDepth 100000
set_option maxHeartbeats 40000000
namespace Z
open Go.RowKit
open T (Sep Ob Kp Mf FlIn)

theorem dgrd70y (a : Nat) (x : Dx) (ia ib ic : Nat) (imm : Int) (w : World) (h : DBx w a x) (ha : ia < 16) (hp : x.p ≤ 1000000) (hq : x.r ia < imm) :
   Calls Tryz.prog 56 #[.pointer (some ⟨a, 0, none⟩), .agg #[.int .u8 70, .int .i64 ia, .int .i64 ib, .int .i64 ic, .int .u64 imm]] w fun r w' => r = .returned (.tuple #[]) ∧ DB1 a (x.next) w w' := by
 have hne : ¬ w.heap.size = a := by have := h.lt; omega
 have hx := Hz.mk h
 clear h
 go_enter Tryz.func56, Tryz.ntmps56
 go_upto_region 1 with fail
 refine wp_world (fun W => At W w.heap.size #[.int .u8 70, .int .i64 ia, .int .i64 ib, .int .i64 ic, .int .u64 imm] ∧ Gr w W) ⟨At.new w _ _, (Gr.refl _).alloc _⟩ ?_
 rintro W ⟨hA, G⟩
 generalize w.heap.size = kb at *
 replace hA := Hz.mk hA
 replace hx := Hz.mk (hx.out.gr G)
 have hkp : Hz (Kp (fun k => k = a) w W) := Hz.mk (Kp.ofGr G)
 clear G
 have KS := xk2 70 ia ib ic imm kb
 have hxd := hx.out.gr ((Gr.refl W).drew)
 have rr : W.drew.cell? ⟨a, 6 + ia, none⟩ = some (.int .u64 (x.r ia)) := (hxd.at_ (6 + ia) (by omega)).trans (congrArg some (Dx.reg x ia ha))
 have ri : (ia : Int) < 16 := by omega
 refine wp_region_held_drew (S := (fun W => W.cell? ⟨kb, 0, none⟩ = some (.int .u8 70) ∧ W.cell? ⟨kb, 1, none⟩ = some (.int .i64 ia) ∧ W.cell? ⟨kb, 2, none⟩ = some (.int .i64 ib) ∧ W.cell? ⟨kb, 3, none⟩ = some (.int .i64 ic) ∧ W.cell? ⟨kb, 4, none⟩ = some (.int .u64 imm))) (by kernel_rfl) (KS.out _ (hA.out.gr ((Gr.refl W).drew))) (fun hHeld => ?_)
 refine xso 0 ?_ rfl ?_ (xso 1 ?_ rfl ?_ (xso 2 ?_ rfl ?_ (xso 3 ?_ rfl ?_ (xso 4 ?_ rfl ?_ (xso 5 ?_ rfl ?_ ?_)))))
 iterate 6 (rotate_left; focus ((try simp only [xap]); intro w hSw; (try dsimp only at hSw); go_simp; first | done | with_reducible rfl))
 try simp only [xap]
 refine xrd 6 rfl (fun K hK => ?_)
 go_simp
 refine hK.out _ _ (KS.out _ (hA.out.gr ((Gr.refl W).drew))) (fun hHeld => ?_)
 clear hK K
 try simp only [xap]
 refine xso 7 ?_ rfl ?_ ?_
 rotate_left
 · intro w hSw; (try dsimp only at hSw); go_simp; first | done | with_reducible rfl
 try simp only [xap]
 refine xdn ?_ _
 clear hHeld rr ri
 replace hA := Hz.mk (hA.out.gr ((Gr.refl W).drew))
 replace hkp := Hz.mk (hkp.out.trans (Kp.ofGr ((Gr.refl W).drew)) (fun _ q => .inl q))
 replace hx := Hz.mk hxd
 clear hxd
 generalize W.drew = V0 at *
 have k0 : V0.cell? ⟨kb, 0, none⟩ = some (.int .u8 70) := hA.out.2.1 0
 have k4 : V0.cell? ⟨kb, 4, none⟩ = some (.int .u64 imm) := hA.out.2.1 4
 have hq2 : decide (x.r ia < imm) = true := decide_eq_true hq
 go_upto_region 3 with fail
 clear k0 k4
 have c5 : V0.cell? ⟨a, 5, none⟩ = some (.int .i64 x.p) := hx.out.at_ 5 (by omega)
 have f5 := hx.out.fr 5
 have hlt := hx.out.lt
 have hw5 : wrap64 ((x.p : Int) + 1) = (x.p : Int) + 1 := by unfold wrap64; omega
 go_wp2_with fail
 clear c5 f5 hlt hw5
 replace hx := Hz.mk (show DBx (V0.setCell ⟨a, 5, none⟩ (.int .i64 ((x.p : Int) + 1))) a x.next from hx.out.p_ (x.p + 1))
 replace hA := Hz.mk (show At (V0.setCell ⟨a, 5, none⟩ (.int .i64 ((x.p : Int) + 1))) kb #[.int .u8 70, .int .i64 ia, .int .i64 ib, .int .i64 ic, .int .u64 imm] from T.at_kp hA.out (kp_set1 (Kp.refl (fun k => k = a) V0) 5 _) hne)
 replace hkp := Hz.mk (show Kp (fun k => k = a) w (V0.setCell ⟨a, 5, none⟩ (.int .i64 ((x.p : Int) + 1))) from hkp.out.trans (kp_set1 (Kp.refl _ V0) 5 _) (fun _ q => .inl q))
 generalize V0.setCell ⟨a, 5, none⟩ (.int .i64 ((x.p : Int) + 1)) = V at *
 first | go_end0 | ((try simp only [Exit.inBlock, Exit.then]); refine bodyPost_ret (results_none rfl _ _ _) rfl ?_)
 exact ⟨rfl, hx.out, hkp.out⟩
theorem dgrd70n (a : Nat) (x : Dx) (ia ib ic : Nat) (imm : Int) (w : World) (h : DBx w a x) (ha : ia < 16) (hq : ¬ x.r ia < imm) :
   Calls Tryz.prog 56 #[.pointer (some ⟨a, 0, none⟩), .agg #[.int .u8 70, .int .i64 ia, .int .i64 ib, .int .i64 ic, .int .u64 imm]] w fun r w' => r = .returned (.tuple #[]) ∧ DB1 a (x.fin 2 (IntKind.u64.wrap ic) 0) w w' := by
 have hne : ¬ w.heap.size = a := by have := h.lt; omega
 have hx := Hz.mk h
 clear h
 go_enter Tryz.func56, Tryz.ntmps56
 go_upto_region 1 with fail
 refine wp_world (fun W => At W w.heap.size #[.int .u8 70, .int .i64 ia, .int .i64 ib, .int .i64 ic, .int .u64 imm] ∧ Gr w W) ⟨At.new w _ _, (Gr.refl _).alloc _⟩ ?_
 rintro W ⟨hA, G⟩
 generalize w.heap.size = kb at *
 replace hA := Hz.mk hA
 replace hx := Hz.mk (hx.out.gr G)
 have hkp : Hz (Kp (fun k => k = a) w W) := Hz.mk (Kp.ofGr G)
 clear G
 have KS := xk2 70 ia ib ic imm kb
 have hxd := hx.out.gr ((Gr.refl W).drew)
 have rr : W.drew.cell? ⟨a, 6 + ia, none⟩ = some (.int .u64 (x.r ia)) := (hxd.at_ (6 + ia) (by omega)).trans (congrArg some (Dx.reg x ia ha))
 have ri : (ia : Int) < 16 := by omega
 refine wp_region_held_drew (S := (fun W => W.cell? ⟨kb, 0, none⟩ = some (.int .u8 70) ∧ W.cell? ⟨kb, 1, none⟩ = some (.int .i64 ia) ∧ W.cell? ⟨kb, 2, none⟩ = some (.int .i64 ib) ∧ W.cell? ⟨kb, 3, none⟩ = some (.int .i64 ic) ∧ W.cell? ⟨kb, 4, none⟩ = some (.int .u64 imm))) (by kernel_rfl) (KS.out _ (hA.out.gr ((Gr.refl W).drew))) (fun hHeld => ?_)
 refine xso 0 ?_ rfl ?_ (xso 1 ?_ rfl ?_ (xso 2 ?_ rfl ?_ (xso 3 ?_ rfl ?_ (xso 4 ?_ rfl ?_ (xso 5 ?_ rfl ?_ ?_)))))
 iterate 6 (rotate_left; focus ((try simp only [xap]); intro w hSw; (try dsimp only at hSw); go_simp; first | done | with_reducible rfl))
 try simp only [xap]
 refine xrd 6 rfl (fun K hK => ?_)
 go_simp
 refine hK.out _ _ (KS.out _ (hA.out.gr ((Gr.refl W).drew))) (fun hHeld => ?_)
 clear hK K
 try simp only [xap]
 refine xso 7 ?_ rfl ?_ ?_
 rotate_left
 · intro w hSw; (try dsimp only at hSw); go_simp; first | done | with_reducible rfl
 try simp only [xap]
 refine xdn ?_ _
 clear hHeld rr ri
 replace hA := Hz.mk (hA.out.gr ((Gr.refl W).drew))
 replace hkp := Hz.mk (hkp.out.trans (Kp.ofGr ((Gr.refl W).drew)) (fun _ q => .inl q))
 replace hx := Hz.mk hxd
 clear hxd
 generalize W.drew = V0 at *
 have k0 : V0.cell? ⟨kb, 0, none⟩ = some (.int .u8 70) := hA.out.2.1 0
 have k4 : V0.cell? ⟨kb, 4, none⟩ = some (.int .u64 imm) := hA.out.2.1 4
 have hq2 : decide (x.r ia < imm) = false := decide_eq_false hq
 have k3 : V0.cell? ⟨kb, 3, none⟩ = some (.int .i64 ic) := hA.out.2.1 3
 have hen := Hz.mk (dend_any a x 2 (IntKind.u64.wrap ic) 0 V0 hx.out)
 go_wp2_with fail
 refine hen.out.mono ?_
 rintro r V9 ⟨rfl, hB⟩
 have hfin : Hz (DB1 a (x.fin 2 (IntKind.u64.wrap ic) 0) w V9) := Hz.mk ⟨hB.1, hkp.out.trans hB.2 (fun _ q => .inl q)⟩
 clear hB hen
 go_wp2_with fail
 first | go_end0 | ((try simp only [Exit.inBlock, Exit.then]); refine bodyPost_ret (results_none rfl _ _ _) rfl ?_)
 exact ⟨rfl, hfin.out⟩
theorem dgrd71y (a : Nat) (x : Dx) (ia ib ic : Nat) (imm : Int) (w : World) (h : DBx w a x) (ha : ia < 16) (hp : x.p ≤ 1000000) (hq : imm ≤ x.r ia) :
   Calls Tryz.prog 56 #[.pointer (some ⟨a, 0, none⟩), .agg #[.int .u8 71, .int .i64 ia, .int .i64 ib, .int .i64 ic, .int .u64 imm]] w fun r w' => r = .returned (.tuple #[]) ∧ DB1 a (x.next) w w' := by
 have hne : ¬ w.heap.size = a := by have := h.lt; omega
 have hx := Hz.mk h
 clear h
 go_enter Tryz.func56, Tryz.ntmps56
 go_upto_region 1 with fail
 refine wp_world (fun W => At W w.heap.size #[.int .u8 71, .int .i64 ia, .int .i64 ib, .int .i64 ic, .int .u64 imm] ∧ Gr w W) ⟨At.new w _ _, (Gr.refl _).alloc _⟩ ?_
 rintro W ⟨hA, G⟩
 generalize w.heap.size = kb at *
 replace hA := Hz.mk hA
 replace hx := Hz.mk (hx.out.gr G)
 have hkp : Hz (Kp (fun k => k = a) w W) := Hz.mk (Kp.ofGr G)
 clear G
 have KS := xk2 71 ia ib ic imm kb
 have hxd := hx.out.gr ((Gr.refl W).drew)
 have rr : W.drew.cell? ⟨a, 6 + ia, none⟩ = some (.int .u64 (x.r ia)) := (hxd.at_ (6 + ia) (by omega)).trans (congrArg some (Dx.reg x ia ha))
 have ri : (ia : Int) < 16 := by omega
 refine wp_region_held_drew (S := (fun W => W.cell? ⟨kb, 0, none⟩ = some (.int .u8 71) ∧ W.cell? ⟨kb, 1, none⟩ = some (.int .i64 ia) ∧ W.cell? ⟨kb, 2, none⟩ = some (.int .i64 ib) ∧ W.cell? ⟨kb, 3, none⟩ = some (.int .i64 ic) ∧ W.cell? ⟨kb, 4, none⟩ = some (.int .u64 imm))) (by kernel_rfl) (KS.out _ (hA.out.gr ((Gr.refl W).drew))) (fun hHeld => ?_)
 refine xso 0 ?_ rfl ?_ (xso 1 ?_ rfl ?_ (xso 2 ?_ rfl ?_ (xso 3 ?_ rfl ?_ (xso 4 ?_ rfl ?_ (xso 5 ?_ rfl ?_ ?_)))))
 iterate 6 (rotate_left; focus ((try simp only [xap]); intro w hSw; (try dsimp only at hSw); go_simp; first | done | with_reducible rfl))
 try simp only [xap]
 refine xrd 6 rfl (fun K hK => ?_)
 go_simp
 refine hK.out _ _ (KS.out _ (hA.out.gr ((Gr.refl W).drew))) (fun hHeld => ?_)
 clear hK K
 try simp only [xap]
 refine xso 7 ?_ rfl ?_ ?_
 rotate_left
 · intro w hSw; (try dsimp only at hSw); go_simp; first | done | with_reducible rfl
 try simp only [xap]
 refine xdn ?_ _
 clear hHeld rr ri
 replace hA := Hz.mk (hA.out.gr ((Gr.refl W).drew))
 replace hkp := Hz.mk (hkp.out.trans (Kp.ofGr ((Gr.refl W).drew)) (fun _ q => .inl q))
 replace hx := Hz.mk hxd
 clear hxd
 generalize W.drew = V0 at *
 have k0 : V0.cell? ⟨kb, 0, none⟩ = some (.int .u8 71) := hA.out.2.1 0
 have k4 : V0.cell? ⟨kb, 4, none⟩ = some (.int .u64 imm) := hA.out.2.1 4
 have hq2 : decide (imm ≤ x.r ia) = true := decide_eq_true hq
 go_upto_region 3 with fail
 clear k0 k4
 have c5 : V0.cell? ⟨a, 5, none⟩ = some (.int .i64 x.p) := hx.out.at_ 5 (by omega)
 have f5 := hx.out.fr 5
 have hlt := hx.out.lt
 have hw5 : wrap64 ((x.p : Int) + 1) = (x.p : Int) + 1 := by unfold wrap64; omega
 go_wp2_with fail
 clear c5 f5 hlt hw5
 replace hx := Hz.mk (show DBx (V0.setCell ⟨a, 5, none⟩ (.int .i64 ((x.p : Int) + 1))) a x.next from hx.out.p_ (x.p + 1))
 replace hA := Hz.mk (show At (V0.setCell ⟨a, 5, none⟩ (.int .i64 ((x.p : Int) + 1))) kb #[.int .u8 71, .int .i64 ia, .int .i64 ib, .int .i64 ic, .int .u64 imm] from T.at_kp hA.out (kp_set1 (Kp.refl (fun k => k = a) V0) 5 _) hne)
 replace hkp := Hz.mk (show Kp (fun k => k = a) w (V0.setCell ⟨a, 5, none⟩ (.int .i64 ((x.p : Int) + 1))) from hkp.out.trans (kp_set1 (Kp.refl _ V0) 5 _) (fun _ q => .inl q))
 generalize V0.setCell ⟨a, 5, none⟩ (.int .i64 ((x.p : Int) + 1)) = V at *
 first | go_end0 | ((try simp only [Exit.inBlock, Exit.then]); refine bodyPost_ret (results_none rfl _ _ _) rfl ?_)
 exact ⟨rfl, hx.out, hkp.out⟩
theorem dgrd71n (a : Nat) (x : Dx) (ia ib ic : Nat) (imm : Int) (w : World) (h : DBx w a x) (ha : ia < 16) (hq : ¬ imm ≤ x.r ia) :
   Calls Tryz.prog 56 #[.pointer (some ⟨a, 0, none⟩), .agg #[.int .u8 71, .int .i64 ia, .int .i64 ib, .int .i64 ic, .int .u64 imm]] w fun r w' => r = .returned (.tuple #[]) ∧ DB1 a (x.fin 2 (IntKind.u64.wrap ic) 0) w w' := by
 have hne : ¬ w.heap.size = a := by have := h.lt; omega
 have hx := Hz.mk h
 clear h
 go_enter Tryz.func56, Tryz.ntmps56
 go_upto_region 1 with fail
 refine wp_world (fun W => At W w.heap.size #[.int .u8 71, .int .i64 ia, .int .i64 ib, .int .i64 ic, .int .u64 imm] ∧ Gr w W) ⟨At.new w _ _, (Gr.refl _).alloc _⟩ ?_
 rintro W ⟨hA, G⟩
 generalize w.heap.size = kb at *
 replace hA := Hz.mk hA
 replace hx := Hz.mk (hx.out.gr G)
 have hkp : Hz (Kp (fun k => k = a) w W) := Hz.mk (Kp.ofGr G)
 clear G
 have KS := xk2 71 ia ib ic imm kb
 have hxd := hx.out.gr ((Gr.refl W).drew)
 have rr : W.drew.cell? ⟨a, 6 + ia, none⟩ = some (.int .u64 (x.r ia)) := (hxd.at_ (6 + ia) (by omega)).trans (congrArg some (Dx.reg x ia ha))
 have ri : (ia : Int) < 16 := by omega
 refine wp_region_held_drew (S := (fun W => W.cell? ⟨kb, 0, none⟩ = some (.int .u8 71) ∧ W.cell? ⟨kb, 1, none⟩ = some (.int .i64 ia) ∧ W.cell? ⟨kb, 2, none⟩ = some (.int .i64 ib) ∧ W.cell? ⟨kb, 3, none⟩ = some (.int .i64 ic) ∧ W.cell? ⟨kb, 4, none⟩ = some (.int .u64 imm))) (by kernel_rfl) (KS.out _ (hA.out.gr ((Gr.refl W).drew))) (fun hHeld => ?_)
 refine xso 0 ?_ rfl ?_ (xso 1 ?_ rfl ?_ (xso 2 ?_ rfl ?_ (xso 3 ?_ rfl ?_ (xso 4 ?_ rfl ?_ (xso 5 ?_ rfl ?_ ?_)))))
 iterate 6 (rotate_left; focus ((try simp only [xap]); intro w hSw; (try dsimp only at hSw); go_simp; first | done | with_reducible rfl))
 try simp only [xap]
 refine xrd 6 rfl (fun K hK => ?_)
 go_simp
 refine hK.out _ _ (KS.out _ (hA.out.gr ((Gr.refl W).drew))) (fun hHeld => ?_)
 clear hK K
 try simp only [xap]
 refine xso 7 ?_ rfl ?_ ?_
 rotate_left
 · intro w hSw; (try dsimp only at hSw); go_simp; first | done | with_reducible rfl
 try simp only [xap]
 refine xdn ?_ _
 clear hHeld rr ri
 replace hA := Hz.mk (hA.out.gr ((Gr.refl W).drew))
 replace hkp := Hz.mk (hkp.out.trans (Kp.ofGr ((Gr.refl W).drew)) (fun _ q => .inl q))
 replace hx := Hz.mk hxd
 clear hxd
 generalize W.drew = V0 at *
 have k0 : V0.cell? ⟨kb, 0, none⟩ = some (.int .u8 71) := hA.out.2.1 0
 have k4 : V0.cell? ⟨kb, 4, none⟩ = some (.int .u64 imm) := hA.out.2.1 4
 have hq2 : decide (imm ≤ x.r ia) = false := decide_eq_false hq
 have k3 : V0.cell? ⟨kb, 3, none⟩ = some (.int .i64 ic) := hA.out.2.1 3
 have hen := Hz.mk (dend_any a x 2 (IntKind.u64.wrap ic) 0 V0 hx.out)
 go_wp2_with fail
 refine hen.out.mono ?_
 rintro r V9 ⟨rfl, hB⟩
 have hfin : Hz (DB1 a (x.fin 2 (IntKind.u64.wrap ic) 0) w V9) := Hz.mk ⟨hB.1, hkp.out.trans hB.2 (fun _ q => .inl q)⟩
 clear hB hen
 go_wp2_with fail
 first | go_end0 | ((try simp only [Exit.inBlock, Exit.then]); refine bodyPost_ret (results_none rfl _ _ _) rfl ?_)
 exact ⟨rfl, hfin.out⟩
theorem dgrd72 (a : Nat) (x : Dx) (ia ib ic : Nat) (imm : Int) (w : World) (h : DBx w a x) (ha : ia < 16) :
   Calls Tryz.prog 56 #[.pointer (some ⟨a, 0, none⟩), .agg #[.int .u8 72, .int .i64 ia, .int .i64 ib, .int .i64 ic, .int .u64 imm]] w fun r w' => r = .returned (.tuple #[]) ∧ DB1 a (x.fin 2 (IntKind.u64.wrap ic) 0) w w' := by
 have hne : ¬ w.heap.size = a := by have := h.lt; omega
 have hx := Hz.mk h
 clear h
 go_enter Tryz.func56, Tryz.ntmps56
 go_upto_region 1 with fail
 refine wp_world (fun W => At W w.heap.size #[.int .u8 72, .int .i64 ia, .int .i64 ib, .int .i64 ic, .int .u64 imm] ∧ Gr w W) ⟨At.new w _ _, (Gr.refl _).alloc _⟩ ?_
 rintro W ⟨hA, G⟩
 generalize w.heap.size = kb at *
 replace hA := Hz.mk hA
 replace hx := Hz.mk (hx.out.gr G)
 have hkp : Hz (Kp (fun k => k = a) w W) := Hz.mk (Kp.ofGr G)
 clear G
 have KS := xk2 72 ia ib ic imm kb
 have hxd := hx.out.gr ((Gr.refl W).drew)
 have rr : W.drew.cell? ⟨a, 6 + ia, none⟩ = some (.int .u64 (x.r ia)) := (hxd.at_ (6 + ia) (by omega)).trans (congrArg some (Dx.reg x ia ha))
 have ri : (ia : Int) < 16 := by omega
 refine wp_region_held_drew (S := (fun W => W.cell? ⟨kb, 0, none⟩ = some (.int .u8 72) ∧ W.cell? ⟨kb, 1, none⟩ = some (.int .i64 ia) ∧ W.cell? ⟨kb, 2, none⟩ = some (.int .i64 ib) ∧ W.cell? ⟨kb, 3, none⟩ = some (.int .i64 ic) ∧ W.cell? ⟨kb, 4, none⟩ = some (.int .u64 imm))) (by kernel_rfl) (KS.out _ (hA.out.gr ((Gr.refl W).drew))) (fun hHeld => ?_)
 refine xso 0 ?_ rfl ?_ (xso 1 ?_ rfl ?_ (xso 2 ?_ rfl ?_ (xso 3 ?_ rfl ?_ (xso 4 ?_ rfl ?_ (xso 5 ?_ rfl ?_ ?_)))))
 iterate 6 (rotate_left; focus ((try simp only [xap]); intro w hSw; (try dsimp only at hSw); go_simp; first | done | with_reducible rfl))
 try simp only [xap]
 refine xrd 6 rfl (fun K hK => ?_)
 go_simp
 refine hK.out _ _ (KS.out _ (hA.out.gr ((Gr.refl W).drew))) (fun hHeld => ?_)
 clear hK K
 try simp only [xap]
 refine xso 7 ?_ rfl ?_ ?_
 rotate_left
 · intro w hSw; (try dsimp only at hSw); go_simp; first | done | with_reducible rfl
 try simp only [xap]
 refine xdn ?_ _
 clear hHeld rr ri
 replace hA := Hz.mk (hA.out.gr ((Gr.refl W).drew))
 replace hkp := Hz.mk (hkp.out.trans (Kp.ofGr ((Gr.refl W).drew)) (fun _ q => .inl q))
 replace hx := Hz.mk hxd
 clear hxd
 generalize W.drew = V0 at *
 have k0 : V0.cell? ⟨kb, 0, none⟩ = some (.int .u8 72) := hA.out.2.1 0
 have k4 : V0.cell? ⟨kb, 4, none⟩ = some (.int .u64 imm) := hA.out.2.1 4
 have k3 : V0.cell? ⟨kb, 3, none⟩ = some (.int .i64 ic) := hA.out.2.1 3
 have hen := Hz.mk (dend_any a x 2 (IntKind.u64.wrap ic) 0 V0 hx.out)
 go_wp2_with fail
 refine hen.out.mono ?_
 rintro r V9 ⟨rfl, hB⟩
 have hfin : Hz (DB1 a (x.fin 2 (IntKind.u64.wrap ic) 0) w V9) := Hz.mk ⟨hB.1, hkp.out.trans hB.2 (fun _ q => .inl q)⟩
 clear hB hen
 go_wp2_with fail
 first | go_end0 | ((try simp only [Exit.inBlock, Exit.then]); refine bodyPost_ret (results_none rfl _ _ _) rfl ?_)
 exact ⟨rfl, hfin.out⟩
end Z
end Go.Proofs.YthfphgjjieddjaaGreat


namespace Go.Proofs.YthfphgjjieddjaaGreat
set_option maxRecDepth 100000
set_option maxHeartbeats 40000000
namespace Z
open Go.RowKit
open T (Sep Ob Kp Mf FlIn)

theorem dhalt (a : Nat) (x : Dx) (ia ib ic : Nat) (imm : Int) (w : World) (h : DBx w a x) (ha : ia < 16) :
   Calls Tryz.prog 54 #[.pointer (some ⟨a, 0, none⟩), .agg #[.int .u8 27, .int .i64 ia, .int .i64 ib, .int .i64 ic, .int .u64 imm]] w fun r w' => r = .returned (.tuple #[]) ∧ DB1 a (x.fin 1 (x.r ia) 0) w w' := by
 have hne : ¬ w.heap.size = a := by have := h.lt; omega
 have hx := Hz.mk h
 clear h
 go_enter Tryz.func54, Tryz.ntmps54
 go_upto_region 1 with fail
 refine wp_world (fun W => At W w.heap.size #[.int .u8 27, .int .i64 ia, .int .i64 ib, .int .i64 ic, .int .u64 imm] ∧ Gr w W) ⟨At.new w _ _, (Gr.refl _).alloc _⟩ ?_
 rintro W ⟨hA, G⟩
 generalize w.heap.size = kb at *
 replace hA := Hz.mk hA
 replace hx := Hz.mk (hx.out.gr G)
 have hkp : Hz (Kp (fun k => k = a) w W) := Hz.mk (Kp.ofGr G)
 clear G
 have KS := xk2 27 ia ib ic imm kb
 have k0 : W.cell? ⟨kb, 0, none⟩ = some (.int .u8 27) := hA.out.2.1 0
 go_upto_region 4 with fail
 clear k0
 have hxd := hx.out.gr ((Gr.refl W).drew)
 have rr : W.drew.cell? ⟨a, 6 + ia, none⟩ = some (.int .u64 (x.r ia)) := (hxd.at_ (6 + ia) (by omega)).trans (congrArg some (Dx.reg x ia ha))
 have ri : (ia : Int) < 16 := by omega
 have hAd := Hz.mk (hA.out.gr ((Gr.refl W).drew))
 have hen := Hz.mk (dend_any a x 1 (x.r ia) 0 W.drew hxd)
 replace hkp := Hz.mk (hkp.out.trans (Kp.ofGr ((Gr.refl W).drew)) (fun _ q => .inl q))
 replace hxd := Hz.mk hxd
 refine wp_region_held_drew (S := (fun W => W.cell? ⟨kb, 0, none⟩ = some (.int .u8 27) ∧ W.cell? ⟨kb, 1, none⟩ = some (.int .i64 ia) ∧ W.cell? ⟨kb, 2, none⟩ = some (.int .i64 ib) ∧ W.cell? ⟨kb, 3, none⟩ = some (.int .i64 ic) ∧ W.cell? ⟨kb, 4, none⟩ = some (.int .u64 imm))) (by kernel_rfl) (KS.out _ hAd.out) (fun hHeld => ?_)
 refine xso 0 ?_ rfl ?_ (xso 1 ?_ rfl ?_ (xso 2 ?_ rfl ?_ (xso 3 ?_ rfl ?_ (xso 4 ?_ rfl ?_ (xso 5 ?_ rfl ?_ (xso 6 ?_ rfl ?_ ?_))))))
 iterate 7 (rotate_left; focus ((try simp only [xap]); intro w hSw; (try dsimp only at hSw); go_simp; first | done | with_reducible rfl))
 try simp only [xap]
 refine xrd 7 rfl (fun K hK => ?_)
 go_simp
 refine hK.out _ _ (KS.out _ hAd.out) (fun hHeld => ?_)
 clear hK K
 try simp only [xap]
 refine xrd 8 rfl (fun K hK => ?_)
 go_simp
 go_wp2_with (refine hen.out.mono ?_; rintro r V9 ⟨rfl, hB⟩; clear hHeld)
 refine hK.out _ _ (KS.out _ (T.at_kp hAd.out hB.2 hne)) (fun hHeld => ?_)
 clear hK K
 try simp only [xap]
 refine xdn ?_ _
 clear hHeld rr ri
 have hfin : Hz (DB1 a (x.fin 1 (x.r ia) 0) w V9) := Hz.mk ⟨hB.1, hkp.out.trans hB.2 (fun _ q => .inl q)⟩
 clear hB hen
 go_wp2_with fail
 first | go_end0 | ((try simp only [Exit.inBlock, Exit.then]); refine bodyPost_ret (results_none rfl _ _ _) rfl ?_)
 exact ⟨rfl, hfin.out⟩
theorem dtrap (a : Nat) (x : Dx) (ia ib ic : Nat) (imm : Int) (w : World) (h : DBx w a x) :
   Calls Tryz.prog 54 #[.pointer (some ⟨a, 0, none⟩), .agg #[.int .u8 28, .int .i64 ia, .int .i64 ib, .int .i64 ic, .int .u64 imm]] w fun r w' => r = .returned (.tuple #[]) ∧ DB1 a (x.fin 3 imm 0) w w' := by
 have hne : ¬ w.heap.size = a := by have := h.lt; omega
 have hx := Hz.mk h
 clear h
 go_enter Tryz.func54, Tryz.ntmps54
 go_upto_region 1 with fail
 refine wp_world (fun W => At W w.heap.size #[.int .u8 28, .int .i64 ia, .int .i64 ib, .int .i64 ic, .int .u64 imm] ∧ Gr w W) ⟨At.new w _ _, (Gr.refl _).alloc _⟩ ?_
 rintro W ⟨hA, G⟩
 generalize w.heap.size = kb at *
 replace hA := Hz.mk hA
 replace hx := Hz.mk (hx.out.gr G)
 have hkp : Hz (Kp (fun k => k = a) w W) := Hz.mk (Kp.ofGr G)
 clear G
 have KS := xk2 28 ia ib ic imm kb
 have k0 : W.cell? ⟨kb, 0, none⟩ = some (.int .u8 28) := hA.out.2.1 0
 have k4 : W.cell? ⟨kb, 4, none⟩ = some (.int .u64 imm) := hA.out.2.1 4
 have hen := Hz.mk (dend_any a x 3 imm 0 W hx.out)
 go_wp2_with fail
 refine hen.out.mono ?_
 rintro r V9 ⟨rfl, hB⟩
 have hfin : Hz (DB1 a (x.fin 3 imm 0) w V9) := Hz.mk ⟨hB.1, hkp.out.trans hB.2 (fun _ q => .inl q)⟩
 clear hB hen
 go_wp2_with fail
 first | go_end0 | ((try simp only [Exit.inBlock, Exit.then]); refine bodyPost_ret (results_none rfl _ _ _) rfl ?_)
 exact ⟨rfl, hfin.out⟩
theorem dstarve (a : Nat) (x : Dx) (ia ib ic : Nat) (imm : Int) (w : World) (h : DBx w a x) (ja : Option Addr) (jc : Nat) (hi : x.iv = .slice ja 0 jc) :
   Calls Tryz.prog 54 #[.pointer (some ⟨a, 0, none⟩), .agg #[.int .u8 29, .int .i64 ia, .int .i64 ib, .int .i64 ic, .int .u64 imm]] w fun r w' => r = .returned (.tuple #[]) ∧ DB1 a (x.fin 6 0 0) w w' := by
 have hne : ¬ w.heap.size = a := by have := h.lt; omega
 have hx := Hz.mk h
 clear h
 go_enter Tryz.func54, Tryz.ntmps54
 go_upto_region 1 with fail
 refine wp_world (fun W => At W w.heap.size #[.int .u8 29, .int .i64 ia, .int .i64 ib, .int .i64 ic, .int .u64 imm] ∧ Gr w W) ⟨At.new w _ _, (Gr.refl _).alloc _⟩ ?_
 rintro W ⟨hA, G⟩
 generalize w.heap.size = kb at *
 replace hA := Hz.mk hA
 replace hx := Hz.mk (hx.out.gr G)
 have hkp : Hz (Kp (fun k => k = a) w W) := Hz.mk (Kp.ofGr G)
 clear G
 have KS := xk2 29 ia ib ic imm kb
 have k0 : W.cell? ⟨kb, 0, none⟩ = some (.int .u8 29) := hA.out.2.1 0
 have c24 : W.cell? ⟨a, 24, none⟩ = some (.slice ja 0 jc) := (hx.out.at_ 24 (by omega)).trans (congrArg some hi)
 have hen := Hz.mk (dend_any a x 6 0 0 W hx.out)
 replace hi := Hz.mk hi
 go_wp2_with fail
 refine hen.out.mono ?_
 rintro r V9 ⟨rfl, hB⟩
 have hfin : Hz (DB1 a (x.fin 6 0 0) w V9) := Hz.mk ⟨hB.1, hkp.out.trans hB.2 (fun _ q => .inl q)⟩
 clear hB hen
 go_wp2_with fail
 first | go_end0 | ((try simp only [Exit.inBlock, Exit.then]); refine bodyPost_ret (results_none rfl _ _ _) rfl ?_)
 exact ⟨rfl, hfin.out⟩
end Z
end Go.Proofs.YthfphgjjieddjaaGreat


namespace Go.Proofs.YthfphgjjieddjaaGreat
namespace Z
open Go.RowKit
open T (Sep Ob Kp Mf FlIn boxOb)

end Z
end Go.Proofs.YthfphgjjieddjaaGreat


namespace Go.Proofs.YthfphgjjieddjaaGreat
namespace Z
open Go.RowKit
open T (Sep Ob Kp Mf FlIn boxOb)

end Z
end Go.Proofs.YthfphgjjieddjaaGreat


namespace Go.Proofs.YthfphgjjieddjaaGreat
namespace Z
open Go.RowKit
open T (Sep Ob Kp Mf FlIn boxOb)

def LfIn (B : Nat) (w : World) (la : Option Addr) (lc : Nat) (Lf : List Int) : Prop := Lf.length ≤ lc ∧ ((la = none ∧ lc = 0) ∨ ∃ b off, la = some ⟨b, off, none⟩ ∧ b < B ∧ b < w.heap.size ∧ ∀ i (h : i < Lf.length), w.cell? ⟨b, off + i, none⟩ = some (.int .u64 Lf[i]))
theorem LfIn.below {B : Nat} {w W : World} {la : Option Addr} {lc : Nat} {Lf : List Int} (h : LfIn B w la lc Lf) (q : Below B w W) : LfIn B W la lc Lf := by
 obtain ⟨h1, h2⟩ := h
 refine ⟨h1, ?_⟩
 rcases h2 with h2 | ⟨b, off, e, h3, h4, h5⟩
 · exact .inl h2
 · exact .inr ⟨b, off, e, h3, Nat.lt_of_lt_of_le h4 q.size, fun i hi => (T.cell_of_block (q.block b h3) _).trans (h5 i hi)⟩
theorem LfIn.of {w : World} {ia : Option Addr} {ic : Nat} {L : List Int} (h : InL w ia ic L) (hc : ∀ a, ia = some a → L.length ≤ ic) (B : Nat) (hB : w.heap.size ≤ B) : LfIn B w ia ic L := by
 rcases h with ⟨rfl, rfl, rfl⟩ | ⟨b, off, rfl, h3, h4⟩
 · exact ⟨Nat.le_refl _, .inl ⟨rfl, rfl⟩⟩
 · exact ⟨hc _ rfl, .inr ⟨b, off, rfl, by omega, h3, h4⟩⟩
section
variable (B : Nat) (W : World) (b : Nat) (P : Pr) (s : Fm) (I : List Int) (l : List Ob)
end
end Z
end Go.Proofs.YthfphgjjieddjaaGreat
