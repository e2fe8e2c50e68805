import Derived.Test.YthfphgjjieddjaaGreatZOpsC
namespace Go.Proofs.YthfphgjjieddjaaGreat
set_option maxRecDepth 100000
set_option maxHeartbeats 40000000
namespace Z
open Go.RowKit
open T (Sep Ob Kp Mf FlIn)

theorem branch_any (a : Nat) (x : Fx) (i : Fi) (w : World) (h : Bx w a x) (ok : Bool) (hp : x.p ≤ 1000000) (hj : 0 ≤ i.i ∧ i.i < 1000) :
   Calls Tryz.prog 114 #[.agg #[.int .u8 i.op, .int .i64 i.a, .int .i64 i.b, .int .i64 i.c, .int .u64 i.i], .pointer (some ⟨a, 0, none⟩), .bool ok] w fun r w' => r = .returned (.tuple #[]) ∧ Bo1 a (x.br ok i.i.toNat) w w' := by
 cases ok
 · skip
   have hne : ¬ w.heap.size = a := by have := h.lt; omega
   have hx := Hz.mk h
   clear h
   go_enter Tryz.func114, Tryz.ntmps114
   go_upto_region 1 with fail
   refine wp_world (fun W => At W w.heap.size #[.int .u8 i.op, .int .i64 i.a, .int .i64 i.b, .int .i64 i.c, .int .u64 i.i] ∧ Gr w W) ⟨At.new w _ _, (Gr.refl _).alloc _⟩ ?_
   rintro W ⟨hA, G⟩
   generalize w.heap.size = kb at *
   replace hA := Hz.mk hA
   have KS := xk1 i kb
   replace hj := Hz.mk hj
   go_wp2_with fail
   refine (next_any a x _ (hx.out.gr G) hp).mono ?_
   rintro r V9 ⟨rfl, hB⟩
   replace hB := Hz.mk hB
   go_wp2_with fail
   first | go_end0 | ((try simp only [Exit.inBlock, Exit.then]); refine bodyPost_ret (results_none rfl _ _ _) rfl ?_)
   exact ⟨rfl, hB.out.after G⟩
 · skip
   have hne : ¬ w.heap.size = a := by have := h.lt; omega
   have hx := Hz.mk h
   clear h
   go_enter Tryz.func114, Tryz.ntmps114
   go_upto_region 1 with fail
   refine wp_world (fun W => At W w.heap.size #[.int .u8 i.op, .int .i64 i.a, .int .i64 i.b, .int .i64 i.c, .int .u64 i.i] ∧ Gr w W) ⟨At.new w _ _, (Gr.refl _).alloc _⟩ ?_
   rintro W ⟨hA, G⟩
   generalize w.heap.size = kb at *
   replace hA := Hz.mk hA
   have KS := xk1 i kb
   have q0 : W.cell? ⟨kb, 0, none⟩ = some (.int .u8 i.op) := hA.out.2.1 0
   have q1 : W.cell? ⟨kb, 1, none⟩ = some (.int .i64 i.a) := hA.out.2.1 1
   have q2 : W.cell? ⟨kb, 2, none⟩ = some (.int .i64 i.b) := hA.out.2.1 2
   have q3 : W.cell? ⟨kb, 3, none⟩ = some (.int .i64 i.c) := hA.out.2.1 3
   have q4 : W.cell? ⟨kb, 4, none⟩ = some (.int .u64 i.i) := hA.out.2.1 4
   have hJ := Hz.mk (jmp_op a x i W (hx.out.gr G) hj)
   replace hj := Hz.mk hj
   go_wp2_with fail
   refine hJ.out.mono ?_
   rintro r V9 ⟨rfl, hB⟩
   replace hB := Hz.mk hB
   go_wp2_with fail
   first | go_end0 | ((try simp only [Exit.inBlock, Exit.then]); refine bodyPost_ret (results_none rfl _ _ _) rfl ?_)
   exact ⟨rfl, hB.out.after G⟩
theorem beq_op (a : Nat) (x : Fx) (i : Fi) (w : World) (h : Bx w a x) (ha : i.a < 16) (hb : i.b < 16) (hp : x.p ≤ 1000000) (hj : 0 ≤ i.i ∧ i.i < 1000) :
   Calls Tryz.prog 88 #[.agg #[.int .u8 i.op, .int .i64 i.a, .int .i64 i.b, .int .i64 i.c, .int .u64 i.i], .pointer (some ⟨a, 0, none⟩)] w fun r w' => r = .returned (.tuple #[]) ∧ Bo1 a (x.br ((x.r i.a == x.r i.b)) i.i.toNat) w w' := by
 replace hj := Hz.mk hj
 have hne : ¬ w.heap.size = a := by have := h.lt; omega
 have hx := Hz.mk h
 clear h
 go_enter Tryz.func88, Tryz.ntmps88
 go_upto_region 1 with fail
 refine wp_world (fun W => At W w.heap.size #[.int .u8 i.op, .int .i64 i.a, .int .i64 i.b, .int .i64 i.c, .int .u64 i.i] ∧ Gr w W) ⟨At.new w _ _, (Gr.refl _).alloc _⟩ ?_
 rintro W ⟨hA, G⟩
 generalize w.heap.size = kb at *
 replace hA := Hz.mk hA
 have KS := xk1 i kb
 have g0 : Gr W W.drew := (Gr.refl W).drew
 refine wp_region_held_drew (S := (fun W => W.rangeAt kb 0 (Fi.vals i) ∧ W.cell? ⟨kb, 1, none⟩ = some (.int .i64 i.a) ∧ W.cell? ⟨kb, 3, none⟩ = some (.int .i64 i.c) ∧ W.cell? ⟨kb, 4, none⟩ = some (.int .u64 i.i))) (by kernel_rfl) (KS.out _ (hA.out.gr g0)) (fun hHeld => ?_)
 refine xtk 0 rfl (yieldsIf_load_mid (by rfl) _ _ rfl _ _ rfl _ _ (fun _ h => h.1) Tryz.underlying101 rfl (by kernel_rfl)) ?_
 try simp only [xap]
 refine xso 1 ?_ rfl ?_ (xso 2 ?_ rfl ?_ ?_)
 iterate 2 (rotate_left; focus ((try simp only [xap]); intro w hSw; (try dsimp only at hSw); go_simp; first | done | with_reducible rfl))
 try simp only [xap]
 refine xtk 3 rfl (yieldsIf_load_mid (by rfl) _ _ rfl _ _ rfl _ _ (fun _ h => h.1) Tryz.underlying101 rfl (by kernel_rfl)) ?_
 try simp only [xap]
 refine xso 5 ?_ rfl ?_ ?_
 rotate_left
 · intro w hSw; (try dsimp only at hSw); go_simp; first | done | with_reducible rfl
 try simp only [xap]
 refine xtk 6 rfl (yieldsIf_load_mid (by rfl) _ _ rfl _ _ rfl _ _ (fun _ h => h.1) Tryz.underlying101 rfl (by kernel_rfl)) ?_
 try simp only [xap]
 refine xrd 4 rfl (fun K hK => ?_)
 go_simp
 go_wp2_with (refine (a_any a x i _ ((hx.out.gr G).gr g0) ha).mono ?_; rintro r V1 ⟨rfl, gg⟩; have g1 := g0.trans gg; clear gg g0 hHeld)
 refine hK.out _ _ (KS.out _ (hA.out.gr g1)) (fun hHeld => ?_)
 clear hK K
 try simp only [xap]
 refine xrd 7 rfl (fun K hK => ?_)
 go_simp
 go_wp2_with (refine (b_any a x i _ ((hx.out.gr G).gr g1) hb).mono ?_; rintro r V2 ⟨rfl, gg⟩; have g2 := g1.trans gg; clear gg g1 hHeld)
 refine hK.out _ _ (KS.out _ (hA.out.gr g2)) (fun hHeld => ?_)
 clear hK K
 try simp only [xap]
 refine xso 8 ?_ rfl ?_ ?_
 rotate_left
 · intro w hSw; (try dsimp only at hSw); go_simp; first | done | with_reducible rfl
 try simp only [xap]
 refine xrd 9 rfl (fun K hK => ?_)
 go_simp
 go_wp2_with (refine (branch_any a x i _ ((hx.out.gr G).gr g2) _ hp hj.out).mono ?_; rintro r V9 ⟨rfl, hB⟩; clear hHeld)
 refine hK.out _ _ (KS.out _ (T.at_kp (hA.out.gr g2) hB.2 hne)) (fun hHeld => ?_)
 clear hK K
 try simp only [xap]
 refine xdn ?_ _
 clear hHeld
 go_wp2_with fail
 first | go_end0 | ((try simp only [Exit.inBlock, Exit.then]); refine bodyPost_ret (results_none rfl _ _ _) rfl ?_)
 exact ⟨rfl, hB.after (G.trans g2)⟩
theorem bne_op (a : Nat) (x : Fx) (i : Fi) (w : World) (h : Bx w a x) (ha : i.a < 16) (hb : i.b < 16) (hp : x.p ≤ 1000000) (hj : 0 ≤ i.i ∧ i.i < 1000) :
   Calls Tryz.prog 89 #[.agg #[.int .u8 i.op, .int .i64 i.a, .int .i64 i.b, .int .i64 i.c, .int .u64 i.i], .pointer (some ⟨a, 0, none⟩)] w fun r w' => r = .returned (.tuple #[]) ∧ Bo1 a (x.br ((x.r i.a != x.r i.b)) i.i.toNat) w w' := by
 replace hj := Hz.mk hj
 have hne : ¬ w.heap.size = a := by have := h.lt; omega
 have hx := Hz.mk h
 clear h
 go_enter Tryz.func89, Tryz.ntmps89
 go_upto_region 1 with fail
 refine wp_world (fun W => At W w.heap.size #[.int .u8 i.op, .int .i64 i.a, .int .i64 i.b, .int .i64 i.c, .int .u64 i.i] ∧ Gr w W) ⟨At.new w _ _, (Gr.refl _).alloc _⟩ ?_
 rintro W ⟨hA, G⟩
 generalize w.heap.size = kb at *
 replace hA := Hz.mk hA
 have KS := xk1 i kb
 have g0 : Gr W W.drew := (Gr.refl W).drew
 refine wp_region_held_drew (S := (fun W => W.rangeAt kb 0 (Fi.vals i) ∧ W.cell? ⟨kb, 1, none⟩ = some (.int .i64 i.a) ∧ W.cell? ⟨kb, 3, none⟩ = some (.int .i64 i.c) ∧ W.cell? ⟨kb, 4, none⟩ = some (.int .u64 i.i))) (by kernel_rfl) (KS.out _ (hA.out.gr g0)) (fun hHeld => ?_)
 refine xtk 0 rfl (yieldsIf_load_mid (by rfl) _ _ rfl _ _ rfl _ _ (fun _ h => h.1) Tryz.underlying101 rfl (by kernel_rfl)) ?_
 try simp only [xap]
 refine xso 1 ?_ rfl ?_ (xso 2 ?_ rfl ?_ ?_)
 iterate 2 (rotate_left; focus ((try simp only [xap]); intro w hSw; (try dsimp only at hSw); go_simp; first | done | with_reducible rfl))
 try simp only [xap]
 refine xtk 3 rfl (yieldsIf_load_mid (by rfl) _ _ rfl _ _ rfl _ _ (fun _ h => h.1) Tryz.underlying101 rfl (by kernel_rfl)) ?_
 try simp only [xap]
 refine xso 5 ?_ rfl ?_ ?_
 rotate_left
 · intro w hSw; (try dsimp only at hSw); go_simp; first | done | with_reducible rfl
 try simp only [xap]
 refine xtk 6 rfl (yieldsIf_load_mid (by rfl) _ _ rfl _ _ rfl _ _ (fun _ h => h.1) Tryz.underlying101 rfl (by kernel_rfl)) ?_
 try simp only [xap]
 refine xrd 4 rfl (fun K hK => ?_)
 go_simp
 go_wp2_with (refine (a_any a x i _ ((hx.out.gr G).gr g0) ha).mono ?_; rintro r V1 ⟨rfl, gg⟩; have g1 := g0.trans gg; clear gg g0 hHeld)
 refine hK.out _ _ (KS.out _ (hA.out.gr g1)) (fun hHeld => ?_)
 clear hK K
 try simp only [xap]
 refine xrd 7 rfl (fun K hK => ?_)
 go_simp
 go_wp2_with (refine (b_any a x i _ ((hx.out.gr G).gr g1) hb).mono ?_; rintro r V2 ⟨rfl, gg⟩; have g2 := g1.trans gg; clear gg g1 hHeld)
 refine hK.out _ _ (KS.out _ (hA.out.gr g2)) (fun hHeld => ?_)
 clear hK K
 try simp only [xap]
 refine xso 8 ?_ rfl ?_ ?_
 rotate_left
 · intro w hSw; (try dsimp only at hSw); go_simp; first | done | with_reducible rfl
 try simp only [xap]
 refine xrd 9 rfl (fun K hK => ?_)
 go_simp
 go_wp2_with (refine (branch_any a x i _ ((hx.out.gr G).gr g2) _ hp hj.out).mono ?_; rintro r V9 ⟨rfl, hB⟩; clear hHeld)
 refine hK.out _ _ (KS.out _ (T.at_kp (hA.out.gr g2) hB.2 hne)) (fun hHeld => ?_)
 clear hK K
 try simp only [xap]
 refine xdn ?_ _
 clear hHeld
 go_wp2_with fail
 first | go_end0 | ((try simp only [Exit.inBlock, Exit.then]); refine bodyPost_ret (results_none rfl _ _ _) rfl ?_)
 exact ⟨rfl, hB.after (G.trans g2)⟩
theorem blt_op (a : Nat) (x : Fx) (i : Fi) (w : World) (h : Bx w a x) (ha : i.a < 16) (hb : i.b < 16) (hp : x.p ≤ 1000000) (hj : 0 ≤ i.i ∧ i.i < 1000) :
   Calls Tryz.prog 90 #[.agg #[.int .u8 i.op, .int .i64 i.a, .int .i64 i.b, .int .i64 i.c, .int .u64 i.i], .pointer (some ⟨a, 0, none⟩)] w fun r w' => r = .returned (.tuple #[]) ∧ Bo1 a (x.br (decide (x.r i.a < x.r i.b)) i.i.toNat) w w' := by
 replace hj := Hz.mk hj
 have hne : ¬ w.heap.size = a := by have := h.lt; omega
 have hx := Hz.mk h
 clear h
 go_enter Tryz.func90, Tryz.ntmps90
 go_upto_region 1 with fail
 refine wp_world (fun W => At W w.heap.size #[.int .u8 i.op, .int .i64 i.a, .int .i64 i.b, .int .i64 i.c, .int .u64 i.i] ∧ Gr w W) ⟨At.new w _ _, (Gr.refl _).alloc _⟩ ?_
 rintro W ⟨hA, G⟩
 generalize w.heap.size = kb at *
 replace hA := Hz.mk hA
 have KS := xk1 i kb
 have g0 : Gr W W.drew := (Gr.refl W).drew
 refine wp_region_held_drew (S := (fun W => W.rangeAt kb 0 (Fi.vals i) ∧ W.cell? ⟨kb, 1, none⟩ = some (.int .i64 i.a) ∧ W.cell? ⟨kb, 3, none⟩ = some (.int .i64 i.c) ∧ W.cell? ⟨kb, 4, none⟩ = some (.int .u64 i.i))) (by kernel_rfl) (KS.out _ (hA.out.gr g0)) (fun hHeld => ?_)
 refine xtk 0 rfl (yieldsIf_load_mid (by rfl) _ _ rfl _ _ rfl _ _ (fun _ h => h.1) Tryz.underlying101 rfl (by kernel_rfl)) ?_
 try simp only [xap]
 refine xso 1 ?_ rfl ?_ (xso 2 ?_ rfl ?_ ?_)
 iterate 2 (rotate_left; focus ((try simp only [xap]); intro w hSw; (try dsimp only at hSw); go_simp; first | done | with_reducible rfl))
 try simp only [xap]
 refine xtk 3 rfl (yieldsIf_load_mid (by rfl) _ _ rfl _ _ rfl _ _ (fun _ h => h.1) Tryz.underlying101 rfl (by kernel_rfl)) ?_
 try simp only [xap]
 refine xso 5 ?_ rfl ?_ ?_
 rotate_left
 · intro w hSw; (try dsimp only at hSw); go_simp; first | done | with_reducible rfl
 try simp only [xap]
 refine xtk 6 rfl (yieldsIf_load_mid (by rfl) _ _ rfl _ _ rfl _ _ (fun _ h => h.1) Tryz.underlying101 rfl (by kernel_rfl)) ?_
 try simp only [xap]
 refine xrd 4 rfl (fun K hK => ?_)
 go_simp
 go_wp2_with (refine (a_any a x i _ ((hx.out.gr G).gr g0) ha).mono ?_; rintro r V1 ⟨rfl, gg⟩; have g1 := g0.trans gg; clear gg g0 hHeld)
 refine hK.out _ _ (KS.out _ (hA.out.gr g1)) (fun hHeld => ?_)
 clear hK K
 try simp only [xap]
 refine xrd 7 rfl (fun K hK => ?_)
 go_simp
 go_wp2_with (refine (b_any a x i _ ((hx.out.gr G).gr g1) hb).mono ?_; rintro r V2 ⟨rfl, gg⟩; have g2 := g1.trans gg; clear gg g1 hHeld)
 refine hK.out _ _ (KS.out _ (hA.out.gr g2)) (fun hHeld => ?_)
 clear hK K
 try simp only [xap]
 refine xso 8 ?_ rfl ?_ ?_
 rotate_left
 · intro w hSw; (try dsimp only at hSw); go_simp; first | done | with_reducible rfl
 try simp only [xap]
 refine xrd 9 rfl (fun K hK => ?_)
 go_simp
 go_wp2_with (refine (branch_any a x i _ ((hx.out.gr G).gr g2) _ hp hj.out).mono ?_; rintro r V9 ⟨rfl, hB⟩; clear hHeld)
 refine hK.out _ _ (KS.out _ (T.at_kp (hA.out.gr g2) hB.2 hne)) (fun hHeld => ?_)
 clear hK K
 try simp only [xap]
 refine xdn ?_ _
 clear hHeld
 go_wp2_with fail
 first | go_end0 | ((try simp only [Exit.inBlock, Exit.then]); refine bodyPost_ret (results_none rfl _ _ _) rfl ?_)
 exact ⟨rfl, hB.after (G.trans g2)⟩
theorem bge_op (a : Nat) (x : Fx) (i : Fi) (w : World) (h : Bx w a x) (ha : i.a < 16) (hb : i.b < 16) (hp : x.p ≤ 1000000) (hj : 0 ≤ i.i ∧ i.i < 1000) :
   Calls Tryz.prog 91 #[.agg #[.int .u8 i.op, .int .i64 i.a, .int .i64 i.b, .int .i64 i.c, .int .u64 i.i], .pointer (some ⟨a, 0, none⟩)] w fun r w' => r = .returned (.tuple #[]) ∧ Bo1 a (x.br (decide (x.r i.b ≤ x.r i.a)) i.i.toNat) w w' := by
 replace hj := Hz.mk hj
 have hne : ¬ w.heap.size = a := by have := h.lt; omega
 have hx := Hz.mk h
 clear h
 go_enter Tryz.func91, Tryz.ntmps91
 go_upto_region 1 with fail
 refine wp_world (fun W => At W w.heap.size #[.int .u8 i.op, .int .i64 i.a, .int .i64 i.b, .int .i64 i.c, .int .u64 i.i] ∧ Gr w W) ⟨At.new w _ _, (Gr.refl _).alloc _⟩ ?_
 rintro W ⟨hA, G⟩
 generalize w.heap.size = kb at *
 replace hA := Hz.mk hA
 have KS := xk1 i kb
 have g0 : Gr W W.drew := (Gr.refl W).drew
 refine wp_region_held_drew (S := (fun W => W.rangeAt kb 0 (Fi.vals i) ∧ W.cell? ⟨kb, 1, none⟩ = some (.int .i64 i.a) ∧ W.cell? ⟨kb, 3, none⟩ = some (.int .i64 i.c) ∧ W.cell? ⟨kb, 4, none⟩ = some (.int .u64 i.i))) (by kernel_rfl) (KS.out _ (hA.out.gr g0)) (fun hHeld => ?_)
 refine xtk 0 rfl (yieldsIf_load_mid (by rfl) _ _ rfl _ _ rfl _ _ (fun _ h => h.1) Tryz.underlying101 rfl (by kernel_rfl)) ?_
 try simp only [xap]
 refine xso 1 ?_ rfl ?_ (xso 2 ?_ rfl ?_ ?_)
 iterate 2 (rotate_left; focus ((try simp only [xap]); intro w hSw; (try dsimp only at hSw); go_simp; first | done | with_reducible rfl))
 try simp only [xap]
 refine xtk 3 rfl (yieldsIf_load_mid (by rfl) _ _ rfl _ _ rfl _ _ (fun _ h => h.1) Tryz.underlying101 rfl (by kernel_rfl)) ?_
 try simp only [xap]
 refine xso 5 ?_ rfl ?_ ?_
 rotate_left
 · intro w hSw; (try dsimp only at hSw); go_simp; first | done | with_reducible rfl
 try simp only [xap]
 refine xtk 6 rfl (yieldsIf_load_mid (by rfl) _ _ rfl _ _ rfl _ _ (fun _ h => h.1) Tryz.underlying101 rfl (by kernel_rfl)) ?_
 try simp only [xap]
 refine xrd 4 rfl (fun K hK => ?_)
 go_simp
 go_wp2_with (refine (a_any a x i _ ((hx.out.gr G).gr g0) ha).mono ?_; rintro r V1 ⟨rfl, gg⟩; have g1 := g0.trans gg; clear gg g0 hHeld)
 refine hK.out _ _ (KS.out _ (hA.out.gr g1)) (fun hHeld => ?_)
 clear hK K
 try simp only [xap]
 refine xrd 7 rfl (fun K hK => ?_)
 go_simp
 go_wp2_with (refine (b_any a x i _ ((hx.out.gr G).gr g1) hb).mono ?_; rintro r V2 ⟨rfl, gg⟩; have g2 := g1.trans gg; clear gg g1 hHeld)
 refine hK.out _ _ (KS.out _ (hA.out.gr g2)) (fun hHeld => ?_)
 clear hK K
 try simp only [xap]
 refine xso 8 ?_ rfl ?_ ?_
 rotate_left
 · intro w hSw; (try dsimp only at hSw); go_simp; first | done | with_reducible rfl
 try simp only [xap]
 refine xrd 9 rfl (fun K hK => ?_)
 go_simp
 go_wp2_with (refine (branch_any a x i _ ((hx.out.gr G).gr g2) _ hp hj.out).mono ?_; rintro r V9 ⟨rfl, hB⟩; clear hHeld)
 refine hK.out _ _ (KS.out _ (T.at_kp (hA.out.gr g2) hB.2 hne)) (fun hHeld => ?_)
 clear hK K
 try simp only [xap]
 refine xdn ?_ _
 clear hHeld
 go_wp2_with fail
 first | go_end0 | ((try simp only [Exit.inBlock, Exit.then]); refine bodyPost_ret (results_none rfl _ _ _) rfl ?_)
 exact ⟨rfl, hB.after (G.trans g2)⟩
theorem guardBelow_op (a : Nat) (x : Fx) (i : Fi) (w : World) (h : Bx w a x) (ha : i.a < 16) (hp : x.p ≤ 1000000) :
   Calls Tryz.prog 104 #[.agg #[.int .u8 i.op, .int .i64 i.a, .int .i64 i.b, .int .i64 i.c, .int .u64 i.i], .pointer (some ⟨a, 0, none⟩)] w fun r w' => r = .returned (.tuple #[]) ∧ Bo1 a (x.dm (decide (x.r i.a < i.i)) (IntKind.u64.wrap i.c)) w w' := by
 have hne : ¬ w.heap.size = a := by have := h.lt; omega
 have hx := Hz.mk h
 clear h
 go_enter Tryz.func104, Tryz.ntmps104
 go_upto_region 1 with fail
 refine wp_world (fun W => At W w.heap.size #[.int .u8 i.op, .int .i64 i.a, .int .i64 i.b, .int .i64 i.c, .int .u64 i.i] ∧ Gr w W) ⟨At.new w _ _, (Gr.refl _).alloc _⟩ ?_
 rintro W ⟨hA, G⟩
 generalize w.heap.size = kb at *
 replace hA := Hz.mk hA
 have KS := xk1 i kb
 have g0 : Gr W W.drew := (Gr.refl W).drew
 refine wp_region_held_drew (S := (fun W => W.rangeAt kb 0 (Fi.vals i) ∧ W.cell? ⟨kb, 1, none⟩ = some (.int .i64 i.a) ∧ W.cell? ⟨kb, 3, none⟩ = some (.int .i64 i.c) ∧ W.cell? ⟨kb, 4, none⟩ = some (.int .u64 i.i))) (by kernel_rfl) (KS.out _ (hA.out.gr g0)) (fun hHeld => ?_)
 refine xtk 0 rfl (yieldsIf_load_mid (by rfl) _ _ rfl _ _ rfl _ _ (fun _ h => h.1) Tryz.underlying101 rfl (by kernel_rfl)) ?_
 try simp only [xap]
 refine xso 1 ?_ rfl ?_ (xso 2 ?_ rfl ?_ ?_)
 iterate 2 (rotate_left; focus ((try simp only [xap]); intro w hSw; (try dsimp only at hSw); go_simp; first | done | with_reducible rfl))
 try simp only [xap]
 refine xtk 3 rfl (yieldsIf_load_mid (by rfl) _ _ rfl _ _ rfl _ _ (fun _ h => h.1) Tryz.underlying101 rfl (by kernel_rfl)) ?_
 try simp only [xap]
 refine xso 5 ?_ rfl ?_ (xso 6 ?_ rfl ?_ ?_)
 iterate 2 (rotate_left; focus ((try simp only [xap]); intro w hSw; (try dsimp only at hSw); go_simp; first | done | with_reducible rfl))
 try simp only [xap]
 refine xrd 4 rfl (fun K hK => ?_)
 go_simp
 go_wp2_with (refine (a_any a x i _ ((hx.out.gr G).gr g0) ha).mono ?_; rintro r V1 ⟨rfl, gg⟩; have g1 := g0.trans gg; clear gg g0 hHeld)
 refine hK.out _ _ (KS.out _ (hA.out.gr g1)) (fun hHeld => ?_)
 clear hK K
 try simp only [xap]
 refine xso 7 ?_ rfl ?_ ?_
 rotate_left
 · intro w hSw; (try dsimp only at hSw); go_simp; first | done | with_reducible rfl
 try simp only [xap]
 refine xrd 8 rfl (fun K hK => ?_)
 go_simp
 go_wp2_with (refine (demand_any a x i _ ((hx.out.gr G).gr g1) _ hp).mono ?_; rintro r V9 ⟨rfl, hB⟩; clear hHeld)
 refine hK.out _ _ (KS.out _ (T.at_kp (hA.out.gr g1) hB.2 hne)) (fun hHeld => ?_)
 clear hK K
 try simp only [xap]
 refine xdn ?_ _
 clear hHeld
 go_wp2_with fail
 first | go_end0 | ((try simp only [Exit.inBlock, Exit.then]); refine bodyPost_ret (results_none rfl _ _ _) rfl ?_)
 exact ⟨rfl, hB.after (G.trans g1)⟩
theorem guardNotBelow_op (a : Nat) (x : Fx) (i : Fi) (w : World) (h : Bx w a x) (ha : i.a < 16) (hp : x.p ≤ 1000000) :
   Calls Tryz.prog 105 #[.agg #[.int .u8 i.op, .int .i64 i.a, .int .i64 i.b, .int .i64 i.c, .int .u64 i.i], .pointer (some ⟨a, 0, none⟩)] w fun r w' => r = .returned (.tuple #[]) ∧ Bo1 a (x.dm (decide (i.i ≤ x.r i.a)) (IntKind.u64.wrap i.c)) w w' := by
 have hne : ¬ w.heap.size = a := by have := h.lt; omega
 have hx := Hz.mk h
 clear h
 go_enter Tryz.func105, Tryz.ntmps105
 go_upto_region 1 with fail
 refine wp_world (fun W => At W w.heap.size #[.int .u8 i.op, .int .i64 i.a, .int .i64 i.b, .int .i64 i.c, .int .u64 i.i] ∧ Gr w W) ⟨At.new w _ _, (Gr.refl _).alloc _⟩ ?_
 rintro W ⟨hA, G⟩
 generalize w.heap.size = kb at *
 replace hA := Hz.mk hA
 have KS := xk1 i kb
 have g0 : Gr W W.drew := (Gr.refl W).drew
 refine wp_region_held_drew (S := (fun W => W.rangeAt kb 0 (Fi.vals i) ∧ W.cell? ⟨kb, 1, none⟩ = some (.int .i64 i.a) ∧ W.cell? ⟨kb, 3, none⟩ = some (.int .i64 i.c) ∧ W.cell? ⟨kb, 4, none⟩ = some (.int .u64 i.i))) (by kernel_rfl) (KS.out _ (hA.out.gr g0)) (fun hHeld => ?_)
 refine xtk 0 rfl (yieldsIf_load_mid (by rfl) _ _ rfl _ _ rfl _ _ (fun _ h => h.1) Tryz.underlying101 rfl (by kernel_rfl)) ?_
 try simp only [xap]
 refine xso 1 ?_ rfl ?_ (xso 2 ?_ rfl ?_ ?_)
 iterate 2 (rotate_left; focus ((try simp only [xap]); intro w hSw; (try dsimp only at hSw); go_simp; first | done | with_reducible rfl))
 try simp only [xap]
 refine xtk 3 rfl (yieldsIf_load_mid (by rfl) _ _ rfl _ _ rfl _ _ (fun _ h => h.1) Tryz.underlying101 rfl (by kernel_rfl)) ?_
 try simp only [xap]
 refine xso 5 ?_ rfl ?_ (xso 6 ?_ rfl ?_ ?_)
 iterate 2 (rotate_left; focus ((try simp only [xap]); intro w hSw; (try dsimp only at hSw); go_simp; first | done | with_reducible rfl))
 try simp only [xap]
 refine xrd 4 rfl (fun K hK => ?_)
 go_simp
 go_wp2_with (refine (a_any a x i _ ((hx.out.gr G).gr g0) ha).mono ?_; rintro r V1 ⟨rfl, gg⟩; have g1 := g0.trans gg; clear gg g0 hHeld)
 refine hK.out _ _ (KS.out _ (hA.out.gr g1)) (fun hHeld => ?_)
 clear hK K
 try simp only [xap]
 refine xso 7 ?_ rfl ?_ ?_
 rotate_left
 · intro w hSw; (try dsimp only at hSw); go_simp; first | done | with_reducible rfl
 try simp only [xap]
 refine xrd 8 rfl (fun K hK => ?_)
 go_simp
 go_wp2_with (refine (demand_any a x i _ ((hx.out.gr G).gr g1) _ hp).mono ?_; rintro r V9 ⟨rfl, hB⟩; clear hHeld)
 refine hK.out _ _ (KS.out _ (T.at_kp (hA.out.gr g1) hB.2 hne)) (fun hHeld => ?_)
 clear hK K
 try simp only [xap]
 refine xdn ?_ _
 clear hHeld
 go_wp2_with fail
 first | go_end0 | ((try simp only [Exit.inBlock, Exit.then]); refine bodyPost_ret (results_none rfl _ _ _) rfl ?_)
 exact ⟨rfl, hB.after (G.trans g1)⟩
theorem guard_op (a : Nat) (x : Fx) (i : Fi) (w : World) (h : Bx w a x) (hp : x.p ≤ 1000000) :
   Calls Tryz.prog 106 #[.agg #[.int .u8 i.op, .int .i64 i.a, .int .i64 i.b, .int .i64 i.c, .int .u64 i.i], .pointer (some ⟨a, 0, none⟩)] w fun r w' => r = .returned (.tuple #[]) ∧ Bo1 a (x.fin 2 (IntKind.u64.wrap i.c) 0) w w' := by
 have hne : ¬ w.heap.size = a := by have := h.lt; omega
 have hx := Hz.mk h
 clear h
 go_enter Tryz.func106, Tryz.ntmps106
 go_upto_region 1 with fail
 refine wp_world (fun W => At W w.heap.size #[.int .u8 i.op, .int .i64 i.a, .int .i64 i.b, .int .i64 i.c, .int .u64 i.i] ∧ Gr w W) ⟨At.new w _ _, (Gr.refl _).alloc _⟩ ?_
 rintro W ⟨hA, G⟩
 generalize w.heap.size = kb at *
 replace hA := Hz.mk hA
 have KS := xk1 i kb
 have q0 : W.cell? ⟨kb, 0, none⟩ = some (.int .u8 i.op) := hA.out.2.1 0
 have q1 : W.cell? ⟨kb, 1, none⟩ = some (.int .i64 i.a) := hA.out.2.1 1
 have q2 : W.cell? ⟨kb, 2, none⟩ = some (.int .i64 i.b) := hA.out.2.1 2
 have q3 : W.cell? ⟨kb, 3, none⟩ = some (.int .i64 i.c) := hA.out.2.1 3
 have q4 : W.cell? ⟨kb, 4, none⟩ = some (.int .u64 i.i) := hA.out.2.1 4
 go_wp2_with fail
 refine (demand_any a x i _ (hx.out.gr G) false hp).mono ?_
 rintro r V9 ⟨rfl, hB⟩
 replace hB := Hz.mk hB
 go_wp2_with fail
 first | go_end0 | ((try simp only [Exit.inBlock, Exit.then]); refine bodyPost_ret (results_none rfl _ _ _) rfl ?_)
 exact ⟨rfl, hB.out.after G⟩
end Z
end Go.Proofs.YthfphgjjieddjaaGreat
