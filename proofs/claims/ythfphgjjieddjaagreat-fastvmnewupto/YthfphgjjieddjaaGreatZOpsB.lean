import Derived.Test.YthfphgjjieddjaaGreatZLeaf
namespace Go.Proofs.YthfphgjjieddjaaGreat
set_option maxRecDepth 100000
set_option maxHeartbeats 40000000
namespace Z
open Go.RowKit
open T (Sep Ob Kp Mf FlIn)

theorem slt_op (a : Nat) (x : Fx) (i : Fi) (w : World) (h : Bx w a x) (ha : i.a < 16) (hb : i.b < 16) (hc : i.c < 16) (hp : x.p ≤ 1000000) :
   Calls Tryz.prog 84 #[.agg #[.int .u8 i.op, .int .i64 i.a, .int .i64 i.b, .int .i64 i.c, .int .u64 i.i], .pointer (some ⟨a, 0, none⟩)] w fun r w' => r = .returned (.tuple #[]) ∧ Bo1 a (x.lay i.a (if x.r i.b < x.r i.c then 1 else 0)) w w' := by
 by_cases hq : x.r i.b < x.r i.c
 · rw [if_pos hq]
   have hne : ¬ w.heap.size = a := by have := h.lt; omega
   have hx := Hz.mk h
   clear h
   go_enter Tryz.func84, Tryz.ntmps84
   go_upto_region 1 with fail
   refine wp_world (fun W => At W w.heap.size #[.int .u8 i.op, .int .i64 i.a, .int .i64 i.b, .int .i64 i.c, .int .u64 i.i] ∧ Gr w W) ⟨At.new w _ _, (Gr.refl _).alloc _⟩ ?_
   rintro W ⟨hA, G⟩
   generalize w.heap.size = kb at *
   replace hA := Hz.mk hA
   have KS := xk1 i kb
   have g0 : Gr W W.drew := (Gr.refl W).drew
   refine wp_region_held_drew (S := (fun W => W.rangeAt kb 0 (Fi.vals i) ∧ W.cell? ⟨kb, 1, none⟩ = some (.int .i64 i.a) ∧ W.cell? ⟨kb, 3, none⟩ = some (.int .i64 i.c) ∧ W.cell? ⟨kb, 4, none⟩ = some (.int .u64 i.i))) (by kernel_rfl) (KS.out _ (hA.out.gr g0)) (fun hHeld => ?_)
   refine xso 0 ?_ rfl ?_ (xso 1 ?_ rfl ?_ (xso 2 ?_ rfl ?_ (xso 3 ?_ rfl ?_ ?_)))
   iterate 4 (rotate_left; focus ((try simp only [xap]); intro w hSw; (try dsimp only at hSw); go_simp; first | done | with_reducible rfl))
   try simp only [xap]
   refine xtk 4 rfl (yieldsIf_load_mid (by rfl) _ _ rfl _ _ rfl _ _ (fun _ h => h.1) Tryz.underlying101 rfl (by kernel_rfl)) ?_
   try simp only [xap]
   refine xso 6 ?_ rfl ?_ ?_
   rotate_left
   · intro w hSw; (try dsimp only at hSw); go_simp; first | done | with_reducible rfl
   try simp only [xap]
   refine xtk 7 rfl (yieldsIf_load_mid (by rfl) _ _ rfl _ _ rfl _ _ (fun _ h => h.1) Tryz.underlying101 rfl (by kernel_rfl)) ?_
   try simp only [xap]
   refine xrd 5 rfl (fun K hK => ?_)
   go_simp
   go_wp2_with (refine (b_any a x i _ ((hx.out.gr G).gr g0) hb).mono ?_; rintro r V1 ⟨rfl, gg⟩; have g1 := g0.trans gg; clear gg g0 hHeld)
   refine hK.out _ _ (KS.out _ (hA.out.gr g1)) (fun hHeld => ?_)
   clear hK K
   try simp only [xap]
   refine xrd 8 rfl (fun K hK => ?_)
   go_simp
   go_wp2_with (refine (c_any a x i _ ((hx.out.gr G).gr g1) hc).mono ?_; rintro r V2 ⟨rfl, gg⟩; have g2 := g1.trans gg; clear gg g1 hHeld)
   refine hK.out _ _ (KS.out _ (hA.out.gr g2)) (fun hHeld => ?_)
   clear hK K
   try simp only [xap]
   refine xso 9 ?_ rfl ?_ ?_
   rotate_left
   · intro w hSw; (try dsimp only at hSw); go_simp; first | done | with_reducible rfl
   try simp only [xap]
   refine xrd 10 rfl (fun K hK => ?_)
   go_simp
   go_wp2_with (refine (told_any _ _).mono ?_; rintro r V3 ⟨rfl, e1⟩; subst e1; have g3 := g2; clear g2 hHeld)
   refine hK.out _ _ (KS.out _ (hA.out.gr g3)) (fun hHeld => ?_)
   clear hK K
   try simp only [xap]
   refine xrd 11 rfl (fun K hK => ?_)
   go_simp
   go_wp2_with (refine (lay_any a x i.a _ _ ((hx.out.gr G).gr g3) ha hp).mono ?_; rintro r V9 ⟨rfl, hB⟩; clear hHeld)
   refine hK.out _ _ (KS.out _ (T.at_kp (hA.out.gr g3) hB.2 hne)) (fun hHeld => ?_)
   clear hK K
   try simp only [xap]
   refine xdn ?_ _
   clear hHeld
   go_wp2_with fail
   first | go_end0 | ((try simp only [Exit.inBlock, Exit.then]); refine bodyPost_ret (results_none rfl _ _ _) rfl ?_)
   exact ⟨rfl, hB.after (G.trans g3)⟩
 · rw [if_neg hq]
   have hne : ¬ w.heap.size = a := by have := h.lt; omega
   have hx := Hz.mk h
   clear h
   go_enter Tryz.func84, Tryz.ntmps84
   go_upto_region 1 with fail
   refine wp_world (fun W => At W w.heap.size #[.int .u8 i.op, .int .i64 i.a, .int .i64 i.b, .int .i64 i.c, .int .u64 i.i] ∧ Gr w W) ⟨At.new w _ _, (Gr.refl _).alloc _⟩ ?_
   rintro W ⟨hA, G⟩
   generalize w.heap.size = kb at *
   replace hA := Hz.mk hA
   have KS := xk1 i kb
   have g0 : Gr W W.drew := (Gr.refl W).drew
   refine wp_region_held_drew (S := (fun W => W.rangeAt kb 0 (Fi.vals i) ∧ W.cell? ⟨kb, 1, none⟩ = some (.int .i64 i.a) ∧ W.cell? ⟨kb, 3, none⟩ = some (.int .i64 i.c) ∧ W.cell? ⟨kb, 4, none⟩ = some (.int .u64 i.i))) (by kernel_rfl) (KS.out _ (hA.out.gr g0)) (fun hHeld => ?_)
   refine xso 0 ?_ rfl ?_ (xso 1 ?_ rfl ?_ (xso 2 ?_ rfl ?_ (xso 3 ?_ rfl ?_ ?_)))
   iterate 4 (rotate_left; focus ((try simp only [xap]); intro w hSw; (try dsimp only at hSw); go_simp; first | done | with_reducible rfl))
   try simp only [xap]
   refine xtk 4 rfl (yieldsIf_load_mid (by rfl) _ _ rfl _ _ rfl _ _ (fun _ h => h.1) Tryz.underlying101 rfl (by kernel_rfl)) ?_
   try simp only [xap]
   refine xso 6 ?_ rfl ?_ ?_
   rotate_left
   · intro w hSw; (try dsimp only at hSw); go_simp; first | done | with_reducible rfl
   try simp only [xap]
   refine xtk 7 rfl (yieldsIf_load_mid (by rfl) _ _ rfl _ _ rfl _ _ (fun _ h => h.1) Tryz.underlying101 rfl (by kernel_rfl)) ?_
   try simp only [xap]
   refine xrd 5 rfl (fun K hK => ?_)
   go_simp
   go_wp2_with (refine (b_any a x i _ ((hx.out.gr G).gr g0) hb).mono ?_; rintro r V1 ⟨rfl, gg⟩; have g1 := g0.trans gg; clear gg g0 hHeld)
   refine hK.out _ _ (KS.out _ (hA.out.gr g1)) (fun hHeld => ?_)
   clear hK K
   try simp only [xap]
   refine xrd 8 rfl (fun K hK => ?_)
   go_simp
   go_wp2_with (refine (c_any a x i _ ((hx.out.gr G).gr g1) hc).mono ?_; rintro r V2 ⟨rfl, gg⟩; have g2 := g1.trans gg; clear gg g1 hHeld)
   refine hK.out _ _ (KS.out _ (hA.out.gr g2)) (fun hHeld => ?_)
   clear hK K
   try simp only [xap]
   refine xso 9 ?_ rfl ?_ ?_
   rotate_left
   · intro w hSw; (try dsimp only at hSw); go_simp; first | done | with_reducible rfl
   try simp only [xap]
   refine xrd 10 rfl (fun K hK => ?_)
   go_simp
   go_wp2_with (refine (told_any _ _).mono ?_; rintro r V3 ⟨rfl, e1⟩; subst e1; have g3 := g2; clear g2 hHeld)
   refine hK.out _ _ (KS.out _ (hA.out.gr g3)) (fun hHeld => ?_)
   clear hK K
   try simp only [xap]
   refine xrd 11 rfl (fun K hK => ?_)
   go_simp
   go_wp2_with (refine (lay_any a x i.a _ _ ((hx.out.gr G).gr g3) ha hp).mono ?_; rintro r V9 ⟨rfl, hB⟩; clear hHeld)
   refine hK.out _ _ (KS.out _ (T.at_kp (hA.out.gr g3) hB.2 hne)) (fun hHeld => ?_)
   clear hK K
   try simp only [xap]
   refine xdn ?_ _
   clear hHeld
   go_wp2_with fail
   first | go_end0 | ((try simp only [Exit.inBlock, Exit.then]); refine bodyPost_ret (results_none rfl _ _ _) rfl ?_)
   exact ⟨rfl, hB.after (G.trans g3)⟩
theorem seq_op (a : Nat) (x : Fx) (i : Fi) (w : World) (h : Bx w a x) (ha : i.a < 16) (hb : i.b < 16) (hc : i.c < 16) (hp : x.p ≤ 1000000) :
   Calls Tryz.prog 85 #[.agg #[.int .u8 i.op, .int .i64 i.a, .int .i64 i.b, .int .i64 i.c, .int .u64 i.i], .pointer (some ⟨a, 0, none⟩)] w fun r w' => r = .returned (.tuple #[]) ∧ Bo1 a (x.lay i.a (if x.r i.b = x.r i.c then 1 else 0)) w w' := by
 by_cases hq : x.r i.b = x.r i.c
 · rw [if_pos hq]
   have hq2 : (x.r i.b == x.r i.c) = true := by simpa using hq
   replace hq := Hz.mk hq
   have hne : ¬ w.heap.size = a := by have := h.lt; omega
   have hx := Hz.mk h
   clear h
   go_enter Tryz.func85, Tryz.ntmps85
   go_upto_region 1 with fail
   refine wp_world (fun W => At W w.heap.size #[.int .u8 i.op, .int .i64 i.a, .int .i64 i.b, .int .i64 i.c, .int .u64 i.i] ∧ Gr w W) ⟨At.new w _ _, (Gr.refl _).alloc _⟩ ?_
   rintro W ⟨hA, G⟩
   generalize w.heap.size = kb at *
   replace hA := Hz.mk hA
   have KS := xk1 i kb
   have g0 : Gr W W.drew := (Gr.refl W).drew
   refine wp_region_held_drew (S := (fun W => W.rangeAt kb 0 (Fi.vals i) ∧ W.cell? ⟨kb, 1, none⟩ = some (.int .i64 i.a) ∧ W.cell? ⟨kb, 3, none⟩ = some (.int .i64 i.c) ∧ W.cell? ⟨kb, 4, none⟩ = some (.int .u64 i.i))) (by kernel_rfl) (KS.out _ (hA.out.gr g0)) (fun hHeld => ?_)
   refine xso 0 ?_ rfl ?_ (xso 1 ?_ rfl ?_ (xso 2 ?_ rfl ?_ (xso 3 ?_ rfl ?_ ?_)))
   iterate 4 (rotate_left; focus ((try simp only [xap]); intro w hSw; (try dsimp only at hSw); go_simp; first | done | with_reducible rfl))
   try simp only [xap]
   refine xtk 4 rfl (yieldsIf_load_mid (by rfl) _ _ rfl _ _ rfl _ _ (fun _ h => h.1) Tryz.underlying101 rfl (by kernel_rfl)) ?_
   try simp only [xap]
   refine xso 6 ?_ rfl ?_ ?_
   rotate_left
   · intro w hSw; (try dsimp only at hSw); go_simp; first | done | with_reducible rfl
   try simp only [xap]
   refine xtk 7 rfl (yieldsIf_load_mid (by rfl) _ _ rfl _ _ rfl _ _ (fun _ h => h.1) Tryz.underlying101 rfl (by kernel_rfl)) ?_
   try simp only [xap]
   refine xrd 5 rfl (fun K hK => ?_)
   go_simp
   go_wp2_with (refine (b_any a x i _ ((hx.out.gr G).gr g0) hb).mono ?_; rintro r V1 ⟨rfl, gg⟩; have g1 := g0.trans gg; clear gg g0 hHeld)
   refine hK.out _ _ (KS.out _ (hA.out.gr g1)) (fun hHeld => ?_)
   clear hK K
   try simp only [xap]
   refine xrd 8 rfl (fun K hK => ?_)
   go_simp
   go_wp2_with (refine (c_any a x i _ ((hx.out.gr G).gr g1) hc).mono ?_; rintro r V2 ⟨rfl, gg⟩; have g2 := g1.trans gg; clear gg g1 hHeld)
   refine hK.out _ _ (KS.out _ (hA.out.gr g2)) (fun hHeld => ?_)
   clear hK K
   try simp only [xap]
   refine xso 9 ?_ rfl ?_ ?_
   rotate_left
   · intro w hSw; (try dsimp only at hSw); go_simp; first | done | with_reducible rfl
   try simp only [xap]
   refine xrd 10 rfl (fun K hK => ?_)
   go_simp
   go_wp2_with (refine (told_any _ _).mono ?_; rintro r V3 ⟨rfl, e1⟩; subst e1; have g3 := g2; clear g2 hHeld)
   refine hK.out _ _ (KS.out _ (hA.out.gr g3)) (fun hHeld => ?_)
   clear hK K
   try simp only [xap]
   refine xrd 11 rfl (fun K hK => ?_)
   go_simp
   go_wp2_with (refine (lay_any a x i.a _ _ ((hx.out.gr G).gr g3) ha hp).mono ?_; rintro r V9 ⟨rfl, hB⟩; clear hHeld)
   refine hK.out _ _ (KS.out _ (T.at_kp (hA.out.gr g3) hB.2 hne)) (fun hHeld => ?_)
   clear hK K
   try simp only [xap]
   refine xdn ?_ _
   clear hHeld
   go_wp2_with fail
   first | go_end0 | ((try simp only [Exit.inBlock, Exit.then]); refine bodyPost_ret (results_none rfl _ _ _) rfl ?_)
   exact ⟨rfl, hB.after (G.trans g3)⟩
 · rw [if_neg hq]
   have hq2 : (x.r i.b == x.r i.c) = false := by simpa using hq
   replace hq := Hz.mk hq
   have hne : ¬ w.heap.size = a := by have := h.lt; omega
   have hx := Hz.mk h
   clear h
   go_enter Tryz.func85, Tryz.ntmps85
   go_upto_region 1 with fail
   refine wp_world (fun W => At W w.heap.size #[.int .u8 i.op, .int .i64 i.a, .int .i64 i.b, .int .i64 i.c, .int .u64 i.i] ∧ Gr w W) ⟨At.new w _ _, (Gr.refl _).alloc _⟩ ?_
   rintro W ⟨hA, G⟩
   generalize w.heap.size = kb at *
   replace hA := Hz.mk hA
   have KS := xk1 i kb
   have g0 : Gr W W.drew := (Gr.refl W).drew
   refine wp_region_held_drew (S := (fun W => W.rangeAt kb 0 (Fi.vals i) ∧ W.cell? ⟨kb, 1, none⟩ = some (.int .i64 i.a) ∧ W.cell? ⟨kb, 3, none⟩ = some (.int .i64 i.c) ∧ W.cell? ⟨kb, 4, none⟩ = some (.int .u64 i.i))) (by kernel_rfl) (KS.out _ (hA.out.gr g0)) (fun hHeld => ?_)
   refine xso 0 ?_ rfl ?_ (xso 1 ?_ rfl ?_ (xso 2 ?_ rfl ?_ (xso 3 ?_ rfl ?_ ?_)))
   iterate 4 (rotate_left; focus ((try simp only [xap]); intro w hSw; (try dsimp only at hSw); go_simp; first | done | with_reducible rfl))
   try simp only [xap]
   refine xtk 4 rfl (yieldsIf_load_mid (by rfl) _ _ rfl _ _ rfl _ _ (fun _ h => h.1) Tryz.underlying101 rfl (by kernel_rfl)) ?_
   try simp only [xap]
   refine xso 6 ?_ rfl ?_ ?_
   rotate_left
   · intro w hSw; (try dsimp only at hSw); go_simp; first | done | with_reducible rfl
   try simp only [xap]
   refine xtk 7 rfl (yieldsIf_load_mid (by rfl) _ _ rfl _ _ rfl _ _ (fun _ h => h.1) Tryz.underlying101 rfl (by kernel_rfl)) ?_
   try simp only [xap]
   refine xrd 5 rfl (fun K hK => ?_)
   go_simp
   go_wp2_with (refine (b_any a x i _ ((hx.out.gr G).gr g0) hb).mono ?_; rintro r V1 ⟨rfl, gg⟩; have g1 := g0.trans gg; clear gg g0 hHeld)
   refine hK.out _ _ (KS.out _ (hA.out.gr g1)) (fun hHeld => ?_)
   clear hK K
   try simp only [xap]
   refine xrd 8 rfl (fun K hK => ?_)
   go_simp
   go_wp2_with (refine (c_any a x i _ ((hx.out.gr G).gr g1) hc).mono ?_; rintro r V2 ⟨rfl, gg⟩; have g2 := g1.trans gg; clear gg g1 hHeld)
   refine hK.out _ _ (KS.out _ (hA.out.gr g2)) (fun hHeld => ?_)
   clear hK K
   try simp only [xap]
   refine xso 9 ?_ rfl ?_ ?_
   rotate_left
   · intro w hSw; (try dsimp only at hSw); go_simp; first | done | with_reducible rfl
   try simp only [xap]
   refine xrd 10 rfl (fun K hK => ?_)
   go_simp
   go_wp2_with (refine (told_any _ _).mono ?_; rintro r V3 ⟨rfl, e1⟩; subst e1; have g3 := g2; clear g2 hHeld)
   refine hK.out _ _ (KS.out _ (hA.out.gr g3)) (fun hHeld => ?_)
   clear hK K
   try simp only [xap]
   refine xrd 11 rfl (fun K hK => ?_)
   go_simp
   go_wp2_with (refine (lay_any a x i.a _ _ ((hx.out.gr G).gr g3) ha hp).mono ?_; rintro r V9 ⟨rfl, hB⟩; clear hHeld)
   refine hK.out _ _ (KS.out _ (T.at_kp (hA.out.gr g3) hB.2 hne)) (fun hHeld => ?_)
   clear hK K
   try simp only [xap]
   refine xdn ?_ _
   clear hHeld
   go_wp2_with fail
   first | go_end0 | ((try simp only [Exit.inBlock, Exit.then]); refine bodyPost_ret (results_none rfl _ _ _) rfl ?_)
   exact ⟨rfl, hB.after (G.trans g3)⟩
theorem mov_op (a : Nat) (x : Fx) (i : Fi) (w : World) (h : Bx w a x) (ha : i.a < 16) (hb : i.b < 16) (hp : x.p ≤ 1000000) :
   Calls Tryz.prog 74 #[.agg #[.int .u8 i.op, .int .i64 i.a, .int .i64 i.b, .int .i64 i.c, .int .u64 i.i], .pointer (some ⟨a, 0, none⟩)] w fun r w' => r = .returned (.tuple #[]) ∧ Bo1 a (x.lay i.a (x.r i.b)) w w' := by
 have hne : ¬ w.heap.size = a := by have := h.lt; omega
 have hx := Hz.mk h
 clear h
 go_enter Tryz.func74, Tryz.ntmps74
 go_upto_region 1 with fail
 refine wp_world (fun W => At W w.heap.size #[.int .u8 i.op, .int .i64 i.a, .int .i64 i.b, .int .i64 i.c, .int .u64 i.i] ∧ Gr w W) ⟨At.new w _ _, (Gr.refl _).alloc _⟩ ?_
 rintro W ⟨hA, G⟩
 generalize w.heap.size = kb at *
 replace hA := Hz.mk hA
 have KS := xk1 i kb
 have g0 : Gr W W.drew := (Gr.refl W).drew
 refine wp_region_held_drew (S := (fun W => W.rangeAt kb 0 (Fi.vals i) ∧ W.cell? ⟨kb, 1, none⟩ = some (.int .i64 i.a) ∧ W.cell? ⟨kb, 3, none⟩ = some (.int .i64 i.c) ∧ W.cell? ⟨kb, 4, none⟩ = some (.int .u64 i.i))) (by kernel_rfl) (KS.out _ (hA.out.gr g0)) (fun hHeld => ?_)
 refine xso 0 ?_ rfl ?_ (xso 1 ?_ rfl ?_ (xso 2 ?_ rfl ?_ (xso 3 ?_ rfl ?_ ?_)))
 iterate 4 (rotate_left; focus ((try simp only [xap]); intro w hSw; (try dsimp only at hSw); go_simp; first | done | with_reducible rfl))
 try simp only [xap]
 refine xtk 4 rfl (yieldsIf_load_mid (by rfl) _ _ rfl _ _ rfl _ _ (fun _ h => h.1) Tryz.underlying101 rfl (by kernel_rfl)) ?_
 try simp only [xap]
 refine xrd 5 rfl (fun K hK => ?_)
 go_simp
 go_wp2_with (refine (b_any a x i _ ((hx.out.gr G).gr g0) hb).mono ?_; rintro r V1 ⟨rfl, gg⟩; have g1 := g0.trans gg; clear gg g0 hHeld)
 refine hK.out _ _ (KS.out _ (hA.out.gr g1)) (fun hHeld => ?_)
 clear hK K
 try simp only [xap]
 refine xrd 6 rfl (fun K hK => ?_)
 go_simp
 go_wp2_with (refine (lay_any a x i.a _ _ ((hx.out.gr G).gr g1) ha hp).mono ?_; rintro r V9 ⟨rfl, hB⟩; clear hHeld)
 refine hK.out _ _ (KS.out _ (T.at_kp (hA.out.gr g1) hB.2 hne)) (fun hHeld => ?_)
 clear hK K
 try simp only [xap]
 refine xdn ?_ _
 clear hHeld
 go_wp2_with fail
 first | go_end0 | ((try simp only [Exit.inBlock, Exit.then]); refine bodyPost_ret (results_none rfl _ _ _) rfl ?_)
 exact ⟨rfl, hB.after (G.trans g1)⟩
theorem addi_op (a : Nat) (x : Fx) (i : Fi) (w : World) (h : Bx w a x) (ha : i.a < 16) (hb : i.b < 16) (hp : x.p ≤ 1000000) :
   Calls Tryz.prog 83 #[.agg #[.int .u8 i.op, .int .i64 i.a, .int .i64 i.b, .int .i64 i.c, .int .u64 i.i], .pointer (some ⟨a, 0, none⟩)] w fun r w' => r = .returned (.tuple #[]) ∧ Bo1 a (x.lay i.a (IntKind.u64.wrap (x.r i.b + i.i))) w w' := by
 have hne : ¬ w.heap.size = a := by have := h.lt; omega
 have hx := Hz.mk h
 clear h
 go_enter Tryz.func83, Tryz.ntmps83
 go_upto_region 1 with fail
 refine wp_world (fun W => At W w.heap.size #[.int .u8 i.op, .int .i64 i.a, .int .i64 i.b, .int .i64 i.c, .int .u64 i.i] ∧ Gr w W) ⟨At.new w _ _, (Gr.refl _).alloc _⟩ ?_
 rintro W ⟨hA, G⟩
 generalize w.heap.size = kb at *
 replace hA := Hz.mk hA
 have KS := xk1 i kb
 have g0 : Gr W W.drew := (Gr.refl W).drew
 refine wp_region_held_drew (S := (fun W => W.rangeAt kb 0 (Fi.vals i) ∧ W.cell? ⟨kb, 1, none⟩ = some (.int .i64 i.a) ∧ W.cell? ⟨kb, 3, none⟩ = some (.int .i64 i.c) ∧ W.cell? ⟨kb, 4, none⟩ = some (.int .u64 i.i))) (by kernel_rfl) (KS.out _ (hA.out.gr g0)) (fun hHeld => ?_)
 refine xso 0 ?_ rfl ?_ (xso 1 ?_ rfl ?_ (xso 2 ?_ rfl ?_ (xso 3 ?_ rfl ?_ ?_)))
 iterate 4 (rotate_left; focus ((try simp only [xap]); intro w hSw; (try dsimp only at hSw); go_simp; first | done | with_reducible rfl))
 try simp only [xap]
 refine xtk 4 rfl (yieldsIf_load_mid (by rfl) _ _ rfl _ _ rfl _ _ (fun _ h => h.1) Tryz.underlying101 rfl (by kernel_rfl)) ?_
 try simp only [xap]
 refine xso 6 ?_ rfl ?_ (xso 7 ?_ rfl ?_ ?_)
 iterate 2 (rotate_left; focus ((try simp only [xap]); intro w hSw; (try dsimp only at hSw); go_simp; first | done | with_reducible rfl))
 try simp only [xap]
 refine xrd 5 rfl (fun K hK => ?_)
 go_simp
 go_wp2_with (refine (b_any a x i _ ((hx.out.gr G).gr g0) hb).mono ?_; rintro r V1 ⟨rfl, gg⟩; have g1 := g0.trans gg; clear gg g0 hHeld)
 refine hK.out _ _ (KS.out _ (hA.out.gr g1)) (fun hHeld => ?_)
 clear hK K
 try simp only [xap]
 refine xso 8 ?_ rfl ?_ ?_
 rotate_left
 · intro w hSw; (try dsimp only at hSw); go_simp; first | done | with_reducible rfl
 try simp only [xap]
 refine xrd 9 rfl (fun K hK => ?_)
 go_simp
 go_wp2_with (refine (lay_any a x i.a _ _ ((hx.out.gr G).gr g1) ha hp).mono ?_; rintro r V9 ⟨rfl, hB⟩; clear hHeld)
 refine hK.out _ _ (KS.out _ (T.at_kp (hA.out.gr g1) hB.2 hne)) (fun hHeld => ?_)
 clear hK K
 try simp only [xap]
 refine xdn ?_ _
 clear hHeld
 go_wp2_with fail
 first | go_end0 | ((try simp only [Exit.inBlock, Exit.then]); refine bodyPost_ret (results_none rfl _ _ _) rfl ?_)
 exact ⟨rfl, hB.after (G.trans g1)⟩
end Z
end Go.Proofs.YthfphgjjieddjaaGreat
