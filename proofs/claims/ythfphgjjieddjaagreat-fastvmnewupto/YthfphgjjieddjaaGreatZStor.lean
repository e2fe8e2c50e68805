import Derived.Test.YthfphgjjieddjaaGreatP21
namespace Go.Proofs.YthfphgjjieddjaaGreat
set_option maxRecDepth 100000
set_option maxHeartbeats 40000000
namespace Z
open Go.RowKit
open T (Sep Ob Kp Mf FlIn boxOb)

theorem wrap8 {N : Nat} (h : N ≤ 65536 - 16) : IntKind.u64.wrap ((N : Int) + 8) = (N : Int) + 8 := by simp [IntKind.wrap, IntKind.bits, IntKind.signed]; omega
theorem lt8 {N : Nat} (h : N ≤ 65536 - 16) : N + 8 < 18446744073709551616 := by omega
theorem store1_bad (B : Nat) (W0 : World) (a : Nat) (P : Pr) (s : Fm) (l : List Ob) (i : Fi) (h : MIn B W0 a P s l) (hb : i.b < 16) (hq9 : 65536 - 1 < IntKind.u64.wrap (s.r i.b + i.i)) :
   Calls Tryz.prog 119 #[.agg #[.int .u8 i.op, .int .i64 i.a, .int .i64 i.b, .int .i64 i.c, .int .u64 i.i], .pointer (some ⟨a, 0, none⟩), .int .u64 1] W0 fun x w' => x = .returned (.tuple #[]) ∧ MIn B w' a P { s with e := 7, v := 0, f := 5 } l ∧ Below B W0 w' := by
 replace hq9 := Hz.mk hq9
 have h2 := Hz.mk (h.new #[.int .u8 i.op, .int .i64 i.a, .int .i64 i.b, .int .i64 i.c, .int .u64 i.i] 101)
 clear h
 go_enter Tryz.func119, Tryz.ntmps119
 go_upto_region 1 with fail
 refine wp_world (fun W => MIn B W a P s (boxOb W0.heap.size #[.int .u8 i.op, .int .i64 i.a, .int .i64 i.b, .int .i64 i.c, .int .u64 i.i] :: l) ∧ Below B W0 W) h2.out ?_
 rintro W ⟨h, hB⟩
 replace h := Hz.mk h
 replace hB := Hz.mk hB
 clear h2
 generalize W0.heap.size = kb at *
 have KS := xk1 i kb
 have hleW := h.out.le
 obtain ⟨q, hq⟩ := h.out.bx
 replace hq := Hz.mk hq
 have g0 : Gr W W.drew := (Gr.refl W).drew
 refine wp_region_held_drew (S := (fun W => W.rangeAt kb 0 (Fi.vals i) ∧ W.cell? ⟨kb, 1, none⟩ = some (.int .i64 i.a) ∧ W.cell? ⟨kb, 3, none⟩ = some (.int .i64 i.c) ∧ W.cell? ⟨kb, 4, none⟩ = some (.int .u64 i.i))) (by kernel_rfl) (KS.out _ ((h.out.there (boxOb kb #[.int .u8 i.op, .int .i64 i.a, .int .i64 i.b, .int .i64 i.c, .int .u64 i.i]) (.head _)).gr g0)) (fun hHeld => ?_)
 refine xso 0 ?_ rfl ?_ ?_
 rotate_left
 · intro w hSw; (try dsimp only at hSw); go_simp; first | done | with_reducible rfl
 try simp only [xap]
 refine xtk 1 rfl (yieldsIf_load_mid (by rfl) _ _ rfl _ _ rfl _ _ (fun _ h => h.1) Tryz.underlying101 rfl (by kernel_rfl)) ?_
 try simp only [xap]
 refine xso 3 ?_ rfl ?_ (xso 4 ?_ rfl ?_ ?_)
 iterate 2 (rotate_left; focus ((try simp only [xap]); intro w hSw; (try dsimp only at hSw); go_simp; first | done | with_reducible rfl))
 try simp only [xap]
 refine xrd 2 rfl (fun K hK => ?_)
 go_simp
 go_wp2_with (refine (b_any a (bxOf P s q) i _ (hq.out.gr g0) hb).mono ?_; rintro r V1 ⟨rfl, gg⟩; have g1 := g0.trans gg; clear gg g0 hHeld)
 refine hK.out _ _ (KS.out _ ((h.out.there (boxOb kb #[.int .u8 i.op, .int .i64 i.a, .int .i64 i.b, .int .i64 i.c, .int .u64 i.i]) (.head _)).gr g1)) (fun hHeld => ?_)
 clear hK K
 try simp only [xap]
 refine xso 5 ?_ rfl ?_ (xso 6 ?_ rfl ?_ ?_)
 iterate 2 (rotate_left; focus ((try simp only [xap]); intro w hSw; (try dsimp only at hSw); go_simp; first | done | with_reducible rfl))
 try simp only [xap]
 refine xdn ?_ _
 clear hHeld hq
 rw [show (bxOf P s q).r = s.r from rfl]
 clear q
 replace h := Hz.mk (h.out.gro g1)
 replace hB : Hz (Below B W0 V1) := Hz.mk (hB.out.trans (g1.below.mono hleW))
 clear g1
 have ht := Hz.mk (touch_bad B V1 a P s _ true (IntKind.u64.wrap (s.r i.b + i.i)) 1 h.out (by omega) hq9.out)
 go_wp2_with fail
 refine (ht.out).mono ?_
 rintro r V2 ⟨rfl, h2, hB2⟩
 replace hB : Hz (Below B W0 V2) := Hz.mk (hB.out.trans hB2)
 clear hB2
 clear h
 have h := Hz.mk h2
 clear h2
 go_wp2_with fail
 first | go_end0 | ((try simp only [Exit.inBlock, Exit.then]); refine bodyPost_ret (results_none rfl _ _ _) rfl ?_)
 exact ⟨rfl, h.out.drop, hB.out⟩
theorem store1_ok (B : Nat) (W0 : World) (a : Nat) (P : Pr) (s : Fm) (l : List Ob) (i : Fi) (h : MIn B W0 a P s l) (ha : i.a < 16) (hb : i.b < 16) (hq9 : IntKind.u64.wrap (s.r i.b + i.i) ≤ 65536 - 1) (hl : s.tc.length ≤ 1000000) (hp : s.p ≤ 1000000) (hr : 0 ≤ s.r i.a ∧ s.r i.a < 18446744073709551616) :
   Calls Tryz.prog 119 #[.agg #[.int .u8 i.op, .int .i64 i.a, .int .i64 i.b, .int .i64 i.c, .int .u64 i.i], .pointer (some ⟨a, 0, none⟩), .int .u64 1] W0 fun x w' => x = .returned (.tuple #[]) ∧ MIn B w' a P { s with tc := s.tc ++ [⟨true, IntKind.u64.wrap (s.r i.b + i.i), 1⟩], m := T.stB s.m (IntKind.u64.wrap (s.r i.b + i.i)).toNat 1 (s.r i.a).toNat, p := s.p + 1 } l ∧ Below B W0 w' := by
 obtain ⟨N, hAD⟩ : ∃ N : Nat, IntKind.u64.wrap (s.r i.b + i.i) = (N : Int) := ⟨(IntKind.u64.wrap (s.r i.b + i.i)).toNat, by have := wrap_u64_nonneg (s.r i.b + i.i); omega⟩
 obtain ⟨RV, hRV⟩ : ∃ N : Nat, s.r i.a = (N : Int) := ⟨(s.r i.a).toNat, by omega⟩
 simp only [hAD, hRV, Int.toNat_natCast] at hq9 ⊢
 have e7 : N < 18446744073709551616 := by omega
 have e5 : N ≤ 65536 - 1 := by omega
 replace hq9 := Hz.mk hq9
 replace e5 := Hz.mk e5
 have h2 := Hz.mk (h.new #[.int .u8 i.op, .int .i64 i.a, .int .i64 i.b, .int .i64 i.c, .int .u64 i.i] 101)
 clear h
 go_enter Tryz.func119, Tryz.ntmps119
 go_upto_region 1 with fail
 refine wp_world (fun W => MIn B W a P s (boxOb W0.heap.size #[.int .u8 i.op, .int .i64 i.a, .int .i64 i.b, .int .i64 i.c, .int .u64 i.i] :: l) ∧ Below B W0 W) h2.out ?_
 rintro W ⟨h, hB⟩
 replace h := Hz.mk h
 replace hB := Hz.mk hB
 clear h2
 generalize W0.heap.size = kb at *
 have KS := xk1 i kb
 have hleW := h.out.le
 obtain ⟨q, hq⟩ := h.out.bx
 replace hq := Hz.mk hq
 have g0 : Gr W W.drew := (Gr.refl W).drew
 refine wp_region_held_drew (S := (fun W => W.rangeAt kb 0 (Fi.vals i) ∧ W.cell? ⟨kb, 1, none⟩ = some (.int .i64 i.a) ∧ W.cell? ⟨kb, 3, none⟩ = some (.int .i64 i.c) ∧ W.cell? ⟨kb, 4, none⟩ = some (.int .u64 i.i))) (by kernel_rfl) (KS.out _ ((h.out.there (boxOb kb #[.int .u8 i.op, .int .i64 i.a, .int .i64 i.b, .int .i64 i.c, .int .u64 i.i]) (.head _)).gr g0)) (fun hHeld => ?_)
 refine xso 0 ?_ rfl ?_ ?_
 rotate_left
 · intro w hSw; (try dsimp only at hSw); go_simp; first | done | with_reducible rfl
 try simp only [xap]
 refine xtk 1 rfl (yieldsIf_load_mid (by rfl) _ _ rfl _ _ rfl _ _ (fun _ h => h.1) Tryz.underlying101 rfl (by kernel_rfl)) ?_
 try simp only [xap]
 refine xso 3 ?_ rfl ?_ (xso 4 ?_ rfl ?_ ?_)
 iterate 2 (rotate_left; focus ((try simp only [xap]); intro w hSw; (try dsimp only at hSw); go_simp; first | done | with_reducible rfl))
 try simp only [xap]
 refine xrd 2 rfl (fun K hK => ?_)
 go_simp
 go_wp2_with (refine (b_any a (bxOf P s q) i _ (hq.out.gr g0) hb).mono ?_; rintro r V1 ⟨rfl, gg⟩; have g1 := g0.trans gg; clear gg g0 hHeld)
 refine hK.out _ _ (KS.out _ ((h.out.there (boxOb kb #[.int .u8 i.op, .int .i64 i.a, .int .i64 i.b, .int .i64 i.c, .int .u64 i.i]) (.head _)).gr g1)) (fun hHeld => ?_)
 clear hK K
 try simp only [xap]
 refine xso 5 ?_ rfl ?_ (xso 6 ?_ rfl ?_ ?_)
 iterate 2 (rotate_left; focus ((try simp only [xap]); intro w hSw; (try dsimp only at hSw); go_simp; first | done | with_reducible rfl))
 try simp only [xap]
 refine xdn ?_ _
 clear hHeld hq
 rw [show (bxOf P s q).r = s.r from rfl]
 clear q
 replace h := Hz.mk (h.out.gro g1)
 replace hB : Hz (Below B W0 V1) := Hz.mk (hB.out.trans (g1.below.mono hleW))
 clear g1
 rw [hAD]
 clear hAD
 have ht := Hz.mk (touch_ok B V1 a P s _ true (N : Int) 1 h.out (by omega) hq9.out hl)
 go_wp2_with fail
 refine (ht.out).mono ?_
 rintro r V2 ⟨rfl, h2, hB2⟩
 replace hB : Hz (Below B W0 V2) := Hz.mk (hB.out.trans hB2)
 clear hB2
 clear h
 have h := Hz.mk h2
 clear h2
 clear ht
 go_upto_region 3 with fail
 obtain ⟨q, hq⟩ := h.out.bx
 replace hq := Hz.mk hq
 have c3 : V2.cell? ⟨a, 3, none⟩ = some (.pointer (some ⟨q.mp, 0, none⟩)) := hq.out.at_ 3 (by omega)
 generalize hkm : q.mp = km at *
 clear hkm
 have hst := Hz.mk (fun V (g : Gr V2 V) => (h.out.gro g).store km (Gr.cellA h.out g c3) N 1 RV e7 (by decide))
 simp only [Int.cast_ofNat_Int] at hst
 have hleW := h.out.le
 have g0 : Gr V2 V2.drew := (Gr.refl V2).drew
 refine wp_region_held_drew (S := (fun W => W.rangeAt kb 0 (Fi.vals i) ∧ W.cell? ⟨a, 3, none⟩ = some (.pointer (some ⟨km, 0, none⟩)))) (by kernel_rfl) (⟨(KS.out _ ((h.out.there (boxOb kb #[.int .u8 i.op, .int .i64 i.a, .int .i64 i.b, .int .i64 i.c, .int .u64 i.i]) (.head _)).gr g0)).1, Gr.cellA h.out g0 c3⟩) (fun hHeld => ?_)
 refine xso 0 ?_ rfl ?_ (xso 1 ?_ rfl ?_ (xso 2 ?_ rfl ?_ (xso 3 ?_ rfl ?_ (xso 4 ?_ rfl ?_ (xso 5 ?_ rfl ?_ (xso 6 ?_ rfl ?_ (xso 7 ?_ rfl ?_ ?_)))))))
 iterate 8 (rotate_left; focus ((try simp only [xap]); intro w hSw; (try dsimp only at hSw); go_simp; first | done | with_reducible rfl))
 try simp only [xap]
 refine xtk 8 rfl (yieldsIf_load_mid (by rfl) _ _ rfl _ _ rfl _ _ (fun _ h => h.1) Tryz.underlying101 rfl (by kernel_rfl)) ?_
 try simp only [xap]
 refine xrd 9 rfl (fun K hK => ?_)
 go_simp
 go_wp2_with (refine (a_any a (bxOf P { s with tc := s.tc ++ [⟨true, (N : Int), 1⟩] } q) i _ (hq.out.gr g0) ha).mono ?_; rintro r V3 ⟨rfl, gg⟩; have g1 := g0.trans gg; clear gg g0 hHeld; rw [show (bxOf P { s with tc := s.tc ++ [⟨true, (N : Int), 1⟩] } q).r i.a = (RV : Int) from hRV])
 refine hK.out _ _ (⟨(KS.out _ ((h.out.there (boxOb kb #[.int .u8 i.op, .int .i64 i.a, .int .i64 i.b, .int .i64 i.c, .int .u64 i.i]) (.head _)).gr g1)).1, Gr.cellA h.out g1 c3⟩) (fun hHeld => ?_)
 clear hK K
 try simp only [xap]
 refine xrd 10 rfl (fun K hK => ?_)
 go_simp
 go_wp2_with (refine (hst.out _ g1).mono ?_; rintro r V4 ⟨rfl, h4, hB4, c4⟩; clear hHeld)
 refine hK.out _ _ (⟨(KS.out _ (h4.there (boxOb kb #[.int .u8 i.op, .int .i64 i.a, .int .i64 i.b, .int .i64 i.c, .int .u64 i.i]) (.head _))).1, c4⟩) (fun hHeld => ?_)
 clear hK K
 try simp only [xap]
 refine xdn ?_ _
 clear hHeld hq hst c3
 have hB2 := (g1.below.mono hleW).trans hB4
 clear g1 hB4
 replace hB : Hz (Below B W0 V4) := Hz.mk (hB.out.trans hB2)
 clear hB2
 clear h
 have h := Hz.mk h4
 clear h4 c4
 replace e5 := e5.out
 have hnx := Hz.mk (h.out.onBox (s' := { s with tc := s.tc ++ [⟨true, (N : Int), 1⟩], m := T.stB s.m N 1 RV, p := s.p + 1 }) ⟨rfl, rfl, rfl, rfl, rfl⟩ (fun q hb => next_any a _ _ hb hp))
 go_wp2_with fail
 refine (hnx.out).mono ?_
 rintro r V6 ⟨rfl, h2, hB2⟩
 replace hB : Hz (Below B W0 V6) := Hz.mk (hB.out.trans hB2)
 clear hB2
 clear h
 have h := Hz.mk h2
 clear h2
 go_wp2_with fail
 first | go_end0 | ((try simp only [Exit.inBlock, Exit.then]); refine bodyPost_ret (results_none rfl _ _ _) rfl ?_)
 exact ⟨rfl, h.out.drop, hB.out⟩
theorem store8_bad (B : Nat) (W0 : World) (a : Nat) (P : Pr) (s : Fm) (l : List Ob) (i : Fi) (h : MIn B W0 a P s l) (hb : i.b < 16) (hq9 : 65536 - 8 < IntKind.u64.wrap (s.r i.b + i.i)) :
   Calls Tryz.prog 119 #[.agg #[.int .u8 i.op, .int .i64 i.a, .int .i64 i.b, .int .i64 i.c, .int .u64 i.i], .pointer (some ⟨a, 0, none⟩), .int .u64 8] W0 fun x w' => x = .returned (.tuple #[]) ∧ MIn B w' a P { s with e := 7, v := 0, f := 5 } l ∧ Below B W0 w' := by
 replace hq9 := Hz.mk hq9
 have h2 := Hz.mk (h.new #[.int .u8 i.op, .int .i64 i.a, .int .i64 i.b, .int .i64 i.c, .int .u64 i.i] 101)
 clear h
 go_enter Tryz.func119, Tryz.ntmps119
 go_upto_region 1 with fail
 refine wp_world (fun W => MIn B W a P s (boxOb W0.heap.size #[.int .u8 i.op, .int .i64 i.a, .int .i64 i.b, .int .i64 i.c, .int .u64 i.i] :: l) ∧ Below B W0 W) h2.out ?_
 rintro W ⟨h, hB⟩
 replace h := Hz.mk h
 replace hB := Hz.mk hB
 clear h2
 generalize W0.heap.size = kb at *
 have KS := xk1 i kb
 have hleW := h.out.le
 obtain ⟨q, hq⟩ := h.out.bx
 replace hq := Hz.mk hq
 have g0 : Gr W W.drew := (Gr.refl W).drew
 refine wp_region_held_drew (S := (fun W => W.rangeAt kb 0 (Fi.vals i) ∧ W.cell? ⟨kb, 1, none⟩ = some (.int .i64 i.a) ∧ W.cell? ⟨kb, 3, none⟩ = some (.int .i64 i.c) ∧ W.cell? ⟨kb, 4, none⟩ = some (.int .u64 i.i))) (by kernel_rfl) (KS.out _ ((h.out.there (boxOb kb #[.int .u8 i.op, .int .i64 i.a, .int .i64 i.b, .int .i64 i.c, .int .u64 i.i]) (.head _)).gr g0)) (fun hHeld => ?_)
 refine xso 0 ?_ rfl ?_ ?_
 rotate_left
 · intro w hSw; (try dsimp only at hSw); go_simp; first | done | with_reducible rfl
 try simp only [xap]
 refine xtk 1 rfl (yieldsIf_load_mid (by rfl) _ _ rfl _ _ rfl _ _ (fun _ h => h.1) Tryz.underlying101 rfl (by kernel_rfl)) ?_
 try simp only [xap]
 refine xso 3 ?_ rfl ?_ (xso 4 ?_ rfl ?_ ?_)
 iterate 2 (rotate_left; focus ((try simp only [xap]); intro w hSw; (try dsimp only at hSw); go_simp; first | done | with_reducible rfl))
 try simp only [xap]
 refine xrd 2 rfl (fun K hK => ?_)
 go_simp
 go_wp2_with (refine (b_any a (bxOf P s q) i _ (hq.out.gr g0) hb).mono ?_; rintro r V1 ⟨rfl, gg⟩; have g1 := g0.trans gg; clear gg g0 hHeld)
 refine hK.out _ _ (KS.out _ ((h.out.there (boxOb kb #[.int .u8 i.op, .int .i64 i.a, .int .i64 i.b, .int .i64 i.c, .int .u64 i.i]) (.head _)).gr g1)) (fun hHeld => ?_)
 clear hK K
 try simp only [xap]
 refine xso 5 ?_ rfl ?_ (xso 6 ?_ rfl ?_ ?_)
 iterate 2 (rotate_left; focus ((try simp only [xap]); intro w hSw; (try dsimp only at hSw); go_simp; first | done | with_reducible rfl))
 try simp only [xap]
 refine xdn ?_ _
 clear hHeld hq
 rw [show (bxOf P s q).r = s.r from rfl]
 clear q
 replace h := Hz.mk (h.out.gro g1)
 replace hB : Hz (Below B W0 V1) := Hz.mk (hB.out.trans (g1.below.mono hleW))
 clear g1
 have ht := Hz.mk (touch_bad B V1 a P s _ true (IntKind.u64.wrap (s.r i.b + i.i)) 8 h.out (by omega) hq9.out)
 go_wp2_with fail
 refine (ht.out).mono ?_
 rintro r V2 ⟨rfl, h2, hB2⟩
 replace hB : Hz (Below B W0 V2) := Hz.mk (hB.out.trans hB2)
 clear hB2
 clear h
 have h := Hz.mk h2
 clear h2
 go_wp2_with fail
 first | go_end0 | ((try simp only [Exit.inBlock, Exit.then]); refine bodyPost_ret (results_none rfl _ _ _) rfl ?_)
 exact ⟨rfl, h.out.drop, hB.out⟩
theorem store8_ok (B : Nat) (W0 : World) (a : Nat) (P : Pr) (s : Fm) (l : List Ob) (i : Fi) (h : MIn B W0 a P s l) (ha : i.a < 16) (hb : i.b < 16) (hq9 : IntKind.u64.wrap (s.r i.b + i.i) ≤ 65536 - 8) (hl : s.tc.length ≤ 1000000) (hp : s.p ≤ 1000000) (hr : 0 ≤ s.r i.a ∧ s.r i.a < 18446744073709551616) :
   Calls Tryz.prog 119 #[.agg #[.int .u8 i.op, .int .i64 i.a, .int .i64 i.b, .int .i64 i.c, .int .u64 i.i], .pointer (some ⟨a, 0, none⟩), .int .u64 8] W0 fun x w' => x = .returned (.tuple #[]) ∧ MIn B w' a P { s with tc := s.tc ++ [⟨true, IntKind.u64.wrap (s.r i.b + i.i), 8⟩], m := T.stB s.m (IntKind.u64.wrap (s.r i.b + i.i)).toNat 8 (s.r i.a).toNat, p := s.p + 1 } l ∧ Below B W0 w' := by
 obtain ⟨N, hAD⟩ : ∃ N : Nat, IntKind.u64.wrap (s.r i.b + i.i) = (N : Int) := ⟨(IntKind.u64.wrap (s.r i.b + i.i)).toNat, by have := wrap_u64_nonneg (s.r i.b + i.i); omega⟩
 obtain ⟨RV, hRV⟩ : ∃ N : Nat, s.r i.a = (N : Int) := ⟨(s.r i.a).toNat, by omega⟩
 simp only [hAD, hRV, Int.toNat_natCast] at hq9 ⊢
 have e7 : N < 18446744073709551616 := by omega
 have e5 : N ≤ 65536 - 8 := by omega
 replace hq9 := Hz.mk hq9
 replace e5 := Hz.mk e5
 have h2 := Hz.mk (h.new #[.int .u8 i.op, .int .i64 i.a, .int .i64 i.b, .int .i64 i.c, .int .u64 i.i] 101)
 clear h
 go_enter Tryz.func119, Tryz.ntmps119
 go_upto_region 1 with fail
 refine wp_world (fun W => MIn B W a P s (boxOb W0.heap.size #[.int .u8 i.op, .int .i64 i.a, .int .i64 i.b, .int .i64 i.c, .int .u64 i.i] :: l) ∧ Below B W0 W) h2.out ?_
 rintro W ⟨h, hB⟩
 replace h := Hz.mk h
 replace hB := Hz.mk hB
 clear h2
 generalize W0.heap.size = kb at *
 have KS := xk1 i kb
 have hleW := h.out.le
 obtain ⟨q, hq⟩ := h.out.bx
 replace hq := Hz.mk hq
 have g0 : Gr W W.drew := (Gr.refl W).drew
 refine wp_region_held_drew (S := (fun W => W.rangeAt kb 0 (Fi.vals i) ∧ W.cell? ⟨kb, 1, none⟩ = some (.int .i64 i.a) ∧ W.cell? ⟨kb, 3, none⟩ = some (.int .i64 i.c) ∧ W.cell? ⟨kb, 4, none⟩ = some (.int .u64 i.i))) (by kernel_rfl) (KS.out _ ((h.out.there (boxOb kb #[.int .u8 i.op, .int .i64 i.a, .int .i64 i.b, .int .i64 i.c, .int .u64 i.i]) (.head _)).gr g0)) (fun hHeld => ?_)
 refine xso 0 ?_ rfl ?_ ?_
 rotate_left
 · intro w hSw; (try dsimp only at hSw); go_simp; first | done | with_reducible rfl
 try simp only [xap]
 refine xtk 1 rfl (yieldsIf_load_mid (by rfl) _ _ rfl _ _ rfl _ _ (fun _ h => h.1) Tryz.underlying101 rfl (by kernel_rfl)) ?_
 try simp only [xap]
 refine xso 3 ?_ rfl ?_ (xso 4 ?_ rfl ?_ ?_)
 iterate 2 (rotate_left; focus ((try simp only [xap]); intro w hSw; (try dsimp only at hSw); go_simp; first | done | with_reducible rfl))
 try simp only [xap]
 refine xrd 2 rfl (fun K hK => ?_)
 go_simp
 go_wp2_with (refine (b_any a (bxOf P s q) i _ (hq.out.gr g0) hb).mono ?_; rintro r V1 ⟨rfl, gg⟩; have g1 := g0.trans gg; clear gg g0 hHeld)
 refine hK.out _ _ (KS.out _ ((h.out.there (boxOb kb #[.int .u8 i.op, .int .i64 i.a, .int .i64 i.b, .int .i64 i.c, .int .u64 i.i]) (.head _)).gr g1)) (fun hHeld => ?_)
 clear hK K
 try simp only [xap]
 refine xso 5 ?_ rfl ?_ (xso 6 ?_ rfl ?_ ?_)
 iterate 2 (rotate_left; focus ((try simp only [xap]); intro w hSw; (try dsimp only at hSw); go_simp; first | done | with_reducible rfl))
 try simp only [xap]
 refine xdn ?_ _
 clear hHeld hq
 rw [show (bxOf P s q).r = s.r from rfl]
 clear q
 replace h := Hz.mk (h.out.gro g1)
 replace hB : Hz (Below B W0 V1) := Hz.mk (hB.out.trans (g1.below.mono hleW))
 clear g1
 rw [hAD]
 clear hAD
 have ht := Hz.mk (touch_ok B V1 a P s _ true (N : Int) 8 h.out (by omega) hq9.out hl)
 go_wp2_with fail
 refine (ht.out).mono ?_
 rintro r V2 ⟨rfl, h2, hB2⟩
 replace hB : Hz (Below B W0 V2) := Hz.mk (hB.out.trans hB2)
 clear hB2
 clear h
 have h := Hz.mk h2
 clear h2
 clear ht
 go_upto_region 3 with fail
 obtain ⟨q, hq⟩ := h.out.bx
 replace hq := Hz.mk hq
 have c3 : V2.cell? ⟨a, 3, none⟩ = some (.pointer (some ⟨q.mp, 0, none⟩)) := hq.out.at_ 3 (by omega)
 generalize hkm : q.mp = km at *
 clear hkm
 have hst := Hz.mk (fun V (g : Gr V2 V) => (h.out.gro g).store km (Gr.cellA h.out g c3) N 8 RV e7 (by decide))
 simp only [Int.cast_ofNat_Int] at hst
 have hleW := h.out.le
 have g0 : Gr V2 V2.drew := (Gr.refl V2).drew
 refine wp_region_held_drew (S := (fun W => W.rangeAt kb 0 (Fi.vals i) ∧ W.cell? ⟨a, 3, none⟩ = some (.pointer (some ⟨km, 0, none⟩)))) (by kernel_rfl) (⟨(KS.out _ ((h.out.there (boxOb kb #[.int .u8 i.op, .int .i64 i.a, .int .i64 i.b, .int .i64 i.c, .int .u64 i.i]) (.head _)).gr g0)).1, Gr.cellA h.out g0 c3⟩) (fun hHeld => ?_)
 refine xso 0 ?_ rfl ?_ (xso 1 ?_ rfl ?_ (xso 2 ?_ rfl ?_ (xso 3 ?_ rfl ?_ (xso 4 ?_ rfl ?_ (xso 5 ?_ rfl ?_ (xso 6 ?_ rfl ?_ (xso 7 ?_ rfl ?_ ?_)))))))
 iterate 8 (rotate_left; focus ((try simp only [xap]); intro w hSw; (try dsimp only at hSw); go_simp; first | done | with_reducible rfl))
 try simp only [xap]
 refine xtk 8 rfl (yieldsIf_load_mid (by rfl) _ _ rfl _ _ rfl _ _ (fun _ h => h.1) Tryz.underlying101 rfl (by kernel_rfl)) ?_
 try simp only [xap]
 refine xrd 9 rfl (fun K hK => ?_)
 go_simp
 go_wp2_with (refine (a_any a (bxOf P { s with tc := s.tc ++ [⟨true, (N : Int), 8⟩] } q) i _ (hq.out.gr g0) ha).mono ?_; rintro r V3 ⟨rfl, gg⟩; have g1 := g0.trans gg; clear gg g0 hHeld; rw [show (bxOf P { s with tc := s.tc ++ [⟨true, (N : Int), 8⟩] } q).r i.a = (RV : Int) from hRV])
 refine hK.out _ _ (⟨(KS.out _ ((h.out.there (boxOb kb #[.int .u8 i.op, .int .i64 i.a, .int .i64 i.b, .int .i64 i.c, .int .u64 i.i]) (.head _)).gr g1)).1, Gr.cellA h.out g1 c3⟩) (fun hHeld => ?_)
 clear hK K
 try simp only [xap]
 refine xrd 10 rfl (fun K hK => ?_)
 go_simp
 go_wp2_with (refine (hst.out _ g1).mono ?_; rintro r V4 ⟨rfl, h4, hB4, c4⟩; clear hHeld)
 refine hK.out _ _ (⟨(KS.out _ (h4.there (boxOb kb #[.int .u8 i.op, .int .i64 i.a, .int .i64 i.b, .int .i64 i.c, .int .u64 i.i]) (.head _))).1, c4⟩) (fun hHeld => ?_)
 clear hK K
 try simp only [xap]
 refine xdn ?_ _
 clear hHeld hq hst c3
 have hB2 := (g1.below.mono hleW).trans hB4
 clear g1 hB4
 replace hB : Hz (Below B W0 V4) := Hz.mk (hB.out.trans hB2)
 clear hB2
 clear h
 have h := Hz.mk h4
 clear h4 c4
 replace e5 := e5.out
 have hnx := Hz.mk (h.out.onBox (s' := { s with tc := s.tc ++ [⟨true, (N : Int), 8⟩], m := T.stB s.m N 8 RV, p := s.p + 1 }) ⟨rfl, rfl, rfl, rfl, rfl⟩ (fun q hb => next_any a _ _ hb hp))
 go_wp2_with fail
 refine (hnx.out).mono ?_
 rintro r V6 ⟨rfl, h2, hB2⟩
 replace hB : Hz (Below B W0 V6) := Hz.mk (hB.out.trans hB2)
 clear hB2
 clear h
 have h := Hz.mk h2
 clear h2
 go_wp2_with fail
 first | go_end0 | ((try simp only [Exit.inBlock, Exit.then]); refine bodyPost_ret (results_none rfl _ _ _) rfl ?_)
 exact ⟨rfl, h.out.drop, hB.out⟩
theorem store16_bad (B : Nat) (W0 : World) (a : Nat) (P : Pr) (s : Fm) (l : List Ob) (i : Fi) (h : MIn B W0 a P s l) (hb : i.b < 16) (hq9 : 65536 - 16 < IntKind.u64.wrap (s.r i.b + i.i)) :
   Calls Tryz.prog 119 #[.agg #[.int .u8 i.op, .int .i64 i.a, .int .i64 i.b, .int .i64 i.c, .int .u64 i.i], .pointer (some ⟨a, 0, none⟩), .int .u64 16] W0 fun x w' => x = .returned (.tuple #[]) ∧ MIn B w' a P { s with e := 7, v := 0, f := 5 } l ∧ Below B W0 w' := by
 replace hq9 := Hz.mk hq9
 have h2 := Hz.mk (h.new #[.int .u8 i.op, .int .i64 i.a, .int .i64 i.b, .int .i64 i.c, .int .u64 i.i] 101)
 clear h
 go_enter Tryz.func119, Tryz.ntmps119
 go_upto_region 1 with fail
 refine wp_world (fun W => MIn B W a P s (boxOb W0.heap.size #[.int .u8 i.op, .int .i64 i.a, .int .i64 i.b, .int .i64 i.c, .int .u64 i.i] :: l) ∧ Below B W0 W) h2.out ?_
 rintro W ⟨h, hB⟩
 replace h := Hz.mk h
 replace hB := Hz.mk hB
 clear h2
 generalize W0.heap.size = kb at *
 have KS := xk1 i kb
 have hleW := h.out.le
 obtain ⟨q, hq⟩ := h.out.bx
 replace hq := Hz.mk hq
 have g0 : Gr W W.drew := (Gr.refl W).drew
 refine wp_region_held_drew (S := (fun W => W.rangeAt kb 0 (Fi.vals i) ∧ W.cell? ⟨kb, 1, none⟩ = some (.int .i64 i.a) ∧ W.cell? ⟨kb, 3, none⟩ = some (.int .i64 i.c) ∧ W.cell? ⟨kb, 4, none⟩ = some (.int .u64 i.i))) (by kernel_rfl) (KS.out _ ((h.out.there (boxOb kb #[.int .u8 i.op, .int .i64 i.a, .int .i64 i.b, .int .i64 i.c, .int .u64 i.i]) (.head _)).gr g0)) (fun hHeld => ?_)
 refine xso 0 ?_ rfl ?_ ?_
 rotate_left
 · intro w hSw; (try dsimp only at hSw); go_simp; first | done | with_reducible rfl
 try simp only [xap]
 refine xtk 1 rfl (yieldsIf_load_mid (by rfl) _ _ rfl _ _ rfl _ _ (fun _ h => h.1) Tryz.underlying101 rfl (by kernel_rfl)) ?_
 try simp only [xap]
 refine xso 3 ?_ rfl ?_ (xso 4 ?_ rfl ?_ ?_)
 iterate 2 (rotate_left; focus ((try simp only [xap]); intro w hSw; (try dsimp only at hSw); go_simp; first | done | with_reducible rfl))
 try simp only [xap]
 refine xrd 2 rfl (fun K hK => ?_)
 go_simp
 go_wp2_with (refine (b_any a (bxOf P s q) i _ (hq.out.gr g0) hb).mono ?_; rintro r V1 ⟨rfl, gg⟩; have g1 := g0.trans gg; clear gg g0 hHeld)
 refine hK.out _ _ (KS.out _ ((h.out.there (boxOb kb #[.int .u8 i.op, .int .i64 i.a, .int .i64 i.b, .int .i64 i.c, .int .u64 i.i]) (.head _)).gr g1)) (fun hHeld => ?_)
 clear hK K
 try simp only [xap]
 refine xso 5 ?_ rfl ?_ (xso 6 ?_ rfl ?_ ?_)
 iterate 2 (rotate_left; focus ((try simp only [xap]); intro w hSw; (try dsimp only at hSw); go_simp; first | done | with_reducible rfl))
 try simp only [xap]
 refine xdn ?_ _
 clear hHeld hq
 rw [show (bxOf P s q).r = s.r from rfl]
 clear q
 replace h := Hz.mk (h.out.gro g1)
 replace hB : Hz (Below B W0 V1) := Hz.mk (hB.out.trans (g1.below.mono hleW))
 clear g1
 have ht := Hz.mk (touch_bad B V1 a P s _ true (IntKind.u64.wrap (s.r i.b + i.i)) 16 h.out (by omega) hq9.out)
 go_wp2_with fail
 refine (ht.out).mono ?_
 rintro r V2 ⟨rfl, h2, hB2⟩
 replace hB : Hz (Below B W0 V2) := Hz.mk (hB.out.trans hB2)
 clear hB2
 clear h
 have h := Hz.mk h2
 clear h2
 go_wp2_with fail
 first | go_end0 | ((try simp only [Exit.inBlock, Exit.then]); refine bodyPost_ret (results_none rfl _ _ _) rfl ?_)
 exact ⟨rfl, h.out.drop, hB.out⟩
theorem store16_ok (B : Nat) (W0 : World) (a : Nat) (P : Pr) (s : Fm) (l : List Ob) (i : Fi) (h : MIn B W0 a P s l) (ha : i.a < 16) (hb : i.b < 16) (hq9 : IntKind.u64.wrap (s.r i.b + i.i) ≤ 65536 - 16) (hl : s.tc.length ≤ 1000000) (hp : s.p ≤ 1000000) (hr : 0 ≤ s.r i.a ∧ s.r i.a < 18446744073709551616) :
   Calls Tryz.prog 119 #[.agg #[.int .u8 i.op, .int .i64 i.a, .int .i64 i.b, .int .i64 i.c, .int .u64 i.i], .pointer (some ⟨a, 0, none⟩), .int .u64 16] W0 fun x w' => x = .returned (.tuple #[]) ∧ MIn B w' a P { s with tc := s.tc ++ [⟨true, IntKind.u64.wrap (s.r i.b + i.i), 16⟩], m := T.stB (T.stB s.m (IntKind.u64.wrap (s.r i.b + i.i)).toNat 8 (s.r i.a).toNat) ((IntKind.u64.wrap (s.r i.b + i.i)).toNat + 8) 8 0, p := s.p + 1 } l ∧ Below B W0 w' := by
 obtain ⟨N, hAD⟩ : ∃ N : Nat, IntKind.u64.wrap (s.r i.b + i.i) = (N : Int) := ⟨(IntKind.u64.wrap (s.r i.b + i.i)).toNat, by have := wrap_u64_nonneg (s.r i.b + i.i); omega⟩
 obtain ⟨RV, hRV⟩ : ∃ N : Nat, s.r i.a = (N : Int) := ⟨(s.r i.a).toNat, by omega⟩
 simp only [hAD, hRV, Int.toNat_natCast] at hq9 ⊢
 have e7 : N < 18446744073709551616 := by omega
 have e5 : N ≤ 65536 - 16 := by omega
 replace hq9 := Hz.mk hq9
 replace e5 := Hz.mk e5
 have h2 := Hz.mk (h.new #[.int .u8 i.op, .int .i64 i.a, .int .i64 i.b, .int .i64 i.c, .int .u64 i.i] 101)
 clear h
 go_enter Tryz.func119, Tryz.ntmps119
 go_upto_region 1 with fail
 refine wp_world (fun W => MIn B W a P s (boxOb W0.heap.size #[.int .u8 i.op, .int .i64 i.a, .int .i64 i.b, .int .i64 i.c, .int .u64 i.i] :: l) ∧ Below B W0 W) h2.out ?_
 rintro W ⟨h, hB⟩
 replace h := Hz.mk h
 replace hB := Hz.mk hB
 clear h2
 generalize W0.heap.size = kb at *
 have KS := xk1 i kb
 have hleW := h.out.le
 obtain ⟨q, hq⟩ := h.out.bx
 replace hq := Hz.mk hq
 have g0 : Gr W W.drew := (Gr.refl W).drew
 refine wp_region_held_drew (S := (fun W => W.rangeAt kb 0 (Fi.vals i) ∧ W.cell? ⟨kb, 1, none⟩ = some (.int .i64 i.a) ∧ W.cell? ⟨kb, 3, none⟩ = some (.int .i64 i.c) ∧ W.cell? ⟨kb, 4, none⟩ = some (.int .u64 i.i))) (by kernel_rfl) (KS.out _ ((h.out.there (boxOb kb #[.int .u8 i.op, .int .i64 i.a, .int .i64 i.b, .int .i64 i.c, .int .u64 i.i]) (.head _)).gr g0)) (fun hHeld => ?_)
 refine xso 0 ?_ rfl ?_ ?_
 rotate_left
 · intro w hSw; (try dsimp only at hSw); go_simp; first | done | with_reducible rfl
 try simp only [xap]
 refine xtk 1 rfl (yieldsIf_load_mid (by rfl) _ _ rfl _ _ rfl _ _ (fun _ h => h.1) Tryz.underlying101 rfl (by kernel_rfl)) ?_
 try simp only [xap]
 refine xso 3 ?_ rfl ?_ (xso 4 ?_ rfl ?_ ?_)
 iterate 2 (rotate_left; focus ((try simp only [xap]); intro w hSw; (try dsimp only at hSw); go_simp; first | done | with_reducible rfl))
 try simp only [xap]
 refine xrd 2 rfl (fun K hK => ?_)
 go_simp
 go_wp2_with (refine (b_any a (bxOf P s q) i _ (hq.out.gr g0) hb).mono ?_; rintro r V1 ⟨rfl, gg⟩; have g1 := g0.trans gg; clear gg g0 hHeld)
 refine hK.out _ _ (KS.out _ ((h.out.there (boxOb kb #[.int .u8 i.op, .int .i64 i.a, .int .i64 i.b, .int .i64 i.c, .int .u64 i.i]) (.head _)).gr g1)) (fun hHeld => ?_)
 clear hK K
 try simp only [xap]
 refine xso 5 ?_ rfl ?_ (xso 6 ?_ rfl ?_ ?_)
 iterate 2 (rotate_left; focus ((try simp only [xap]); intro w hSw; (try dsimp only at hSw); go_simp; first | done | with_reducible rfl))
 try simp only [xap]
 refine xdn ?_ _
 clear hHeld hq
 rw [show (bxOf P s q).r = s.r from rfl]
 clear q
 replace h := Hz.mk (h.out.gro g1)
 replace hB : Hz (Below B W0 V1) := Hz.mk (hB.out.trans (g1.below.mono hleW))
 clear g1
 rw [hAD]
 clear hAD
 have ht := Hz.mk (touch_ok B V1 a P s _ true (N : Int) 16 h.out (by omega) hq9.out hl)
 go_wp2_with fail
 refine (ht.out).mono ?_
 rintro r V2 ⟨rfl, h2, hB2⟩
 replace hB : Hz (Below B W0 V2) := Hz.mk (hB.out.trans hB2)
 clear hB2
 clear h
 have h := Hz.mk h2
 clear h2
 clear ht
 go_upto_region 3 with fail
 obtain ⟨q, hq⟩ := h.out.bx
 replace hq := Hz.mk hq
 have c3 : V2.cell? ⟨a, 3, none⟩ = some (.pointer (some ⟨q.mp, 0, none⟩)) := hq.out.at_ 3 (by omega)
 generalize hkm : q.mp = km at *
 clear hkm
 have hst := Hz.mk (fun V (g : Gr V2 V) => (h.out.gro g).store km (Gr.cellA h.out g c3) N 8 RV e7 (by decide))
 simp only [Int.cast_ofNat_Int] at hst
 have hleW := h.out.le
 have g0 : Gr V2 V2.drew := (Gr.refl V2).drew
 refine wp_region_held_drew (S := (fun W => W.rangeAt kb 0 (Fi.vals i) ∧ W.cell? ⟨a, 3, none⟩ = some (.pointer (some ⟨km, 0, none⟩)))) (by kernel_rfl) (⟨(KS.out _ ((h.out.there (boxOb kb #[.int .u8 i.op, .int .i64 i.a, .int .i64 i.b, .int .i64 i.c, .int .u64 i.i]) (.head _)).gr g0)).1, Gr.cellA h.out g0 c3⟩) (fun hHeld => ?_)
 refine xso 0 ?_ rfl ?_ (xso 1 ?_ rfl ?_ (xso 2 ?_ rfl ?_ (xso 3 ?_ rfl ?_ (xso 4 ?_ rfl ?_ (xso 5 ?_ rfl ?_ (xso 6 ?_ rfl ?_ (xso 7 ?_ rfl ?_ ?_)))))))
 iterate 8 (rotate_left; focus ((try simp only [xap]); intro w hSw; (try dsimp only at hSw); go_simp; first | done | with_reducible rfl))
 try simp only [xap]
 refine xtk 8 rfl (yieldsIf_load_mid (by rfl) _ _ rfl _ _ rfl _ _ (fun _ h => h.1) Tryz.underlying101 rfl (by kernel_rfl)) ?_
 try simp only [xap]
 refine xrd 9 rfl (fun K hK => ?_)
 go_simp
 go_wp2_with (refine (a_any a (bxOf P { s with tc := s.tc ++ [⟨true, (N : Int), 16⟩] } q) i _ (hq.out.gr g0) ha).mono ?_; rintro r V3 ⟨rfl, gg⟩; have g1 := g0.trans gg; clear gg g0 hHeld; rw [show (bxOf P { s with tc := s.tc ++ [⟨true, (N : Int), 16⟩] } q).r i.a = (RV : Int) from hRV])
 refine hK.out _ _ (⟨(KS.out _ ((h.out.there (boxOb kb #[.int .u8 i.op, .int .i64 i.a, .int .i64 i.b, .int .i64 i.c, .int .u64 i.i]) (.head _)).gr g1)).1, Gr.cellA h.out g1 c3⟩) (fun hHeld => ?_)
 clear hK K
 try simp only [xap]
 refine xrd 10 rfl (fun K hK => ?_)
 go_simp
 go_wp2_with (refine (hst.out _ g1).mono ?_; rintro r V4 ⟨rfl, h4, hB4, c4⟩; clear hHeld)
 refine hK.out _ _ (⟨(KS.out _ (h4.there (boxOb kb #[.int .u8 i.op, .int .i64 i.a, .int .i64 i.b, .int .i64 i.c, .int .u64 i.i]) (.head _))).1, c4⟩) (fun hHeld => ?_)
 clear hK K
 try simp only [xap]
 refine xdn ?_ _
 clear hHeld hq hst c3
 have hB2 := (g1.below.mono hleW).trans hB4
 clear g1 hB4
 replace hB : Hz (Below B W0 V4) := Hz.mk (hB.out.trans hB2)
 clear hB2
 clear h
 have h := Hz.mk h4
 clear h4 
 replace e5 := e5.out
 have e6 : IntKind.u64.wrap ((N : Int) + 8) = (N : Int) + 8 := wrap8 e5
 have hs2 := Hz.mk (h.out.store0 km c4 N (lt8 e5))
 replace e5 := Hz.mk e5
 go_wp2_with fail
 refine hs2.out.mono ?_
 rintro r V5 ⟨rfl, h2, hB2, _⟩
 clear hs2 e6 c4
 replace hB : Hz (Below B W0 V5) := Hz.mk (hB.out.trans hB2)
 clear hB2
 clear h
 have h := Hz.mk h2
 clear h2
 have hnx := Hz.mk (h.out.onBox (s' := { s with tc := s.tc ++ [⟨true, (N : Int), 16⟩], m := T.stB (T.stB s.m N 8 RV) (N + 8) 8 0, p := s.p + 1 }) ⟨rfl, rfl, rfl, rfl, rfl⟩ (fun q hb => next_any a _ _ hb hp))
 go_wp2_with fail
 refine (hnx.out).mono ?_
 rintro r V6 ⟨rfl, h2, hB2⟩
 replace hB : Hz (Below B W0 V6) := Hz.mk (hB.out.trans hB2)
 clear hB2
 clear h
 have h := Hz.mk h2
 clear h2
 go_wp2_with fail
 first | go_end0 | ((try simp only [Exit.inBlock, Exit.then]); refine bodyPost_ret (results_none rfl _ _ _) rfl ?_)
 exact ⟨rfl, h.out.drop, hB.out⟩
theorem storeByte_bad (B : Nat) (W0 : World) (a : Nat) (P : Pr) (s : Fm) (l : List Ob) (i : Fi) (h : MIn B W0 a P s l) (hb : i.b < 16) (hq9 : 65536 - 1 < IntKind.u64.wrap (s.r i.b + i.i)) :
   Calls Tryz.prog 100 #[.agg #[.int .u8 i.op, .int .i64 i.a, .int .i64 i.b, .int .i64 i.c, .int .u64 i.i], .pointer (some ⟨a, 0, none⟩)] W0 fun x w' => x = .returned (.tuple #[]) ∧ MIn B w' a P { s with e := 7, v := 0, f := 5 } l ∧ Below B W0 w' := by
 have hc := Hz.mk (fun W (g : MIn B W a P s (boxOb W0.heap.size #[.int .u8 i.op, .int .i64 i.a, .int .i64 i.b, .int .i64 i.c, .int .u64 i.i] :: l)) => store1_bad B W a P s _ i g hb hq9)
 have h2 := Hz.mk (h.new #[.int .u8 i.op, .int .i64 i.a, .int .i64 i.b, .int .i64 i.c, .int .u64 i.i] 101)
 clear h
 go_enter Tryz.func100, Tryz.ntmps100
 go_upto_region 1 with fail
 refine wp_world (fun W => MIn B W a P s (boxOb W0.heap.size #[.int .u8 i.op, .int .i64 i.a, .int .i64 i.b, .int .i64 i.c, .int .u64 i.i] :: l) ∧ Below B W0 W) h2.out ?_
 rintro W ⟨h, hB⟩
 replace h := Hz.mk h
 replace hB := Hz.mk hB
 clear h2
 generalize W0.heap.size = kb at *
 have KS := xk1 i kb
 have q0 : W.cell? ⟨kb, 0, none⟩ = some (.int .u8 i.op) := (h.out.there (boxOb kb #[.int .u8 i.op, .int .i64 i.a, .int .i64 i.b, .int .i64 i.c, .int .u64 i.i]) (.head _)).2.1 0
 have q1 : W.cell? ⟨kb, 1, none⟩ = some (.int .i64 i.a) := (h.out.there (boxOb kb #[.int .u8 i.op, .int .i64 i.a, .int .i64 i.b, .int .i64 i.c, .int .u64 i.i]) (.head _)).2.1 1
 have q2 : W.cell? ⟨kb, 2, none⟩ = some (.int .i64 i.b) := (h.out.there (boxOb kb #[.int .u8 i.op, .int .i64 i.a, .int .i64 i.b, .int .i64 i.c, .int .u64 i.i]) (.head _)).2.1 2
 have q3 : W.cell? ⟨kb, 3, none⟩ = some (.int .i64 i.c) := (h.out.there (boxOb kb #[.int .u8 i.op, .int .i64 i.a, .int .i64 i.b, .int .i64 i.c, .int .u64 i.i]) (.head _)).2.1 3
 have q4 : W.cell? ⟨kb, 4, none⟩ = some (.int .u64 i.i) := (h.out.there (boxOb kb #[.int .u8 i.op, .int .i64 i.a, .int .i64 i.b, .int .i64 i.c, .int .u64 i.i]) (.head _)).2.1 4
 go_wp2_with fail
 refine (hc.out _ h.out).mono ?_
 rintro r V2 ⟨rfl, h2, hB2⟩
 replace hB : Hz (Below B W0 V2) := Hz.mk (hB.out.trans hB2)
 clear hB2
 replace h2 := Hz.mk h2
 clear h hc
 go_wp2_with fail
 first | go_end0 | ((try simp only [Exit.inBlock, Exit.then]); refine bodyPost_ret (results_none rfl _ _ _) rfl ?_)
 exact ⟨rfl, h2.out.drop, hB.out⟩
theorem storeByte_ok (B : Nat) (W0 : World) (a : Nat) (P : Pr) (s : Fm) (l : List Ob) (i : Fi) (h : MIn B W0 a P s l) (ha : i.a < 16) (hb : i.b < 16) (hq9 : IntKind.u64.wrap (s.r i.b + i.i) ≤ 65536 - 1) (hl : s.tc.length ≤ 1000000) (hp : s.p ≤ 1000000) (hr : 0 ≤ s.r i.a ∧ s.r i.a < 18446744073709551616) :
   Calls Tryz.prog 100 #[.agg #[.int .u8 i.op, .int .i64 i.a, .int .i64 i.b, .int .i64 i.c, .int .u64 i.i], .pointer (some ⟨a, 0, none⟩)] W0 fun x w' => x = .returned (.tuple #[]) ∧ MIn B w' a P { s with tc := s.tc ++ [⟨true, IntKind.u64.wrap (s.r i.b + i.i), 1⟩], m := T.stB s.m (IntKind.u64.wrap (s.r i.b + i.i)).toNat 1 (s.r i.a).toNat, p := s.p + 1 } l ∧ Below B W0 w' := by
 have hc := Hz.mk (fun W (g : MIn B W a P s (boxOb W0.heap.size #[.int .u8 i.op, .int .i64 i.a, .int .i64 i.b, .int .i64 i.c, .int .u64 i.i] :: l)) => store1_ok B W a P s _ i g ha hb hq9 hl hp hr)
 have h2 := Hz.mk (h.new #[.int .u8 i.op, .int .i64 i.a, .int .i64 i.b, .int .i64 i.c, .int .u64 i.i] 101)
 clear h
 go_enter Tryz.func100, Tryz.ntmps100
 go_upto_region 1 with fail
 refine wp_world (fun W => MIn B W a P s (boxOb W0.heap.size #[.int .u8 i.op, .int .i64 i.a, .int .i64 i.b, .int .i64 i.c, .int .u64 i.i] :: l) ∧ Below B W0 W) h2.out ?_
 rintro W ⟨h, hB⟩
 replace h := Hz.mk h
 replace hB := Hz.mk hB
 clear h2
 generalize W0.heap.size = kb at *
 have KS := xk1 i kb
 have q0 : W.cell? ⟨kb, 0, none⟩ = some (.int .u8 i.op) := (h.out.there (boxOb kb #[.int .u8 i.op, .int .i64 i.a, .int .i64 i.b, .int .i64 i.c, .int .u64 i.i]) (.head _)).2.1 0
 have q1 : W.cell? ⟨kb, 1, none⟩ = some (.int .i64 i.a) := (h.out.there (boxOb kb #[.int .u8 i.op, .int .i64 i.a, .int .i64 i.b, .int .i64 i.c, .int .u64 i.i]) (.head _)).2.1 1
 have q2 : W.cell? ⟨kb, 2, none⟩ = some (.int .i64 i.b) := (h.out.there (boxOb kb #[.int .u8 i.op, .int .i64 i.a, .int .i64 i.b, .int .i64 i.c, .int .u64 i.i]) (.head _)).2.1 2
 have q3 : W.cell? ⟨kb, 3, none⟩ = some (.int .i64 i.c) := (h.out.there (boxOb kb #[.int .u8 i.op, .int .i64 i.a, .int .i64 i.b, .int .i64 i.c, .int .u64 i.i]) (.head _)).2.1 3
 have q4 : W.cell? ⟨kb, 4, none⟩ = some (.int .u64 i.i) := (h.out.there (boxOb kb #[.int .u8 i.op, .int .i64 i.a, .int .i64 i.b, .int .i64 i.c, .int .u64 i.i]) (.head _)).2.1 4
 go_wp2_with fail
 refine (hc.out _ h.out).mono ?_
 rintro r V2 ⟨rfl, h2, hB2⟩
 replace hB : Hz (Below B W0 V2) := Hz.mk (hB.out.trans hB2)
 clear hB2
 replace h2 := Hz.mk h2
 clear h hc
 go_wp2_with fail
 first | go_end0 | ((try simp only [Exit.inBlock, Exit.then]); refine bodyPost_ret (results_none rfl _ _ _) rfl ?_)
 exact ⟨rfl, h2.out.drop, hB.out⟩
theorem storeWord_bad (B : Nat) (W0 : World) (a : Nat) (P : Pr) (s : Fm) (l : List Ob) (i : Fi) (h : MIn B W0 a P s l) (hb : i.b < 16) (hq9 : 65536 - 8 < IntKind.u64.wrap (s.r i.b + i.i)) :
   Calls Tryz.prog 101 #[.agg #[.int .u8 i.op, .int .i64 i.a, .int .i64 i.b, .int .i64 i.c, .int .u64 i.i], .pointer (some ⟨a, 0, none⟩)] W0 fun x w' => x = .returned (.tuple #[]) ∧ MIn B w' a P { s with e := 7, v := 0, f := 5 } l ∧ Below B W0 w' := by
 have hc := Hz.mk (fun W (g : MIn B W a P s (boxOb W0.heap.size #[.int .u8 i.op, .int .i64 i.a, .int .i64 i.b, .int .i64 i.c, .int .u64 i.i] :: l)) => store8_bad B W a P s _ i g hb hq9)
 have h2 := Hz.mk (h.new #[.int .u8 i.op, .int .i64 i.a, .int .i64 i.b, .int .i64 i.c, .int .u64 i.i] 101)
 clear h
 go_enter Tryz.func101, Tryz.ntmps101
 go_upto_region 1 with fail
 refine wp_world (fun W => MIn B W a P s (boxOb W0.heap.size #[.int .u8 i.op, .int .i64 i.a, .int .i64 i.b, .int .i64 i.c, .int .u64 i.i] :: l) ∧ Below B W0 W) h2.out ?_
 rintro W ⟨h, hB⟩
 replace h := Hz.mk h
 replace hB := Hz.mk hB
 clear h2
 generalize W0.heap.size = kb at *
 have KS := xk1 i kb
 have q0 : W.cell? ⟨kb, 0, none⟩ = some (.int .u8 i.op) := (h.out.there (boxOb kb #[.int .u8 i.op, .int .i64 i.a, .int .i64 i.b, .int .i64 i.c, .int .u64 i.i]) (.head _)).2.1 0
 have q1 : W.cell? ⟨kb, 1, none⟩ = some (.int .i64 i.a) := (h.out.there (boxOb kb #[.int .u8 i.op, .int .i64 i.a, .int .i64 i.b, .int .i64 i.c, .int .u64 i.i]) (.head _)).2.1 1
 have q2 : W.cell? ⟨kb, 2, none⟩ = some (.int .i64 i.b) := (h.out.there (boxOb kb #[.int .u8 i.op, .int .i64 i.a, .int .i64 i.b, .int .i64 i.c, .int .u64 i.i]) (.head _)).2.1 2
 have q3 : W.cell? ⟨kb, 3, none⟩ = some (.int .i64 i.c) := (h.out.there (boxOb kb #[.int .u8 i.op, .int .i64 i.a, .int .i64 i.b, .int .i64 i.c, .int .u64 i.i]) (.head _)).2.1 3
 have q4 : W.cell? ⟨kb, 4, none⟩ = some (.int .u64 i.i) := (h.out.there (boxOb kb #[.int .u8 i.op, .int .i64 i.a, .int .i64 i.b, .int .i64 i.c, .int .u64 i.i]) (.head _)).2.1 4
 go_wp2_with fail
 refine (hc.out _ h.out).mono ?_
 rintro r V2 ⟨rfl, h2, hB2⟩
 replace hB : Hz (Below B W0 V2) := Hz.mk (hB.out.trans hB2)
 clear hB2
 replace h2 := Hz.mk h2
 clear h hc
 go_wp2_with fail
 first | go_end0 | ((try simp only [Exit.inBlock, Exit.then]); refine bodyPost_ret (results_none rfl _ _ _) rfl ?_)
 exact ⟨rfl, h2.out.drop, hB.out⟩
theorem storeWord_ok (B : Nat) (W0 : World) (a : Nat) (P : Pr) (s : Fm) (l : List Ob) (i : Fi) (h : MIn B W0 a P s l) (ha : i.a < 16) (hb : i.b < 16) (hq9 : IntKind.u64.wrap (s.r i.b + i.i) ≤ 65536 - 8) (hl : s.tc.length ≤ 1000000) (hp : s.p ≤ 1000000) (hr : 0 ≤ s.r i.a ∧ s.r i.a < 18446744073709551616) :
   Calls Tryz.prog 101 #[.agg #[.int .u8 i.op, .int .i64 i.a, .int .i64 i.b, .int .i64 i.c, .int .u64 i.i], .pointer (some ⟨a, 0, none⟩)] W0 fun x w' => x = .returned (.tuple #[]) ∧ MIn B w' a P { s with tc := s.tc ++ [⟨true, IntKind.u64.wrap (s.r i.b + i.i), 8⟩], m := T.stB s.m (IntKind.u64.wrap (s.r i.b + i.i)).toNat 8 (s.r i.a).toNat, p := s.p + 1 } l ∧ Below B W0 w' := by
 have hc := Hz.mk (fun W (g : MIn B W a P s (boxOb W0.heap.size #[.int .u8 i.op, .int .i64 i.a, .int .i64 i.b, .int .i64 i.c, .int .u64 i.i] :: l)) => store8_ok B W a P s _ i g ha hb hq9 hl hp hr)
 have h2 := Hz.mk (h.new #[.int .u8 i.op, .int .i64 i.a, .int .i64 i.b, .int .i64 i.c, .int .u64 i.i] 101)
 clear h
 go_enter Tryz.func101, Tryz.ntmps101
 go_upto_region 1 with fail
 refine wp_world (fun W => MIn B W a P s (boxOb W0.heap.size #[.int .u8 i.op, .int .i64 i.a, .int .i64 i.b, .int .i64 i.c, .int .u64 i.i] :: l) ∧ Below B W0 W) h2.out ?_
 rintro W ⟨h, hB⟩
 replace h := Hz.mk h
 replace hB := Hz.mk hB
 clear h2
 generalize W0.heap.size = kb at *
 have KS := xk1 i kb
 have q0 : W.cell? ⟨kb, 0, none⟩ = some (.int .u8 i.op) := (h.out.there (boxOb kb #[.int .u8 i.op, .int .i64 i.a, .int .i64 i.b, .int .i64 i.c, .int .u64 i.i]) (.head _)).2.1 0
 have q1 : W.cell? ⟨kb, 1, none⟩ = some (.int .i64 i.a) := (h.out.there (boxOb kb #[.int .u8 i.op, .int .i64 i.a, .int .i64 i.b, .int .i64 i.c, .int .u64 i.i]) (.head _)).2.1 1
 have q2 : W.cell? ⟨kb, 2, none⟩ = some (.int .i64 i.b) := (h.out.there (boxOb kb #[.int .u8 i.op, .int .i64 i.a, .int .i64 i.b, .int .i64 i.c, .int .u64 i.i]) (.head _)).2.1 2
 have q3 : W.cell? ⟨kb, 3, none⟩ = some (.int .i64 i.c) := (h.out.there (boxOb kb #[.int .u8 i.op, .int .i64 i.a, .int .i64 i.b, .int .i64 i.c, .int .u64 i.i]) (.head _)).2.1 3
 have q4 : W.cell? ⟨kb, 4, none⟩ = some (.int .u64 i.i) := (h.out.there (boxOb kb #[.int .u8 i.op, .int .i64 i.a, .int .i64 i.b, .int .i64 i.c, .int .u64 i.i]) (.head _)).2.1 4
 go_wp2_with fail
 refine (hc.out _ h.out).mono ?_
 rintro r V2 ⟨rfl, h2, hB2⟩
 replace hB : Hz (Below B W0 V2) := Hz.mk (hB.out.trans hB2)
 clear hB2
 replace h2 := Hz.mk h2
 clear h hc
 go_wp2_with fail
 first | go_end0 | ((try simp only [Exit.inBlock, Exit.then]); refine bodyPost_ret (results_none rfl _ _ _) rfl ?_)
 exact ⟨rfl, h2.out.drop, hB.out⟩
theorem storeGranule_bad (B : Nat) (W0 : World) (a : Nat) (P : Pr) (s : Fm) (l : List Ob) (i : Fi) (h : MIn B W0 a P s l) (hb : i.b < 16) (hq9 : 65536 - 16 < IntKind.u64.wrap (s.r i.b + i.i)) :
   Calls Tryz.prog 103 #[.agg #[.int .u8 i.op, .int .i64 i.a, .int .i64 i.b, .int .i64 i.c, .int .u64 i.i], .pointer (some ⟨a, 0, none⟩)] W0 fun x w' => x = .returned (.tuple #[]) ∧ MIn B w' a P { s with e := 7, v := 0, f := 5 } l ∧ Below B W0 w' := by
 have hc := Hz.mk (fun W (g : MIn B W a P s (boxOb W0.heap.size #[.int .u8 i.op, .int .i64 i.a, .int .i64 i.b, .int .i64 i.c, .int .u64 i.i] :: l)) => store16_bad B W a P s _ i g hb hq9)
 have h2 := Hz.mk (h.new #[.int .u8 i.op, .int .i64 i.a, .int .i64 i.b, .int .i64 i.c, .int .u64 i.i] 101)
 clear h
 go_enter Tryz.func103, Tryz.ntmps103
 go_upto_region 1 with fail
 refine wp_world (fun W => MIn B W a P s (boxOb W0.heap.size #[.int .u8 i.op, .int .i64 i.a, .int .i64 i.b, .int .i64 i.c, .int .u64 i.i] :: l) ∧ Below B W0 W) h2.out ?_
 rintro W ⟨h, hB⟩
 replace h := Hz.mk h
 replace hB := Hz.mk hB
 clear h2
 generalize W0.heap.size = kb at *
 have KS := xk1 i kb
 have q0 : W.cell? ⟨kb, 0, none⟩ = some (.int .u8 i.op) := (h.out.there (boxOb kb #[.int .u8 i.op, .int .i64 i.a, .int .i64 i.b, .int .i64 i.c, .int .u64 i.i]) (.head _)).2.1 0
 have q1 : W.cell? ⟨kb, 1, none⟩ = some (.int .i64 i.a) := (h.out.there (boxOb kb #[.int .u8 i.op, .int .i64 i.a, .int .i64 i.b, .int .i64 i.c, .int .u64 i.i]) (.head _)).2.1 1
 have q2 : W.cell? ⟨kb, 2, none⟩ = some (.int .i64 i.b) := (h.out.there (boxOb kb #[.int .u8 i.op, .int .i64 i.a, .int .i64 i.b, .int .i64 i.c, .int .u64 i.i]) (.head _)).2.1 2
 have q3 : W.cell? ⟨kb, 3, none⟩ = some (.int .i64 i.c) := (h.out.there (boxOb kb #[.int .u8 i.op, .int .i64 i.a, .int .i64 i.b, .int .i64 i.c, .int .u64 i.i]) (.head _)).2.1 3
 have q4 : W.cell? ⟨kb, 4, none⟩ = some (.int .u64 i.i) := (h.out.there (boxOb kb #[.int .u8 i.op, .int .i64 i.a, .int .i64 i.b, .int .i64 i.c, .int .u64 i.i]) (.head _)).2.1 4
 go_wp2_with fail
 refine (hc.out _ h.out).mono ?_
 rintro r V2 ⟨rfl, h2, hB2⟩
 replace hB : Hz (Below B W0 V2) := Hz.mk (hB.out.trans hB2)
 clear hB2
 replace h2 := Hz.mk h2
 clear h hc
 go_wp2_with fail
 first | go_end0 | ((try simp only [Exit.inBlock, Exit.then]); refine bodyPost_ret (results_none rfl _ _ _) rfl ?_)
 exact ⟨rfl, h2.out.drop, hB.out⟩
theorem storeGranule_ok (B : Nat) (W0 : World) (a : Nat) (P : Pr) (s : Fm) (l : List Ob) (i : Fi) (h : MIn B W0 a P s l) (ha : i.a < 16) (hb : i.b < 16) (hq9 : IntKind.u64.wrap (s.r i.b + i.i) ≤ 65536 - 16) (hl : s.tc.length ≤ 1000000) (hp : s.p ≤ 1000000) (hr : 0 ≤ s.r i.a ∧ s.r i.a < 18446744073709551616) :
   Calls Tryz.prog 103 #[.agg #[.int .u8 i.op, .int .i64 i.a, .int .i64 i.b, .int .i64 i.c, .int .u64 i.i], .pointer (some ⟨a, 0, none⟩)] W0 fun x w' => x = .returned (.tuple #[]) ∧ MIn B w' a P { s with tc := s.tc ++ [⟨true, IntKind.u64.wrap (s.r i.b + i.i), 16⟩], m := T.stB (T.stB s.m (IntKind.u64.wrap (s.r i.b + i.i)).toNat 8 (s.r i.a).toNat) ((IntKind.u64.wrap (s.r i.b + i.i)).toNat + 8) 8 0, p := s.p + 1 } l ∧ Below B W0 w' := by
 have hc := Hz.mk (fun W (g : MIn B W a P s (boxOb W0.heap.size #[.int .u8 i.op, .int .i64 i.a, .int .i64 i.b, .int .i64 i.c, .int .u64 i.i] :: l)) => store16_ok B W a P s _ i g ha hb hq9 hl hp hr)
 have h2 := Hz.mk (h.new #[.int .u8 i.op, .int .i64 i.a, .int .i64 i.b, .int .i64 i.c, .int .u64 i.i] 101)
 clear h
 go_enter Tryz.func103, Tryz.ntmps103
 go_upto_region 1 with fail
 refine wp_world (fun W => MIn B W a P s (boxOb W0.heap.size #[.int .u8 i.op, .int .i64 i.a, .int .i64 i.b, .int .i64 i.c, .int .u64 i.i] :: l) ∧ Below B W0 W) h2.out ?_
 rintro W ⟨h, hB⟩
 replace h := Hz.mk h
 replace hB := Hz.mk hB
 clear h2
 generalize W0.heap.size = kb at *
 have KS := xk1 i kb
 have q0 : W.cell? ⟨kb, 0, none⟩ = some (.int .u8 i.op) := (h.out.there (boxOb kb #[.int .u8 i.op, .int .i64 i.a, .int .i64 i.b, .int .i64 i.c, .int .u64 i.i]) (.head _)).2.1 0
 have q1 : W.cell? ⟨kb, 1, none⟩ = some (.int .i64 i.a) := (h.out.there (boxOb kb #[.int .u8 i.op, .int .i64 i.a, .int .i64 i.b, .int .i64 i.c, .int .u64 i.i]) (.head _)).2.1 1
 have q2 : W.cell? ⟨kb, 2, none⟩ = some (.int .i64 i.b) := (h.out.there (boxOb kb #[.int .u8 i.op, .int .i64 i.a, .int .i64 i.b, .int .i64 i.c, .int .u64 i.i]) (.head _)).2.1 2
 have q3 : W.cell? ⟨kb, 3, none⟩ = some (.int .i64 i.c) := (h.out.there (boxOb kb #[.int .u8 i.op, .int .i64 i.a, .int .i64 i.b, .int .i64 i.c, .int .u64 i.i]) (.head _)).2.1 3
 have q4 : W.cell? ⟨kb, 4, none⟩ = some (.int .u64 i.i) := (h.out.there (boxOb kb #[.int .u8 i.op, .int .i64 i.a, .int .i64 i.b, .int .i64 i.c, .int .u64 i.i]) (.head _)).2.1 4
 go_wp2_with fail
 refine (hc.out _ h.out).mono ?_
 rintro r V2 ⟨rfl, h2, hB2⟩
 replace hB : Hz (Below B W0 V2) := Hz.mk (hB.out.trans hB2)
 clear hB2
 replace h2 := Hz.mk h2
 clear h hc
 go_wp2_with fail
 first | go_end0 | ((try simp only [Exit.inBlock, Exit.then]); refine bodyPost_ret (results_none rfl _ _ _) rfl ?_)
 exact ⟨rfl, h2.out.drop, hB.out⟩
end Z
end Go.Proofs.YthfphgjjieddjaaGreat
