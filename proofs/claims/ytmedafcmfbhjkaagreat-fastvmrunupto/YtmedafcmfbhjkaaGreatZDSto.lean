import Derived.Test.YtmedafcmfbhjkaaGreatP44
namespace Go.Proofs.YtmedafcmfbhjkaaGreat
set_option maxRecDepth 100000
set_option maxHeartbeats 40000000
namespace Z
open Go.RowKit
open T (Sep Ob Kp Mf FlIn boxOb)

theorem by_next (N : Nat) : ((UInt8.ofNat (N % 256)).toNat : Int) = (N : Int) % 256 := by
 rw [UInt8.toNat_ofNat']
 omega
theorem qu_next (N : Nat) (h : N < 18446744073709551616) : IntKind.u64.wrap ((N : Int) / 256) = ((N / 256 : Nat) : Int) := by
 rw [IntKind.wrap_u64]
 omega
theorem dms62 (B : Nat) (W0 : World) (b : Nat) (c : Dc) (P : Pr) (s : Fm) (og op : Nat) (l : List Ob) (ia ib ic : Nat) (imm : Int) (h : DIo B W0 b c P s og op l) (hb : ib < 16) (A : Nat) (hA : IntKind.u64.wrap (s.r ib + imm) = (A : Int)) (v0 : Nat) (hv : s.r ia = (v0 : Int)) (hv64 : v0 < 18446744073709551616) (ha : ia < 16) (hf : A ≤ 65536 - 1) (htl : s.tc.length ≤ 1000000) (hp : s.p ≤ 1000000) :
   Calls Tryz.prog 30 #[.pointer (some ⟨b, 0, none⟩), .agg #[.int .u8 62, .int .i64 ia, .int .i64 ib, .int .i64 ic, .int .u64 imm]] W0 fun x w' => x = .returned (.tuple #[]) ∧ DIo B w' b c P ({ s with m := T.putB s.m A v0 1, tc := s.tc ++ [⟨true, (A : Int), 1⟩], p := s.p + 1 }) og op l ∧ Below B W0 w' := by
 replace hv := Hz.mk hv
 have h2 := Hz.mk (h.new #[.int .u8 62, .int .i64 ia, .int .i64 ib, .int .i64 ic, .int .u64 imm] 52)
 clear h
 go_enter Tryz.func30, Tryz.ntmps30
 go_upto_region 1 with fail
 refine wp_world (fun W => DIo B W b c P s og op (boxOb W0.heap.size #[.int .u8 62, .int .i64 ia, .int .i64 ib, .int .i64 ic, .int .u64 imm] :: l) ∧ Below B W0 W) h2.out ?_
 rintro W ⟨h, hB⟩
 replace h := Hz.mk h
 replace hB := Hz.mk hB
 clear h2
 generalize W0.heap.size = kb at *
 have KS := xk2 62 ia ib ic imm kb
 have k0 : W.cell? ⟨kb, 0, none⟩ = some (.int .u8 62) := (h.out.there (boxOb kb #[.int .u8 62, .int .i64 ia, .int .i64 ib, .int .i64 ic, .int .u64 imm]) (.head _)).2.1 0
 have hbi : (ib : Int) < 16 := by omega
 have hkb : kb < W.heap.size := (h.out.there (boxOb kb #[.int .u8 62, .int .i64 ia, .int .i64 ib, .int .i64 ic, .int .u64 imm]) (.head _)).1
 have hne : ¬ W.heap.size = kb := by omega
 go_upto_region 2 with fail
 refine wp_world (fun X => DIo B X b c P s og op (boxOb kb #[.int .u8 62, .int .i64 ia, .int .i64 ib, .int .i64 ic, .int .u64 imm] :: l) ∧ Below B W0 X) ⟨h.out.gr ((Gr.refl W).alloc _).below, hB.out.trans (((Gr.refl W).alloc _).below.mono h.out.le)⟩ ?_
 clear h hB k0 hkb hne
 rintro V ⟨h, hB⟩
 replace hB := Hz.mk (hB.trans (((Gr.refl V).drew).below.mono h.le))
 replace h := Hz.mk (h.gr ((Gr.refl V).drew).below)
 have k2 : V.drew.cell? ⟨kb, 2, none⟩ = some (.int .i64 ib) := (h.out.there (boxOb kb #[.int .u8 62, .int .i64 ia, .int .i64 ib, .int .i64 ic, .int .u64 imm]) (.head _)).2.1 2
 have k4 : V.drew.cell? ⟨kb, 4, none⟩ = some (.int .u64 imm) := (h.out.there (boxOb kb #[.int .u8 62, .int .i64 ia, .int .i64 ib, .int .i64 ic, .int .u64 imm]) (.head _)).2.1 4
 have kr : V.drew.cell? ⟨b, 6 + ib, none⟩ = some (.int .u64 (s.r ib)) := h.out.hand.2.2 ib _ (regs_at s.r ib hb)
 refine wp_region_held_drew (S := (fun X => (X.cell? ⟨kb, 2, none⟩ = some (.int .i64 ib)) ∧ X.cell? ⟨kb, 4, none⟩ = some (.int .u64 imm) ∧ X.cell? ⟨b, 6 + ib, none⟩ = some (.int .u64 (s.r ib)))) (by kernel_rfl) (⟨k2, k4, kr⟩) (fun hHeld => ?_)
 refine xso 0 ?_ rfl ?_ (xso 1 ?_ rfl ?_ (xso 2 ?_ rfl ?_ (xso 3 ?_ rfl ?_ (xso 4 ?_ rfl ?_ (xso 5 ?_ rfl ?_ (xso 6 ?_ rfl ?_ (xso 7 ?_ rfl ?_ (xso 8 ?_ rfl ?_ ?_))))))))
 iterate 9 (rotate_left; focus ((try simp only [xap]); intro w hSw; (try dsimp only at hSw); go_simp; first | done | with_reducible rfl))
 try simp only [xap]
 refine xtk 9 (v := .int .u64 (A : Int)) rfl (Or.inl ⟨by rfl, ?_⟩) ?_
 · intro w hSw; (try dsimp only at hSw); go_simp; first | done | (rw [hA])
 try simp only [xap]
 refine xso 10 ?_ rfl ?_ ?_
 rotate_left
 · intro w hSw; (try dsimp only at hSw); go_simp; first | done | with_reducible rfl
 try simp only [xap]
 refine xdn ?_ _
 clear hHeld k2 k4 kr
 generalize V.drew = V1 at *
 have h1 : ¬ (65536 : Int) ≤ (A : Int) := by omega
 have hw : IntKind.u64.wrap (65536 - (A : Int)) = 65536 - (A : Int) := by rw [IntKind.wrap_u64]; omega
 have h2 : ¬ 65536 - (A : Int) < 1 := by omega
 have k0 : V1.cell? ⟨kb, 0, none⟩ = some (.int .u8 62) := (h.out.there (boxOb kb #[.int .u8 62, .int .i64 ia, .int .i64 ib, .int .i64 ic, .int .u64 imm]) (.head _)).2.1 0
 have hai : (ia : Int) < 16 := by omega
 go_upto_region 7 with fail
 clear k0 h1 hw h2
 have k1 : V1.drew.cell? ⟨kb, 1, none⟩ = some (.int .i64 ia) := (h.out.there (boxOb kb #[.int .u8 62, .int .i64 ia, .int .i64 ib, .int .i64 ic, .int .u64 imm]) (.head _)).2.1 1
 have kr : V1.drew.cell? ⟨b, 6 + ia, none⟩ = some (.int .u64 (v0 : Int)) := by rw [← hv.out]; exact h.out.hand.2.2 ia _ (regs_at s.r ia ha)
 refine wp_region_held_drew (S := (fun X => (X.cell? ⟨kb, 1, none⟩ = some (.int .i64 ia)) ∧ X.cell? ⟨b, 6 + ia, none⟩ = some (.int .u64 (v0 : Int)))) (by kernel_rfl) (⟨k1, kr⟩) (fun hHeld => ?_)
 refine xso 0 ?_ rfl ?_ (xso 1 ?_ rfl ?_ (xso 2 ?_ rfl ?_ (xso 3 ?_ rfl ?_ (xso 4 ?_ rfl ?_ (xso 5 ?_ rfl ?_ (xso 6 ?_ rfl ?_ (xso 7 ?_ rfl ?_ ?_)))))))
 iterate 8 (rotate_left; focus ((try simp only [xap]); intro w hSw; (try dsimp only at hSw); go_simp; first | done | with_reducible rfl))
 try simp only [xap]
 refine xdn ?_ _
 clear hHeld k1 kr
 replace hB := Hz.mk (hB.out.trans (((Gr.refl V1).drew).below.mono h.out.le))
 replace h := Hz.mk (h.out.gr ((Gr.refl V1).drew).below)
 generalize V1.drew = V2 at *
 have h0 : Hz (DIo B V2 b c P { s with m := T.putB s.m A v0 0 } og op (boxOb kb #[.int .u8 62, .int .i64 ia, .int .i64 ib, .int .i64 ic, .int .u64 imm] :: l)) := h
 clear h
 go_upto_region 9 with fail
 go_loopw [8, 9] (fun y x wr => ∃ j N : Nat, x = .int .u64 j ∧ y = .int .u64 N ∧ j ≤ 1 ∧ Hz (N = v0 / 2 ^ (8 * j)) ∧ Hz (DIo B wr b c P { s with m := T.putB s.m A v0 j } og op (boxOb kb #[.int .u8 62, .int .i64 ia, .int .i64 ib, .int .i64 ic, .int .u64 imm] :: l)) ∧ Hz (Below B W0 wr)) (fun _ x _ => 1 - (intOf x).toNat)
 case atStart => exact ⟨0, v0, rfl, rfl, by omega, Hz.mk (by simp), h0, hB⟩
 case round =>
   clear h0 hB
   obtain ⟨j, N, rfl, rfl, hj, hN, h, hB⟩ := hrel
   by_cases hq : j < 1
   · have hq1 : (j : Int) < 1 := by omega
     have hw1 : IntKind.u64.wrap ((j : Int) + 1) = (j : Int) + 1 := by rw [IntKind.wrap_u64]; omega
     have hwa : IntKind.u64.wrap ((A : Int) + (j : Int)) = (A : Int) + (j : Int) := by rw [IntKind.wrap_u64]; omega
     have hix : (A : Int) + (j : Int) < 65536 := by omega
     obtain ⟨gm, km, c23, hgm, hmem, hset⟩ := h.out.mem
     have cm := (hmem (A + j) (by omega)).1
     have fm := (hmem (A + j) (by omega)).2
     have hqo := Hz.mk (qu_next N (by rw [hN.out]; exact Nat.lt_of_le_of_lt (Nat.div_le_self _ _) hv64))
     have hst := hset (A + j) (by omega) (UInt8.ofNat (N % 256))
     rw [by_next N] at hst
     have hm1 : Hz (T.upd (T.putB s.m A v0 j) (A + j) (UInt8.ofNat (N % 256)) = T.putB s.m A v0 (j + 1)) := Hz.mk (by rw [hN.out]; rfl)
     rw [hm1.out] at hst
     replace hst := Hz.mk hst
     clear hmem hset
     go_wp2_with fail
     refine And.intro (Exists.intro (j + 1) (Exists.intro (N / 256) ⟨rfl, congrArg (Value.int IntKind.u64) hqo.out, by omega, Hz.mk (by rw [hN.out, Nat.div_div_eq_div_mul, show (256 : Nat) = 2 ^ 8 from rfl, ← Nat.pow_add, show 8 * j + 8 = 8 * (j + 1) by omega]), Hz.mk hst.out.1, Hz.mk (hB.out.trans hst.out.2)⟩)) ?_
     simp [intOf]
     omega
   · have hq1 : ¬ (j : Int) < 1 := by omega
     obtain rfl : j = 1 := by omega
     clear hN
     obtain ⟨m9, hm9⟩ : ∃ m, T.putB s.m A v0 1 = m := ⟨_, rfl⟩
     rw [hm9] at h
     replace hm9 := Hz.mk hm9
     go_upto_region 18 with fail
     obtain ⟨q, ta, tk, hq, c26, hO2, hap⟩ := h.out.appT ⟨true, (A : Int), 1⟩
     have hlt := hq.lt
     have hleW := h.out.le
     clear hq
     replace hO2 := Hz.mk hO2
     replace hap := Hz.mk hap
     have hxs : ∃ xs, s.tc.flatMap Tc.vals = xs := ⟨_, rfl⟩
     obtain ⟨xs, hxs⟩ := hxs
     rw [hxs] at hO2 hap
     clear hxs
     refine wp_region_lit ?_
     iterate 10 (refine wpList_plain rfl (fun K hK => ?_); go_simp; with_reducible refine hK _ _ ?_; clear hK K; (try simp only [xap]))
     have hX : At (wr.alloc (.cells (List.toArray [Value.bool true, .int .u64 (A : Int), .int .u64 1]) 61)) wr.heap.size (List.toArray [Value.bool true, .int .u64 (A : Int), .int .u64 1]) := At.new wr _ _
     have gX : Gr wr (wr.alloc (.cells (List.toArray [Value.bool true, .int .u64 (A : Int), .int .u64 1]) 61)) := (Gr.refl wr).alloc _
     generalize wr.alloc (.cells (List.toArray [Value.bool true, .int .u64 (A : Int), .int .u64 1]) 61) = VX at *
     generalize wr.heap.size = kX at hX ⊢
     refine wpList_plain rfl (fun K hK => ?_)
     refine wp_append_z _ _ 58 61 (.agg #[.bool false, .int .u64 0, .int .u64 0]) 3 24 rfl Tryz.underlying58 (by kernel_rfl) (by kernel_rfl) (by decide) (by decide) B (.slice ta s.tc.length tk) s.tc.length xs [Value.bool true, .int .u64 (A : Int), .int .u64 1] (by rfl) (hO2.out VX gX.below) kX (by rfl) hX rfl (by simp [Value.oneCell']) htl (Nat.le_trans hleW gX.below.size) ?_
     intro g cap W2 k1 k2 k3
     obtain ⟨hq2, hA2, hM, hBe⟩ := hap.out VX W2 g cap gX.below k1 k2 k3
     have cu : W2.cell? ⟨b, 26, none⟩ = some _ := hq2.at_ 26 (by omega)
     have fu := hq2.fr 26
     have hlt2 := hq2.lt
     replace hM := Hz.mk hM
     clear hap hO2 k1 k2 k3 hq2 hA2 hX gX
     with_reducible refine hK _ _ ?_
     clear hK K
     try simp only [xap]
     iterate 2 (refine wpList_plain rfl (fun K hK => ?_); go_simp; with_reducible refine hK _ _ ?_; clear hK K; (try simp only [xap]))
     refine wpList_plain rfl (fun K hK => ?_)
     go_simp
     with_reducible refine hK _ _ ?_
     clear hK K
     try simp only [Act.put]
     replace hB := Hz.mk (hB.out.trans hBe)
     clear hBe h cu fu hlt2 hlt c26 hleW
     generalize World.setCell _ _ _ = V5 at *
     have h := hM
     clear hM
     have c5 : V5.cell? ⟨b, 5, none⟩ = some (.int .i64 s.p) := by obtain ⟨q, hq⟩ := h.out.box; exact hq.at_ 5 (by omega)
     have f5 : V5.frozen? ⟨b, 5, none⟩ = false := by obtain ⟨q, hq⟩ := h.out.box; exact hq.fr 5
     have hlt : b < V5.heap.size := by obtain ⟨q, hq⟩ := h.out.box; exact hq.lt
     have hw5 : wrap64 ((s.p : Int) + 1) = (s.p : Int) + 1 := by unfold wrap64; omega
     have hpc := Hz.mk h.out.pc
     go_wp2_with fail
     first | go_end0 | ((try simp only [Exit.inBlock, Exit.then]); refine bodyPost_ret (results_none rfl _ _ _) rfl ?_)
     rw [hm9.out]
     refine ⟨rfl, hpc.out.1.drop, hB.out.trans hpc.out.2⟩
theorem dms63 (B : Nat) (W0 : World) (b : Nat) (c : Dc) (P : Pr) (s : Fm) (og op : Nat) (l : List Ob) (ia ib ic : Nat) (imm : Int) (h : DIo B W0 b c P s og op l) (hb : ib < 16) (A : Nat) (hA : IntKind.u64.wrap (s.r ib + imm) = (A : Int)) (v0 : Nat) (hv : s.r ia = (v0 : Int)) (hv64 : v0 < 18446744073709551616) (ha : ia < 16) (hf : A ≤ 65536 - 8) (htl : s.tc.length ≤ 1000000) (hp : s.p ≤ 1000000) :
   Calls Tryz.prog 30 #[.pointer (some ⟨b, 0, none⟩), .agg #[.int .u8 63, .int .i64 ia, .int .i64 ib, .int .i64 ic, .int .u64 imm]] W0 fun x w' => x = .returned (.tuple #[]) ∧ DIo B w' b c P ({ s with m := T.putB s.m A v0 8, tc := s.tc ++ [⟨true, (A : Int), 8⟩], p := s.p + 1 }) og op l ∧ Below B W0 w' := by
 replace hv := Hz.mk hv
 have h2 := Hz.mk (h.new #[.int .u8 63, .int .i64 ia, .int .i64 ib, .int .i64 ic, .int .u64 imm] 52)
 clear h
 go_enter Tryz.func30, Tryz.ntmps30
 go_upto_region 1 with fail
 refine wp_world (fun W => DIo B W b c P s og op (boxOb W0.heap.size #[.int .u8 63, .int .i64 ia, .int .i64 ib, .int .i64 ic, .int .u64 imm] :: l) ∧ Below B W0 W) h2.out ?_
 rintro W ⟨h, hB⟩
 replace h := Hz.mk h
 replace hB := Hz.mk hB
 clear h2
 generalize W0.heap.size = kb at *
 have KS := xk2 63 ia ib ic imm kb
 have k0 : W.cell? ⟨kb, 0, none⟩ = some (.int .u8 63) := (h.out.there (boxOb kb #[.int .u8 63, .int .i64 ia, .int .i64 ib, .int .i64 ic, .int .u64 imm]) (.head _)).2.1 0
 have hbi : (ib : Int) < 16 := by omega
 have hkb : kb < W.heap.size := (h.out.there (boxOb kb #[.int .u8 63, .int .i64 ia, .int .i64 ib, .int .i64 ic, .int .u64 imm]) (.head _)).1
 have hne : ¬ W.heap.size = kb := by omega
 go_upto_region 2 with fail
 refine wp_world (fun X => DIo B X b c P s og op (boxOb kb #[.int .u8 63, .int .i64 ia, .int .i64 ib, .int .i64 ic, .int .u64 imm] :: l) ∧ Below B W0 X) ⟨h.out.gr ((Gr.refl W).alloc _).below, hB.out.trans (((Gr.refl W).alloc _).below.mono h.out.le)⟩ ?_
 clear h hB k0 hkb hne
 rintro V ⟨h, hB⟩
 replace hB := Hz.mk (hB.trans (((Gr.refl V).drew).below.mono h.le))
 replace h := Hz.mk (h.gr ((Gr.refl V).drew).below)
 have k2 : V.drew.cell? ⟨kb, 2, none⟩ = some (.int .i64 ib) := (h.out.there (boxOb kb #[.int .u8 63, .int .i64 ia, .int .i64 ib, .int .i64 ic, .int .u64 imm]) (.head _)).2.1 2
 have k4 : V.drew.cell? ⟨kb, 4, none⟩ = some (.int .u64 imm) := (h.out.there (boxOb kb #[.int .u8 63, .int .i64 ia, .int .i64 ib, .int .i64 ic, .int .u64 imm]) (.head _)).2.1 4
 have kr : V.drew.cell? ⟨b, 6 + ib, none⟩ = some (.int .u64 (s.r ib)) := h.out.hand.2.2 ib _ (regs_at s.r ib hb)
 refine wp_region_held_drew (S := (fun X => (X.cell? ⟨kb, 2, none⟩ = some (.int .i64 ib)) ∧ X.cell? ⟨kb, 4, none⟩ = some (.int .u64 imm) ∧ X.cell? ⟨b, 6 + ib, none⟩ = some (.int .u64 (s.r ib)))) (by kernel_rfl) (⟨k2, k4, kr⟩) (fun hHeld => ?_)
 refine xso 0 ?_ rfl ?_ (xso 1 ?_ rfl ?_ (xso 2 ?_ rfl ?_ (xso 3 ?_ rfl ?_ (xso 4 ?_ rfl ?_ (xso 5 ?_ rfl ?_ (xso 6 ?_ rfl ?_ (xso 7 ?_ rfl ?_ (xso 8 ?_ rfl ?_ ?_))))))))
 iterate 9 (rotate_left; focus ((try simp only [xap]); intro w hSw; (try dsimp only at hSw); go_simp; first | done | with_reducible rfl))
 try simp only [xap]
 refine xtk 9 (v := .int .u64 (A : Int)) rfl (Or.inl ⟨by rfl, ?_⟩) ?_
 · intro w hSw; (try dsimp only at hSw); go_simp; first | done | (rw [hA])
 try simp only [xap]
 refine xso 10 ?_ rfl ?_ ?_
 rotate_left
 · intro w hSw; (try dsimp only at hSw); go_simp; first | done | with_reducible rfl
 try simp only [xap]
 refine xdn ?_ _
 clear hHeld k2 k4 kr
 generalize V.drew = V1 at *
 have h1 : ¬ (65536 : Int) ≤ (A : Int) := by omega
 have hw : IntKind.u64.wrap (65536 - (A : Int)) = 65536 - (A : Int) := by rw [IntKind.wrap_u64]; omega
 have h2 : ¬ 65536 - (A : Int) < 8 := by omega
 have k0 : V1.cell? ⟨kb, 0, none⟩ = some (.int .u8 63) := (h.out.there (boxOb kb #[.int .u8 63, .int .i64 ia, .int .i64 ib, .int .i64 ic, .int .u64 imm]) (.head _)).2.1 0
 have hai : (ia : Int) < 16 := by omega
 go_upto_region 7 with fail
 clear k0 h1 hw h2
 have k1 : V1.drew.cell? ⟨kb, 1, none⟩ = some (.int .i64 ia) := (h.out.there (boxOb kb #[.int .u8 63, .int .i64 ia, .int .i64 ib, .int .i64 ic, .int .u64 imm]) (.head _)).2.1 1
 have kr : V1.drew.cell? ⟨b, 6 + ia, none⟩ = some (.int .u64 (v0 : Int)) := by rw [← hv.out]; exact h.out.hand.2.2 ia _ (regs_at s.r ia ha)
 refine wp_region_held_drew (S := (fun X => (X.cell? ⟨kb, 1, none⟩ = some (.int .i64 ia)) ∧ X.cell? ⟨b, 6 + ia, none⟩ = some (.int .u64 (v0 : Int)))) (by kernel_rfl) (⟨k1, kr⟩) (fun hHeld => ?_)
 refine xso 0 ?_ rfl ?_ (xso 1 ?_ rfl ?_ (xso 2 ?_ rfl ?_ (xso 3 ?_ rfl ?_ (xso 4 ?_ rfl ?_ (xso 5 ?_ rfl ?_ (xso 6 ?_ rfl ?_ (xso 7 ?_ rfl ?_ ?_)))))))
 iterate 8 (rotate_left; focus ((try simp only [xap]); intro w hSw; (try dsimp only at hSw); go_simp; first | done | with_reducible rfl))
 try simp only [xap]
 refine xdn ?_ _
 clear hHeld k1 kr
 replace hB := Hz.mk (hB.out.trans (((Gr.refl V1).drew).below.mono h.out.le))
 replace h := Hz.mk (h.out.gr ((Gr.refl V1).drew).below)
 generalize V1.drew = V2 at *
 have h0 : Hz (DIo B V2 b c P { s with m := T.putB s.m A v0 0 } og op (boxOb kb #[.int .u8 63, .int .i64 ia, .int .i64 ib, .int .i64 ic, .int .u64 imm] :: l)) := h
 clear h
 go_upto_region 9 with fail
 go_loopw [8, 9] (fun y x wr => ∃ j N : Nat, x = .int .u64 j ∧ y = .int .u64 N ∧ j ≤ 8 ∧ Hz (N = v0 / 2 ^ (8 * j)) ∧ Hz (DIo B wr b c P { s with m := T.putB s.m A v0 j } og op (boxOb kb #[.int .u8 63, .int .i64 ia, .int .i64 ib, .int .i64 ic, .int .u64 imm] :: l)) ∧ Hz (Below B W0 wr)) (fun _ x _ => 8 - (intOf x).toNat)
 case atStart => exact ⟨0, v0, rfl, rfl, by omega, Hz.mk (by simp), h0, hB⟩
 case round =>
   clear h0 hB
   obtain ⟨j, N, rfl, rfl, hj, hN, h, hB⟩ := hrel
   by_cases hq : j < 8
   · have hq1 : (j : Int) < 8 := by omega
     have hw1 : IntKind.u64.wrap ((j : Int) + 1) = (j : Int) + 1 := by rw [IntKind.wrap_u64]; omega
     have hwa : IntKind.u64.wrap ((A : Int) + (j : Int)) = (A : Int) + (j : Int) := by rw [IntKind.wrap_u64]; omega
     have hix : (A : Int) + (j : Int) < 65536 := by omega
     obtain ⟨gm, km, c23, hgm, hmem, hset⟩ := h.out.mem
     have cm := (hmem (A + j) (by omega)).1
     have fm := (hmem (A + j) (by omega)).2
     have hqo := Hz.mk (qu_next N (by rw [hN.out]; exact Nat.lt_of_le_of_lt (Nat.div_le_self _ _) hv64))
     have hst := hset (A + j) (by omega) (UInt8.ofNat (N % 256))
     rw [by_next N] at hst
     have hm1 : Hz (T.upd (T.putB s.m A v0 j) (A + j) (UInt8.ofNat (N % 256)) = T.putB s.m A v0 (j + 1)) := Hz.mk (by rw [hN.out]; rfl)
     rw [hm1.out] at hst
     replace hst := Hz.mk hst
     clear hmem hset
     go_wp2_with fail
     refine And.intro (Exists.intro (j + 1) (Exists.intro (N / 256) ⟨rfl, congrArg (Value.int IntKind.u64) hqo.out, by omega, Hz.mk (by rw [hN.out, Nat.div_div_eq_div_mul, show (256 : Nat) = 2 ^ 8 from rfl, ← Nat.pow_add, show 8 * j + 8 = 8 * (j + 1) by omega]), Hz.mk hst.out.1, Hz.mk (hB.out.trans hst.out.2)⟩)) ?_
     simp [intOf]
     omega
   · have hq1 : ¬ (j : Int) < 8 := by omega
     obtain rfl : j = 8 := by omega
     clear hN
     obtain ⟨m9, hm9⟩ : ∃ m, T.putB s.m A v0 8 = m := ⟨_, rfl⟩
     rw [hm9] at h
     replace hm9 := Hz.mk hm9
     go_upto_region 18 with fail
     obtain ⟨q, ta, tk, hq, c26, hO2, hap⟩ := h.out.appT ⟨true, (A : Int), 8⟩
     have hlt := hq.lt
     have hleW := h.out.le
     clear hq
     replace hO2 := Hz.mk hO2
     replace hap := Hz.mk hap
     have hxs : ∃ xs, s.tc.flatMap Tc.vals = xs := ⟨_, rfl⟩
     obtain ⟨xs, hxs⟩ := hxs
     rw [hxs] at hO2 hap
     clear hxs
     refine wp_region_lit ?_
     iterate 10 (refine wpList_plain rfl (fun K hK => ?_); go_simp; with_reducible refine hK _ _ ?_; clear hK K; (try simp only [xap]))
     have hX : At (wr.alloc (.cells (List.toArray [Value.bool true, .int .u64 (A : Int), .int .u64 8]) 61)) wr.heap.size (List.toArray [Value.bool true, .int .u64 (A : Int), .int .u64 8]) := At.new wr _ _
     have gX : Gr wr (wr.alloc (.cells (List.toArray [Value.bool true, .int .u64 (A : Int), .int .u64 8]) 61)) := (Gr.refl wr).alloc _
     generalize wr.alloc (.cells (List.toArray [Value.bool true, .int .u64 (A : Int), .int .u64 8]) 61) = VX at *
     generalize wr.heap.size = kX at hX ⊢
     refine wpList_plain rfl (fun K hK => ?_)
     refine wp_append_z _ _ 58 61 (.agg #[.bool false, .int .u64 0, .int .u64 0]) 3 24 rfl Tryz.underlying58 (by kernel_rfl) (by kernel_rfl) (by decide) (by decide) B (.slice ta s.tc.length tk) s.tc.length xs [Value.bool true, .int .u64 (A : Int), .int .u64 8] (by rfl) (hO2.out VX gX.below) kX (by rfl) hX rfl (by simp [Value.oneCell']) htl (Nat.le_trans hleW gX.below.size) ?_
     intro g cap W2 k1 k2 k3
     obtain ⟨hq2, hA2, hM, hBe⟩ := hap.out VX W2 g cap gX.below k1 k2 k3
     have cu : W2.cell? ⟨b, 26, none⟩ = some _ := hq2.at_ 26 (by omega)
     have fu := hq2.fr 26
     have hlt2 := hq2.lt
     replace hM := Hz.mk hM
     clear hap hO2 k1 k2 k3 hq2 hA2 hX gX
     with_reducible refine hK _ _ ?_
     clear hK K
     try simp only [xap]
     iterate 2 (refine wpList_plain rfl (fun K hK => ?_); go_simp; with_reducible refine hK _ _ ?_; clear hK K; (try simp only [xap]))
     refine wpList_plain rfl (fun K hK => ?_)
     go_simp
     with_reducible refine hK _ _ ?_
     clear hK K
     try simp only [Act.put]
     replace hB := Hz.mk (hB.out.trans hBe)
     clear hBe h cu fu hlt2 hlt c26 hleW
     generalize World.setCell _ _ _ = V5 at *
     have h := hM
     clear hM
     have c5 : V5.cell? ⟨b, 5, none⟩ = some (.int .i64 s.p) := by obtain ⟨q, hq⟩ := h.out.box; exact hq.at_ 5 (by omega)
     have f5 : V5.frozen? ⟨b, 5, none⟩ = false := by obtain ⟨q, hq⟩ := h.out.box; exact hq.fr 5
     have hlt : b < V5.heap.size := by obtain ⟨q, hq⟩ := h.out.box; exact hq.lt
     have hw5 : wrap64 ((s.p : Int) + 1) = (s.p : Int) + 1 := by unfold wrap64; omega
     have hpc := Hz.mk h.out.pc
     go_wp2_with fail
     first | go_end0 | ((try simp only [Exit.inBlock, Exit.then]); refine bodyPost_ret (results_none rfl _ _ _) rfl ?_)
     rw [hm9.out]
     refine ⟨rfl, hpc.out.1.drop, hB.out.trans hpc.out.2⟩
theorem dms65 (B : Nat) (W0 : World) (b : Nat) (c : Dc) (P : Pr) (s : Fm) (og op : Nat) (l : List Ob) (ia ib ic : Nat) (imm : Int) (h : DIo B W0 b c P s og op l) (hb : ib < 16) (A : Nat) (hA : IntKind.u64.wrap (s.r ib + imm) = (A : Int)) (v0 : Nat) (hv : s.r ia = (v0 : Int)) (hv64 : v0 < 18446744073709551616) (ha : ia < 16) (hf : A ≤ 65536 - 16) (htl : s.tc.length ≤ 1000000) (hp : s.p ≤ 1000000) :
   Calls Tryz.prog 30 #[.pointer (some ⟨b, 0, none⟩), .agg #[.int .u8 65, .int .i64 ia, .int .i64 ib, .int .i64 ic, .int .u64 imm]] W0 fun x w' => x = .returned (.tuple #[]) ∧ DIo B w' b c P ({ s with m := T.putB s.m A v0 16, tc := s.tc ++ [⟨true, (A : Int), 16⟩], p := s.p + 1 }) og op l ∧ Below B W0 w' := by
 replace hv := Hz.mk hv
 have h2 := Hz.mk (h.new #[.int .u8 65, .int .i64 ia, .int .i64 ib, .int .i64 ic, .int .u64 imm] 52)
 clear h
 go_enter Tryz.func30, Tryz.ntmps30
 go_upto_region 1 with fail
 refine wp_world (fun W => DIo B W b c P s og op (boxOb W0.heap.size #[.int .u8 65, .int .i64 ia, .int .i64 ib, .int .i64 ic, .int .u64 imm] :: l) ∧ Below B W0 W) h2.out ?_
 rintro W ⟨h, hB⟩
 replace h := Hz.mk h
 replace hB := Hz.mk hB
 clear h2
 generalize W0.heap.size = kb at *
 have KS := xk2 65 ia ib ic imm kb
 have k0 : W.cell? ⟨kb, 0, none⟩ = some (.int .u8 65) := (h.out.there (boxOb kb #[.int .u8 65, .int .i64 ia, .int .i64 ib, .int .i64 ic, .int .u64 imm]) (.head _)).2.1 0
 have hbi : (ib : Int) < 16 := by omega
 have hkb : kb < W.heap.size := (h.out.there (boxOb kb #[.int .u8 65, .int .i64 ia, .int .i64 ib, .int .i64 ic, .int .u64 imm]) (.head _)).1
 have hne : ¬ W.heap.size = kb := by omega
 go_upto_region 2 with fail
 refine wp_world (fun X => DIo B X b c P s og op (boxOb kb #[.int .u8 65, .int .i64 ia, .int .i64 ib, .int .i64 ic, .int .u64 imm] :: l) ∧ Below B W0 X) ⟨h.out.gr ((Gr.refl W).alloc _).below, hB.out.trans (((Gr.refl W).alloc _).below.mono h.out.le)⟩ ?_
 clear h hB k0 hkb hne
 rintro V ⟨h, hB⟩
 replace hB := Hz.mk (hB.trans (((Gr.refl V).drew).below.mono h.le))
 replace h := Hz.mk (h.gr ((Gr.refl V).drew).below)
 have k2 : V.drew.cell? ⟨kb, 2, none⟩ = some (.int .i64 ib) := (h.out.there (boxOb kb #[.int .u8 65, .int .i64 ia, .int .i64 ib, .int .i64 ic, .int .u64 imm]) (.head _)).2.1 2
 have k4 : V.drew.cell? ⟨kb, 4, none⟩ = some (.int .u64 imm) := (h.out.there (boxOb kb #[.int .u8 65, .int .i64 ia, .int .i64 ib, .int .i64 ic, .int .u64 imm]) (.head _)).2.1 4
 have kr : V.drew.cell? ⟨b, 6 + ib, none⟩ = some (.int .u64 (s.r ib)) := h.out.hand.2.2 ib _ (regs_at s.r ib hb)
 refine wp_region_held_drew (S := (fun X => (X.cell? ⟨kb, 2, none⟩ = some (.int .i64 ib)) ∧ X.cell? ⟨kb, 4, none⟩ = some (.int .u64 imm) ∧ X.cell? ⟨b, 6 + ib, none⟩ = some (.int .u64 (s.r ib)))) (by kernel_rfl) (⟨k2, k4, kr⟩) (fun hHeld => ?_)
 refine xso 0 ?_ rfl ?_ (xso 1 ?_ rfl ?_ (xso 2 ?_ rfl ?_ (xso 3 ?_ rfl ?_ (xso 4 ?_ rfl ?_ (xso 5 ?_ rfl ?_ (xso 6 ?_ rfl ?_ (xso 7 ?_ rfl ?_ (xso 8 ?_ rfl ?_ ?_))))))))
 iterate 9 (rotate_left; focus ((try simp only [xap]); intro w hSw; (try dsimp only at hSw); go_simp; first | done | with_reducible rfl))
 try simp only [xap]
 refine xtk 9 (v := .int .u64 (A : Int)) rfl (Or.inl ⟨by rfl, ?_⟩) ?_
 · intro w hSw; (try dsimp only at hSw); go_simp; first | done | (rw [hA])
 try simp only [xap]
 refine xso 10 ?_ rfl ?_ ?_
 rotate_left
 · intro w hSw; (try dsimp only at hSw); go_simp; first | done | with_reducible rfl
 try simp only [xap]
 refine xdn ?_ _
 clear hHeld k2 k4 kr
 generalize V.drew = V1 at *
 have h1 : ¬ (65536 : Int) ≤ (A : Int) := by omega
 have hw : IntKind.u64.wrap (65536 - (A : Int)) = 65536 - (A : Int) := by rw [IntKind.wrap_u64]; omega
 have h2 : ¬ 65536 - (A : Int) < 16 := by omega
 have k0 : V1.cell? ⟨kb, 0, none⟩ = some (.int .u8 65) := (h.out.there (boxOb kb #[.int .u8 65, .int .i64 ia, .int .i64 ib, .int .i64 ic, .int .u64 imm]) (.head _)).2.1 0
 have hai : (ia : Int) < 16 := by omega
 go_upto_region 7 with fail
 clear k0 h1 hw h2
 have k1 : V1.drew.cell? ⟨kb, 1, none⟩ = some (.int .i64 ia) := (h.out.there (boxOb kb #[.int .u8 65, .int .i64 ia, .int .i64 ib, .int .i64 ic, .int .u64 imm]) (.head _)).2.1 1
 have kr : V1.drew.cell? ⟨b, 6 + ia, none⟩ = some (.int .u64 (v0 : Int)) := by rw [← hv.out]; exact h.out.hand.2.2 ia _ (regs_at s.r ia ha)
 refine wp_region_held_drew (S := (fun X => (X.cell? ⟨kb, 1, none⟩ = some (.int .i64 ia)) ∧ X.cell? ⟨b, 6 + ia, none⟩ = some (.int .u64 (v0 : Int)))) (by kernel_rfl) (⟨k1, kr⟩) (fun hHeld => ?_)
 refine xso 0 ?_ rfl ?_ (xso 1 ?_ rfl ?_ (xso 2 ?_ rfl ?_ (xso 3 ?_ rfl ?_ (xso 4 ?_ rfl ?_ (xso 5 ?_ rfl ?_ (xso 6 ?_ rfl ?_ (xso 7 ?_ rfl ?_ ?_)))))))
 iterate 8 (rotate_left; focus ((try simp only [xap]); intro w hSw; (try dsimp only at hSw); go_simp; first | done | with_reducible rfl))
 try simp only [xap]
 refine xdn ?_ _
 clear hHeld k1 kr
 replace hB := Hz.mk (hB.out.trans (((Gr.refl V1).drew).below.mono h.out.le))
 replace h := Hz.mk (h.out.gr ((Gr.refl V1).drew).below)
 generalize V1.drew = V2 at *
 have h0 : Hz (DIo B V2 b c P { s with m := T.putB s.m A v0 0 } og op (boxOb kb #[.int .u8 65, .int .i64 ia, .int .i64 ib, .int .i64 ic, .int .u64 imm] :: l)) := h
 clear h
 go_upto_region 9 with fail
 go_loopw [8, 9] (fun y x wr => ∃ j N : Nat, x = .int .u64 j ∧ y = .int .u64 N ∧ j ≤ 16 ∧ Hz (N = v0 / 2 ^ (8 * j)) ∧ Hz (DIo B wr b c P { s with m := T.putB s.m A v0 j } og op (boxOb kb #[.int .u8 65, .int .i64 ia, .int .i64 ib, .int .i64 ic, .int .u64 imm] :: l)) ∧ Hz (Below B W0 wr)) (fun _ x _ => 16 - (intOf x).toNat)
 case atStart => exact ⟨0, v0, rfl, rfl, by omega, Hz.mk (by simp), h0, hB⟩
 case round =>
   clear h0 hB
   obtain ⟨j, N, rfl, rfl, hj, hN, h, hB⟩ := hrel
   by_cases hq : j < 16
   · have hq1 : (j : Int) < 16 := by omega
     have hw1 : IntKind.u64.wrap ((j : Int) + 1) = (j : Int) + 1 := by rw [IntKind.wrap_u64]; omega
     have hwa : IntKind.u64.wrap ((A : Int) + (j : Int)) = (A : Int) + (j : Int) := by rw [IntKind.wrap_u64]; omega
     have hix : (A : Int) + (j : Int) < 65536 := by omega
     obtain ⟨gm, km, c23, hgm, hmem, hset⟩ := h.out.mem
     have cm := (hmem (A + j) (by omega)).1
     have fm := (hmem (A + j) (by omega)).2
     have hqo := Hz.mk (qu_next N (by rw [hN.out]; exact Nat.lt_of_le_of_lt (Nat.div_le_self _ _) hv64))
     have hst := hset (A + j) (by omega) (UInt8.ofNat (N % 256))
     rw [by_next N] at hst
     have hm1 : Hz (T.upd (T.putB s.m A v0 j) (A + j) (UInt8.ofNat (N % 256)) = T.putB s.m A v0 (j + 1)) := Hz.mk (by rw [hN.out]; rfl)
     rw [hm1.out] at hst
     replace hst := Hz.mk hst
     clear hmem hset
     go_wp2_with fail
     refine And.intro (Exists.intro (j + 1) (Exists.intro (N / 256) ⟨rfl, congrArg (Value.int IntKind.u64) hqo.out, by omega, Hz.mk (by rw [hN.out, Nat.div_div_eq_div_mul, show (256 : Nat) = 2 ^ 8 from rfl, ← Nat.pow_add, show 8 * j + 8 = 8 * (j + 1) by omega]), Hz.mk hst.out.1, Hz.mk (hB.out.trans hst.out.2)⟩)) ?_
     simp [intOf]
     omega
   · have hq1 : ¬ (j : Int) < 16 := by omega
     obtain rfl : j = 16 := by omega
     clear hN
     obtain ⟨m9, hm9⟩ : ∃ m, T.putB s.m A v0 16 = m := ⟨_, rfl⟩
     rw [hm9] at h
     replace hm9 := Hz.mk hm9
     go_upto_region 18 with fail
     obtain ⟨q, ta, tk, hq, c26, hO2, hap⟩ := h.out.appT ⟨true, (A : Int), 16⟩
     have hlt := hq.lt
     have hleW := h.out.le
     clear hq
     replace hO2 := Hz.mk hO2
     replace hap := Hz.mk hap
     have hxs : ∃ xs, s.tc.flatMap Tc.vals = xs := ⟨_, rfl⟩
     obtain ⟨xs, hxs⟩ := hxs
     rw [hxs] at hO2 hap
     clear hxs
     refine wp_region_lit ?_
     iterate 10 (refine wpList_plain rfl (fun K hK => ?_); go_simp; with_reducible refine hK _ _ ?_; clear hK K; (try simp only [xap]))
     have hX : At (wr.alloc (.cells (List.toArray [Value.bool true, .int .u64 (A : Int), .int .u64 16]) 61)) wr.heap.size (List.toArray [Value.bool true, .int .u64 (A : Int), .int .u64 16]) := At.new wr _ _
     have gX : Gr wr (wr.alloc (.cells (List.toArray [Value.bool true, .int .u64 (A : Int), .int .u64 16]) 61)) := (Gr.refl wr).alloc _
     generalize wr.alloc (.cells (List.toArray [Value.bool true, .int .u64 (A : Int), .int .u64 16]) 61) = VX at *
     generalize wr.heap.size = kX at hX ⊢
     refine wpList_plain rfl (fun K hK => ?_)
     refine wp_append_z _ _ 58 61 (.agg #[.bool false, .int .u64 0, .int .u64 0]) 3 24 rfl Tryz.underlying58 (by kernel_rfl) (by kernel_rfl) (by decide) (by decide) B (.slice ta s.tc.length tk) s.tc.length xs [Value.bool true, .int .u64 (A : Int), .int .u64 16] (by rfl) (hO2.out VX gX.below) kX (by rfl) hX rfl (by simp [Value.oneCell']) htl (Nat.le_trans hleW gX.below.size) ?_
     intro g cap W2 k1 k2 k3
     obtain ⟨hq2, hA2, hM, hBe⟩ := hap.out VX W2 g cap gX.below k1 k2 k3
     have cu : W2.cell? ⟨b, 26, none⟩ = some _ := hq2.at_ 26 (by omega)
     have fu := hq2.fr 26
     have hlt2 := hq2.lt
     replace hM := Hz.mk hM
     clear hap hO2 k1 k2 k3 hq2 hA2 hX gX
     with_reducible refine hK _ _ ?_
     clear hK K
     try simp only [xap]
     iterate 2 (refine wpList_plain rfl (fun K hK => ?_); go_simp; with_reducible refine hK _ _ ?_; clear hK K; (try simp only [xap]))
     refine wpList_plain rfl (fun K hK => ?_)
     go_simp
     with_reducible refine hK _ _ ?_
     clear hK K
     try simp only [Act.put]
     replace hB := Hz.mk (hB.out.trans hBe)
     clear hBe h cu fu hlt2 hlt c26 hleW
     generalize World.setCell _ _ _ = V5 at *
     have h := hM
     clear hM
     have c5 : V5.cell? ⟨b, 5, none⟩ = some (.int .i64 s.p) := by obtain ⟨q, hq⟩ := h.out.box; exact hq.at_ 5 (by omega)
     have f5 : V5.frozen? ⟨b, 5, none⟩ = false := by obtain ⟨q, hq⟩ := h.out.box; exact hq.fr 5
     have hlt : b < V5.heap.size := by obtain ⟨q, hq⟩ := h.out.box; exact hq.lt
     have hw5 : wrap64 ((s.p : Int) + 1) = (s.p : Int) + 1 := by unfold wrap64; omega
     have hpc := Hz.mk h.out.pc
     go_wp2_with fail
     first | go_end0 | ((try simp only [Exit.inBlock, Exit.then]); refine bodyPost_ret (results_none rfl _ _ _) rfl ?_)
     rw [hm9.out]
     refine ⟨rfl, hpc.out.1.drop, hB.out.trans hpc.out.2⟩
end Z
end Go.Proofs.YtmedafcmfbhjkaaGreat
