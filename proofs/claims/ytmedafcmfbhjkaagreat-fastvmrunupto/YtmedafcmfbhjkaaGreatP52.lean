import Derived.Test.YtmedafcmfbhjkaaGreatP41
import Derived.Test.YtmedafcmfbhjkaaGreatP51
import Derived.Test.YtmedafcmfbhjkaaGreatP35
import Derived.Test.YtmedafcmfbhjkaaGreatP30
import Derived.Test.YtmedafcmfbhjkaaGreatP39
namespace Go.Proofs.YtmedafcmfbhjkaaGreat
set_option maxRecDepth 100000
set_option maxHeartbeats 40000000
namespace Z
open Go.RowKit
open T (Sep Ob Kp Mf FlIn boxOb)

theorem DIo.outs {B : Nat} {W : World} {b : Nat} {c : Dc} {P : Pr} {s : Fm} {og op : Nat} {l : List Ob} (h : DIo B W b c P s og op l) : b < W.heap.size ∧ (∃ ta tk, W.cell? ⟨b, 25, none⟩ = some (.slice ta s.out.length tk) ∧ WIn W ta s.out) ∧ ∃ ua uk, W.cell? ⟨b, 26, none⟩ = some (.slice ua s.tc.length uk) ∧ T.EIn 3 Tc.vals W ua s.tc := by
 obtain ⟨⟨q, h1, _⟩, _⟩ := h
 have hb := h1.ins (dbOb b (dxOf c P s q og op)) (by simp [dobs])
 have hO : W.ownsRow B 35 1 q.ov_ s.out.length (s.out.map u64I) := h1.ins (ouOb B q.ov_ s.out) (by simp [dobs])
 have hT : W.ownsRow B 61 3 q.tv s.tc.length (s.tc.flatMap Tc.vals) := h1.ins (tcOb B q.tv s.tc) (by simp [dobs])
 obtain ⟨ta, tk, e1, e2⟩ := own_win hO rfl
 obtain ⟨ua, uk, f1, f2⟩ := own_tin hT rfl
 exact ⟨hb.lt, ⟨ta, tk, by rw [← e1]; exact hb.at_ 25 (by omega), e2⟩, ua, uk, by rw [← f1]; exact hb.at_ 26 (by omega), f2⟩
theorem level_any (B : Nat) (W : World) (P : Pr) (a b : Nat) (c : Dc) (s : Fm) (h : MD B W P a s b c s []) (hol : s.out.length ≤ 1000000) (htl : s.tc.length ≤ 1000000) :
   Calls Tryz.prog 12 #[.pointer (some ⟨a, 0, none⟩), .pointer (some ⟨b, 0, none⟩)] W fun x w' => x = .returned (.bool true) ∧ Below W.heap.size W w' := by
 have hM := Hz.mk (h.gr ((Gr.refl W).drew.below))
 replace hol := Hz.mk hol
 replace htl := Hz.mk htl
 have hBW := Hz.mk h.le
 clear h
 obtain ⟨lx, hX⟩ := hM.out.oneX
 obtain ⟨ly, hY⟩ := hM.out.oneY
 obtain ⟨hlt, ⟨ta, tk, x25, hwy⟩, ua, uk, x26, hty⟩ := hY.outs
 replace hlt := Hz.mk hlt
 replace hwy := Hz.mk hwy
 replace hty := Hz.mk hty
 replace x26 := Hz.mk x26
 replace hX := Hz.mk hX
 clear hY
 go_enter Tryz.func12, Tryz.ntmps12
 go_upto_region 1 with fail
 refine wp_region_held_drew (S := (fun X => X.cell? ⟨b, 25, none⟩ = some (.slice ta s.out.length tk))) (by kernel_rfl) (x25) (fun hHeld => ?_)
 refine xso 0 ?_ rfl ?_ (xso 2 ?_ rfl ?_ (xso 3 ?_ rfl ?_ (xso 4 ?_ rfl ?_ (xso 5 ?_ rfl ?_ ?_))))
 iterate 5 (rotate_left; focus ((try simp only [xap]); intro w hSw; (try dsimp only at hSw); go_simp; first | done | with_reducible rfl))
 try simp only [xap]
 refine xrd 1 rfl (fun K hK => ?_)
 go_simp
 go_wp2_with (refine (outs_any B W.drew a P s lx hX.out hol.out).mono ?_; rintro r V1 ⟨va, vc, rfl, hW1, hb1⟩; clear hHeld)
 refine hK.out _ _ ((T.cell_of_block (hb1.block b hlt.out) _).trans x25) (fun hHeld => ?_)
 clear hK K
 try simp only [xap]
 refine xrd 6 rfl (fun K hK => ?_)
 go_simp
 go_wp2_with (refine (sameW_self s.out va ta vc tk V1 hW1 (hwy.out.below hb1) hol.out).mono ?_; rintro r V2 ⟨rfl, g2⟩; clear hHeld)
 refine hK.out _ _ ((T.cell_of_block ((hb1.trans (g2.below.mono hb1.size)).block b hlt.out) _).trans x25) (fun hHeld => ?_)
 clear hK K
 try simp only [xap]
 refine xso 7 ?_ rfl ?_ ?_
 rotate_left
 · intro w hSw; (try dsimp only at hSw); go_simp; first | done | with_reducible rfl
 try simp only [xap]
 refine xdn ?_ _
 clear hHeld x25 hX hwy hW1
 have hbb : Below W.drew.heap.size W.drew V2 := hb1.trans (g2.below.mono hb1.size)
 have hbb2 := hbb.trans ((Gr.refl V2).drew.below.mono hbb.size)
 replace hM := Hz.mk (hM.out.gr hbb2)
 have hbW : Hz (Below W.heap.size W V2) := Hz.mk (Gr.below ((Gr.refl W).drew) |>.trans hbb)
 replace hty := Hz.mk (hty.out.below hbb2)
 replace x26 := Hz.mk ((T.cell_of_block (hbb2.block b hlt.out) _).trans x26.out)
 replace hlt := Hz.mk (Nat.lt_of_lt_of_le hlt.out hbb2.size)
 clear hb1 g2 hbb hbb2
 obtain ⟨lx, hX⟩ := hM.out.oneX
 replace hX := Hz.mk hX
 replace x26 := x26.out
 go_upto_region 2 with fail
 refine wp_region_held_drew (S := (fun X => X.cell? ⟨b, 26, none⟩ = some (.slice ua s.tc.length uk))) (by kernel_rfl) (x26) (fun hHeld => ?_)
 refine xso 0 ?_ rfl ?_ (xso 2 ?_ rfl ?_ (xso 3 ?_ rfl ?_ (xso 4 ?_ rfl ?_ (xso 5 ?_ rfl ?_ ?_))))
 iterate 5 (rotate_left; focus ((try simp only [xap]); intro w hSw; (try dsimp only at hSw); go_simp; first | done | with_reducible rfl))
 try simp only [xap]
 refine xrd 1 rfl (fun K hK => ?_)
 go_simp
 go_wp2_with (refine (tcs_any B V2.drew a P s lx hX.out htl.out).mono ?_; rintro r V3 ⟨va, vc, rfl, hW1, hb1⟩; clear hHeld)
 refine hK.out _ _ ((T.cell_of_block (hb1.block b hlt.out) _).trans x26) (fun hHeld => ?_)
 clear hK K
 try simp only [xap]
 refine xrd 6 rfl (fun K hK => ?_)
 go_simp
 go_wp2_with (refine (sameT_self s.tc va ua vc uk V3 hW1 (hty.out.below hb1) htl.out).mono ?_; rintro r V4 ⟨rfl, g2⟩; clear hHeld)
 refine hK.out _ _ ((T.cell_of_block ((hb1.trans (g2.below.mono hb1.size)).block b hlt.out) _).trans x26) (fun hHeld => ?_)
 clear hK K
 try simp only [xap]
 refine xso 7 ?_ rfl ?_ ?_
 rotate_left
 · intro w hSw; (try dsimp only at hSw); go_simp; first | done | with_reducible rfl
 try simp only [xap]
 refine xdn ?_ _
 clear hHeld x26 hX hty hW1
 have hbb : Below V2.drew.heap.size V2.drew V4 := hb1.trans (g2.below.mono hb1.size)
 replace hM := Hz.mk (hM.out.gr hbb)
 replace hbW := Hz.mk (hbW.out.trans ((Gr.below ((Gr.refl V2).drew) |>.trans hbb).mono hbW.out.size))
 clear hb1 g2 hbb
 obtain ⟨lx, hX⟩ := hM.out.oneX
 have hme := Hz.mk (memory_any B V4 a P s lx hX)
 clear hX
 go_wp2_with fail
 refine hme.out.mono ?_
 rintro r V5 ⟨rfl, hb5⟩
 replace hM := Hz.mk (hM.out.gr hb5)
 replace hbW := Hz.mk (hbW.out.trans (hb5.mono hbW.out.size))
 obtain ⟨ly, hY⟩ := hM.out.oneY
 have hmd := Hz.mk (dmemoryS_any B V5 b c P s s.g s.p ly hY)
 clear hY hme hb5
 generalize (ByteArray.mk (T.rowB s.m 0 65536).toArray) = mv at *
 go_wp2_with fail
 refine hmd.out.mono ?_
 rintro r V6 ⟨rfl, hb6⟩
 replace hbW := Hz.mk (hbW.out.trans (hb6.mono hbW.out.size))
 clear hmd hb6
 go_wp2_with fail
 go_ret
 exact ⟨rfl, hbW.out⟩
end Z
end Go.Proofs.YtmedafcmfbhjkaaGreat


namespace Go.Proofs.YtmedafcmfbhjkaaGreat
set_option maxRecDepth 100000
set_option maxHeartbeats 40000000
namespace Z
open Go.RowKit
open T (Sep Ob Kp Mf FlIn boxOb)

theorem steps_negM (B : Nat) (V : World) (a : Nat) (P : Pr) (s : Fm) (l : List Ob) (n : Int) (hn : n < 0) (h : MIn B V a P s l) :
   Calls Tryz.prog 24 #[.pointer (some ⟨a, 0, none⟩), .int .i64 n] V fun x w' => x = .returned (.tuple #[]) ∧ MIn B w' a P s l ∧ Below B V w' := by
 refine (steps_neg a n V (by omega)).mono ?_
 rintro x w' ⟨rfl, rfl⟩
 exact ⟨rfl, h, Below.refl _ _⟩
theorem run_endN (B : Nat) (W : World) (a : Nat) (P : Pr) (l : List Ob) (n : Int) (s : Fm) (hneg : n < 0) (h : MIn B W a P s l) (he : s.e ≠ 0) :
   Calls Tryz.prog 13 #[.pointer (some ⟨a, 0, none⟩), .int .i64 n] W fun x w' => x = .returned (.agg #[.int .i64 s.e, .int .u64 s.v, .int .i64 s.f, .int .i64 s.g, .int .i64 s.p]) ∧ MIn B w' a P s l ∧ Below B W w' := by
 have e2 : (s.e == 0) = false := by simpa using he
 replace he := Hz.mk he
 have hni : (n : Int) ≤ 100000 := by omega
 have h2 := Hz.mk (h.new #[.int .i64 0, .int .u64 0, .int .i64 0, .int .i64 0, .int .i64 0] 38)
 clear h
 go_enter Tryz.func13, Tryz.ntmps13
 go_upto_region 1 with fail
 refine wp_world (fun V => MIn B V a P s (boxOb W.heap.size #[.int .i64 0, .int .u64 0, .int .i64 0, .int .i64 0, .int .i64 0] :: l) ∧ Below B W V) h2.out ?_
 rintro V ⟨h, hB⟩
 replace h := Hz.mk h
 replace hB := Hz.mk hB
 clear h2
 generalize hkr : W.heap.size = kr at *
 clear hkr
 have hst := Hz.mk (steps_negM B V a P s _ n hneg h.out)
 go_wp2_with fail
 rw [show min (n : Int) 100000 = (n : Int) from Int.min_eq_left hni]
 refine hst.out.mono ?_
 rintro r V8 ⟨rfl, h8, hB8⟩
 replace hB := Hz.mk (hB.out.trans hB8)
 replace h8 := Hz.mk h8
 clear h hst hB8
 have c26 := h8.out.e26
 have hsd := Hz.mk (stands_any B V8 a P s _ h8.out)
 go_upto_region 6 with fail
 have hle8 := h8.out.le
 refine wp_region_lit ?_
 refine wpList_plain rfl (fun K hK => ?_)
 go_simp
 with_reducible refine hK _ _ ?_
 clear hK K
 try simp only [xap]
 refine wpList_plain rfl (fun K hK => ?_)
 go_simp
 (refine hsd.out.mono ?_; rintro r V9 ⟨rfl, g9⟩)
 with_reducible refine hK _ _ ?_
 clear hK K
 try simp only [xap]
 replace h8 := Hz.mk (h8.out.gro g9)
 replace hB : Hz (Below B W V9) := Hz.mk (hB.out.trans (g9.below.mono hle8))
 have hA9 : At V9 kr #[.int .i64 0, .int .u64 0, .int .i64 0, .int .i64 0, .int .i64 0] := h8.out.there (boxOb kr #[.int .i64 0, .int .u64 0, .int .i64 0, .int .i64 0, .int .i64 0]) (.head _)
 have hth := Hz.mk (At.there (cs := [Value.int .i64 0, .int .u64 0, .int .i64 0, .int .i64 0, .int .i64 0]) hA9 0 5 (by decide))
 have hA10 := Hz.mk (At.setAll (cs := [Value.int .i64 0, .int .u64 0, .int .i64 0, .int .i64 0, .int .i64 0]) hA9 [Value.int .i64 s.e, .int .u64 s.v, .int .i64 s.f, .int .i64 s.g, .int .i64 s.p] rfl)
 have hk10 : Kp (fun k => k = kr) V9 (V9.setCells kr 0 [Value.int .i64 s.e, .int .u64 s.v, .int .i64 s.f, .int .i64 s.g, .int .i64 s.p]) := kp_setsZ V9 kr [Value.int .i64 s.e, .int .u64 s.v, .int .i64 s.f, .int .i64 s.g, .int .i64 s.p] 0
 have h10 := h8.out.side (o' := boxOb kr (List.toArray [Value.int .i64 s.e, .int .u64 s.v, .int .i64 s.f, .int .i64 s.g, .int .i64 s.p])) hA10.out hk10 (fun _ r => .inl r)
 replace hB := Hz.mk (hB.out.trans h10.2)
 replace h10 := Hz.mk h10.1
 clear h8 hA9 hk10 hsd g9
 refine wpList_plain rfl (fun K hK => ?_)
 refine wp_store_mid _ _ _ rfl _ _ (List.toArray [Value.int .i64 s.e, .int .u64 s.v, .int .i64 s.f, .int .i64 s.g, .int .i64 s.p]) rfl rfl hth.out (by kernel_rfl) (by simp [Value.oneCell']) (hK _ _ ?_)
 clear hK K
 try simp only [Act.put]
 generalize World.setCells _ _ _ _ = V11 at *
 have hrun := Hz.mk (run_loadVar_mid (P := Tryz.prog) V11 kr 0 38 [Value.int .i64 s.e, .int .u64 s.v, .int .i64 s.f, .int .i64 s.g, .int .i64 s.p] _ (fun j v q => by rw [Nat.zero_add]; exact (hA10.out.2.1 j).trans (by simpa using q)) Tryz.underlying38 rfl (by kernel_rfl))
 go_wp2_with fail
 refine bodyPost_ret (v := .agg #[.int .i64 s.e, .int .u64 s.v, .int .i64 s.f, .int .i64 s.g, .int .i64 s.p]) ?_ rfl ⟨rfl, h10.out.drop, hB.out⟩
 exact results_rowZ Tryz.results13 _ _ rfl hrun.out
theorem run_spentN (B : Nat) (W : World) (a : Nat) (P : Pr) (l : List Ob) (n : Int) (s : Fm) (hneg : n < 0) (h : MIn B W a P s l) (he : s.e = 0) :
   Calls Tryz.prog 13 #[.pointer (some ⟨a, 0, none⟩), .int .i64 n] W fun x w' => x = .returned (.agg #[.int .i64 (sp s).e, .int .u64 (sp s).v, .int .i64 (sp s).f, .int .i64 (sp s).g, .int .i64 (sp s).p]) ∧ MIn B w' a P (sp s) l ∧ Below B W w' := by
 have hni : (n : Int) ≤ 100000 := by omega
 have h2 := Hz.mk (h.new #[.int .i64 0, .int .u64 0, .int .i64 0, .int .i64 0, .int .i64 0] 38)
 clear h
 go_enter Tryz.func13, Tryz.ntmps13
 go_upto_region 1 with fail
 refine wp_world (fun V => MIn B V a P s (boxOb W.heap.size #[.int .i64 0, .int .u64 0, .int .i64 0, .int .i64 0, .int .i64 0] :: l) ∧ Below B W V) h2.out ?_
 rintro V ⟨h, hB⟩
 replace h := Hz.mk h
 replace hB := Hz.mk hB
 clear h2
 generalize hkr : W.heap.size = kr at *
 clear hkr
 have hst := Hz.mk (steps_negM B V a P s _ n hneg h.out)
 go_wp2_with fail
 rw [show min (n : Int) 100000 = (n : Int) from Int.min_eq_left hni]
 refine hst.out.mono ?_
 rintro r V7 ⟨rfl, h7, hB8⟩
 replace hB := Hz.mk (hB.out.trans hB8)
 replace h7 := Hz.mk h7
 clear h hst hB8
 have c26 := h7.out.e26
 rw [he] at c26
 have hfi := Hz.mk (h7.out.onBox (s' := sp s) ⟨rfl, rfl, rfl, rfl, rfl⟩ (fun q hb => finish_any a _ 4 0 _ hb))
 go_wp2_with fail
 refine hfi.out.mono ?_
 rintro r V8 ⟨rfl, h8, hB8⟩
 replace hB := Hz.mk (hB.out.trans hB8)
 replace h8 := Hz.mk h8
 clear h7 hfi hB8 c26 he
 have hsd := Hz.mk (stands_any B V8 a P (sp s) _ h8.out)
 go_upto_region 6 with fail
 have hle8 := h8.out.le
 refine wp_region_lit ?_
 refine wpList_plain rfl (fun K hK => ?_)
 go_simp
 with_reducible refine hK _ _ ?_
 clear hK K
 try simp only [xap]
 refine wpList_plain rfl (fun K hK => ?_)
 go_simp
 (refine hsd.out.mono ?_; rintro r V9 ⟨rfl, g9⟩)
 with_reducible refine hK _ _ ?_
 clear hK K
 try simp only [xap]
 replace h8 := Hz.mk (h8.out.gro g9)
 replace hB : Hz (Below B W V9) := Hz.mk (hB.out.trans (g9.below.mono hle8))
 have hA9 : At V9 kr #[.int .i64 0, .int .u64 0, .int .i64 0, .int .i64 0, .int .i64 0] := h8.out.there (boxOb kr #[.int .i64 0, .int .u64 0, .int .i64 0, .int .i64 0, .int .i64 0]) (.head _)
 have hth := Hz.mk (At.there (cs := [Value.int .i64 0, .int .u64 0, .int .i64 0, .int .i64 0, .int .i64 0]) hA9 0 5 (by decide))
 have hA10 := Hz.mk (At.setAll (cs := [Value.int .i64 0, .int .u64 0, .int .i64 0, .int .i64 0, .int .i64 0]) hA9 [Value.int .i64 (sp s).e, .int .u64 (sp s).v, .int .i64 (sp s).f, .int .i64 (sp s).g, .int .i64 (sp s).p] rfl)
 have hk10 : Kp (fun k => k = kr) V9 (V9.setCells kr 0 [Value.int .i64 (sp s).e, .int .u64 (sp s).v, .int .i64 (sp s).f, .int .i64 (sp s).g, .int .i64 (sp s).p]) := kp_setsZ V9 kr [Value.int .i64 (sp s).e, .int .u64 (sp s).v, .int .i64 (sp s).f, .int .i64 (sp s).g, .int .i64 (sp s).p] 0
 have h10 := h8.out.side (o' := boxOb kr (List.toArray [Value.int .i64 (sp s).e, .int .u64 (sp s).v, .int .i64 (sp s).f, .int .i64 (sp s).g, .int .i64 (sp s).p])) hA10.out hk10 (fun _ r => .inl r)
 replace hB := Hz.mk (hB.out.trans h10.2)
 replace h10 := Hz.mk h10.1
 clear h8 hA9 hk10 hsd g9
 refine wpList_plain rfl (fun K hK => ?_)
 refine wp_store_mid _ _ _ rfl _ _ (List.toArray [Value.int .i64 (sp s).e, .int .u64 (sp s).v, .int .i64 (sp s).f, .int .i64 (sp s).g, .int .i64 (sp s).p]) rfl rfl hth.out (by kernel_rfl) (by simp [Value.oneCell']) (hK _ _ ?_)
 clear hK K
 try simp only [Act.put]
 generalize World.setCells _ _ _ _ = V11 at *
 have hrun := Hz.mk (run_loadVar_mid (P := Tryz.prog) V11 kr 0 38 [Value.int .i64 (sp s).e, .int .u64 (sp s).v, .int .i64 (sp s).f, .int .i64 (sp s).g, .int .i64 (sp s).p] _ (fun j v q => by rw [Nat.zero_add]; exact (hA10.out.2.1 j).trans (by simpa using q)) Tryz.underlying38 rfl (by kernel_rfl))
 go_wp2_with fail
 refine bodyPost_ret (v := .agg #[.int .i64 (sp s).e, .int .u64 (sp s).v, .int .i64 (sp s).f, .int .i64 (sp s).g, .int .i64 (sp s).p]) ?_ rfl ⟨rfl, h10.out.drop, hB.out⟩
 exact results_rowZ Tryz.results13 _ _ rfl hrun.out
theorem run_negM (P : Pr) (s : Fm) (n : Int) (hn : n < 0) (t : Fm) (ht : runM P s 0 = t) (B : Nat) (W : World) (a : Nat) (l : List Ob) (h : MIn B W a P s l) :
   Calls Tryz.prog 13 #[.pointer (some ⟨a, 0, none⟩), .int .i64 n] W fun x w' => x = .returned (.agg #[.int .i64 t.e, .int .u64 t.v, .int .i64 t.f, .int .i64 t.g, .int .i64 t.p]) ∧ MIn B w' a P t l ∧ Below B W w' := by
 subst ht
 show Calls _ _ _ _ fun x w' => x = .returned (.agg #[.int .i64 (if s.e = 0 then sp s else s).e, .int .u64 (if s.e = 0 then sp s else s).v, .int .i64 (if s.e = 0 then sp s else s).f, .int .i64 (if s.e = 0 then sp s else s).g, .int .i64 (if s.e = 0 then sp s else s).p]) ∧ MIn B w' a P (if s.e = 0 then sp s else s) l ∧ Below B W w'
 by_cases he : s.e = 0
 · rw [if_pos he]
   exact run_spentN B W a P l n s hn h he
 · rw [if_neg he]
   exact run_endN B W a P l n s hn h he
end Z
end Go.Proofs.YtmedafcmfbhjkaaGreat


namespace Go.Proofs.YtmedafcmfbhjkaaGreat
set_option maxRecDepth 100000
set_option maxHeartbeats 40000000
namespace Z
open Go.RowKit
open T (Sep Ob Kp Mf FlIn boxOb)

theorem run_endF (B : Nat) (W : World) (a : Nat) (P : Pr) (l : List Ob) (N : Int) (n m : Nat) (hNn : min N 100000 = (n : Int)) (f : Nat → Fm) (h : MIn B W a P (f 0) l) (hm : m ≤ n) (h0 : ∀ k, k < m → (f k).e = 0) (hG : ∀ k, k < m → Goes P (f k) (f (k + 1))) (hE : m = n ∨ (f m).e ≠ 0) (hn : n ≤ 100000) (he : (f m).e ≠ 0) :
   Calls Tryz.prog 13 #[.pointer (some ⟨a, 0, none⟩), .int .i64 N] W fun x w' => x = .returned (.agg #[.int .i64 (f m).e, .int .u64 (f m).v, .int .i64 (f m).f, .int .i64 (f m).g, .int .i64 (f m).p]) ∧ MIn B w' a P (f m) l ∧ Below B W w' := by
 have e2 : ((f m).e == 0) = false := by simpa using he
 replace he := Hz.mk he
 have h2 := Hz.mk (h.new #[.int .i64 0, .int .u64 0, .int .i64 0, .int .i64 0, .int .i64 0] 38)
 clear h
 go_enter Tryz.func13, Tryz.ntmps13
 go_upto_region 1 with fail
 refine wp_world (fun V => MIn B V a P (f 0) (boxOb W.heap.size #[.int .i64 0, .int .u64 0, .int .i64 0, .int .i64 0, .int .i64 0] :: l) ∧ Below B W V) h2.out ?_
 rintro V ⟨h, hB⟩
 replace h := Hz.mk h
 replace hB := Hz.mk hB
 clear h2
 generalize hkr : W.heap.size = kr at *
 clear hkr
 have hst := Hz.mk (steps_any B V a P _ n m f h.out hm h0 hG hE (by omega))
 replace h0 := Hz.mk h0
 replace hG := Hz.mk hG
 replace hE := Hz.mk hE
 go_wp2_with fail
 try rw [hNn]
 refine hst.out.mono ?_
 rintro r V8 ⟨rfl, h8, hB8⟩
 replace hB := Hz.mk (hB.out.trans hB8)
 replace h8 := Hz.mk h8
 clear h hst hB8
 have c26 := h8.out.e26
 have hsd := Hz.mk (stands_any B V8 a P (f m) _ h8.out)
 go_upto_region 6 with fail
 have hle8 := h8.out.le
 refine wp_region_lit ?_
 refine wpList_plain rfl (fun K hK => ?_)
 go_simp
 with_reducible refine hK _ _ ?_
 clear hK K
 try simp only [xap]
 refine wpList_plain rfl (fun K hK => ?_)
 go_simp
 (refine hsd.out.mono ?_; rintro r V9 ⟨rfl, g9⟩)
 with_reducible refine hK _ _ ?_
 clear hK K
 try simp only [xap]
 replace h8 := Hz.mk (h8.out.gro g9)
 replace hB : Hz (Below B W V9) := Hz.mk (hB.out.trans (g9.below.mono hle8))
 have hA9 : At V9 kr #[.int .i64 0, .int .u64 0, .int .i64 0, .int .i64 0, .int .i64 0] := h8.out.there (boxOb kr #[.int .i64 0, .int .u64 0, .int .i64 0, .int .i64 0, .int .i64 0]) (.head _)
 have hth := Hz.mk (At.there (cs := [Value.int .i64 0, .int .u64 0, .int .i64 0, .int .i64 0, .int .i64 0]) hA9 0 5 (by decide))
 have hA10 := Hz.mk (At.setAll (cs := [Value.int .i64 0, .int .u64 0, .int .i64 0, .int .i64 0, .int .i64 0]) hA9 [Value.int .i64 (f m).e, .int .u64 (f m).v, .int .i64 (f m).f, .int .i64 (f m).g, .int .i64 (f m).p] rfl)
 have hk10 : Kp (fun k => k = kr) V9 (V9.setCells kr 0 [Value.int .i64 (f m).e, .int .u64 (f m).v, .int .i64 (f m).f, .int .i64 (f m).g, .int .i64 (f m).p]) := kp_setsZ V9 kr [Value.int .i64 (f m).e, .int .u64 (f m).v, .int .i64 (f m).f, .int .i64 (f m).g, .int .i64 (f m).p] 0
 have h10 := h8.out.side (o' := boxOb kr (List.toArray [Value.int .i64 (f m).e, .int .u64 (f m).v, .int .i64 (f m).f, .int .i64 (f m).g, .int .i64 (f m).p])) hA10.out hk10 (fun _ r => .inl r)
 replace hB := Hz.mk (hB.out.trans h10.2)
 replace h10 := Hz.mk h10.1
 clear h8 hA9 hk10 hsd g9
 refine wpList_plain rfl (fun K hK => ?_)
 refine wp_store_mid _ _ _ rfl _ _ (List.toArray [Value.int .i64 (f m).e, .int .u64 (f m).v, .int .i64 (f m).f, .int .i64 (f m).g, .int .i64 (f m).p]) rfl rfl hth.out (by kernel_rfl) (by simp [Value.oneCell']) (hK _ _ ?_)
 clear hK K
 try simp only [Act.put]
 generalize World.setCells _ _ _ _ = V11 at *
 have hrun := Hz.mk (run_loadVar_mid (P := Tryz.prog) V11 kr 0 38 [Value.int .i64 (f m).e, .int .u64 (f m).v, .int .i64 (f m).f, .int .i64 (f m).g, .int .i64 (f m).p] _ (fun j v q => by rw [Nat.zero_add]; exact (hA10.out.2.1 j).trans (by simpa using q)) Tryz.underlying38 rfl (by kernel_rfl))
 go_wp2_with fail
 refine bodyPost_ret (v := .agg #[.int .i64 (f m).e, .int .u64 (f m).v, .int .i64 (f m).f, .int .i64 (f m).g, .int .i64 (f m).p]) ?_ rfl ⟨rfl, h10.out.drop, hB.out⟩
 exact results_rowZ Tryz.results13 _ _ rfl hrun.out
theorem run_spentF (B : Nat) (W : World) (a : Nat) (P : Pr) (l : List Ob) (N : Int) (n m : Nat) (hNn : min N 100000 = (n : Int)) (f : Nat → Fm) (h : MIn B W a P (f 0) l) (hm : m ≤ n) (h0 : ∀ k, k < m → (f k).e = 0) (hG : ∀ k, k < m → Goes P (f k) (f (k + 1))) (hE : m = n ∨ (f m).e ≠ 0) (hn : n ≤ 100000) (he : (f m).e = 0) :
   Calls Tryz.prog 13 #[.pointer (some ⟨a, 0, none⟩), .int .i64 N] W fun x w' => x = .returned (.agg #[.int .i64 (sp (f m)).e, .int .u64 (sp (f m)).v, .int .i64 (sp (f m)).f, .int .i64 (sp (f m)).g, .int .i64 (sp (f m)).p]) ∧ MIn B w' a P (sp (f m)) l ∧ Below B W w' := by
 have h2 := Hz.mk (h.new #[.int .i64 0, .int .u64 0, .int .i64 0, .int .i64 0, .int .i64 0] 38)
 clear h
 go_enter Tryz.func13, Tryz.ntmps13
 go_upto_region 1 with fail
 refine wp_world (fun V => MIn B V a P (f 0) (boxOb W.heap.size #[.int .i64 0, .int .u64 0, .int .i64 0, .int .i64 0, .int .i64 0] :: l) ∧ Below B W V) h2.out ?_
 rintro V ⟨h, hB⟩
 replace h := Hz.mk h
 replace hB := Hz.mk hB
 clear h2
 generalize hkr : W.heap.size = kr at *
 clear hkr
 have hst := Hz.mk (steps_any B V a P _ n m f h.out hm h0 hG hE (by omega))
 replace h0 := Hz.mk h0
 replace hG := Hz.mk hG
 replace hE := Hz.mk hE
 go_wp2_with fail
 try rw [hNn]
 refine hst.out.mono ?_
 rintro r V7 ⟨rfl, h7, hB8⟩
 replace hB := Hz.mk (hB.out.trans hB8)
 replace h7 := Hz.mk h7
 clear h hst hB8
 have c26 := h7.out.e26
 rw [he] at c26
 have hfi := Hz.mk (h7.out.onBox (s' := sp (f m)) ⟨rfl, rfl, rfl, rfl, rfl⟩ (fun q hb => finish_any a _ 4 0 _ hb))
 go_wp2_with fail
 refine hfi.out.mono ?_
 rintro r V8 ⟨rfl, h8, hB8⟩
 replace hB := Hz.mk (hB.out.trans hB8)
 replace h8 := Hz.mk h8
 clear h7 hfi hB8 c26 he
 have hsd := Hz.mk (stands_any B V8 a P (sp (f m)) _ h8.out)
 go_upto_region 6 with fail
 have hle8 := h8.out.le
 refine wp_region_lit ?_
 refine wpList_plain rfl (fun K hK => ?_)
 go_simp
 with_reducible refine hK _ _ ?_
 clear hK K
 try simp only [xap]
 refine wpList_plain rfl (fun K hK => ?_)
 go_simp
 (refine hsd.out.mono ?_; rintro r V9 ⟨rfl, g9⟩)
 with_reducible refine hK _ _ ?_
 clear hK K
 try simp only [xap]
 replace h8 := Hz.mk (h8.out.gro g9)
 replace hB : Hz (Below B W V9) := Hz.mk (hB.out.trans (g9.below.mono hle8))
 have hA9 : At V9 kr #[.int .i64 0, .int .u64 0, .int .i64 0, .int .i64 0, .int .i64 0] := h8.out.there (boxOb kr #[.int .i64 0, .int .u64 0, .int .i64 0, .int .i64 0, .int .i64 0]) (.head _)
 have hth := Hz.mk (At.there (cs := [Value.int .i64 0, .int .u64 0, .int .i64 0, .int .i64 0, .int .i64 0]) hA9 0 5 (by decide))
 have hA10 := Hz.mk (At.setAll (cs := [Value.int .i64 0, .int .u64 0, .int .i64 0, .int .i64 0, .int .i64 0]) hA9 [Value.int .i64 (sp (f m)).e, .int .u64 (sp (f m)).v, .int .i64 (sp (f m)).f, .int .i64 (sp (f m)).g, .int .i64 (sp (f m)).p] rfl)
 have hk10 : Kp (fun k => k = kr) V9 (V9.setCells kr 0 [Value.int .i64 (sp (f m)).e, .int .u64 (sp (f m)).v, .int .i64 (sp (f m)).f, .int .i64 (sp (f m)).g, .int .i64 (sp (f m)).p]) := kp_setsZ V9 kr [Value.int .i64 (sp (f m)).e, .int .u64 (sp (f m)).v, .int .i64 (sp (f m)).f, .int .i64 (sp (f m)).g, .int .i64 (sp (f m)).p] 0
 have h10 := h8.out.side (o' := boxOb kr (List.toArray [Value.int .i64 (sp (f m)).e, .int .u64 (sp (f m)).v, .int .i64 (sp (f m)).f, .int .i64 (sp (f m)).g, .int .i64 (sp (f m)).p])) hA10.out hk10 (fun _ r => .inl r)
 replace hB := Hz.mk (hB.out.trans h10.2)
 replace h10 := Hz.mk h10.1
 clear h8 hA9 hk10 hsd g9
 refine wpList_plain rfl (fun K hK => ?_)
 refine wp_store_mid _ _ _ rfl _ _ (List.toArray [Value.int .i64 (sp (f m)).e, .int .u64 (sp (f m)).v, .int .i64 (sp (f m)).f, .int .i64 (sp (f m)).g, .int .i64 (sp (f m)).p]) rfl rfl hth.out (by kernel_rfl) (by simp [Value.oneCell']) (hK _ _ ?_)
 clear hK K
 try simp only [Act.put]
 generalize World.setCells _ _ _ _ = V11 at *
 have hrun := Hz.mk (run_loadVar_mid (P := Tryz.prog) V11 kr 0 38 [Value.int .i64 (sp (f m)).e, .int .u64 (sp (f m)).v, .int .i64 (sp (f m)).f, .int .i64 (sp (f m)).g, .int .i64 (sp (f m)).p] _ (fun j v q => by rw [Nat.zero_add]; exact (hA10.out.2.1 j).trans (by simpa using q)) Tryz.underlying38 rfl (by kernel_rfl))
 go_wp2_with fail
 refine bodyPost_ret (v := .agg #[.int .i64 (sp (f m)).e, .int .u64 (sp (f m)).v, .int .i64 (sp (f m)).f, .int .i64 (sp (f m)).g, .int .i64 (sp (f m)).p]) ?_ rfl ⟨rfl, h10.out.drop, hB.out⟩
 exact results_rowZ Tryz.results13 _ _ rfl hrun.out
theorem xrun_any (P : Pr) (ok : P.Ok) (rr : P.Rr) (s : Fm) (n : Nat) (hs : s.Okn P n) (hn : n + 100000 ≤ 1000000) (N : Int) (t : Fm) (ht : runF P s N = t) (B : Nat) (W : World) (a : Nat) (l : List Ob) (h : MIn B W a P s l) :
   Calls Tryz.prog 13 #[.pointer (some ⟨a, 0, none⟩), .int .i64 N] W fun x w' => x = .returned t.outc ∧ MIn B w' a P t l ∧ Below B W w' := by
 by_cases hN : N < 0
 · have e : runM P s 0 = t := by
     rw [← ht]
     unfold runF
     rw [show (min N 100000).toNat = 0 by omega]
   exact run_negM P s N hN t e B W a l h
 · have hk : (min N 100000).toNat ≤ 100000 := by omega
   have hNn : min N 100000 = (((min N 100000).toNat : Nat) : Int) := by omega
   obtain ⟨m, h1, h2, h3, h4⟩ := stops P s (min N 100000).toNat
   have hG := steps_goes P ok rr s n (min N 100000).toNat m hs (by omega) h1 h2
   rw [← ht]
   unfold runF runM
   rw [← h4]
   by_cases he : (stepsM P s m).e = 0
   · rw [if_pos he]
     exact run_spentF B W a P l N (min N 100000).toNat m hNn (stepsM P s) h h1 h2 hG h3 hk he
   · rw [if_neg he]
     exact run_endF B W a P l N (min N 100000).toNat m hNn (stepsM P s) h h1 h2 hG h3 hk he
end Z
end Go.Proofs.YtmedafcmfbhjkaaGreat


namespace Go.Proofs.YtmedafcmfbhjkaaGreat
namespace Z
open Go.RowKit
open T (Sep Ob Kp Mf FlIn boxOb)

theorem ent_no (R : Rp) (ca ga : Option Addr) (cc gc : Nat) (mem : List UInt8) (gate : Int) (A : List Int) (sa : Option Addr) (sc : Nat) (w : World) (hP : RpIn w ca ga R) (hA : WIn w sa A) (hAl : A.length ≤ 2000000) (hno : ¬ (R.Ok mem.length ∧ 0 ≤ gate)) :
   Calls Tryz.prog 6 #[.agg #[.slice ca R.code.length cc, .slice ga R.gates.length gc, .string (T.str mem), .int .i64 R.dep], .int .i64 gate, .slice sa A.length sc] w fun x w' => ∃ g A' va vc, x = .returned (.tuple #[.int .i64 g, .slice va (List.length A') vc]) ∧ WIn w' va A' ∧ A'.length ≤ 2000000 ∧ ¬ (R.Ok (T.str mem).size ∧ 0 ≤ g ∧ g < (R.gates.length : Int)) ∧ Below w.heap.size w w' := by
 have hsz : ∀ g : Int, (0 ≤ g → 0 ≤ gate) → ¬ (R.Ok (T.str mem).size ∧ 0 ≤ g ∧ g < (R.gates.length : Int)) := fun g hg q => hno ⟨by have := q.1; rw [T.str_size] at this; exact this, hg q.2.1⟩
 by_cases h : R.gates.length = 0 ∨ gate < 0
 · refine (entry_none R ca ga cc gc (T.str mem) gate (.slice sa A.length sc) w h).mono ?_
   rintro x w' ⟨rfl, g⟩
   exact ⟨gate, A, sa, sc, rfl, hA.below g.below, hAl, hsz gate (fun q => q), g.below⟩
 · have h0 : 0 < R.gates.length := by omega
   have hg : 0 ≤ gate := by omega
   obtain ⟨n, hn, hn2⟩ := ent_n (R.gates[gate.toNat % R.gates.length]'(Nat.mod_lt _ h0)).a
   have q := entry_any R ca ga cc gc (T.str mem) gate.toNat (gate.toNat % R.gates.length) A sa sc w hP hA h0 rfl (Nat.mod_lt _ h0) n hn hn2
   rw [Int.toNat_of_nonneg hg] at q
   refine q.mono ?_
   rintro x w' ⟨v, rfl, ho, hb⟩
   obtain ⟨va, vc, rfl, hw⟩ := own_win ho (entL_len A n).symm
   exact ⟨_, entL A n, va, vc, rfl, hw, by rw [entL_len]; omega, hsz _ (fun _ => hg), hb⟩
theorem ent_ok (R : Rp) (ca ga : Option Addr) (cc gc : Nat) (mem : List UInt8) (gate : Int) (A : List Int) (sa : Option Addr) (sc : Nat) (w : World) (hP : RpIn w ca ga R) (hA : WIn w sa A) (ok : R.Ok mem.length) (h0 : 0 ≤ gate) :
   Calls Tryz.prog 6 #[.agg #[.slice ca R.code.length cc, .slice ga R.gates.length gc, .string (T.str mem), .int .i64 R.dep], .int .i64 gate, .slice sa A.length sc] w fun x w' => ∃ va vc, x = .returned (.tuple #[.int .i64 (gNo R gate : Nat), .slice va (List.length (entL A (aNo R gate))) vc]) ∧ WIn w' va (entL A (aNo R gate)) ∧ Below w.heap.size w w' := by
 obtain ⟨h1, h2, h3, h4, h5⟩ := ok.at gate
 have q := entry_any R ca ga cc gc (T.str mem) gate.toNat (gNo R gate) A sa sc w hP hA ok.n1.1 rfl h1 (aNo R gate) (by omega) (.inl h5)
 rw [Int.toNat_of_nonneg h0] at q
 refine q.mono ?_
 rintro x w' ⟨v, rfl, ho, hb⟩
 obtain ⟨va, vc, rfl, hw⟩ := own_win ho (entL_len A _).symm
 exact ⟨va, vc, rfl, hw, hb⟩
theorem made_st0 (R : Rp) (ca ga : Option Addr) (cc gc : Nat) (mem : List UInt8) (gate : Int) (A : List Int) (va : Option Addr) (vc : Nat) (ia : Option Addr) (ic : Nat) (L : List Int) (w : World) (hP : RpIn w ca ga R) (is : R.Is) (hA : WIn w va (entL A (aNo R gate))) (hI : InL w ia ic L) (hc : R.code.length ≤ 1500000) (hr : ∀ r ∈ R.code, r.length ≤ 2000000) (hg : R.gates.length ≤ 2000000) (hl : L.length ≤ 2000000) (hcap : ∀ a, ia = some a → L.length ≤ ic) (ok : R.Ok mem.length) :
   Calls Tryz.prog 7 #[.agg #[.slice ca R.code.length cc, .slice ga R.gates.length gc, .string (T.str mem), .int .i64 R.dep], .int .i64 (gNo R gate : Nat), .slice va (List.length (entL A (aNo R gate))) vc, .slice ia L.length ic] w fun x w' => ∃ a b, x = .returned (.tuple #[.bool true, .pointer (some ⟨a, 0, none⟩), .pointer (some ⟨b, 0, none⟩)]) ∧ MD w.heap.size w' R.pr a (st0 R gate A L mem) b ⟨ca, ga, cc, gc, .string (T.str mem)⟩ (st0 R gate A L mem) [] ∧ DPg w.heap.size w' ⟨ca, ga, cc, gc, .string (T.str mem)⟩ R.pr ∧ Below w.heap.size w w' := by
 obtain ⟨h1, h2, h3, h4, h5⟩ := ok.at gate
 have q := made_ok R ca ga cc gc mem (gNo R gate) (entL A (aNo R gate)) va vc ia ic L w hP is hA (by rw [entL_len]; omega) hI hc hr hg hl hcap ok h1 (by rw [entL_len]; exact h5)
 unfold st0
 rw [h4]
 rw [entL_len] at q ⊢
 exact q
theorem drun_oc (P : Pr) (ok : P.Ok) (rr : P.Rr) (s : Fm) (n : Nat) (hs : s.Okn P n) (hn : n + 100000 ≤ 1000000) (hv : s.Vf) (N : Int) (t : Fm) (ht : runF P s N = t) (B : Nat) (W : World) (b : Nat) (c : Dc) (l : List Ob) (h : DIo B W b c P s s.g s.p l) (hpg : DPg B W c P) :
   Calls Tryz.prog 14 #[.pointer (some ⟨b, 0, none⟩), .int .i64 N] W fun x w' => x = .returned (.agg #[.int .i64 t.e, .int .u64 t.v, .int .i64 t.f, .int .i64 t.g, .int .i64 t.p]) ∧ DIo B w' b c P t t.g t.p l ∧ Below B W w' := drun_any P ok rr s n hs hn hv N t ht B W b c l h hpg
theorem xrun_oc (P : Pr) (ok : P.Ok) (rr : P.Rr) (s : Fm) (n : Nat) (hs : s.Okn P n) (hn : n + 100000 ≤ 1000000) (N : Int) (t : Fm) (ht : runF P s N = t) (B : Nat) (W : World) (a : Nat) (l : List Ob) (h : MIn B W a P s l) :
   Calls Tryz.prog 13 #[.pointer (some ⟨a, 0, none⟩), .int .i64 N] W fun x w' => x = .returned (.agg #[.int .i64 t.e, .int .u64 t.v, .int .i64 t.f, .int .i64 t.g, .int .i64 t.p]) ∧ MIn B w' a P t l ∧ Below B W w' := xrun_any P ok rr s n hs hn N t ht B W a l h
theorem okn_runF (P : Pr) (ok : P.Ok) (rr : P.Rr) (s : Fm) (n : Nat) (hs : s.Okn P n) (N : Int) : (runF P s N).Okn P (n + 100000) := (okn_runM P ok rr s n hs _).mono (by omega)
theorem ps_meas (N k : Nat) (h : k < N) : N - (intOf (Value.int .i64 ((k : Int) + 1))).toNat < N - (intOf (Value.int .i64 (k : Int))).toNat := by
 simp [intOf]
 omega
theorem st0_vf (R : Rp) (gate : Int) (A L : List Int) (mem : List UInt8) : (st0 R gate A L mem).Vf := fun _ => ⟨rfl, rfl⟩
end Z
end Go.Proofs.YtmedafcmfbhjkaaGreat
