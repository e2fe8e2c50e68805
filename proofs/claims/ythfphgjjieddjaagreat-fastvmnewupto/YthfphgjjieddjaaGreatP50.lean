import Derived.Test.YthfphgjjieddjaaGreatP42
import Derived.Test.YthfphgjjieddjaaGreatP49
import Derived.Test.YthfphgjjieddjaaGreatP35
import Derived.Test.YthfphgjjieddjaaGreatP30
import Derived.Test.YthfphgjjieddjaaGreatP40
import Derived.Test.YthfphgjjieddjaaGreatP37
namespace Go.Proofs.YthfphgjjieddjaaGreat
set_option maxRecDepth 100000
set_option maxHeartbeats 40000000
namespace Z
open Go.RowKit
open T (Sep Ob Kp Mf FlIn boxOb)

theorem DIo.outs {B : Nat} {W : World} {b : Nat} {c : Dc} {P : Pr} {s : Fm} {og op : Nat} {l : List Ob} (h : DIo B W b c P s og op l) : b < W.heap.size ∧ (∃ ta tk, W.cell? ⟨b, 25, none⟩ = some (.slice ta s.out.length tk) ∧ WIn W ta s.out) ∧ ∃ ua uk, W.cell? ⟨b, 26, none⟩ = some (.slice ua s.tc.length uk) ∧ T.EIn 3 Tc.vals W ua s.tc := by
 obtain ⟨⟨q, h1, _⟩, _⟩ := h
 have hb := h1.ins (dbOb b (dxOf c P s q og op)) (by simp [dobs])
 have hO : W.ownsRow B 34 1 q.ov_ s.out.length (s.out.map u64I) := h1.ins (ouOb B q.ov_ s.out) (by simp [dobs])
 have hT : W.ownsRow B 56 3 q.tv s.tc.length (s.tc.flatMap Tc.vals) := h1.ins (tcOb B q.tv s.tc) (by simp [dobs])
 obtain ⟨ta, tk, e1, e2⟩ := own_win hO rfl
 obtain ⟨ua, uk, f1, f2⟩ := own_tin hT rfl
 exact ⟨hb.lt, ⟨ta, tk, by rw [← e1]; exact hb.at_ 25 (by omega), e2⟩, ua, uk, by rw [← f1]; exact hb.at_ 26 (by omega), f2⟩
theorem level_any (B : Nat) (W : World) (P : Pr) (a b : Nat) (c : Dc) (s : Fm) (h : MD B W P a s b c s []) (hol : s.out.length ≤ 1000000) (htl : s.tc.length ≤ 1000000) :
   Calls Tryz.prog 8 #[.pointer (some ⟨a, 0, none⟩), .pointer (some ⟨b, 0, none⟩)] W fun x w' => x = .returned (.bool true) ∧ Below W.heap.size W w' := by
 have hM := Hz.mk (h.gr ((Gr.refl W).drew.below))
 replace hol := Hz.mk hol
 replace htl := Hz.mk htl
 have hBW := Hz.mk h.le
 clear h
 obtain ⟨lx, hX⟩ := hM.out.oneX
 obtain ⟨ly, hY⟩ := hM.out.oneY
 obtain ⟨hlt, ⟨ta, tk, x25, hwy⟩, ua, uk, x26, hty⟩ := hY.outs
 replace hlt := Hz.mk hlt
 replace hwy := Hz.mk hwy
 replace hty := Hz.mk hty
 replace x26 := Hz.mk x26
 replace hX := Hz.mk hX
 clear hY
 go_enter Tryz.func8, Tryz.ntmps8
 go_upto_region 1 with fail
 refine wp_region_held_drew (S := (fun X => X.cell? ⟨b, 25, none⟩ = some (.slice ta s.out.length tk))) (by kernel_rfl) (x25) (fun hHeld => ?_)
 refine xso 0 ?_ rfl ?_ (xso 2 ?_ rfl ?_ (xso 3 ?_ rfl ?_ (xso 4 ?_ rfl ?_ (xso 5 ?_ rfl ?_ ?_))))
 iterate 5 (rotate_left; focus ((try simp only [xap]); intro w hSw; (try dsimp only at hSw); go_simp; first | done | with_reducible rfl))
 try simp only [xap]
 refine xrd 1 rfl (fun K hK => ?_)
 go_simp
 go_wp2_with (refine (outs_any B W.drew a P s lx hX.out hol.out).mono ?_; rintro r V1 ⟨va, vc, rfl, hW1, hb1⟩; clear hHeld)
 refine hK.out _ _ ((T.cell_of_block (hb1.block b hlt.out) _).trans x25) (fun hHeld => ?_)
 clear hK K
 try simp only [xap]
 refine xrd 6 rfl (fun K hK => ?_)
 go_simp
 go_wp2_with (refine (sameW_self s.out va ta vc tk V1 hW1 (hwy.out.below hb1) hol.out).mono ?_; rintro r V2 ⟨rfl, g2⟩; clear hHeld)
 refine hK.out _ _ ((T.cell_of_block ((hb1.trans (g2.below.mono hb1.size)).block b hlt.out) _).trans x25) (fun hHeld => ?_)
 clear hK K
 try simp only [xap]
 refine xso 7 ?_ rfl ?_ ?_
 rotate_left
 · intro w hSw; (try dsimp only at hSw); go_simp; first | done | with_reducible rfl
 try simp only [xap]
 refine xdn ?_ _
 clear hHeld x25 hX hwy hW1
 have hbb : Below W.drew.heap.size W.drew V2 := hb1.trans (g2.below.mono hb1.size)
 have hbb2 := hbb.trans ((Gr.refl V2).drew.below.mono hbb.size)
 replace hM := Hz.mk (hM.out.gr hbb2)
 have hbW : Hz (Below W.heap.size W V2) := Hz.mk (Gr.below ((Gr.refl W).drew) |>.trans hbb)
 replace hty := Hz.mk (hty.out.below hbb2)
 replace x26 := Hz.mk ((T.cell_of_block (hbb2.block b hlt.out) _).trans x26.out)
 replace hlt := Hz.mk (Nat.lt_of_lt_of_le hlt.out hbb2.size)
 clear hb1 g2 hbb hbb2
 obtain ⟨lx, hX⟩ := hM.out.oneX
 replace hX := Hz.mk hX
 replace x26 := x26.out
 go_upto_region 2 with fail
 refine wp_region_held_drew (S := (fun X => X.cell? ⟨b, 26, none⟩ = some (.slice ua s.tc.length uk))) (by kernel_rfl) (x26) (fun hHeld => ?_)
 refine xso 0 ?_ rfl ?_ (xso 2 ?_ rfl ?_ (xso 3 ?_ rfl ?_ (xso 4 ?_ rfl ?_ (xso 5 ?_ rfl ?_ ?_))))
 iterate 5 (rotate_left; focus ((try simp only [xap]); intro w hSw; (try dsimp only at hSw); go_simp; first | done | with_reducible rfl))
 try simp only [xap]
 refine xrd 1 rfl (fun K hK => ?_)
 go_simp
 go_wp2_with (refine (tcs_any B V2.drew a P s lx hX.out htl.out).mono ?_; rintro r V3 ⟨va, vc, rfl, hW1, hb1⟩; clear hHeld)
 refine hK.out _ _ ((T.cell_of_block (hb1.block b hlt.out) _).trans x26) (fun hHeld => ?_)
 clear hK K
 try simp only [xap]
 refine xrd 6 rfl (fun K hK => ?_)
 go_simp
 go_wp2_with (refine (sameT_self s.tc va ua vc uk V3 hW1 (hty.out.below hb1) htl.out).mono ?_; rintro r V4 ⟨rfl, g2⟩; clear hHeld)
 refine hK.out _ _ ((T.cell_of_block ((hb1.trans (g2.below.mono hb1.size)).block b hlt.out) _).trans x26) (fun hHeld => ?_)
 clear hK K
 try simp only [xap]
 refine xso 7 ?_ rfl ?_ ?_
 rotate_left
 · intro w hSw; (try dsimp only at hSw); go_simp; first | done | with_reducible rfl
 try simp only [xap]
 refine xdn ?_ _
 clear hHeld x26 hX hty hW1
 have hbb : Below V2.drew.heap.size V2.drew V4 := hb1.trans (g2.below.mono hb1.size)
 replace hM := Hz.mk (hM.out.gr hbb)
 replace hbW := Hz.mk (hbW.out.trans ((Gr.below ((Gr.refl V2).drew) |>.trans hbb).mono hbW.out.size))
 clear hb1 g2 hbb
 obtain ⟨lx, hX⟩ := hM.out.oneX
 have hme := Hz.mk (memory_any B V4 a P s lx hX)
 clear hX
 go_wp2_with fail
 refine hme.out.mono ?_
 rintro r V5 ⟨rfl, hb5⟩
 replace hM := Hz.mk (hM.out.gr hb5)
 replace hbW := Hz.mk (hbW.out.trans (hb5.mono hbW.out.size))
 obtain ⟨ly, hY⟩ := hM.out.oneY
 have hmd := Hz.mk (dmemoryS_any B V5 b c P s s.g s.p ly hY)
 clear hY hme hb5
 generalize (ByteArray.mk (T.rowB s.m 0 65536).toArray) = mv at *
 go_wp2_with fail
 refine hmd.out.mono ?_
 rintro r V6 ⟨rfl, hb6⟩
 replace hbW := Hz.mk (hbW.out.trans (hb6.mono hbW.out.size))
 clear hmd hb6
 go_wp2_with fail
 go_ret
 exact ⟨rfl, hbW.out⟩
end Z
end Go.Proofs.YthfphgjjieddjaaGreat


namespace Go.Proofs.YthfphgjjieddjaaGreat
set_option maxRecDepth 100000
set_option maxHeartbeats 40000000
namespace Z
open Go.RowKit
open T (Sep Ob Kp Mf FlIn boxOb)

theorem steps_negM (B : Nat) (V : World) (a : Nat) (P : Pr) (s : Fm) (l : List Ob) (n : Int) (hn : n < 0) (h : MIn B V a P s l) :
   Calls Tryz.prog 34 #[.pointer (some ⟨a, 0, none⟩), .int .i64 n] V fun x w' => x = .returned (.tuple #[]) ∧ MIn B w' a P s l ∧ Below B V w' := by
 refine (steps_neg a n V (by omega)).mono ?_
 rintro x w' ⟨rfl, rfl⟩
 exact ⟨rfl, h, Below.refl _ _⟩
theorem run_endN (B : Nat) (W : World) (a : Nat) (P : Pr) (l : List Ob) (n : Int) (s : Fm) (hneg : n < 0) (h : MIn B W a P s l) (he : s.e ≠ 0) :
   Calls Tryz.prog 14 #[.pointer (some ⟨a, 0, none⟩), .int .i64 n] W fun x w' => x = .returned (.agg #[.int .i64 s.e, .int .u64 s.v, .int .i64 s.f, .int .i64 s.g, .int .i64 s.p]) ∧ MIn B w' a P s l ∧ Below B W w' := by
 have e2 : (s.e == 0) = false := by simpa using he
 replace he := Hz.mk he
 have hni : (n : Int) ≤ 100000 := by omega
 have h2 := Hz.mk (h.new #[.int .i64 0, .int .u64 0, .int .i64 0, .int .i64 0, .int .i64 0] 51)
 clear h
 go_enter Tryz.func14, Tryz.ntmps14
 go_upto_region 1 with fail
 refine wp_world (fun V => MIn B V a P s (boxOb W.heap.size #[.int .i64 0, .int .u64 0, .int .i64 0, .int .i64 0, .int .i64 0] :: l) ∧ Below B W V) h2.out ?_
 rintro V ⟨h, hB⟩
 replace h := Hz.mk h
 replace hB := Hz.mk hB
 clear h2
 generalize hkr : W.heap.size = kr at *
 clear hkr
 have hst := Hz.mk (steps_negM B V a P s _ n hneg h.out)
 go_wp2_with fail
 rw [show min (n : Int) 100000 = (n : Int) from Int.min_eq_left hni]
 refine hst.out.mono ?_
 rintro r V8 ⟨rfl, h8, hB8⟩
 replace hB := Hz.mk (hB.out.trans hB8)
 replace h8 := Hz.mk h8
 clear h hst hB8
 have c26 := h8.out.e26
 have hsd := Hz.mk (stands_any B V8 a P s _ h8.out)
 go_upto_region 6 with fail
 have hle8 := h8.out.le
 refine wp_region_lit ?_
 refine wpList_plain rfl (fun K hK => ?_)
 go_simp
 with_reducible refine hK _ _ ?_
 clear hK K
 try simp only [xap]
 refine wpList_plain rfl (fun K hK => ?_)
 go_simp
 (refine hsd.out.mono ?_; rintro r V9 ⟨rfl, g9⟩)
 with_reducible refine hK _ _ ?_
 clear hK K
 try simp only [xap]
 replace h8 := Hz.mk (h8.out.gro g9)
 replace hB : Hz (Below B W V9) := Hz.mk (hB.out.trans (g9.below.mono hle8))
 have hA9 : At V9 kr #[.int .i64 0, .int .u64 0, .int .i64 0, .int .i64 0, .int .i64 0] := h8.out.there (boxOb kr #[.int .i64 0, .int .u64 0, .int .i64 0, .int .i64 0, .int .i64 0]) (.head _)
 have hth := Hz.mk (At.there (cs := [Value.int .i64 0, .int .u64 0, .int .i64 0, .int .i64 0, .int .i64 0]) hA9 0 5 (by decide))
 have hA10 := Hz.mk (At.setAll (cs := [Value.int .i64 0, .int .u64 0, .int .i64 0, .int .i64 0, .int .i64 0]) hA9 [Value.int .i64 s.e, .int .u64 s.v, .int .i64 s.f, .int .i64 s.g, .int .i64 s.p] rfl)
 have hk10 : Kp (fun k => k = kr) V9 (V9.setCells kr 0 [Value.int .i64 s.e, .int .u64 s.v, .int .i64 s.f, .int .i64 s.g, .int .i64 s.p]) := kp_setsZ V9 kr [Value.int .i64 s.e, .int .u64 s.v, .int .i64 s.f, .int .i64 s.g, .int .i64 s.p] 0
 have h10 := h8.out.side (o' := boxOb kr (List.toArray [Value.int .i64 s.e, .int .u64 s.v, .int .i64 s.f, .int .i64 s.g, .int .i64 s.p])) hA10.out hk10 (fun _ r => .inl r)
 replace hB := Hz.mk (hB.out.trans h10.2)
 replace h10 := Hz.mk h10.1
 clear h8 hA9 hk10 hsd g9
 refine wpList_plain rfl (fun K hK => ?_)
 refine wp_store_mid _ _ _ rfl _ _ (List.toArray [Value.int .i64 s.e, .int .u64 s.v, .int .i64 s.f, .int .i64 s.g, .int .i64 s.p]) rfl rfl hth.out (by kernel_rfl) (by simp [Value.oneCell']) (hK _ _ ?_)
 clear hK K
 try simp only [Act.put]
 generalize World.setCells _ _ _ _ = V11 at *
 have hrun := Hz.mk (run_loadVar_mid (P := Tryz.prog) V11 kr 0 51 [Value.int .i64 s.e, .int .u64 s.v, .int .i64 s.f, .int .i64 s.g, .int .i64 s.p] _ (fun j v q => by rw [Nat.zero_add]; exact (hA10.out.2.1 j).trans (by simpa using q)) Tryz.underlying51 rfl (by kernel_rfl))
 go_wp2_with fail
 refine bodyPost_ret (v := .agg #[.int .i64 s.e, .int .u64 s.v, .int .i64 s.f, .int .i64 s.g, .int .i64 s.p]) ?_ rfl ⟨rfl, h10.out.drop, hB.out⟩
 exact results_rowZ Tryz.results14 _ _ rfl hrun.out
theorem run_spentN (B : Nat) (W : World) (a : Nat) (P : Pr) (l : List Ob) (n : Int) (s : Fm) (hneg : n < 0) (h : MIn B W a P s l) (he : s.e = 0) :
   Calls Tryz.prog 14 #[.pointer (some ⟨a, 0, none⟩), .int .i64 n] W fun x w' => x = .returned (.agg #[.int .i64 (sp s).e, .int .u64 (sp s).v, .int .i64 (sp s).f, .int .i64 (sp s).g, .int .i64 (sp s).p]) ∧ MIn B w' a P (sp s) l ∧ Below B W w' := by
 have hni : (n : Int) ≤ 100000 := by omega
 have h2 := Hz.mk (h.new #[.int .i64 0, .int .u64 0, .int .i64 0, .int .i64 0, .int .i64 0] 51)
 clear h
 go_enter Tryz.func14, Tryz.ntmps14
 go_upto_region 1 with fail
 refine wp_world (fun V => MIn B V a P s (boxOb W.heap.size #[.int .i64 0, .int .u64 0, .int .i64 0, .int .i64 0, .int .i64 0] :: l) ∧ Below B W V) h2.out ?_
 rintro V ⟨h, hB⟩
 replace h := Hz.mk h
 replace hB := Hz.mk hB
 clear h2
 generalize hkr : W.heap.size = kr at *
 clear hkr
 have hst := Hz.mk (steps_negM B V a P s _ n hneg h.out)
 go_wp2_with fail
 rw [show min (n : Int) 100000 = (n : Int) from Int.min_eq_left hni]
 refine hst.out.mono ?_
 rintro r V7 ⟨rfl, h7, hB8⟩
 replace hB := Hz.mk (hB.out.trans hB8)
 replace h7 := Hz.mk h7
 clear h hst hB8
 have c26 := h7.out.e26
 rw [he] at c26
 have hfi := Hz.mk (h7.out.onBox (s' := sp s) ⟨rfl, rfl, rfl, rfl, rfl⟩ (fun q hb => finish_any a _ 4 0 _ hb))
 go_wp2_with fail
 refine hfi.out.mono ?_
 rintro r V8 ⟨rfl, h8, hB8⟩
 replace hB := Hz.mk (hB.out.trans hB8)
 replace h8 := Hz.mk h8
 clear h7 hfi hB8 c26 he
 have hsd := Hz.mk (stands_any B V8 a P (sp s) _ h8.out)
 go_upto_region 6 with fail
 have hle8 := h8.out.le
 refine wp_region_lit ?_
 refine wpList_plain rfl (fun K hK => ?_)
 go_simp
 with_reducible refine hK _ _ ?_
 clear hK K
 try simp only [xap]
 refine wpList_plain rfl (fun K hK => ?_)
 go_simp
 (refine hsd.out.mono ?_; rintro r V9 ⟨rfl, g9⟩)
 with_reducible refine hK _ _ ?_
 clear hK K
 try simp only [xap]
 replace h8 := Hz.mk (h8.out.gro g9)
 replace hB : Hz (Below B W V9) := Hz.mk (hB.out.trans (g9.below.mono hle8))
 have hA9 : At V9 kr #[.int .i64 0, .int .u64 0, .int .i64 0, .int .i64 0, .int .i64 0] := h8.out.there (boxOb kr #[.int .i64 0, .int .u64 0, .int .i64 0, .int .i64 0, .int .i64 0]) (.head _)
 have hth := Hz.mk (At.there (cs := [Value.int .i64 0, .int .u64 0, .int .i64 0, .int .i64 0, .int .i64 0]) hA9 0 5 (by decide))
 have hA10 := Hz.mk (At.setAll (cs := [Value.int .i64 0, .int .u64 0, .int .i64 0, .int .i64 0, .int .i64 0]) hA9 [Value.int .i64 (sp s).e, .int .u64 (sp s).v, .int .i64 (sp s).f, .int .i64 (sp s).g, .int .i64 (sp s).p] rfl)
 have hk10 : Kp (fun k => k = kr) V9 (V9.setCells kr 0 [Value.int .i64 (sp s).e, .int .u64 (sp s).v, .int .i64 (sp s).f, .int .i64 (sp s).g, .int .i64 (sp s).p]) := kp_setsZ V9 kr [Value.int .i64 (sp s).e, .int .u64 (sp s).v, .int .i64 (sp s).f, .int .i64 (sp s).g, .int .i64 (sp s).p] 0
 have h10 := h8.out.side (o' := boxOb kr (List.toArray [Value.int .i64 (sp s).e, .int .u64 (sp s).v, .int .i64 (sp s).f, .int .i64 (sp s).g, .int .i64 (sp s).p])) hA10.out hk10 (fun _ r => .inl r)
 replace hB := Hz.mk (hB.out.trans h10.2)
 replace h10 := Hz.mk h10.1
 clear h8 hA9 hk10 hsd g9
 refine wpList_plain rfl (fun K hK => ?_)
 refine wp_store_mid _ _ _ rfl _ _ (List.toArray [Value.int .i64 (sp s).e, .int .u64 (sp s).v, .int .i64 (sp s).f, .int .i64 (sp s).g, .int .i64 (sp s).p]) rfl rfl hth.out (by kernel_rfl) (by simp [Value.oneCell']) (hK _ _ ?_)
 clear hK K
 try simp only [Act.put]
 generalize World.setCells _ _ _ _ = V11 at *
 have hrun := Hz.mk (run_loadVar_mid (P := Tryz.prog) V11 kr 0 51 [Value.int .i64 (sp s).e, .int .u64 (sp s).v, .int .i64 (sp s).f, .int .i64 (sp s).g, .int .i64 (sp s).p] _ (fun j v q => by rw [Nat.zero_add]; exact (hA10.out.2.1 j).trans (by simpa using q)) Tryz.underlying51 rfl (by kernel_rfl))
 go_wp2_with fail
 refine bodyPost_ret (v := .agg #[.int .i64 (sp s).e, .int .u64 (sp s).v, .int .i64 (sp s).f, .int .i64 (sp s).g, .int .i64 (sp s).p]) ?_ rfl ⟨rfl, h10.out.drop, hB.out⟩
 exact results_rowZ Tryz.results14 _ _ rfl hrun.out
theorem run_negM (P : Pr) (s : Fm) (n : Int) (hn : n < 0) (t : Fm) (ht : runM P s 0 = t) (B : Nat) (W : World) (a : Nat) (l : List Ob) (h : MIn B W a P s l) :
   Calls Tryz.prog 14 #[.pointer (some ⟨a, 0, none⟩), .int .i64 n] W fun x w' => x = .returned (.agg #[.int .i64 t.e, .int .u64 t.v, .int .i64 t.f, .int .i64 t.g, .int .i64 t.p]) ∧ MIn B w' a P t l ∧ Below B W w' := by
 subst ht
 show Calls _ _ _ _ fun x w' => x = .returned (.agg #[.int .i64 (if s.e = 0 then sp s else s).e, .int .u64 (if s.e = 0 then sp s else s).v, .int .i64 (if s.e = 0 then sp s else s).f, .int .i64 (if s.e = 0 then sp s else s).g, .int .i64 (if s.e = 0 then sp s else s).p]) ∧ MIn B w' a P (if s.e = 0 then sp s else s) l ∧ Below B W w'
 by_cases he : s.e = 0
 · rw [if_pos he]
   exact run_spentN B W a P l n s hn h he
 · rw [if_neg he]
   exact run_endN B W a P l n s hn h he
end Z
end Go.Proofs.YthfphgjjieddjaaGreat


namespace Go.Proofs.YthfphgjjieddjaaGreat
set_option maxRecDepth 100000
set_option maxHeartbeats 40000000
namespace Z
open Go.RowKit
open T (Sep Ob Kp Mf FlIn boxOb)

theorem run_endF (B : Nat) (W : World) (a : Nat) (P : Pr) (l : List Ob) (N : Int) (n m : Nat) (hNn : min N 100000 = (n : Int)) (f : Nat → Fm) (h : MIn B W a P (f 0) l) (hm : m ≤ n) (h0 : ∀ k, k < m → (f k).e = 0) (hG : ∀ k, k < m → Goes P (f k) (f (k + 1))) (hE : m = n ∨ (f m).e ≠ 0) (hn : n ≤ 100000) (he : (f m).e ≠ 0) :
   Calls Tryz.prog 14 #[.pointer (some ⟨a, 0, none⟩), .int .i64 N] W fun x w' => x = .returned (.agg #[.int .i64 (f m).e, .int .u64 (f m).v, .int .i64 (f m).f, .int .i64 (f m).g, .int .i64 (f m).p]) ∧ MIn B w' a P (f m) l ∧ Below B W w' := by
 have e2 : ((f m).e == 0) = false := by simpa using he
 replace he := Hz.mk he
 have h2 := Hz.mk (h.new #[.int .i64 0, .int .u64 0, .int .i64 0, .int .i64 0, .int .i64 0] 51)
 clear h
 go_enter Tryz.func14, Tryz.ntmps14
 go_upto_region 1 with fail
 refine wp_world (fun V => MIn B V a P (f 0) (boxOb W.heap.size #[.int .i64 0, .int .u64 0, .int .i64 0, .int .i64 0, .int .i64 0] :: l) ∧ Below B W V) h2.out ?_
 rintro V ⟨h, hB⟩
 replace h := Hz.mk h
 replace hB := Hz.mk hB
 clear h2
 generalize hkr : W.heap.size = kr at *
 clear hkr
 have hst := Hz.mk (steps_any B V a P _ n m f h.out hm h0 hG hE (by omega))
 replace h0 := Hz.mk h0
 replace hG := Hz.mk hG
 replace hE := Hz.mk hE
 go_wp2_with fail
 try rw [hNn]
 refine hst.out.mono ?_
 rintro r V8 ⟨rfl, h8, hB8⟩
 replace hB := Hz.mk (hB.out.trans hB8)
 replace h8 := Hz.mk h8
 clear h hst hB8
 have c26 := h8.out.e26
 have hsd := Hz.mk (stands_any B V8 a P (f m) _ h8.out)
 go_upto_region 6 with fail
 have hle8 := h8.out.le
 refine wp_region_lit ?_
 refine wpList_plain rfl (fun K hK => ?_)
 go_simp
 with_reducible refine hK _ _ ?_
 clear hK K
 try simp only [xap]
 refine wpList_plain rfl (fun K hK => ?_)
 go_simp
 (refine hsd.out.mono ?_; rintro r V9 ⟨rfl, g9⟩)
 with_reducible refine hK _ _ ?_
 clear hK K
 try simp only [xap]
 replace h8 := Hz.mk (h8.out.gro g9)
 replace hB : Hz (Below B W V9) := Hz.mk (hB.out.trans (g9.below.mono hle8))
 have hA9 : At V9 kr #[.int .i64 0, .int .u64 0, .int .i64 0, .int .i64 0, .int .i64 0] := h8.out.there (boxOb kr #[.int .i64 0, .int .u64 0, .int .i64 0, .int .i64 0, .int .i64 0]) (.head _)
 have hth := Hz.mk (At.there (cs := [Value.int .i64 0, .int .u64 0, .int .i64 0, .int .i64 0, .int .i64 0]) hA9 0 5 (by decide))
 have hA10 := Hz.mk (At.setAll (cs := [Value.int .i64 0, .int .u64 0, .int .i64 0, .int .i64 0, .int .i64 0]) hA9 [Value.int .i64 (f m).e, .int .u64 (f m).v, .int .i64 (f m).f, .int .i64 (f m).g, .int .i64 (f m).p] rfl)
 have hk10 : Kp (fun k => k = kr) V9 (V9.setCells kr 0 [Value.int .i64 (f m).e, .int .u64 (f m).v, .int .i64 (f m).f, .int .i64 (f m).g, .int .i64 (f m).p]) := kp_setsZ V9 kr [Value.int .i64 (f m).e, .int .u64 (f m).v, .int .i64 (f m).f, .int .i64 (f m).g, .int .i64 (f m).p] 0
 have h10 := h8.out.side (o' := boxOb kr (List.toArray [Value.int .i64 (f m).e, .int .u64 (f m).v, .int .i64 (f m).f, .int .i64 (f m).g, .int .i64 (f m).p])) hA10.out hk10 (fun _ r => .inl r)
 replace hB := Hz.mk (hB.out.trans h10.2)
 replace h10 := Hz.mk h10.1
 clear h8 hA9 hk10 hsd g9
 refine wpList_plain rfl (fun K hK => ?_)
 refine wp_store_mid _ _ _ rfl _ _ (List.toArray [Value.int .i64 (f m).e, .int .u64 (f m).v, .int .i64 (f m).f, .int .i64 (f m).g, .int .i64 (f m).p]) rfl rfl hth.out (by kernel_rfl) (by simp [Value.oneCell']) (hK _ _ ?_)
 clear hK K
 try simp only [Act.put]
 generalize World.setCells _ _ _ _ = V11 at *
 have hrun := Hz.mk (run_loadVar_mid (P := Tryz.prog) V11 kr 0 51 [Value.int .i64 (f m).e, .int .u64 (f m).v, .int .i64 (f m).f, .int .i64 (f m).g, .int .i64 (f m).p] _ (fun j v q => by rw [Nat.zero_add]; exact (hA10.out.2.1 j).trans (by simpa using q)) Tryz.underlying51 rfl (by kernel_rfl))
 go_wp2_with fail
 refine bodyPost_ret (v := .agg #[.int .i64 (f m).e, .int .u64 (f m).v, .int .i64 (f m).f, .int .i64 (f m).g, .int .i64 (f m).p]) ?_ rfl ⟨rfl, h10.out.drop, hB.out⟩
 exact results_rowZ Tryz.results14 _ _ rfl hrun.out
theorem run_spentF (B : Nat) (W : World) (a : Nat) (P : Pr) (l : List Ob) (N : Int) (n m : Nat) (hNn : min N 100000 = (n : Int)) (f : Nat → Fm) (h : MIn B W a P (f 0) l) (hm : m ≤ n) (h0 : ∀ k, k < m → (f k).e = 0) (hG : ∀ k, k < m → Goes P (f k) (f (k + 1))) (hE : m = n ∨ (f m).e ≠ 0) (hn : n ≤ 100000) (he : (f m).e = 0) :
   Calls Tryz.prog 14 #[.pointer (some ⟨a, 0, none⟩), .int .i64 N] W fun x w' => x = .returned (.agg #[.int .i64 (sp (f m)).e, .int .u64 (sp (f m)).v, .int .i64 (sp (f m)).f, .int .i64 (sp (f m)).g, .int .i64 (sp (f m)).p]) ∧ MIn B w' a P (sp (f m)) l ∧ Below B W w' := by
 have h2 := Hz.mk (h.new #[.int .i64 0, .int .u64 0, .int .i64 0, .int .i64 0, .int .i64 0] 51)
 clear h
 go_enter Tryz.func14, Tryz.ntmps14
 go_upto_region 1 with fail
 refine wp_world (fun V => MIn B V a P (f 0) (boxOb W.heap.size #[.int .i64 0, .int .u64 0, .int .i64 0, .int .i64 0, .int .i64 0] :: l) ∧ Below B W V) h2.out ?_
 rintro V ⟨h, hB⟩
 replace h := Hz.mk h
 replace hB := Hz.mk hB
 clear h2
 generalize hkr : W.heap.size = kr at *
 clear hkr
 have hst := Hz.mk (steps_any B V a P _ n m f h.out hm h0 hG hE (by omega))
 replace h0 := Hz.mk h0
 replace hG := Hz.mk hG
 replace hE := Hz.mk hE
 go_wp2_with fail
 try rw [hNn]
 refine hst.out.mono ?_
 rintro r V7 ⟨rfl, h7, hB8⟩
 replace hB := Hz.mk (hB.out.trans hB8)
 replace h7 := Hz.mk h7
 clear h hst hB8
 have c26 := h7.out.e26
 rw [he] at c26
 have hfi := Hz.mk (h7.out.onBox (s' := sp (f m)) ⟨rfl, rfl, rfl, rfl, rfl⟩ (fun q hb => finish_any a _ 4 0 _ hb))
 go_wp2_with fail
 refine hfi.out.mono ?_
 rintro r V8 ⟨rfl, h8, hB8⟩
 replace hB := Hz.mk (hB.out.trans hB8)
 replace h8 := Hz.mk h8
 clear h7 hfi hB8 c26 he
 have hsd := Hz.mk (stands_any B V8 a P (sp (f m)) _ h8.out)
 go_upto_region 6 with fail
 have hle8 := h8.out.le
 refine wp_region_lit ?_
 refine wpList_plain rfl (fun K hK => ?_)
 go_simp
 with_reducible refine hK _ _ ?_
 clear hK K
 try simp only [xap]
 refine wpList_plain rfl (fun K hK => ?_)
 go_simp
 (refine hsd.out.mono ?_; rintro r V9 ⟨rfl, g9⟩)
 with_reducible refine hK _ _ ?_
 clear hK K
 try simp only [xap]
 replace h8 := Hz.mk (h8.out.gro g9)
 replace hB : Hz (Below B W V9) := Hz.mk (hB.out.trans (g9.below.mono hle8))
 have hA9 : At V9 kr #[.int .i64 0, .int .u64 0, .int .i64 0, .int .i64 0, .int .i64 0] := h8.out.there (boxOb kr #[.int .i64 0, .int .u64 0, .int .i64 0, .int .i64 0, .int .i64 0]) (.head _)
 have hth := Hz.mk (At.there (cs := [Value.int .i64 0, .int .u64 0, .int .i64 0, .int .i64 0, .int .i64 0]) hA9 0 5 (by decide))
 have hA10 := Hz.mk (At.setAll (cs := [Value.int .i64 0, .int .u64 0, .int .i64 0, .int .i64 0, .int .i64 0]) hA9 [Value.int .i64 (sp (f m)).e, .int .u64 (sp (f m)).v, .int .i64 (sp (f m)).f, .int .i64 (sp (f m)).g, .int .i64 (sp (f m)).p] rfl)
 have hk10 : Kp (fun k => k = kr) V9 (V9.setCells kr 0 [Value.int .i64 (sp (f m)).e, .int .u64 (sp (f m)).v, .int .i64 (sp (f m)).f, .int .i64 (sp (f m)).g, .int .i64 (sp (f m)).p]) := kp_setsZ V9 kr [Value.int .i64 (sp (f m)).e, .int .u64 (sp (f m)).v, .int .i64 (sp (f m)).f, .int .i64 (sp (f m)).g, .int .i64 (sp (f m)).p] 0
 have h10 := h8.out.side (o' := boxOb kr (List.toArray [Value.int .i64 (sp (f m)).e, .int .u64 (sp (f m)).v, .int .i64 (sp (f m)).f, .int .i64 (sp (f m)).g, .int .i64 (sp (f m)).p])) hA10.out hk10 (fun _ r => .inl r)
 replace hB := Hz.mk (hB.out.trans h10.2)
 replace h10 := Hz.mk h10.1
 clear h8 hA9 hk10 hsd g9
 refine wpList_plain rfl (fun K hK => ?_)
 refine wp_store_mid _ _ _ rfl _ _ (List.toArray [Value.int .i64 (sp (f m)).e, .int .u64 (sp (f m)).v, .int .i64 (sp (f m)).f, .int .i64 (sp (f m)).g, .int .i64 (sp (f m)).p]) rfl rfl hth.out (by kernel_rfl) (by simp [Value.oneCell']) (hK _ _ ?_)
 clear hK K
 try simp only [Act.put]
 generalize World.setCells _ _ _ _ = V11 at *
 have hrun := Hz.mk (run_loadVar_mid (P := Tryz.prog) V11 kr 0 51 [Value.int .i64 (sp (f m)).e, .int .u64 (sp (f m)).v, .int .i64 (sp (f m)).f, .int .i64 (sp (f m)).g, .int .i64 (sp (f m)).p] _ (fun j v q => by rw [Nat.zero_add]; exact (hA10.out.2.1 j).trans (by simpa using q)) Tryz.underlying51 rfl (by kernel_rfl))
 go_wp2_with fail
 refine bodyPost_ret (v := .agg #[.int .i64 (sp (f m)).e, .int .u64 (sp (f m)).v, .int .i64 (sp (f m)).f, .int .i64 (sp (f m)).g, .int .i64 (sp (f m)).p]) ?_ rfl ⟨rfl, h10.out.drop, hB.out⟩
 exact results_rowZ Tryz.results14 _ _ rfl hrun.out
theorem xrun_any (P : Pr) (ok : P.Ok) (rr : P.Rr) (s : Fm) (n : Nat) (hs : s.Okn P n) (hn : n + 100000 ≤ 1000000) (N : Int) (t : Fm) (ht : runF P s N = t) (B : Nat) (W : World) (a : Nat) (l : List Ob) (h : MIn B W a P s l) :
   Calls Tryz.prog 14 #[.pointer (some ⟨a, 0, none⟩), .int .i64 N] W fun x w' => x = .returned t.outc ∧ MIn B w' a P t l ∧ Below B W w' := by
 by_cases hN : N < 0
 · have e : runM P s 0 = t := by
     rw [← ht]
     unfold runF
     rw [show (min N 100000).toNat = 0 by omega]
   exact run_negM P s N hN t e B W a l h
 · have hk : (min N 100000).toNat ≤ 100000 := by omega
   have hNn : min N 100000 = (((min N 100000).toNat : Nat) : Int) := by omega
   obtain ⟨m, h1, h2, h3, h4⟩ := stops P s (min N 100000).toNat
   have hG := steps_goes P ok rr s n (min N 100000).toNat m hs (by omega) h1 h2
   rw [← ht]
   unfold runF runM
   rw [← h4]
   by_cases he : (stepsM P s m).e = 0
   · rw [if_pos he]
     exact run_spentF B W a P l N (min N 100000).toNat m hNn (stepsM P s) h h1 h2 hG h3 hk he
   · rw [if_neg he]
     exact run_endF B W a P l N (min N 100000).toNat m hNn (stepsM P s) h h1 h2 hG h3 hk he
end Z
end Go.Proofs.YthfphgjjieddjaaGreat


namespace Go.Proofs.YthfphgjjieddjaaGreat
namespace Z
open Go.RowKit
open T (Sep Ob Kp Mf FlIn boxOb)

theorem drun_oc (P : Pr) (ok : P.Ok) (rr : P.Rr) (s : Fm) (n : Nat) (hs : s.Okn P n) (hn : n + 100000 ≤ 1000000) (hv : s.Vf) (N : Int) (t : Fm) (ht : runF P s N = t) (B : Nat) (W : World) (b : Nat) (c : Dc) (l : List Ob) (h : DIo B W b c P s s.g s.p l) (hpg : DPg B W c P) :
   Calls Tryz.prog 22 #[.pointer (some ⟨b, 0, none⟩), .int .i64 N] W fun x w' => x = .returned (.agg #[.int .i64 t.e, .int .u64 t.v, .int .i64 t.f, .int .i64 t.g, .int .i64 t.p]) ∧ DIo B w' b c P t t.g t.p l ∧ Below B W w' := drun_any P ok rr s n hs hn hv N t ht B W b c l h hpg
theorem xrun_oc (P : Pr) (ok : P.Ok) (rr : P.Rr) (s : Fm) (n : Nat) (hs : s.Okn P n) (hn : n + 100000 ≤ 1000000) (N : Int) (t : Fm) (ht : runF P s N = t) (B : Nat) (W : World) (a : Nat) (l : List Ob) (h : MIn B W a P s l) :
   Calls Tryz.prog 14 #[.pointer (some ⟨a, 0, none⟩), .int .i64 N] W fun x w' => x = .returned (.agg #[.int .i64 t.e, .int .u64 t.v, .int .i64 t.f, .int .i64 t.g, .int .i64 t.p]) ∧ MIn B w' a P t l ∧ Below B W w' := xrun_any P ok rr s n hs hn N t ht B W a l h
theorem okn_runF (P : Pr) (ok : P.Ok) (rr : P.Rr) (s : Fm) (n : Nat) (hs : s.Okn P n) (N : Int) : (runF P s N).Okn P (n + 100000) := (okn_runM P ok rr s n hs _).mono (by omega)
end Z
end Go.Proofs.YthfphgjjieddjaaGreat


namespace Go.Proofs.YthfphgjjieddjaaGreat
namespace Z
open Go.RowKit
open T (Sep Ob Kp Mf FlIn boxOb)

theorem tn_wds {R : Rp} (h : R.Wds) (i : Nat) : (tnR R i).Wds := ⟨tn_is h.code i, fun g hg j => h.root g (by rw [(tnR_gates R i).1] at hg; exact hg) j⟩
theorem ent_two (R R' : Rp) (hgs : R'.gates = R.gates) (ca ga : Option Addr) (cc gc : Nat) (mem : List UInt8) (gate : Int) (A : List Int) (sa : Option Addr) (sc : Nat) (w : World) (hP : RpIn w ca ga R) (hA : WIn w sa A) (hAl : A.length ≤ 2000000) :
   Calls Tryz.prog 21 #[.agg #[.slice ca R.code.length cc, .slice ga R.gates.length gc, .string (T.str mem), .int .i64 R.dep], .int .i64 gate, .slice sa A.length sc] w fun x w' => ∃ g A' va vc, x = .returned (.tuple #[.int .i64 g, .slice va (List.length A') vc]) ∧ WIn w' va A' ∧ A'.length ≤ 2000000 ∧ (¬ (R'.Ok mem.length ∧ 0 ≤ g ∧ g < (R.gates.length : Int)) ∨ ∃ (gn : Nat) (h : gn < R.gates.length), g = gn ∧ R'.Ok mem.length ∧ (A'.length : Int) = R.gates[gn].a) ∧ Below w.heap.size w w' := by
 by_cases h : R.gates.length = 0 ∨ gate < 0
 · refine (entry_none R ca ga cc gc (T.str mem) gate (.slice sa A.length sc) w h).mono ?_
   rintro x w' ⟨rfl, g⟩
   exact ⟨gate, A, sa, sc, rfl, hA.below g.below, hAl, .inl (fun q => by omega), g.below⟩
 · have h0 : 0 < R.gates.length := by omega
   have hg : 0 ≤ gate := by omega
   have hm : gate.toNat % R.gates.length < R.gates.length := Nat.mod_lt _ h0
   obtain ⟨n, hn, hn2⟩ := ent_n (R.gates[gate.toNat % R.gates.length]'hm).a
   have q := entry_any R ca ga cc gc (T.str mem) gate.toNat (gate.toNat % R.gates.length) A sa sc w hP hA h0 rfl hm n hn hn2
   rw [Int.toNat_of_nonneg hg] at q
   refine q.mono ?_
   rintro x w' ⟨v, rfl, ho, hb⟩
   obtain ⟨va, vc, rfl, hw⟩ := own_win ho (entL_len A n).symm
   refine ⟨_, entL A n, va, vc, rfl, hw, by rw [entL_len]; omega, ?_, hb⟩
   by_cases hok : R'.Ok mem.length
   · refine .inr ⟨_, hm, rfl, hok, ?_⟩
     have hm' : gate.toNat % R.gates.length < R'.gates.length := by rw [hgs]; exact hm
     obtain ⟨_, _, _, hq⟩ := hok.gt _ hm'
     have h2 := hq.2.1
     have e : R'.gates[gate.toNat % R.gates.length] = R.gates[gate.toNat % R.gates.length] := by simp [hgs]
     rw [e] at h2
     rw [entL_len]
     omega
   · exact .inl (fun q => hok q.1)
theorem new_anyW (R : Rp) (ca ga : Option Addr) (cc gc : Nat) (mem : List UInt8) (g : Int) (A L : List Int) (ka kb : Nat) (w : World) (hP : RpIn w ca ga R) (is : R.Is) (hA : FRow w ka (A.length + 8) (wdA A)) (hL : FRow w kb (L.length + 8) (wdA L)) (hl : L.length ≤ 2000000) :
   Calls Tryz.prog 12 #[.agg #[.slice ca R.code.length cc, .slice ga R.gates.length gc, .string (T.str mem), .int .i64 R.dep], .int .i64 g, .slice (some ⟨ka, 0, none⟩) A.length (A.length + 8), .slice (some ⟨kb, 0, none⟩) L.length (L.length + 8)] w fun x w' => ∃ p e, x = .returned (.tuple #[p, e]) ∧ Below w.heap.size w w' := by
 by_cases h : R.Ok (T.str mem).size ∧ 0 ≤ g ∧ g < (R.gates.length : Int)
 · obtain ⟨gn, rfl⟩ : ∃ gn : Nat, g = gn := ⟨g.toNat, by omega⟩
   have hgl : gn < R.gates.length := by omega
   by_cases hn : (A.length : Int) = R.gates[gn].a
   · refine (new_raw R ca ga cc gc mem gn (some ⟨ka, 0, none⟩) A.length (A.length + 8) (srcA A) (some ⟨kb, 0, none⟩) (L.length + 8) L w hP is (by have := h.1; rw [T.str_size] at this; exact this) hgl hn (src_row hA) hl (inl_row hL)).mono ?_
     rintro x w' ⟨a, rfl, _, hb⟩
     exact ⟨_, _, rfl, hb⟩
   · refine (new_no71 R ca ga cc gc mem gn (some ⟨ka, 0, none⟩) A.length (A.length + 8) _ w hP is h.1 hgl hn).mono ?_
     rintro x w' ⟨rfl, g⟩
     exact ⟨_, _, rfl, g.below⟩
 · refine (new_no70 R ca ga cc gc mem g (some ⟨ka, 0, none⟩) A.length (A.length + 8) _ w hP is h).mono ?_
   rintro x w' ⟨rfl, g⟩
   exact ⟨_, _, rfl, g.below⟩
theorem src78 {W : World} {k n : Nat} (h : FRow W k (n + 8) (fun _ => .int .u64 78)) : n = 0 ∨ ∃ sb so, (some ⟨k, 0, none⟩ : Option Addr) = some ⟨sb, so, none⟩ ∧ sb < W.heap.size ∧ ∀ j, j < n → W.cell? ⟨sb, so + j, none⟩ = some (.int .u64 (srcA (List.replicate n 78) j)) := by
 refine .inr ⟨k, 0, rfl, h.lt, fun j hj => ?_⟩
 rw [Nat.zero_add, h.at_ j (by omega)]
 unfold srcA
 simp [hj]
theorem inl78 {W : World} {k n : Nat} (h : FRow W k (n + 8) (fun _ => .int .u64 78)) : (((some ⟨k, 0, none⟩ : Option Addr) = none ∧ List.replicate n (78 : Int) = [] ∧ n + 8 = 0) ∨ ∃ b off, (some ⟨k, 0, none⟩ : Option Addr) = some ⟨b, off, none⟩ ∧ b < W.heap.size ∧ ∀ i (h : i < (List.replicate n (78 : Int)).length), W.cell? ⟨b, off + i, none⟩ = some (.int .u64 (List.replicate n (78 : Int))[i])) := by
 refine .inr ⟨k, 0, rfl, h.lt, fun j hj => ?_⟩
 rw [Nat.zero_add, h.at_ j (by rw [List.length_replicate] at hj; omega)]
 simp
theorem win78 {W : World} {k n : Nat} (h : FRow W k (n + 8) (fun _ => .int .u64 78)) : WIn W (some ⟨k, 0, none⟩) (List.replicate n (78 : Int)) := fun j hj => by
 refine ⟨k, 0, rfl, h.lt, ?_⟩
 rw [Nat.zero_add, h.at_ j (by rw [List.length_replicate] at hj; omega)]
 simp
theorem lg_row {B : Nat} {W : World} {k : Nat} {L : List Int} (h : FRow W k (L.length + 8) (wdA L)) : LgIn B W (some ⟨k, 0, none⟩) (L.length + 8) L := by
 refine ⟨by omega, .inr ⟨k, 0, rfl, fun _ => ⟨h.lt, fun j hj => ?_⟩⟩⟩
 rw [Nat.zero_add, h.at_ j (by omega)]
 unfold wdA
 simp [hj]
theorem gi_row {B : Nat} {W : World} {k n c : Nat} {L : List Int} (h : FRow W k (L.length + 8) (wdA L)) : (giOb B (.slice (some ⟨k, 0, none⟩) n c) L).In W := by
 intro k2 off n2 c2 e _
 injection e with e _ _
 injection e with e
 injection e with e1 e2 _
 subst e1
 subst e2
 refine ⟨h.lt, fun j hj => ?_⟩
 rw [Nat.zero_add, h.at_ j (by omega)]
 unfold wdA
 simp [hj]
structure Tk where
 km : Nat
 ka : Nat
 kb : Nat
 kc : Nat
 kg : Nat
 kp : Nat
 kc2 : Nat
 kg2 : Nat
 kt : Nat
 lo1 : Nat
 lo2 : Nat
 K : Nat → Nat
 K2 : Nat → Nat
 rv : Value
 rv2 : Value
structure TnS (q : Tk) (mA pA tA : Array Value) (na nb : Nat) (Va Vb : Nat → Value) (R : Rp) (W : World) : Prop where
 m : At W q.km mA
 p : At W q.kp pA
 t : At W q.kt tA
 a : FRow W q.ka na Va
 b : FRow W q.kb nb Vb
 l1 : LnA q.lo1 q.kp W q.kc q.kg q.K q.rv R
 l2 : LnA q.lo2 q.kt W q.kc2 q.kg2 q.K2 q.rv2 R
 o : q.km < q.ka ∧ q.ka < q.kb ∧ q.kb < q.lo1 ∧ q.lo1 ≤ q.kp ∧ q.kp < q.lo2 ∧ q.lo2 ≤ q.kt ∧ q.kt < W.heap.size
section
variable {q : Tk} {mA pA tA : Array Value} {na nb : Nat} {Va Vb Vc : Nat → Value} {R : Rp} {W W' : World}
theorem TnS.keep {S : Nat → Prop} (h : TnS q mA pA tA na nb Va Vb R W) (hk : Kp S W W') (hS : ∀ k, q.km ≤ k → k ≤ q.kt → ¬ S k) : TnS q mA pA tA na nb Va Vb R W' := by
 obtain ⟨o1, o2, o3, o4, o5, o6, o7⟩ := h.o
 exact ⟨at_keep h.m hk (hS _ (by omega) (by omega)), at_keep h.p hk (hS _ (by omega) (by omega)), at_keep h.t hk (hS _ (by omega) (by omega)), h.a.keep hk (hS _ (by omega) (by omega)), h.b.keep hk (hS _ (by omega) (by omega)), h.l1.keep hk (fun k h1 h2 => hS k (by omega) (by omega)), h.l2.keep hk (fun k h1 h2 => hS k (by omega) (by omega)), ⟨o1, o2, o3, o4, o5, o6, Nat.lt_of_lt_of_le o7 hk.size⟩⟩
theorem TnS.bel (h : TnS q mA pA tA na nb Va Vb R W) (hb : Below W.heap.size W W') : TnS q mA pA tA na nb Va Vb R W' :=
 h.keep (S := fun _ => False) (Kp.of_below hb) (fun _ _ _ r => r)
theorem TnS.spa (h : TnS q mA pA tA na nb Va Vb R W) (hk : Kp (fun k => k = q.ka) W W') (f : FRow W' q.ka na Vc) : TnS q mA pA tA na nb Vc Vb R W' := by
 obtain ⟨o1, o2, o3, o4, o5, o6, o7⟩ := h.o
 exact ⟨at_keep h.m hk (by omega), at_keep h.p hk (by omega), at_keep h.t hk (by omega), f, h.b.keep hk (by omega), h.l1.keep hk (fun k h1 h2 => by omega), h.l2.keep hk (fun k h1 h2 => by omega), ⟨o1, o2, o3, o4, o5, o6, Nat.lt_of_lt_of_le o7 hk.size⟩⟩
theorem TnS.spb (h : TnS q mA pA tA na nb Va Vb R W) (hk : Kp (fun k => k = q.kb) W W') (f : FRow W' q.kb nb Vc) : TnS q mA pA tA na nb Va Vc R W' := by
 obtain ⟨o1, o2, o3, o4, o5, o6, o7⟩ := h.o
 exact ⟨at_keep h.m hk (by omega), at_keep h.p hk (by omega), at_keep h.t hk (by omega), h.a.keep hk (by omega), f, h.l1.keep hk (fun k h1 h2 => by omega), h.l2.keep hk (fun k h1 h2 => by omega), ⟨o1, o2, o3, o4, o5, o6, Nat.lt_of_lt_of_le o7 hk.size⟩⟩
theorem TnS.turn {i : Nat} (h : TnS q mA pA tA na nb Va Vb (tnR R i) W) (hi : i < R.code.length) (hk : (R.code.getD i []).length / 2 < (R.code.getD i []).length) :
   TnS q mA pA tA na nb Va Vb (tnR R (i + 1)) ((W.setCells (q.K i) ((R.code.getD i []).length / 2 * 5) tnI.vals).setCells (q.K2 i) ((R.code.getD i []).length / 2 * 5) tnI.vals) := by
 obtain ⟨o1, o2, o3, o4, o5, o6, o7⟩ := h.o
 have hi' : i < (tnR R i).code.length := by rw [tnR_len]; exact hi
 have d1 := (h.l1.done i hi').1
 have d2 := (h.l2.done i hi').1
 have k1 := kp_setsZ W (q.K i) tnI.vals ((R.code.getD i []).length / 2 * 5)
 have k2 := kp_setsZ (W.setCells (q.K i) ((R.code.getD i []).length / 2 * 5) tnI.vals) (q.K2 i) tnI.vals ((R.code.getD i []).length / 2 * 5)
 have n1 := h.l1.tn hi hk
 have n2 : LnA q.lo2 q.kt (W.setCells (q.K i) ((R.code.getD i []).length / 2 * 5) tnI.vals) q.kc2 q.kg2 q.K2 q.rv2 (tnR R i) := h.l2.keep k1 (fun k h1 h2 => by omega)
 exact ⟨at_keep (at_keep h.m k1 (by omega)) k2 (by omega), at_keep (at_keep h.p k1 (by omega)) k2 (by omega), at_keep (at_keep h.t k1 (by omega)) k2 (by omega), (h.a.keep k1 (by omega)).keep k2 (by omega), (h.b.keep k1 (by omega)).keep k2 (by omega), n1.keep k2 (fun k h1 h2 => by omega), n2.tn hi hk, ⟨o1, o2, o3, o4, o5, o6, Nat.lt_of_lt_of_le o7 (Nat.le_trans k1.size k2.size)⟩⟩
theorem TnS.skip {i : Nat} (h : TnS q mA pA tA na nb Va Vb (tnR R i) W) (hk : ¬ (R.code.getD i []).length / 2 < (R.code.getD i []).length) : TnS q mA pA tA na nb Va Vb (tnR R (i + 1)) W := by
 rw [tn_none R i hk]
 exact h
theorem tnr_bel {w : World} (hB : Below w.heap.size w W) {K K2 o : Nat} {vs : List Value} (h1 : w.heap.size ≤ K) (h2 : w.heap.size ≤ K2) : Below w.heap.size w ((W.setCells K o vs).setCells K2 o vs) :=
 hB.trans (((kp_setsZ W K vs o).below hB.size (fun k (e : k = K) => by omega)).trans ((kp_setsZ (W.setCells K o vs) K2 vs o).below (Nat.le_trans hB.size (kp_setsZ W K vs o).size) (fun k (e : k = K2) => by omega)))
end
theorem ln_cell {lo hi : Nat} {W : World} {kc kg : Nat} {K : Nat → Nat} {rv : Value} {R : Rp} {i j : Nat} (h : LnA lo hi W kc kg K rv (tnR R j)) (hi2 : i < R.code.length) : kc < W.heap.size ∧ W.cell? ⟨kc, i, none⟩ = some (.slice (some ⟨K i, 0, none⟩) R.code[i].length (R.code[i].length + 8)) := by
 refine ⟨h.row.lt, ?_⟩
 have e := h.row.at_ i (by rw [tnR_len]; omega)
 rw [e]
 unfold rowF
 rw [if_pos (by rw [tnR_len]; exact hi2), tnR_row]
 simp [hi2]
theorem ln_there {lo hi : Nat} {W : World} {kc kg : Nat} {K : Nat → Nat} {rv : Value} {R : Rp} {i j k : Nat} (h : LnA lo hi W kc kg K rv (tnR R j)) (hi2 : i < R.code.length) (hk : k < R.code[i].length) : W.there (K i) (k * 5) 5 := by
 have hA := (h.done i (by rw [tnR_len]; exact hi2)).2.2.2
 refine At.there hA (k * 5) 5 ?_
 rw [row_len ri_len, List.length_append, List.length_replicate, tnR_row]
 have e : (R.code.getD i []).length = R.code[i].length := by simp [hi2]
 rw [e]
 have : (k + 1) * 5 ≤ (R.code[i].length + 8) * 5 := Nat.mul_le_mul_right _ (by omega)
 omega
end Z
end Go.Proofs.YthfphgjjieddjaaGreat


namespace Go.Proofs.YthfphgjjieddjaaGreat
namespace Z
open Go.RowKit
open T (Sep Ob Kp Mf FlIn boxOb)

theorem nextT {i n : Nat} (h : i < n) (hn : n ≤ 1500000) : wrap64 ((i : Int) + 1) = ((i + 1 : Nat) : Int) := by unfold wrap64; omega
theorem nextTm {i n : Nat} (h : i < n) : n - (intOf (.int .i64 ((i : Int) + 1))).toNat < n - (intOf (.int .i64 (i : Int))).toNat := by simp [intOf]; omega
theorem nextTn {i n : Nat} (h : i < n) (hn : n ≤ 1500000) : n - (intOf (.int .i64 (wrap64 ((i : Int) + 1)))).toNat < n - (intOf (.int .i64 (i : Int))).toNat := by rw [nextT h hn]; simp [intOf]; omega
theorem tn_rows {R : Rp} {m : Nat} (h : ∀ r ∈ R.code, r.length ≤ m) (i : Nat) : ∀ r ∈ (tnR R i).code, r.length ≤ m := fun r hr => by
 obtain ⟨j, hj, e⟩ := List.getElem_of_mem hr
 have e1 := tnR_row R j i
 have hj2 : j < R.code.length := by rw [tnR_len] at hj; exact hj
 rw [show (tnR R i).code.getD j [] = r by rw [← e]; simp [hj], show R.code.getD j [] = R.code[j] by simp [hj2]] at e1
 rw [e1]
 exact h _ (List.getElem_mem hj2)
theorem words78 (n k : Nat) (W : World) (h : FRow W k (n + 8) (fun _ => .int .u64 78)) (hn : n ≤ 2000000) :
   Calls Tryz.prog 16 #[.slice (some ⟨k, 0, none⟩) n (n + 8)] W fun x w' => ∃ k', x = .returned (.slice (some ⟨k', 0, none⟩) n (n + 8)) ∧ W.heap.size ≤ k' ∧ FRow w' k' (n + 8) (wdA (List.replicate n 78)) ∧ Below W.heap.size W w' := by
 have q := words_any (List.replicate n 78) (some ⟨k, 0, none⟩) (n + 8) W (win78 h) (by rw [List.length_replicate]; exact hn)
 rw [List.length_replicate] at q
 exact q
def s78 (R : Rp) (g n m : Nat) (mem : List UInt8) : Fm := start (R.gates.getD g zRg).fg g n (srcA (List.replicate n 78)) (List.replicate m 78) mem
theorem s78_okn {R : Rp} {g n m : Nat} {mem : List UInt8} (h : R.Wds) (ok : R.Ok mem.length) (hg : g < R.gates.length) (hm : m ≤ 2000000) : (s78 R g n m mem).Okn R.pr 0 ∧ (s78 R g n m mem).Vf := by
 have e : R.gates.getD g zRg = R.gates[g] := by simp [hg]
 unfold s78
 rw [e]
 refine ⟨start_okn R mem.length g n _ _ mem h ok hg (fun j => ?_) (fun x hx => ?_) (by rw [List.length_replicate]; exact hm), fun _ => ⟨rfl, rfl⟩⟩
 · unfold srcA
   by_cases hj : j < n
   · rw [show (List.replicate n (78 : Int)).getD j 0 = 78 by simp [hj]]
     exact ⟨by omega, by omega⟩
   · rw [show (List.replicate n (78 : Int)).getD j 0 = 0 by simp [hj]]
     exact wd0
 · rw [List.eq_of_mem_replicate hx]
   exact ⟨by omega, by omega⟩
theorem new78 (R : Rp) (ca ga : Option Addr) (cc gc : Nat) (mem : List UInt8) (g n m ka kb : Nat) (w : World) (hP : RpIn w ca ga R) (is : R.Is) (ok : R.Ok mem.length) (hgl : g < R.gates.length) (hna : (n : Int) = R.gates[g].a) (hA : FRow w ka (n + 8) (fun _ => .int .u64 78)) (hL : FRow w kb (m + 8) (fun _ => .int .u64 78)) (hm : m ≤ 2000000) :
   Calls Tryz.prog 12 #[.agg #[.slice ca R.code.length cc, .slice ga R.gates.length gc, .string (T.str mem), .int .i64 R.dep], .int .i64 g, .slice (some ⟨ka, 0, none⟩) n (n + 8), .slice (some ⟨kb, 0, none⟩) m (m + 8)] w fun x w' => ∃ a, x = .returned (.tuple #[.pointer (some ⟨a, 0, none⟩), .int .i64 0]) ∧ MIn w.heap.size w' a R.pr (s78 R g n m mem) [] ∧ Below w.heap.size w w' := by
 have e : R.gates.getD g zRg = R.gates[g] := by simp [hgl]
 have q := new_raw R ca ga cc gc mem g (some ⟨ka, 0, none⟩) n (n + 8) (srcA (List.replicate n 78)) (some ⟨kb, 0, none⟩) (m + 8) (List.replicate m 78) w hP is ok hgl hna (src78 hA) (by rw [List.length_replicate]; exact hm) (inl78 hL)
 rw [List.length_replicate] at q
 unfold s78
 rw [e]
 exact q
theorem gi_S {B k n c : Nat} {L : List Int} {j : Nat} (h : (giOb B (.slice (some ⟨k, 0, none⟩) n c) L).S j) : j = k := by
 obtain ⟨_, off, n2, c2, e⟩ := h
 injection e with e _ _
 injection e with e
 injection e with e _ _
 exact e.symm
theorem dnew78 (R : Rp) (ca ga : Option Addr) (cc gc : Nat) (mem : List UInt8) (g n m k1 k2 a : Nat) (B : Nat) (V V8 w : World) (hM : MIn B V a R.pr (s78 R g n m mem) []) (hb1 : Below V.heap.size V V8) (h1 : V.heap.size ≤ k1) (hF1 : FRow V8 k1 (n + 8) (wdA (List.replicate n 78))) (hb2 : Below V8.heap.size V8 w) (h2 : V8.heap.size ≤ k2) (hF2 : FRow w k2 (m + 8) (wdA (List.replicate m 78)))
   (hP : RpIn w ca ga R) (is : R.Is) (ok : R.Ok mem.length) (hrl : ∀ r ∈ R.code, r.length ≤ 2000000) (hgl : g < R.gates.length) (hna : (n : Int) = R.gates[g].a) (hpg : DPg B w ⟨ca, ga, cc, gc, .string (T.str mem)⟩ R.pr) :
   Calls Tryz.prog 18 #[.agg #[.slice ca R.code.length cc, .slice ga R.gates.length gc, .string (T.str mem), .int .i64 R.dep], .int .i64 g, .slice (some ⟨k1, 0, none⟩) n (n + 8), .slice (some ⟨k2, 0, none⟩) m (m + 8)] w fun x w' => ∃ b, x = .returned (.tuple #[.pointer (some ⟨b, 0, none⟩), .int .i64 0]) ∧ MD B w' R.pr a (s78 R g n m mem) b ⟨ca, ga, cc, gc, .string (T.str mem)⟩ (s78 R g n m mem) [] ∧ Below B w w' := by
 have e : R.gates.getD g zRg = R.gates[g] := by simp [hgl]
 have leV : B ≤ V.heap.size := hM.le
 have le8 : B ≤ V8.heap.size := Nat.le_trans leV hb1.size
 have lew : B ≤ w.heap.size := Nat.le_trans le8 hb2.size
 obtain ⟨⟨q, hS⟩, _⟩ := hM
 have hS1 := hS.add (snapOb V.heap.size V8) ⟨Nat.le_refl _, fun _ _ _ => rfl⟩ (fun k r => r.1) hb1 leV
 have hF2' : FRow w k2 ((List.replicate m (78 : Int)).length + 8) (wdA (List.replicate m 78)) := by rw [List.length_replicate]; exact hF2
 have hS2 := hS1.add (giOb B (.slice (some ⟨k2, 0, none⟩) (List.replicate m (78 : Int)).length (m + 8)) (List.replicate m 78)) (gi_row hF2') (fun k r => by have := gi_S r; omega) hb2 le8
 have hS3 : Sep B w (giOb B (.slice (some ⟨k2, 0, none⟩) (List.replicate m (78 : Int)).length (m + 8)) (List.replicate m 78) :: (obs B a R.pr (s78 R g n m mem) q ++ [snapOb V.heap.size V8])) := sep_perm hS2 (by
   refine List.Perm.cons _ ?_
   rw [List.append_nil]
   exact List.perm_append_comm (l₁ := [snapOb V.heap.size V8]))
 have hlg : LgIn B w (some ⟨k2, 0, none⟩) (m + 8) (List.replicate m 78) := by
   have := lg_row (B := B) hF2'
   rw [List.length_replicate] at this
   exact this
 have d := dnew_ok R ca ga cc gc mem g (some ⟨k1, 0, none⟩) n (n + 8) (srcA (List.replicate n 78)) (some ⟨k2, 0, none⟩) (m + 8) (List.replicate m 78) w hP is ok hrl hgl hna B lew hpg hlg _ hS3 (.inr ⟨k1, 0, rfl, fun X _ hX j hj => by
   have hsn := hX (snapOb V.heap.size V8) (by simp)
   have hblk := hsn.2 k1 h1 hF1.lt
   rw [Nat.zero_add]
   refine (T.cell_of_block hblk _).trans ((hF1.at_ j (by omega)).trans ?_)
   unfold wdA srcA
   simp [hj]⟩) (s78 R g n m mem) (by unfold s78; rw [e])
 rw [List.length_replicate] at d
 refine d.mono ?_
 rintro x w' ⟨b, rfl, hD, hb⟩
 exact ⟨b, rfl, MD.drop (o := snapOb V.heap.size V8) ⟨q, hD⟩, hb⟩
theorem new70c (R : Rp) (nc ng : Nat) (dep : Int) (hnc : R.code.length = nc) (hng : R.gates.length = ng) (hd : R.dep = dep) (ca ga : Option Addr) (cc gc : Nat) (mem : List UInt8) (gate : Int) (sa : Option Addr) (n sc : Nat) (vi : Value) (w : World) (hP : RpIn w ca ga R) (is : R.Is) (h : ¬ (R.Ok (T.str mem).size ∧ 0 ≤ gate ∧ gate < (R.gates.length : Int))) :
   Calls Tryz.prog 12 #[.agg #[.slice ca nc cc, .slice ga ng gc, .string (T.str mem), .int .i64 dep], .int .i64 gate, .slice sa n sc, vi] w fun x w' => x = .returned (.tuple #[.pointer none, .int .i64 70]) ∧ Gr w w' := by
 subst hnc hng hd
 exact new_no70 R ca ga cc gc mem gate sa n sc vi w hP is h
theorem dnew70c (R : Rp) (nc ng : Nat) (dep : Int) (hnc : R.code.length = nc) (hng : R.gates.length = ng) (hd : R.dep = dep) (ca ga : Option Addr) (cc gc : Nat) (mem : List UInt8) (gate : Int) (sa : Option Addr) (n sc : Nat) (vi : Value) (w : World) (hP : RpIn w ca ga R) (is : R.Is) (hrl : ∀ r ∈ R.code, r.length ≤ 2000000) (h : ¬ (R.Ok (T.str mem).size ∧ 0 ≤ gate ∧ gate < (R.gates.length : Int))) :
   Calls Tryz.prog 18 #[.agg #[.slice ca nc cc, .slice ga ng gc, .string (T.str mem), .int .i64 dep], .int .i64 gate, .slice sa n sc, vi] w fun x w' => x = .returned (.tuple #[.pointer none, .int .i64 70]) ∧ Gr w w' := by
 subst hnc hng hd
 exact dnew_no70 R ca ga cc gc mem gate sa n sc vi w hP is hrl h
theorem new78c (R : Rp) (nc ng : Nat) (dep : Int) (hnc : R.code.length = nc) (hng : R.gates.length = ng) (hd : R.dep = dep) (ca ga : Option Addr) (cc gc : Nat) (mem : List UInt8) (g n m ka kb : Nat) (w : World) (hP : RpIn w ca ga R) (is : R.Is) (ok : R.Ok mem.length) (hgl : g < R.gates.length) (hna : (n : Int) = R.gates[g].a) (hA : FRow w ka (n + 8) (fun _ => .int .u64 78)) (hL : FRow w kb (m + 8) (fun _ => .int .u64 78)) (hm : m ≤ 2000000) :
   Calls Tryz.prog 12 #[.agg #[.slice ca nc cc, .slice ga ng gc, .string (T.str mem), .int .i64 dep], .int .i64 g, .slice (some ⟨ka, 0, none⟩) n (n + 8), .slice (some ⟨kb, 0, none⟩) m (m + 8)] w fun x w' => ∃ a, x = .returned (.tuple #[.pointer (some ⟨a, 0, none⟩), .int .i64 0]) ∧ MIn w.heap.size w' a R.pr (s78 R g n m mem) [] ∧ Below w.heap.size w w' := by
 subst hnc hng hd
 exact new78 R ca ga cc gc mem g n m ka kb w hP is ok hgl hna hA hL hm
theorem dnew78c (R : Rp) (nc ng : Nat) (dep : Int) (hnc : R.code.length = nc) (hng : R.gates.length = ng) (hd : R.dep = dep) (ca ga : Option Addr) (cc gc : Nat) (mem : List UInt8) (g n m k1 k2 a : Nat) (B : Nat) (V V8 w : World) (hM : MIn B V a R.pr (s78 R g n m mem) []) (hb1 : Below V.heap.size V V8) (h1 : V.heap.size ≤ k1) (hF1 : FRow V8 k1 (n + 8) (wdA (List.replicate n 78))) (hb2 : Below V8.heap.size V8 w) (h2 : V8.heap.size ≤ k2) (hF2 : FRow w k2 (m + 8) (wdA (List.replicate m 78)))
   (hP : RpIn w ca ga R) (is : R.Is) (ok : R.Ok mem.length) (hrl : ∀ r ∈ R.code, r.length ≤ 2000000) (hgl : g < R.gates.length) (hna : (n : Int) = R.gates[g].a) (hpg : DPg B w ⟨ca, ga, cc, gc, .string (T.str mem)⟩ R.pr) :
   Calls Tryz.prog 18 #[.agg #[.slice ca nc cc, .slice ga ng gc, .string (T.str mem), .int .i64 dep], .int .i64 g, .slice (some ⟨k1, 0, none⟩) n (n + 8), .slice (some ⟨k2, 0, none⟩) m (m + 8)] w fun x w' => ∃ b, x = .returned (.tuple #[.pointer (some ⟨b, 0, none⟩), .int .i64 0]) ∧ MD B w' R.pr a (s78 R g n m mem) b ⟨ca, ga, cc, gc, .string (T.str mem)⟩ (s78 R g n m mem) [] ∧ Below B w w' := by
 subst hnc hng hd
 exact dnew78 R ca ga cc gc mem g n m k1 k2 a B V V8 w hM hb1 h1 hF1 hb2 h2 hF2 hP is ok hrl hgl hna hpg
end Z
end Go.Proofs.YthfphgjjieddjaaGreat
