import Derived.Test.YthfphgjjieddjaaGreatZCall
namespace Go.Proofs.YthfphgjjieddjaaGreat
set_option maxRecDepth 100000
set_option maxHeartbeats 40000000
namespace Z
open Go.RowKit
open T (Sep Ob Kp Mf FlIn boxOb)

theorem ret_end0 (B : Nat) (W0 : World) (a : Nat) (P : Pr) (s : Fm) (l : List Ob) (i : Fi) (h : MIn B W0 a P s l) (hg : s.g < P.gates.length) (hs7 : P.gates[s.g].s ≤ 7) (hst : s.st = []) (hz : P.gates[s.g].s = 0) :
   Calls Tryz.prog 97 #[.agg #[.int .u8 i.op, .int .i64 i.a, .int .i64 i.b, .int .i64 i.c, .int .u64 i.i], .pointer (some ⟨a, 0, none⟩)] W0 fun x w' => x = .returned (.tuple #[]) ∧ MIn B w' a P { s with e := 1, v := 0, f := 0 } l ∧ Below B W0 w' := by
 have hgi : (s.g : Int) < (P.gates.length : Int) := Int.ofNat_lt.2 hg
 replace hz := Hz.mk hz
 have h2 := Hz.mk (h.new #[.int .u8 i.op, .int .i64 i.a, .int .i64 i.b, .int .i64 i.c, .int .u64 i.i] 101)
 clear h
 go_enter Tryz.func97, Tryz.ntmps97
 go_upto_region 1 with fail
 refine wp_world (fun W => MIn B W a P s (boxOb W0.heap.size #[.int .u8 i.op, .int .i64 i.a, .int .i64 i.b, .int .i64 i.c, .int .u64 i.i] :: l) ∧ Below B W0 W) h2.out ?_
 rintro W ⟨h, hB⟩
 replace h := Hz.mk h
 replace hB := Hz.mk hB
 clear h2
 generalize W0.heap.size = kb at *
 have KS := xk1 i kb
 clear KS
 have hleW := h.out.le
 replace h := Hz.mk (h.out.gro (Gr.refl W).drew)
 obtain ⟨gb, c0, c1, hg0, hgr⟩ := h.out.gateAt s.g hg
 have c5 : W.drew.cell? ⟨gb, s.g * 19 + 1 + 1, none⟩ = some (.int .i64 P.gates[s.g].s) := hgr 2 _ rfl
 have c4 : W.drew.cell? ⟨a, 4, none⟩ = some (.int .i64 s.g) := by
   obtain ⟨q, hb⟩ := h.out.bx
   exact hb.at_ 4 (by omega)
 replace hB : Hz (Below B W0 W.drew) := Hz.mk (hB.out.trans (Below.refl _ W).drew)
 clear hgr hg0
 refine wp_region_held_drew (S := (fun X => X.cell? ⟨a, 1, none⟩ = some (.slice (some ⟨gb, 0, none⟩) P.gates.length c0) ∧ X.cell? ⟨a, 4, none⟩ = some (.int .i64 s.g) ∧ X.cell? ⟨gb, s.g * 19 + 1 + 1, none⟩ = some (.int .i64 P.gates[s.g].s))) (by kernel_rfl) (⟨c1, c4, c5⟩) (fun hHeld => ?_)
 refine xso 0 ?_ rfl ?_ (xso 1 ?_ rfl ?_ (xso 2 ?_ rfl ?_ (xso 3 ?_ rfl ?_ (xso 4 ?_ rfl ?_ (xso 5 ?_ rfl ?_ (xso 6 ?_ rfl ?_ (xso 7 ?_ rfl ?_ (xso 8 ?_ rfl ?_ (xso 9 ?_ rfl ?_ (xso 10 ?_ rfl ?_ (xso 11 ?_ rfl ?_ (xso 12 ?_ rfl ?_ ?_))))))))))))
 iterate 13 (rotate_left; focus ((try simp only [xap]); intro w hSw; (try dsimp only at hSw); go_simp; first | done | with_reducible rfl))
 try simp only [xap]
 refine xrd 13 rfl (fun K hK => ?_)
 go_simp
 go_wp2_with (refine (handed_any a P.gates[s.g].s _ (by omega)).mono ?_; rintro r Y ⟨rfl, e1⟩; subst e1; clear hHeld)
 refine hK.out _ _ (⟨c1, c4, c5⟩) (fun hHeld => ?_)
 clear hK K
 try simp only [xap]
 refine xso 14 ?_ rfl ?_ ?_
 rotate_left
 · intro w hSw; (try dsimp only at hSw); go_simp; first | done | with_reducible rfl
 try simp only [xap]
 refine xdn ?_ _
 clear hHeld c1 c4 c5
 generalize W.drew = V at *
 obtain ⟨_, ta, tk, c22⟩ := h.out.depAt
 rw [hst] at c22
 have hra := h.out.regAt P.gates[s.g].s (by omega)
 have hf := Hz.mk (h.out.onBox (s' := { s with e := 1, v := 0, f := 0 }) ⟨rfl, rfl, rfl, rfl, rfl⟩ (fun q hb => finish_any a _ 1 0 V hb))
 rw [hz.out]
 clear hra
 replace hst := Hz.mk hst
 go_wp2_with fail
 refine (first_none _ _ _).mono ?_
 rintro r V1 ⟨rfl, e1⟩
 subst e1
 go_wp2_with fail
 refine (hf.out).mono ?_
 rintro r V2 ⟨rfl, h2, hB2⟩
 replace hB : Hz (Below B W0 V2) := Hz.mk (hB.out.trans hB2)
 clear hB2
 clear h
 have h := Hz.mk h2
 clear h2
 go_wp2_with fail
 first | go_end0 | ((try simp only [Exit.inBlock, Exit.then]); refine bodyPost_ret (results_none rfl _ _ _) rfl ?_)
 exact ⟨rfl, h.out.drop, hB.out⟩
theorem ret_end1 (B : Nat) (W0 : World) (a : Nat) (P : Pr) (s : Fm) (l : List Ob) (i : Fi) (h : MIn B W0 a P s l) (hg : s.g < P.gates.length) (hs7 : P.gates[s.g].s ≤ 7) (hst : s.st = []) (hz : P.gates[s.g].s ≠ 0) :
   Calls Tryz.prog 97 #[.agg #[.int .u8 i.op, .int .i64 i.a, .int .i64 i.b, .int .i64 i.c, .int .u64 i.i], .pointer (some ⟨a, 0, none⟩)] W0 fun x w' => x = .returned (.tuple #[]) ∧ MIn B w' a P { s with e := 1, v := (s.r 1), f := 0 } l ∧ Below B W0 w' := by
 have hgi : (s.g : Int) < (P.gates.length : Int) := Int.ofNat_lt.2 hg
 replace hz := Hz.mk hz
 have h2 := Hz.mk (h.new #[.int .u8 i.op, .int .i64 i.a, .int .i64 i.b, .int .i64 i.c, .int .u64 i.i] 101)
 clear h
 go_enter Tryz.func97, Tryz.ntmps97
 go_upto_region 1 with fail
 refine wp_world (fun W => MIn B W a P s (boxOb W0.heap.size #[.int .u8 i.op, .int .i64 i.a, .int .i64 i.b, .int .i64 i.c, .int .u64 i.i] :: l) ∧ Below B W0 W) h2.out ?_
 rintro W ⟨h, hB⟩
 replace h := Hz.mk h
 replace hB := Hz.mk hB
 clear h2
 generalize W0.heap.size = kb at *
 have KS := xk1 i kb
 clear KS
 have hleW := h.out.le
 replace h := Hz.mk (h.out.gro (Gr.refl W).drew)
 obtain ⟨gb, c0, c1, hg0, hgr⟩ := h.out.gateAt s.g hg
 have c5 : W.drew.cell? ⟨gb, s.g * 19 + 1 + 1, none⟩ = some (.int .i64 P.gates[s.g].s) := hgr 2 _ rfl
 have c4 : W.drew.cell? ⟨a, 4, none⟩ = some (.int .i64 s.g) := by
   obtain ⟨q, hb⟩ := h.out.bx
   exact hb.at_ 4 (by omega)
 replace hB : Hz (Below B W0 W.drew) := Hz.mk (hB.out.trans (Below.refl _ W).drew)
 clear hgr hg0
 refine wp_region_held_drew (S := (fun X => X.cell? ⟨a, 1, none⟩ = some (.slice (some ⟨gb, 0, none⟩) P.gates.length c0) ∧ X.cell? ⟨a, 4, none⟩ = some (.int .i64 s.g) ∧ X.cell? ⟨gb, s.g * 19 + 1 + 1, none⟩ = some (.int .i64 P.gates[s.g].s))) (by kernel_rfl) (⟨c1, c4, c5⟩) (fun hHeld => ?_)
 refine xso 0 ?_ rfl ?_ (xso 1 ?_ rfl ?_ (xso 2 ?_ rfl ?_ (xso 3 ?_ rfl ?_ (xso 4 ?_ rfl ?_ (xso 5 ?_ rfl ?_ (xso 6 ?_ rfl ?_ (xso 7 ?_ rfl ?_ (xso 8 ?_ rfl ?_ (xso 9 ?_ rfl ?_ (xso 10 ?_ rfl ?_ (xso 11 ?_ rfl ?_ (xso 12 ?_ rfl ?_ ?_))))))))))))
 iterate 13 (rotate_left; focus ((try simp only [xap]); intro w hSw; (try dsimp only at hSw); go_simp; first | done | with_reducible rfl))
 try simp only [xap]
 refine xrd 13 rfl (fun K hK => ?_)
 go_simp
 go_wp2_with (refine (handed_any a P.gates[s.g].s _ (by omega)).mono ?_; rintro r Y ⟨rfl, e1⟩; subst e1; clear hHeld)
 refine hK.out _ _ (⟨c1, c4, c5⟩) (fun hHeld => ?_)
 clear hK K
 try simp only [xap]
 refine xso 14 ?_ rfl ?_ ?_
 rotate_left
 · intro w hSw; (try dsimp only at hSw); go_simp; first | done | with_reducible rfl
 try simp only [xap]
 refine xdn ?_ _
 clear hHeld c1 c4 c5
 generalize W.drew = V at *
 obtain ⟨_, ta, tk, c22⟩ := h.out.depAt
 rw [hst] at c22
 have hra := h.out.regAt P.gates[s.g].s (by omega)
 obtain ⟨n1, hn1⟩ : ∃ n1, P.gates[s.g].s = n1 + 1 := ⟨P.gates[s.g].s - 1, by have := hz.out; omega⟩
 have hn1b : n1 ≤ 1000 := by omega
 have c7 : V.cell? ⟨a, 7, none⟩ = some (.int .u64 (s.r 1)) := hra.2 0 (by omega)
 have hf := Hz.mk (h.out.onBox (s' := { s with e := 1, v := (s.r 1), f := 0 }) ⟨rfl, rfl, rfl, rfl, rfl⟩ (fun q hb => finish_any a _ 1 (s.r 1) V hb))
 rw [hn1]
 clear hra
 replace hst := Hz.mk hst
 replace hn1 := Hz.mk hn1
 go_wp2_with fail
 refine (first_some a 7 n1 15 (s.r 1) _ c7 hn1b).mono ?_
 rintro r V1 ⟨rfl, e1⟩
 subst e1
 go_wp2_with fail
 refine (hf.out).mono ?_
 rintro r V2 ⟨rfl, h2, hB2⟩
 replace hB : Hz (Below B W0 V2) := Hz.mk (hB.out.trans hB2)
 clear hB2
 clear h
 have h := Hz.mk h2
 clear h2
 go_wp2_with fail
 first | go_end0 | ((try simp only [Exit.inBlock, Exit.then]); refine bodyPost_ret (results_none rfl _ _ _) rfl ?_)
 exact ⟨rfl, h.out.drop, hB.out⟩
theorem ret_ok (B : Nat) (W0 : World) (a : Nat) (P : Pr) (s : Fm) (l : List Ob) (i : Fi) (L : List Fr) (t : Fr) (h : MIn B W0 a P s l) (hg : s.g < P.gates.length) (hs7 : P.gates[s.g].s ≤ 7) (hst : s.st = L ++ [t]) (hL : L.length ≤ 1000) :
   Calls Tryz.prog 97 #[.agg #[.int .u8 i.op, .int .i64 i.a, .int .i64 i.b, .int .i64 i.c, .int .u64 i.i], .pointer (some ⟨a, 0, none⟩)] W0 fun x w' => x = .returned (.tuple #[]) ∧ MIn B w' a P { s with g := t.g, p := t.p, r := (entR ⟨t.p, 0, 0, t.r⟩ P.gates[s.g].s (fun k => s.r (k + 1))), st := L } l ∧ Below B W0 w' := by
 have hgi : (s.g : Int) < (P.gates.length : Int) := Int.ofNat_lt.2 hg
 have e3 : wrap64 (((L.length + 1 : Nat) : Int) - 1) = (L.length : Int) := by unfold wrap64; omega
 have e4 : wrap64 ((L.length : Int) + 1 - 1) = (L.length : Int) := by unfold wrap64; omega
 replace hst := Hz.mk hst
 have h2 := Hz.mk (h.new #[.int .u8 i.op, .int .i64 i.a, .int .i64 i.b, .int .i64 i.c, .int .u64 i.i] 101)
 clear h
 go_enter Tryz.func97, Tryz.ntmps97
 go_upto_region 1 with fail
 refine wp_world (fun W => MIn B W a P s (boxOb W0.heap.size #[.int .u8 i.op, .int .i64 i.a, .int .i64 i.b, .int .i64 i.c, .int .u64 i.i] :: l) ∧ Below B W0 W) h2.out ?_
 rintro W ⟨h, hB⟩
 replace h := Hz.mk h
 replace hB := Hz.mk hB
 clear h2
 generalize W0.heap.size = kb at *
 have KS := xk1 i kb
 clear KS
 have hleW := h.out.le
 replace h := Hz.mk (h.out.gro (Gr.refl W).drew)
 obtain ⟨gb, c0, c1, hg0, hgr⟩ := h.out.gateAt s.g hg
 have c5 : W.drew.cell? ⟨gb, s.g * 19 + 1 + 1, none⟩ = some (.int .i64 P.gates[s.g].s) := hgr 2 _ rfl
 have c4 : W.drew.cell? ⟨a, 4, none⟩ = some (.int .i64 s.g) := by
   obtain ⟨q, hb⟩ := h.out.bx
   exact hb.at_ 4 (by omega)
 replace hB : Hz (Below B W0 W.drew) := Hz.mk (hB.out.trans (Below.refl _ W).drew)
 clear hgr hg0
 refine wp_region_held_drew (S := (fun X => X.cell? ⟨a, 1, none⟩ = some (.slice (some ⟨gb, 0, none⟩) P.gates.length c0) ∧ X.cell? ⟨a, 4, none⟩ = some (.int .i64 s.g) ∧ X.cell? ⟨gb, s.g * 19 + 1 + 1, none⟩ = some (.int .i64 P.gates[s.g].s))) (by kernel_rfl) (⟨c1, c4, c5⟩) (fun hHeld => ?_)
 refine xso 0 ?_ rfl ?_ (xso 1 ?_ rfl ?_ (xso 2 ?_ rfl ?_ (xso 3 ?_ rfl ?_ (xso 4 ?_ rfl ?_ (xso 5 ?_ rfl ?_ (xso 6 ?_ rfl ?_ (xso 7 ?_ rfl ?_ (xso 8 ?_ rfl ?_ (xso 9 ?_ rfl ?_ (xso 10 ?_ rfl ?_ (xso 11 ?_ rfl ?_ (xso 12 ?_ rfl ?_ ?_))))))))))))
 iterate 13 (rotate_left; focus ((try simp only [xap]); intro w hSw; (try dsimp only at hSw); go_simp; first | done | with_reducible rfl))
 try simp only [xap]
 refine xrd 13 rfl (fun K hK => ?_)
 go_simp
 go_wp2_with (refine (handed_any a P.gates[s.g].s _ (by omega)).mono ?_; rintro r Y ⟨rfl, e1⟩; subst e1; clear hHeld)
 refine hK.out _ _ (⟨c1, c4, c5⟩) (fun hHeld => ?_)
 clear hK K
 try simp only [xap]
 refine xso 14 ?_ rfl ?_ ?_
 rotate_left
 · intro w hSw; (try dsimp only at hSw); go_simp; first | done | with_reducible rfl
 try simp only [xap]
 refine xdn ?_ _
 clear hHeld c1 c4 c5
 generalize W.drew = V at *
 have hleV := h.out.le
 obtain ⟨gs, cs, c22, hcs, hgs, _, htop, _⟩ := h.out.top L t hst.out
 replace htop := Hz.mk htop
 have hll : (L.length : Int) < (L.length : Int) + 1 := by omega
 have hl0 : ¬ (L.length : Int) < 0 := by omega
 have hl1 : (0 : Int) ≤ (L.length : Int) := by omega
 have hlc : (L.length : Int) ≤ (cs : Int) := by omega
 go_upto_region 5 with fail
 refine wp_region_lit ?_
 iterate 6 (refine wpList_plain rfl (fun K hK => ?_); go_simp; with_reducible refine hK _ _ ?_; clear hK K; (try simp only [xap]))
 refine wpList_plain rfl (fun K hK => ?_)
 refine wp_load_mid _ _ rfl _ (L.length * 18) rfl (Fr.vals t) _ htop.out Tryz.underlying74 rfl (by rw [Fr.len]; kernel_rfl) (hK _ _ ?_)
 clear hK K
 try simp only [xap]
 refine wpList_plain rfl (fun K hK => ?_)
 go_simp
 with_reducible refine hK _ _ ?_
 clear hK K
 try simp only [xap]
 have hA7 : At (V.alloc (.cells (List.toArray [Value.int .i64 0, .int .i64 0, .int .u64 0, .int .u64 0, .int .u64 0, .int .u64 0, .int .u64 0, .int .u64 0, .int .u64 0, .int .u64 0, .int .u64 0, .int .u64 0, .int .u64 0, .int .u64 0, .int .u64 0, .int .u64 0, .int .u64 0, .int .u64 0]) 74)) V.heap.size (List.toArray [Value.int .i64 0, .int .i64 0, .int .u64 0, .int .u64 0, .int .u64 0, .int .u64 0, .int .u64 0, .int .u64 0, .int .u64 0, .int .u64 0, .int .u64 0, .int .u64 0, .int .u64 0, .int .u64 0, .int .u64 0, .int .u64 0, .int .u64 0, .int .u64 0]) := At.new V _ _
 have hth := Hz.mk (At.there hA7 0 18 (by decide))
 have hA8 := Hz.mk (At.setAll hA7 (Fr.vals t) (by rw [Fr.len]; rfl))
 have g8 := Hz.mk (Gr.setCells ((Gr.refl V).alloc (.cells (List.toArray [Value.int .i64 0, .int .i64 0, .int .u64 0, .int .u64 0, .int .u64 0, .int .u64 0, .int .u64 0, .int .u64 0, .int .u64 0, .int .u64 0, .int .u64 0, .int .u64 0, .int .u64 0, .int .u64 0, .int .u64 0, .int .u64 0, .int .u64 0, .int .u64 0]) 74)) V.heap.size (Nat.le_refl _) (Fr.vals t) 0)
 clear hA7
 refine wpList_plain rfl (fun K hK => ?_)
 refine wp_store_mid _ _ _ rfl _ _ (List.toArray (Fr.vals t)) rfl rfl (show World.there _ _ _ _ by simpa [Fr.len] using hth.out) (by rw [List.size_toArray, Fr.len]; kernel_rfl) (Fr.one _) (hK _ _ ?_)
 clear hK K
 try simp only [Act.put]
 have hM := Hz.mk (h.out.add (boxOb V.heap.size (List.toArray (Fr.vals t))) hA8.out (fun k q => by have : k = V.heap.size := q; omega) g8.out.below)
 replace hB := Hz.mk (hB.out.trans (g8.out.below.mono hleV))
 generalize World.setCells _ _ _ _ = V5 at *
 clear h g8 hth htop c22 hA8 hgs
 generalize V.heap.size = kc at *
 have hAc := hM.out.there (boxOb kc (List.toArray (Fr.vals t))) (.head _)
 have hthc := Hz.mk (At.there hAc 3 P.gates[s.g].s (by rw [Fr.len]; omega))
 have hra := Hz.mk (hM.out.regAt P.gates[s.g].s (by omega))
 have hA9 := at_ent (g := ⟨t.p, 0, 0, t.r⟩) (gate := t.g) (n := P.gates[s.g].s) (fun k => s.r (k + 1)) hAc (by omega)
 have hM6 := hM.out.side (o' := boxOb kc (List.toArray (Fr.vals ⟨t.g, t.p, (entR ⟨t.p, 0, 0, t.r⟩ P.gates[s.g].s (fun k => s.r (k + 1)))⟩))) hA9 (kp_sets4 V5 kc _ 3) (fun _ r => .inl r)
 replace hB := Hz.mk (hB.out.trans hM6.2)
 replace hM6 := Hz.mk hM6.1
 go_upto_region 6 with fail
 refine wp_region_lit ?_
 iterate 3 (refine wpList_plain rfl (fun K hK => ?_); go_simp; with_reducible refine hK _ _ ?_; clear hK K; (try simp only [xap]))
 refine wpList_plain rfl (fun K hK => ?_)
 refine wp_copy_z _ _ rfl kc 3 15 15 (by rfl) (some ⟨a, 7, none⟩) P.gates[s.g].s 15 (by rfl) (by omega) (fun k => s.r (k + 1)) (.inr ⟨a, 7, rfl, hra.out.2⟩) hthc.out ?_
 with_reducible refine hK _ _ ?_
 clear hK K
 try simp only [xap]
 generalize World.setCells _ _ _ _ = V6 at *
 clear hM hAc hthc hra hA9
 obtain ⟨gs2, cs2, c22, hcs2, hgs, f22, _, hpop⟩ := hM6.out.top L t hst.out
 have hlc2 : (L.length : Int) ≤ (cs2 : Int) := by omega
 have hlt6 := World.block_lt_of_cell? V6 _ c22
 replace hpop := Hz.mk hpop
 go_upto_region 8 with fail
 refine wp_world (fun X => MIn B X a P { s with st := L } (boxOb kc (List.toArray (Fr.vals ⟨t.g, t.p, (entR ⟨t.p, 0, 0, t.r⟩ P.gates[s.g].s (fun k => s.r (k + 1)))⟩)) :: boxOb kb #[.int .u8 i.op, .int .i64 i.a, .int .i64 i.b, .int .i64 i.c, .int .u64 i.i] :: l) ∧ Below B V6 X) hpop.out ?_
 rintro V7 ⟨hM7, hB7⟩
 replace hB := Hz.mk (hB.out.trans hB7)
 replace hM7 := Hz.mk hM7
 clear hM6 hpop c22 f22 hB7 hlt6
 have hAq := Hz.mk (hM7.out.there (boxOb kc (List.toArray (Fr.vals ⟨t.g, t.p, (entR ⟨t.p, 0, 0, t.r⟩ P.gates[s.g].s (fun k => s.r (k + 1)))⟩))) (.head _))
 have hth := Hz.mk (hM7.out.there4)
 have hN := hM7.out.hand ⟨t.g, t.p, (entR ⟨t.p, 0, 0, t.r⟩ P.gates[s.g].s (fun k => s.r (k + 1)))⟩
 replace hB := Hz.mk (hB.out.trans hN.2)
 replace hN := Hz.mk hN.1
 refine wp_region_lit ?_
 refine wpList_plain rfl (fun K hK => ?_)
 go_simp
 with_reducible refine hK _ _ ?_
 clear hK K
 try simp only [xap]
 refine wpList_plain rfl (fun K hK => ?_)
 refine wp_load_mid _ _ rfl _ 0 rfl (Fr.vals ⟨t.g, t.p, (entR ⟨t.p, 0, 0, t.r⟩ P.gates[s.g].s (fun k => s.r (k + 1)))⟩) _ hAq.out.range Tryz.underlying74 rfl (by rw [Fr.len]; kernel_rfl) (hK _ _ ?_)
 clear hK K
 try simp only [xap]
 iterate 2 (refine wpList_plain rfl (fun K hK => ?_); go_simp; with_reducible refine hK _ _ ?_; clear hK K; (try simp only [xap]))
 refine wpList_plain rfl (fun K hK => ?_)
 refine wp_store_mid _ _ _ rfl _ _ (List.toArray (Fr.vals ⟨t.g, t.p, (entR ⟨t.p, 0, 0, t.r⟩ P.gates[s.g].s (fun k => s.r (k + 1)))⟩)) rfl rfl (show World.there _ _ _ _ by simpa [Fr.len] using hth.out) (by rw [List.size_toArray, Fr.len]; kernel_rfl) (Fr.one _) (hK _ _ ?_)
 clear hK K
 try simp only [Act.put]
 generalize World.setCells _ _ _ _ = V9 at *
 go_wp2_with fail
 first | go_end0 | ((try simp only [Exit.inBlock, Exit.then]); refine bodyPost_ret (results_none rfl _ _ _) rfl ?_)
 exact ⟨rfl, hN.out.drop.drop, hB.out⟩
end Z
end Go.Proofs.YthfphgjjieddjaaGreat
