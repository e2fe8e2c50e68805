import Derived.Test.YthfphgjjieddjaaGreatP21
import Derived.Test.YthfphgjjieddjaaGreatP24
namespace Go.Proofs.YthfphgjjieddjaaGreat
set_option maxRecDepth 100000
set_option maxHeartbeats 40000000
namespace Z
open Go.RowKit
open T (Sep Ob Kp Mf FlIn boxOb)

theorem MIn.gateAt {B : Nat} {W : World} {a : Nat} {P : Pr} {s : Fm} {l : List Ob} (h : MIn B W a P s l) (k : Nat) (hk : k < P.gates.length) : ∃ g c, W.cell? ⟨a, 1, none⟩ = some (.slice (some ⟨g, 0, none⟩) P.gates.length c) ∧ g < W.heap.size ∧ W.rangeAt g (k * 19) P.gates[k].vals := by
 obtain ⟨⟨q, h1⟩, le⟩ := h
 have hb := h1.ins (bxOb a (bxOf P s q)) (by simp [obs])
 have hp := h1.ins (pgOb q.SP q.cv q.gv P) (by simp [obs])
 obtain ⟨g, c, e1, e2, e3⟩ := hp.gate k hk
 exact ⟨g, c, by rw [← e1]; exact hb.at_ 1 (by omega), hp.lt g e2, e3⟩
theorem MIn.depAt {B : Nat} {W : World} {a : Nat} {P : Pr} {s : Fm} {l : List Ob} (h : MIn B W a P s l) : W.cell? ⟨a, 2, none⟩ = some (.int .i64 P.dep) ∧ ∃ ta tk, W.cell? ⟨a, 22, none⟩ = some (.slice ta s.st.length tk) := by
 obtain ⟨⟨q, h1⟩, le⟩ := h
 have hb := h1.ins (bxOb a (bxOf P s q)) (by simp [obs])
 have hO : W.ownsRow B 74 18 q.sv s.st.length (s.st.flatMap Fr.vals) := h1.ins (stOb B q.sv s.st) (by simp [obs])
 obtain ⟨ta, tk, e⟩ := own_slZ hO
 exact ⟨hb.at_ 2 (by omega), ta, tk, by rw [← e]; exact hb.at_ 22 (by omega)⟩
theorem MIn.regAt {B : Nat} {W : World} {a : Nat} {P : Pr} {s : Fm} {l : List Ob} (h : MIn B W a P s l) (n : Nat) (hn : n ≤ 15) : a < W.heap.size ∧ ∀ j, j < n → W.cell? ⟨a, 7 + j, none⟩ = some (.int .u64 (s.r (j + 1))) := by
 obtain ⟨q, hb⟩ := h.bx
 refine ⟨hb.lt, fun j hj => ?_⟩
 have := hb.at_ (6 + (j + 1)) (by omega)
 rw [Fx.reg _ (j + 1) (by omega), show 6 + (j + 1) = 7 + j by omega] at this
 exact this
theorem call_full (B : Nat) (W0 : World) (a : Nat) (P : Pr) (s : Fm) (l : List Ob) (i : Fi) (h : MIn B W0 a P s l) (hd : P.dep ≤ s.st.length) :
   Calls Tryz.prog 96 #[.agg #[.int .u8 i.op, .int .i64 i.a, .int .i64 i.b, .int .i64 i.c, .int .u64 i.i], .pointer (some ⟨a, 0, none⟩)] W0 fun x w' => x = .returned (.tuple #[]) ∧ MIn B w' a P { s with e := 5, v := 0, f := 0 } l ∧ Below B W0 w' := by
 have h2 := Hz.mk (h.new #[.int .u8 i.op, .int .i64 i.a, .int .i64 i.b, .int .i64 i.c, .int .u64 i.i] 101)
 clear h
 go_enter Tryz.func96, Tryz.ntmps96
 go_upto_region 1 with fail
 refine wp_world (fun W => MIn B W a P s (boxOb W0.heap.size #[.int .u8 i.op, .int .i64 i.a, .int .i64 i.b, .int .i64 i.c, .int .u64 i.i] :: l) ∧ Below B W0 W) h2.out ?_
 rintro W ⟨h, hB⟩
 replace h := Hz.mk h
 replace hB := Hz.mk hB
 clear h2
 generalize W0.heap.size = kb at *
 have KS := xk1 i kb
 have hleW := h.out.le
 replace h := Hz.mk (h.out.gro (Gr.refl W).drew)
 obtain ⟨c2, ta, tk, c22⟩ := h.out.depAt
 replace hB : Hz (Below B W0 W.drew) := Hz.mk (hB.out.trans (Below.refl _ W).drew)
 refine wp_region_held_drew (S := (fun X => X.cell? ⟨a, 22, none⟩ = some (.slice ta s.st.length tk) ∧ X.cell? ⟨a, 2, none⟩ = some (.int .i64 P.dep))) (by kernel_rfl) (⟨c22, c2⟩) (fun hHeld => ?_)
 refine xso 0 ?_ rfl ?_ (xso 1 ?_ rfl ?_ (xso 2 ?_ rfl ?_ (xso 3 ?_ rfl ?_ (xso 4 ?_ rfl ?_ (xso 5 ?_ rfl ?_ (xso 6 ?_ rfl ?_ (xso 7 ?_ rfl ?_ (xso 8 ?_ rfl ?_ (xso 9 ?_ rfl ?_ ?_)))))))))
 iterate 10 (rotate_left; focus ((try simp only [xap]); intro w hSw; (try dsimp only at hSw); go_simp; first | done | with_reducible rfl))
 try simp only [xap]
 refine xdn ?_ _
 clear hHeld c2 c22
 generalize W.drew = V at *
 have hf := Hz.mk (h.out.onBox (s' := { s with e := 5, v := 0, f := 0 }) ⟨rfl, rfl, rfl, rfl, rfl⟩ (fun q hb => finish_any a _ 5 0 V hb))
 go_wp2_with fail
 refine (hf.out).mono ?_
 rintro r V2 ⟨rfl, h2, hB2⟩
 replace hB : Hz (Below B W0 V2) := Hz.mk (hB.out.trans hB2)
 clear hB2
 clear h
 have h := Hz.mk h2
 clear h2
 go_wp2_with fail
 first | go_end0 | ((try simp only [Exit.inBlock, Exit.then]); refine bodyPost_ret (results_none rfl _ _ _) rfl ?_)
 exact ⟨rfl, h.out.drop, hB.out⟩
theorem MIn.push {B : Nat} {W : World} {a : Nat} {P : Pr} {s : Fm} {l : List Ob} (h : MIn B W a P s l) (t : Fr) : ∃ ta tk, W.cell? ⟨a, 22, none⟩ = some (.slice ta s.st.length tk) ∧ (∀ V, Gr W V → V.ownsRow B 74 18 (.slice ta s.st.length tk) s.st.length (s.st.flatMap Fr.vals)) ∧ ∀ V W2 g cap, Gr W V → W2.ownsRow B 74 18 (.slice (some ⟨g, 0, none⟩) (s.st.length + 1) cap) (s.st.length + 1) (s.st.flatMap Fr.vals ++ t.vals) → V.grownBy W2 (Value.slice ta s.st.length tk).ownBlock → ((Value.slice ta s.st.length tk).ownBlock = some g ∨ g = V.heap.size) →
   (∃ u, W2.cell? ⟨a, 22, none⟩ = some u) ∧ W2.frozen? ⟨a, 22, none⟩ = false ∧ W2.rangeAt a 4 (Fr.vals ⟨s.g, s.p, s.r⟩) ∧ MIn B (W2.setCell ⟨a, 22, none⟩ (.slice (some ⟨g, 0, none⟩) (s.st.length + 1) cap)) a P { s with st := s.st ++ [t] } l ∧ Below B W (W2.setCell ⟨a, 22, none⟩ (.slice (some ⟨g, 0, none⟩) (s.st.length + 1) cap)) := by
 obtain ⟨⟨q, h1⟩, le⟩ := h
 have hb := h1.ins (bxOb a (bxOf P s q)) (by simp [obs])
 have hO : W.ownsRow B 74 18 q.sv s.st.length (s.st.flatMap Fr.vals) := h1.ins (stOb B q.sv s.st) (by simp [obs])
 obtain ⟨ta, tk, etv⟩ := own_slZ hO
 refine ⟨ta, tk, by rw [← etv]; exact hb.at_ 22 (by omega), fun V g => by rw [← etv]; exact own_keep hO (Kp.of_below (S := fun _ => False) g.below) (fun _ _ r => r), fun V W2 g cap g1 k1 k2 k3 => ?_⟩
 rw [← etv] at k2 k3
 have r := MIn.app_st t (h1.gr g1.below) (Nat.le_trans le g1.below.size) k1 k2 k3
 exact ⟨⟨_, r.1.at_ 22 (by omega)⟩, r.1.fr 22, r.1.hand, r.2.2.1, (g1.below.mono le).trans r.2.2.2⟩
theorem call_ok (B : Nat) (W0 : World) (a : Nat) (P : Pr) (s : Fm) (l : List Ob) (i : Fi) (gn : Nat) (h : MIn B W0 a P s l) (hd : (s.st.length : Int) < P.dep) (hi : i.i = (gn : Int)) (hgn : gn < P.gates.length) (hg16 : gn < 1000) (hag : P.gates[gn].a ≤ 7) (hsl : s.st.length ≤ 1000000) (hp : s.p ≤ 1000000) :
   Calls Tryz.prog 96 #[.agg #[.int .u8 i.op, .int .i64 i.a, .int .i64 i.b, .int .i64 i.c, .int .u64 i.i], .pointer (some ⟨a, 0, none⟩)] W0 fun x w' => x = .returned (.tuple #[]) ∧ MIn B w' a P { s with g := gn, p := P.gates[gn].e, r := entR P.gates[gn] P.gates[gn].a (fun k => s.r (k + 1)), st := s.st ++ [⟨s.g, s.p + 1, s.r⟩] } l ∧ Below B W0 w' := by
 have hd2 : ¬ P.dep ≤ (s.st.length : Int) := by omega
 have hii : wrap64 i.i = (gn : Int) := by rw [hi]; unfold wrap64; omega
 have hgi : (gn : Int) < (P.gates.length : Int) := Int.ofNat_lt.2 hgn
 clear hi
 have h2 := Hz.mk (h.new #[.int .u8 i.op, .int .i64 i.a, .int .i64 i.b, .int .i64 i.c, .int .u64 i.i] 101)
 clear h
 go_enter Tryz.func96, Tryz.ntmps96
 go_upto_region 1 with fail
 refine wp_world (fun W => MIn B W a P s (boxOb W0.heap.size #[.int .u8 i.op, .int .i64 i.a, .int .i64 i.b, .int .i64 i.c, .int .u64 i.i] :: l) ∧ Below B W0 W) h2.out ?_
 rintro W ⟨h, hB⟩
 replace h := Hz.mk h
 replace hB := Hz.mk hB
 clear h2
 generalize W0.heap.size = kb at *
 have KS := xk1 i kb
 clear KS
 have hleW := h.out.le
 replace h := Hz.mk (h.out.gro (Gr.refl W).drew)
 obtain ⟨c2, ta, tk, c22⟩ := h.out.depAt
 replace hB : Hz (Below B W0 W.drew) := Hz.mk (hB.out.trans (Below.refl _ W).drew)
 refine wp_region_held_drew (S := (fun X => X.cell? ⟨a, 22, none⟩ = some (.slice ta s.st.length tk) ∧ X.cell? ⟨a, 2, none⟩ = some (.int .i64 P.dep))) (by kernel_rfl) (⟨c22, c2⟩) (fun hHeld => ?_)
 refine xso 0 ?_ rfl ?_ (xso 1 ?_ rfl ?_ (xso 2 ?_ rfl ?_ (xso 3 ?_ rfl ?_ (xso 4 ?_ rfl ?_ (xso 5 ?_ rfl ?_ (xso 6 ?_ rfl ?_ (xso 7 ?_ rfl ?_ (xso 8 ?_ rfl ?_ (xso 9 ?_ rfl ?_ ?_)))))))))
 iterate 10 (rotate_left; focus ((try simp only [xap]); intro w hSw; (try dsimp only at hSw); go_simp; first | done | with_reducible rfl))
 try simp only [xap]
 refine xdn ?_ _
 clear hHeld c2 c22
 generalize W.drew = V at *
 have q4 : V.cell? ⟨kb, 4, none⟩ = some (.int .u64 i.i) := (h.out.there (boxOb kb #[.int .u8 i.op, .int .i64 i.a, .int .i64 i.b, .int .i64 i.c, .int .u64 i.i]) (.head _)).2.1 4
 go_upto_region 4 with fail
 clear q4
 have hleV := h.out.le
 obtain ⟨g0, c0, c1, hg0, hgr⟩ := h.out.gateAt gn hgn
 have hra := h.out.regAt P.gates[gn].a (by omega)
 have hent : Hz (∀ X, Gr V X → Calls Tryz.prog 32 #[.slice (some ⟨g0, 0, none⟩) P.gates.length c0, .int .i64 gn, .slice (some ⟨a, 7, none⟩) P.gates[gn].a 15] X fun x w' => x = .returned (.agg (List.toArray (Fr.vals ⟨gn, P.gates[gn].e, entR P.gates[gn] P.gates[gn].a (fun k => s.r (k + 1))⟩))) ∧ Gr X w') := Hz.mk (fun X q => entered_any P.gates[gn] g0 0 P.gates.length c0 gn (some ⟨a, 7, none⟩) P.gates[gn].a 15 (fun k => s.r (k + 1)) X hgn (Nat.lt_of_lt_of_le hg0 q.below.size) (fun j v e => (T.cell_of_block (q.below.block g0 hg0) _).trans (by rw [Nat.zero_add]; exact hgr j v e)) (by omega) (.inr ⟨a, 7, rfl, Nat.lt_of_lt_of_le hra.1 q.below.size, fun j hj => (T.cell_of_block (q.below.block a hra.1) _).trans (hra.2 j hj)⟩))
 have c5 : V.cell? ⟨g0, gn * 19 + 1, none⟩ = some (.int .i64 P.gates[gn].a) := hgr 1 _ rfl
 have KT : Hz (∀ X, Gr V X → X.cell? ⟨a, 1, none⟩ = some (.slice (some ⟨g0, 0, none⟩) P.gates.length c0) ∧ X.cell? ⟨g0, gn * 19 + 1, none⟩ = some (.int .i64 P.gates[gn].a)) := Hz.mk (fun X q => ⟨Gr.cellA h.out q c1, (T.cell_of_block (q.below.block g0 hg0) _).trans c5⟩)
 clear c1 c5 hgr hra hg0
 generalize g0 = gb0 at *
 have g0 : Gr V V.drew := (Gr.refl V).drew
 refine wp_region_held_drew (S := (fun X => X.cell? ⟨a, 1, none⟩ = some (.slice (some ⟨gb0, 0, none⟩) P.gates.length c0) ∧ X.cell? ⟨gb0, gn * 19 + 1, none⟩ = some (.int .i64 P.gates[gn].a))) (by kernel_rfl) (KT.out _ g0) (fun hHeld => ?_)
 refine xso 0 ?_ rfl ?_ (xso 1 ?_ rfl ?_ (xso 2 ?_ rfl ?_ (xso 3 ?_ rfl ?_ (xso 4 ?_ rfl ?_ (xso 5 ?_ rfl ?_ (xso 6 ?_ rfl ?_ (xso 7 ?_ rfl ?_ (xso 8 ?_ rfl ?_ (xso 9 ?_ rfl ?_ (xso 10 ?_ rfl ?_ (xso 11 ?_ rfl ?_ (xso 12 ?_ rfl ?_ (xso 13 ?_ rfl ?_ ?_)))))))))))))
 iterate 14 (rotate_left; focus ((try simp only [xap]); intro w hSw; (try dsimp only at hSw); go_simp; first | done | with_reducible rfl))
 try simp only [xap]
 refine wpAnyH_ready (rs := [14, 16]) (by kernel_rfl) (by simp) ?_
 refine (xcn rfl (fun K hK => ?_) (xcn rfl (fun K hK => ?_) AllReadyH.nil))
 · skip
   go_simp
   go_wp2_with (refine (handed_any a P.gates[gn].a _ (by omega)).mono ?_; rintro r Y0 ⟨rfl, e1⟩; subst e1; clear hHeld)
   refine hK.out _ _ (KT.out _ g0) (fun hHeld => ?_)
   clear hK K
   try simp only [xap]
   refine wpAnyH_ready (rs := [15, 16]) (by kernel_rfl) (by simp) ?_
   refine (xcn rfl (fun K hK => ?_) (xcn rfl (fun K hK => ?_) AllReadyH.nil))
   · skip
     go_simp
     go_wp2_with (refine (hent.out _ g0).mono ?_; rintro r X1 ⟨rfl, gg⟩; have g1 := g0.trans gg; clear gg g0 hHeld)
     refine hK.out _ _ (KT.out _ g1) (fun hHeld => ?_)
     clear hK K
     try simp only [xap]
     refine xrd 16 rfl (fun K hK => ?_)
     go_simp
     clear hHeld
     have hAf : At (X1.alloc (.cells (List.toArray [Value.int .i64 0, .int .i64 0, .int .u64 0, .int .u64 0, .int .u64 0, .int .u64 0, .int .u64 0, .int .u64 0, .int .u64 0, .int .u64 0, .int .u64 0, .int .u64 0, .int .u64 0, .int .u64 0, .int .u64 0, .int .u64 0, .int .u64 0, .int .u64 0]) 74)) (X1.heap.size) (List.toArray [Value.int .i64 0, .int .i64 0, .int .u64 0, .int .u64 0, .int .u64 0, .int .u64 0, .int .u64 0, .int .u64 0, .int .u64 0, .int .u64 0, .int .u64 0, .int .u64 0, .int .u64 0, .int .u64 0, .int .u64 0, .int .u64 0, .int .u64 0, .int .u64 0]) := At.new X1 _ _
     have g2 : Gr V (X1.alloc (.cells (List.toArray [Value.int .i64 0, .int .i64 0, .int .u64 0, .int .u64 0, .int .u64 0, .int .u64 0, .int .u64 0, .int .u64 0, .int .u64 0, .int .u64 0, .int .u64 0, .int .u64 0, .int .u64 0, .int .u64 0, .int .u64 0, .int .u64 0, .int .u64 0, .int .u64 0]) 74)) := g1.alloc _
     have hks : V.heap.size ≤ X1.heap.size := g1.below.size
     generalize hVV : X1.alloc (.cells (List.toArray [Value.int .i64 0, .int .i64 0, .int .u64 0, .int .u64 0, .int .u64 0, .int .u64 0, .int .u64 0, .int .u64 0, .int .u64 0, .int .u64 0, .int .u64 0, .int .u64 0, .int .u64 0, .int .u64 0, .int .u64 0, .int .u64 0, .int .u64 0, .int .u64 0]) 74) = X2 at *
     clear hVV g1
     replace hAf := Hz.mk hAf
     obtain ⟨kf, hkf⟩ : ∃ kf, X1.heap.size = kf := ⟨_, rfl⟩
     rw [hkf] at hAf ⊢
     replace hks : V.heap.size ≤ kf := by omega
     clear hkf
     refine hK.out _ _ (KT.out _ g2) (fun hHeld => ?_)
     clear hK K
     try simp only [xap]
     refine xrd 17 rfl (fun K hK => ?_)
     rw [if_pos (by rfl)]
     have hth := Hz.mk (At.there hAf.out 0 18 (by decide))
     have hA9 := Hz.mk (At.setAll hAf.out (Fr.vals ⟨gn, P.gates[gn].e, entR P.gates[gn] P.gates[gn].a (fun k => s.r (k + 1))⟩) (by rw [Fr.len]; rfl))
     have g3 := Gr.setCells g2 kf hks (Fr.vals ⟨gn, P.gates[gn].e, entR P.gates[gn] P.gates[gn].a (fun k => s.r (k + 1))⟩) 0
     refine wp_store_mid _ _ _ rfl _ _ (List.toArray (Fr.vals ⟨gn, P.gates[gn].e, entR P.gates[gn] P.gates[gn].a (fun k => s.r (k + 1))⟩)) rfl rfl (show World.there _ _ _ _ by simpa [Fr.len] using hth.out) (by rw [List.size_toArray, Fr.len]; kernel_rfl) (Fr.one _) ?_
     clear hHeld
     refine hK.out _ _ (KT.out _ g3) (fun hHeld => ?_)
     clear hK K hth hAf
     try simp only [Act.put]
     refine xdn ?_ _
     clear hHeld
     have hM := Hz.mk (h.out.add (boxOb kf (List.toArray (Fr.vals ⟨gn, P.gates[gn].e, entR P.gates[gn] P.gates[gn].a (fun k => s.r (k + 1))⟩))) hA9.out (fun k q => by have : k = kf := q; omega) g3.below)
     replace hB := Hz.mk (hB.out.trans (g3.below.mono hleV))
     generalize World.setCells _ _ _ _ = Y at *
     clear h hA9 hent KT g3 hks
     have hnx := Hz.mk (hM.out.onBox (s' := { s with p := s.p + 1 }) ⟨rfl, rfl, rfl, rfl, rfl⟩ (fun q hb => next_any a _ Y hb hp))
     go_wp2_with fail
     refine hnx.out.mono ?_
     rintro r Y2 ⟨rfl, h, hB2⟩
     replace hB := Hz.mk (hB.out.trans hB2)
     clear hB2 hM hnx
     replace h := Hz.mk h
     have hleY := h.out.le
     obtain ⟨ta2, tk2, c22, hO2, hap⟩ := h.out.push ⟨s.g, s.p + 1, s.r⟩
     generalize ta2 = ta at *
     generalize tk2 = tk at *
     replace hO2 := Hz.mk hO2
     replace hap := Hz.mk hap
     generalize s.st.flatMap Fr.vals = xs at *
     go_upto_region 6 with fail
     have f0 : Gr Y2 Y2.drew := (Gr.refl Y2).drew
     have hS6 := (h.out.gro f0).handAt
     refine wp_region_held_drew (S := (fun X => X.rangeAt a 4 (Fr.vals ⟨s.g, s.p + 1, s.r⟩))) (by kernel_rfl) (hS6) (fun hHeld => ?_)
     refine xso 0 ?_ rfl ?_ (xso 1 ?_ rfl ?_ (xso 2 ?_ rfl ?_ (xso 3 ?_ rfl ?_ (xso 5 ?_ rfl ?_ (xso 6 ?_ rfl ?_ (xso 7 ?_ rfl ?_ ?_))))))
     iterate 7 (rotate_left; focus ((try simp only [xap]); intro w hSw; (try dsimp only at hSw); go_simp; first | done | with_reducible rfl))
     try simp only [xap]
     refine xtk 8 rfl (yieldsIf_load_mid (by rfl) _ _ rfl _ _ rfl _ _ (fun _ h => h) Tryz.underlying74 rfl (by rw [Fr.len]; kernel_rfl)) ?_
     try simp only [xap]
     refine wpAnyH_ready (rs := [4, 9]) (by kernel_rfl) (by simp) ?_
     refine (xcn rfl (fun K hK => ?_) (xcn rfl (fun K hK => ?_) AllReadyH.nil))
     · skip
       have c9 := Gr.cellA h.out f0 c22
       go_simp
       clear hHeld
       refine hK.out _ _ ((h.out.gro f0).handAt) (fun hHeld => ?_)
       clear hK K c9
       try simp only [xap]
       refine xrd 9 rfl (fun K hK => ?_)
       rw [if_pos (by rfl)]
       refine wp_build_frs _ rfl ⟨s.g, s.p + 1, s.r⟩ (by rfl) ?_
       clear hHeld
       have hX : At (Y2.drew.alloc (.cells (List.toArray (Fr.vals ⟨s.g, s.p + 1, s.r⟩)) 74)) (Y2.drew.heap.size) (List.toArray (Fr.vals ⟨s.g, s.p + 1, s.r⟩)) := At.new Y2.drew _ _
       have f1 : Gr Y2 (Y2.drew.alloc (.cells (List.toArray (Fr.vals ⟨s.g, s.p + 1, s.r⟩)) 74)) := f0.alloc _
       generalize hVV : Y2.drew.alloc (.cells (List.toArray (Fr.vals ⟨s.g, s.p + 1, s.r⟩)) 74) = Q1 at *
       clear hVV f0
       obtain ⟨kX, hkX⟩ : ∃ kX, Y2.drew.heap.size = kX := ⟨_, rfl⟩
       rw [hkX] at hX ⊢
       clear hkX
       replace hX := Hz.mk hX
       refine hK.out _ _ ((h.out.gro f1).handAt) (fun hHeld => ?_)
       clear hK K
       try simp only [xap]
       refine xrd 10 rfl (fun K hK => ?_)
       refine wp_append_z _ _ 77 74 (.agg (List.toArray [Value.int .i64 0, .int .i64 0, .int .u64 0, .int .u64 0, .int .u64 0, .int .u64 0, .int .u64 0, .int .u64 0, .int .u64 0, .int .u64 0, .int .u64 0, .int .u64 0, .int .u64 0, .int .u64 0, .int .u64 0, .int .u64 0, .int .u64 0, .int .u64 0])) 18 144 rfl Tryz.underlying77 (by kernel_rfl) (by kernel_rfl) (by decide) (by decide) B (.slice ta s.st.length tk) s.st.length xs (Fr.vals ⟨s.g, s.p + 1, s.r⟩) (by rfl) (hO2.out Q1 f1) kX (by rfl) hX.out (Fr.len _) (fun u hu => Array.all_eq_true_iff_forall_mem.1 (Fr.one ⟨s.g, s.p + 1, s.r⟩) u (by simpa using hu)) hsl (Nat.le_trans hleY f1.below.size) ?_
       intro g9 cap9 W9 k1 k2 k3
       obtain ⟨⟨u, cu⟩, fu, hR9, hM9, hBe⟩ := hap.out Q1 W9 g9 cap9 f1 k1 k2 k3
       replace hM9 := Hz.mk hM9
       replace hR9 := Hz.mk hR9
       clear k1 k2 k3 hHeld
       have hlt9 := World.block_lt_of_cell? W9 _ cu
       refine hK.out _ _ hR9.out (fun hHeld => ?_)
       clear hK K
       try simp only [xap]
       refine xso 11 ?_ rfl ?_ (xso 12 ?_ rfl ?_ ?_)
       iterate 2 (rotate_left; focus ((try simp only [xap]); intro w hSw; (try dsimp only at hSw); go_simp; first | done | with_reducible rfl))
       try simp only [xap]
       refine xrd 13 rfl (fun K hK => ?_)
       go_simp
       clear hHeld
       refine hK.out _ _ (hM9.out.handAt) (fun hHeld => ?_)
       clear hK K
       try simp only [Act.put]
       refine xdn ?_ _
       clear hHeld cu fu hR9 hlt9
       replace hB := Hz.mk (hB.out.trans hBe)
       generalize World.setCell _ _ _ = Y9 at *
       clear h hX hap hO2
       have hAq := Hz.mk (hM9.out.there (boxOb kf (List.toArray (Fr.vals ⟨gn, P.gates[gn].e, entR P.gates[gn] P.gates[gn].a (fun k => s.r (k + 1))⟩))) (.head _))
       have hth := Hz.mk (hM9.out.there4)
       have hN := hM9.out.hand ⟨gn, P.gates[gn].e, entR P.gates[gn] P.gates[gn].a (fun k => s.r (k + 1))⟩
       replace hB := Hz.mk (hB.out.trans hN.2)
       replace hN := Hz.mk hN.1
       go_upto_region 7 with fail
       refine wp_region_lit ?_
       refine wpList_plain rfl (fun K hK => ?_)
       go_simp
       with_reducible refine hK _ _ ?_
       clear hK K
       try simp only [xap]
       refine wpList_plain rfl (fun K hK => ?_)
       refine wp_load_mid _ _ rfl _ 0 rfl (Fr.vals ⟨gn, P.gates[gn].e, entR P.gates[gn] P.gates[gn].a (fun k => s.r (k + 1))⟩) _ hAq.out.range Tryz.underlying74 rfl (by rw [Fr.len]; kernel_rfl) (hK _ _ ?_)
       clear hK K
       try simp only [xap]
       iterate 2 (refine wpList_plain rfl (fun K hK => ?_); go_simp; with_reducible refine hK _ _ ?_; clear hK K; (try simp only [xap]))
       refine wpList_plain rfl (fun K hK => ?_)
       refine wp_store_mid _ _ _ rfl _ _ (List.toArray (Fr.vals ⟨gn, P.gates[gn].e, entR P.gates[gn] P.gates[gn].a (fun k => s.r (k + 1))⟩)) rfl rfl (show World.there _ _ _ _ by simpa [Fr.len] using hth.out) (by rw [List.size_toArray, Fr.len]; kernel_rfl) (Fr.one _) (hK _ _ ?_)
       clear hK K
       try simp only [Act.put]
       generalize World.setCells _ _ _ _ = Y11 at *
       go_wp2_with fail
       first | go_end0 | ((try simp only [Exit.inBlock, Exit.then]); refine bodyPost_ret (results_none rfl _ _ _) rfl ?_)
       exact ⟨rfl, hN.out.drop.drop, hB.out⟩
     · skip
       rw [if_pos (by rfl)]
       refine wp_build_frs _ rfl ⟨s.g, s.p + 1, s.r⟩ (by rfl) ?_
       clear hHeld
       have hX : At (Y2.drew.alloc (.cells (List.toArray (Fr.vals ⟨s.g, s.p + 1, s.r⟩)) 74)) (Y2.drew.heap.size) (List.toArray (Fr.vals ⟨s.g, s.p + 1, s.r⟩)) := At.new Y2.drew _ _
       have f1 : Gr Y2 (Y2.drew.alloc (.cells (List.toArray (Fr.vals ⟨s.g, s.p + 1, s.r⟩)) 74)) := f0.alloc _
       generalize hVV : Y2.drew.alloc (.cells (List.toArray (Fr.vals ⟨s.g, s.p + 1, s.r⟩)) 74) = Q1 at *
       clear hVV f0
       obtain ⟨kX, hkX⟩ : ∃ kX, Y2.drew.heap.size = kX := ⟨_, rfl⟩
       rw [hkX] at hX ⊢
       clear hkX
       replace hX := Hz.mk hX
       refine hK.out _ _ ((h.out.gro f1).handAt) (fun hHeld => ?_)
       clear hK K
       try simp only [xap]
       refine xrd 4 rfl (fun K hK => ?_)
       have c9 := Gr.cellA h.out f1 c22
       go_simp
       clear hHeld
       refine hK.out _ _ ((h.out.gro f1).handAt) (fun hHeld => ?_)
       clear hK K c9
       try simp only [xap]
       refine xrd 10 rfl (fun K hK => ?_)
       refine wp_append_z _ _ 77 74 (.agg (List.toArray [Value.int .i64 0, .int .i64 0, .int .u64 0, .int .u64 0, .int .u64 0, .int .u64 0, .int .u64 0, .int .u64 0, .int .u64 0, .int .u64 0, .int .u64 0, .int .u64 0, .int .u64 0, .int .u64 0, .int .u64 0, .int .u64 0, .int .u64 0, .int .u64 0])) 18 144 rfl Tryz.underlying77 (by kernel_rfl) (by kernel_rfl) (by decide) (by decide) B (.slice ta s.st.length tk) s.st.length xs (Fr.vals ⟨s.g, s.p + 1, s.r⟩) (by rfl) (hO2.out Q1 f1) kX (by rfl) hX.out (Fr.len _) (fun u hu => Array.all_eq_true_iff_forall_mem.1 (Fr.one ⟨s.g, s.p + 1, s.r⟩) u (by simpa using hu)) hsl (Nat.le_trans hleY f1.below.size) ?_
       intro g9 cap9 W9 k1 k2 k3
       obtain ⟨⟨u, cu⟩, fu, hR9, hM9, hBe⟩ := hap.out Q1 W9 g9 cap9 f1 k1 k2 k3
       replace hM9 := Hz.mk hM9
       replace hR9 := Hz.mk hR9
       clear k1 k2 k3 hHeld
       have hlt9 := World.block_lt_of_cell? W9 _ cu
       refine hK.out _ _ hR9.out (fun hHeld => ?_)
       clear hK K
       try simp only [xap]
       refine xso 11 ?_ rfl ?_ (xso 12 ?_ rfl ?_ ?_)
       iterate 2 (rotate_left; focus ((try simp only [xap]); intro w hSw; (try dsimp only at hSw); go_simp; first | done | with_reducible rfl))
       try simp only [xap]
       refine xrd 13 rfl (fun K hK => ?_)
       go_simp
       clear hHeld
       refine hK.out _ _ (hM9.out.handAt) (fun hHeld => ?_)
       clear hK K
       try simp only [Act.put]
       refine xdn ?_ _
       clear hHeld cu fu hR9 hlt9
       replace hB := Hz.mk (hB.out.trans hBe)
       generalize World.setCell _ _ _ = Y9 at *
       clear h hX hap hO2
       have hAq := Hz.mk (hM9.out.there (boxOb kf (List.toArray (Fr.vals ⟨gn, P.gates[gn].e, entR P.gates[gn] P.gates[gn].a (fun k => s.r (k + 1))⟩))) (.head _))
       have hth := Hz.mk (hM9.out.there4)
       have hN := hM9.out.hand ⟨gn, P.gates[gn].e, entR P.gates[gn] P.gates[gn].a (fun k => s.r (k + 1))⟩
       replace hB := Hz.mk (hB.out.trans hN.2)
       replace hN := Hz.mk hN.1
       go_upto_region 7 with fail
       refine wp_region_lit ?_
       refine wpList_plain rfl (fun K hK => ?_)
       go_simp
       with_reducible refine hK _ _ ?_
       clear hK K
       try simp only [xap]
       refine wpList_plain rfl (fun K hK => ?_)
       refine wp_load_mid _ _ rfl _ 0 rfl (Fr.vals ⟨gn, P.gates[gn].e, entR P.gates[gn] P.gates[gn].a (fun k => s.r (k + 1))⟩) _ hAq.out.range Tryz.underlying74 rfl (by rw [Fr.len]; kernel_rfl) (hK _ _ ?_)
       clear hK K
       try simp only [xap]
       iterate 2 (refine wpList_plain rfl (fun K hK => ?_); go_simp; with_reducible refine hK _ _ ?_; clear hK K; (try simp only [xap]))
       refine wpList_plain rfl (fun K hK => ?_)
       refine wp_store_mid _ _ _ rfl _ _ (List.toArray (Fr.vals ⟨gn, P.gates[gn].e, entR P.gates[gn] P.gates[gn].a (fun k => s.r (k + 1))⟩)) rfl rfl (show World.there _ _ _ _ by simpa [Fr.len] using hth.out) (by rw [List.size_toArray, Fr.len]; kernel_rfl) (Fr.one _) (hK _ _ ?_)
       clear hK K
       try simp only [Act.put]
       generalize World.setCells _ _ _ _ = Y11 at *
       go_wp2_with fail
       first | go_end0 | ((try simp only [Exit.inBlock, Exit.then]); refine bodyPost_ret (results_none rfl _ _ _) rfl ?_)
       exact ⟨rfl, hN.out.drop.drop, hB.out⟩
   · skip
     go_simp
     clear hHeld
     have hAf : At ((V.alloc (.cells (List.toArray [Value.int .i64 0, .int .i64 0, .int .u64 0, .int .u64 0, .int .u64 0, .int .u64 0, .int .u64 0, .int .u64 0, .int .u64 0, .int .u64 0, .int .u64 0, .int .u64 0, .int .u64 0, .int .u64 0, .int .u64 0, .int .u64 0, .int .u64 0, .int .u64 0]) 74)).drew) (V.heap.size) (List.toArray [Value.int .i64 0, .int .i64 0, .int .u64 0, .int .u64 0, .int .u64 0, .int .u64 0, .int .u64 0, .int .u64 0, .int .u64 0, .int .u64 0, .int .u64 0, .int .u64 0, .int .u64 0, .int .u64 0, .int .u64 0, .int .u64 0, .int .u64 0, .int .u64 0]) := (At.new V _ _).drew
     have g1 : Gr V ((V.alloc (.cells (List.toArray [Value.int .i64 0, .int .i64 0, .int .u64 0, .int .u64 0, .int .u64 0, .int .u64 0, .int .u64 0, .int .u64 0, .int .u64 0, .int .u64 0, .int .u64 0, .int .u64 0, .int .u64 0, .int .u64 0, .int .u64 0, .int .u64 0, .int .u64 0, .int .u64 0]) 74)).drew) := ((Gr.refl V).alloc _).drew
     have hks : V.heap.size ≤ V.heap.size := Nat.le_refl _
     generalize hVV : (V.alloc (.cells (List.toArray [Value.int .i64 0, .int .i64 0, .int .u64 0, .int .u64 0, .int .u64 0, .int .u64 0, .int .u64 0, .int .u64 0, .int .u64 0, .int .u64 0, .int .u64 0, .int .u64 0, .int .u64 0, .int .u64 0, .int .u64 0, .int .u64 0, .int .u64 0, .int .u64 0]) 74)).drew = X1 at *
     clear hVV g0
     replace hAf := Hz.mk hAf
     obtain ⟨kf, hkf⟩ : ∃ kf, V.heap.size = kf := ⟨_, rfl⟩
     rw [hkf] at hAf ⊢
     replace hks : V.heap.size ≤ kf := by omega
     clear hkf
     refine hK.out _ _ (KT.out _ g1) (fun hHeld => ?_)
     clear hK K
     try simp only [xap]
     refine xrd 15 rfl (fun K hK => ?_)
     go_simp
     go_wp2_with (refine (hent.out _ g1).mono ?_; rintro r X2 ⟨rfl, gg⟩; have g2 := g1.trans gg; replace hAf := Hz.mk (hAf.out.gr gg); clear gg g1 hHeld)
     refine hK.out _ _ (KT.out _ g2) (fun hHeld => ?_)
     clear hK K
     try simp only [xap]
     refine xrd 17 rfl (fun K hK => ?_)
     rw [if_pos (by rfl)]
     have hth := Hz.mk (At.there hAf.out 0 18 (by decide))
     have hA9 := Hz.mk (At.setAll hAf.out (Fr.vals ⟨gn, P.gates[gn].e, entR P.gates[gn] P.gates[gn].a (fun k => s.r (k + 1))⟩) (by rw [Fr.len]; rfl))
     have g3 := Gr.setCells g2 kf hks (Fr.vals ⟨gn, P.gates[gn].e, entR P.gates[gn] P.gates[gn].a (fun k => s.r (k + 1))⟩) 0
     refine wp_store_mid _ _ _ rfl _ _ (List.toArray (Fr.vals ⟨gn, P.gates[gn].e, entR P.gates[gn] P.gates[gn].a (fun k => s.r (k + 1))⟩)) rfl rfl (show World.there _ _ _ _ by simpa [Fr.len] using hth.out) (by rw [List.size_toArray, Fr.len]; kernel_rfl) (Fr.one _) ?_
     clear hHeld
     refine hK.out _ _ (KT.out _ g3) (fun hHeld => ?_)
     clear hK K hth hAf
     try simp only [Act.put]
     refine xdn ?_ _
     clear hHeld
     have hM := Hz.mk (h.out.add (boxOb kf (List.toArray (Fr.vals ⟨gn, P.gates[gn].e, entR P.gates[gn] P.gates[gn].a (fun k => s.r (k + 1))⟩))) hA9.out (fun k q => by have : k = kf := q; omega) g3.below)
     replace hB := Hz.mk (hB.out.trans (g3.below.mono hleV))
     generalize World.setCells _ _ _ _ = Y at *
     clear h hA9 hent KT g3 hks
     have hnx := Hz.mk (hM.out.onBox (s' := { s with p := s.p + 1 }) ⟨rfl, rfl, rfl, rfl, rfl⟩ (fun q hb => next_any a _ Y hb hp))
     go_wp2_with fail
     refine hnx.out.mono ?_
     rintro r Y2 ⟨rfl, h, hB2⟩
     replace hB := Hz.mk (hB.out.trans hB2)
     clear hB2 hM hnx
     replace h := Hz.mk h
     have hleY := h.out.le
     obtain ⟨ta2, tk2, c22, hO2, hap⟩ := h.out.push ⟨s.g, s.p + 1, s.r⟩
     generalize ta2 = ta at *
     generalize tk2 = tk at *
     replace hO2 := Hz.mk hO2
     replace hap := Hz.mk hap
     generalize s.st.flatMap Fr.vals = xs at *
     go_upto_region 6 with fail
     have f0 : Gr Y2 Y2.drew := (Gr.refl Y2).drew
     have hS6 := (h.out.gro f0).handAt
     refine wp_region_held_drew (S := (fun X => X.rangeAt a 4 (Fr.vals ⟨s.g, s.p + 1, s.r⟩))) (by kernel_rfl) (hS6) (fun hHeld => ?_)
     refine xso 0 ?_ rfl ?_ (xso 1 ?_ rfl ?_ (xso 2 ?_ rfl ?_ (xso 3 ?_ rfl ?_ (xso 5 ?_ rfl ?_ (xso 6 ?_ rfl ?_ (xso 7 ?_ rfl ?_ ?_))))))
     iterate 7 (rotate_left; focus ((try simp only [xap]); intro w hSw; (try dsimp only at hSw); go_simp; first | done | with_reducible rfl))
     try simp only [xap]
     refine xtk 8 rfl (yieldsIf_load_mid (by rfl) _ _ rfl _ _ rfl _ _ (fun _ h => h) Tryz.underlying74 rfl (by rw [Fr.len]; kernel_rfl)) ?_
     try simp only [xap]
     refine wpAnyH_ready (rs := [4, 9]) (by kernel_rfl) (by simp) ?_
     refine (xcn rfl (fun K hK => ?_) (xcn rfl (fun K hK => ?_) AllReadyH.nil))
     · skip
       have c9 := Gr.cellA h.out f0 c22
       go_simp
       clear hHeld
       refine hK.out _ _ ((h.out.gro f0).handAt) (fun hHeld => ?_)
       clear hK K c9
       try simp only [xap]
       refine xrd 9 rfl (fun K hK => ?_)
       rw [if_pos (by rfl)]
       refine wp_build_frs _ rfl ⟨s.g, s.p + 1, s.r⟩ (by rfl) ?_
       clear hHeld
       have hX : At (Y2.drew.alloc (.cells (List.toArray (Fr.vals ⟨s.g, s.p + 1, s.r⟩)) 74)) (Y2.drew.heap.size) (List.toArray (Fr.vals ⟨s.g, s.p + 1, s.r⟩)) := At.new Y2.drew _ _
       have f1 : Gr Y2 (Y2.drew.alloc (.cells (List.toArray (Fr.vals ⟨s.g, s.p + 1, s.r⟩)) 74)) := f0.alloc _
       generalize hVV : Y2.drew.alloc (.cells (List.toArray (Fr.vals ⟨s.g, s.p + 1, s.r⟩)) 74) = Q1 at *
       clear hVV f0
       obtain ⟨kX, hkX⟩ : ∃ kX, Y2.drew.heap.size = kX := ⟨_, rfl⟩
       rw [hkX] at hX ⊢
       clear hkX
       replace hX := Hz.mk hX
       refine hK.out _ _ ((h.out.gro f1).handAt) (fun hHeld => ?_)
       clear hK K
       try simp only [xap]
       refine xrd 10 rfl (fun K hK => ?_)
       refine wp_append_z _ _ 77 74 (.agg (List.toArray [Value.int .i64 0, .int .i64 0, .int .u64 0, .int .u64 0, .int .u64 0, .int .u64 0, .int .u64 0, .int .u64 0, .int .u64 0, .int .u64 0, .int .u64 0, .int .u64 0, .int .u64 0, .int .u64 0, .int .u64 0, .int .u64 0, .int .u64 0, .int .u64 0])) 18 144 rfl Tryz.underlying77 (by kernel_rfl) (by kernel_rfl) (by decide) (by decide) B (.slice ta s.st.length tk) s.st.length xs (Fr.vals ⟨s.g, s.p + 1, s.r⟩) (by rfl) (hO2.out Q1 f1) kX (by rfl) hX.out (Fr.len _) (fun u hu => Array.all_eq_true_iff_forall_mem.1 (Fr.one ⟨s.g, s.p + 1, s.r⟩) u (by simpa using hu)) hsl (Nat.le_trans hleY f1.below.size) ?_
       intro g9 cap9 W9 k1 k2 k3
       obtain ⟨⟨u, cu⟩, fu, hR9, hM9, hBe⟩ := hap.out Q1 W9 g9 cap9 f1 k1 k2 k3
       replace hM9 := Hz.mk hM9
       replace hR9 := Hz.mk hR9
       clear k1 k2 k3 hHeld
       have hlt9 := World.block_lt_of_cell? W9 _ cu
       refine hK.out _ _ hR9.out (fun hHeld => ?_)
       clear hK K
       try simp only [xap]
       refine xso 11 ?_ rfl ?_ (xso 12 ?_ rfl ?_ ?_)
       iterate 2 (rotate_left; focus ((try simp only [xap]); intro w hSw; (try dsimp only at hSw); go_simp; first | done | with_reducible rfl))
       try simp only [xap]
       refine xrd 13 rfl (fun K hK => ?_)
       go_simp
       clear hHeld
       refine hK.out _ _ (hM9.out.handAt) (fun hHeld => ?_)
       clear hK K
       try simp only [Act.put]
       refine xdn ?_ _
       clear hHeld cu fu hR9 hlt9
       replace hB := Hz.mk (hB.out.trans hBe)
       generalize World.setCell _ _ _ = Y9 at *
       clear h hX hap hO2
       have hAq := Hz.mk (hM9.out.there (boxOb kf (List.toArray (Fr.vals ⟨gn, P.gates[gn].e, entR P.gates[gn] P.gates[gn].a (fun k => s.r (k + 1))⟩))) (.head _))
       have hth := Hz.mk (hM9.out.there4)
       have hN := hM9.out.hand ⟨gn, P.gates[gn].e, entR P.gates[gn] P.gates[gn].a (fun k => s.r (k + 1))⟩
       replace hB := Hz.mk (hB.out.trans hN.2)
       replace hN := Hz.mk hN.1
       go_upto_region 7 with fail
       refine wp_region_lit ?_
       refine wpList_plain rfl (fun K hK => ?_)
       go_simp
       with_reducible refine hK _ _ ?_
       clear hK K
       try simp only [xap]
       refine wpList_plain rfl (fun K hK => ?_)
       refine wp_load_mid _ _ rfl _ 0 rfl (Fr.vals ⟨gn, P.gates[gn].e, entR P.gates[gn] P.gates[gn].a (fun k => s.r (k + 1))⟩) _ hAq.out.range Tryz.underlying74 rfl (by rw [Fr.len]; kernel_rfl) (hK _ _ ?_)
       clear hK K
       try simp only [xap]
       iterate 2 (refine wpList_plain rfl (fun K hK => ?_); go_simp; with_reducible refine hK _ _ ?_; clear hK K; (try simp only [xap]))
       refine wpList_plain rfl (fun K hK => ?_)
       refine wp_store_mid _ _ _ rfl _ _ (List.toArray (Fr.vals ⟨gn, P.gates[gn].e, entR P.gates[gn] P.gates[gn].a (fun k => s.r (k + 1))⟩)) rfl rfl (show World.there _ _ _ _ by simpa [Fr.len] using hth.out) (by rw [List.size_toArray, Fr.len]; kernel_rfl) (Fr.one _) (hK _ _ ?_)
       clear hK K
       try simp only [Act.put]
       generalize World.setCells _ _ _ _ = Y11 at *
       go_wp2_with fail
       first | go_end0 | ((try simp only [Exit.inBlock, Exit.then]); refine bodyPost_ret (results_none rfl _ _ _) rfl ?_)
       exact ⟨rfl, hN.out.drop.drop, hB.out⟩
     · skip
       rw [if_pos (by rfl)]
       refine wp_build_frs _ rfl ⟨s.g, s.p + 1, s.r⟩ (by rfl) ?_
       clear hHeld
       have hX : At (Y2.drew.alloc (.cells (List.toArray (Fr.vals ⟨s.g, s.p + 1, s.r⟩)) 74)) (Y2.drew.heap.size) (List.toArray (Fr.vals ⟨s.g, s.p + 1, s.r⟩)) := At.new Y2.drew _ _
       have f1 : Gr Y2 (Y2.drew.alloc (.cells (List.toArray (Fr.vals ⟨s.g, s.p + 1, s.r⟩)) 74)) := f0.alloc _
       generalize hVV : Y2.drew.alloc (.cells (List.toArray (Fr.vals ⟨s.g, s.p + 1, s.r⟩)) 74) = Q1 at *
       clear hVV f0
       obtain ⟨kX, hkX⟩ : ∃ kX, Y2.drew.heap.size = kX := ⟨_, rfl⟩
       rw [hkX] at hX ⊢
       clear hkX
       replace hX := Hz.mk hX
       refine hK.out _ _ ((h.out.gro f1).handAt) (fun hHeld => ?_)
       clear hK K
       try simp only [xap]
       refine xrd 4 rfl (fun K hK => ?_)
       have c9 := Gr.cellA h.out f1 c22
       go_simp
       clear hHeld
       refine hK.out _ _ ((h.out.gro f1).handAt) (fun hHeld => ?_)
       clear hK K c9
       try simp only [xap]
       refine xrd 10 rfl (fun K hK => ?_)
       refine wp_append_z _ _ 77 74 (.agg (List.toArray [Value.int .i64 0, .int .i64 0, .int .u64 0, .int .u64 0, .int .u64 0, .int .u64 0, .int .u64 0, .int .u64 0, .int .u64 0, .int .u64 0, .int .u64 0, .int .u64 0, .int .u64 0, .int .u64 0, .int .u64 0, .int .u64 0, .int .u64 0, .int .u64 0])) 18 144 rfl Tryz.underlying77 (by kernel_rfl) (by kernel_rfl) (by decide) (by decide) B (.slice ta s.st.length tk) s.st.length xs (Fr.vals ⟨s.g, s.p + 1, s.r⟩) (by rfl) (hO2.out Q1 f1) kX (by rfl) hX.out (Fr.len _) (fun u hu => Array.all_eq_true_iff_forall_mem.1 (Fr.one ⟨s.g, s.p + 1, s.r⟩) u (by simpa using hu)) hsl (Nat.le_trans hleY f1.below.size) ?_
       intro g9 cap9 W9 k1 k2 k3
       obtain ⟨⟨u, cu⟩, fu, hR9, hM9, hBe⟩ := hap.out Q1 W9 g9 cap9 f1 k1 k2 k3
       replace hM9 := Hz.mk hM9
       replace hR9 := Hz.mk hR9
       clear k1 k2 k3 hHeld
       have hlt9 := World.block_lt_of_cell? W9 _ cu
       refine hK.out _ _ hR9.out (fun hHeld => ?_)
       clear hK K
       try simp only [xap]
       refine xso 11 ?_ rfl ?_ (xso 12 ?_ rfl ?_ ?_)
       iterate 2 (rotate_left; focus ((try simp only [xap]); intro w hSw; (try dsimp only at hSw); go_simp; first | done | with_reducible rfl))
       try simp only [xap]
       refine xrd 13 rfl (fun K hK => ?_)
       go_simp
       clear hHeld
       refine hK.out _ _ (hM9.out.handAt) (fun hHeld => ?_)
       clear hK K
       try simp only [Act.put]
       refine xdn ?_ _
       clear hHeld cu fu hR9 hlt9
       replace hB := Hz.mk (hB.out.trans hBe)
       generalize World.setCell _ _ _ = Y9 at *
       clear h hX hap hO2
       have hAq := Hz.mk (hM9.out.there (boxOb kf (List.toArray (Fr.vals ⟨gn, P.gates[gn].e, entR P.gates[gn] P.gates[gn].a (fun k => s.r (k + 1))⟩))) (.head _))
       have hth := Hz.mk (hM9.out.there4)
       have hN := hM9.out.hand ⟨gn, P.gates[gn].e, entR P.gates[gn] P.gates[gn].a (fun k => s.r (k + 1))⟩
       replace hB := Hz.mk (hB.out.trans hN.2)
       replace hN := Hz.mk hN.1
       go_upto_region 7 with fail
       refine wp_region_lit ?_
       refine wpList_plain rfl (fun K hK => ?_)
       go_simp
       with_reducible refine hK _ _ ?_
       clear hK K
       try simp only [xap]
       refine wpList_plain rfl (fun K hK => ?_)
       refine wp_load_mid _ _ rfl _ 0 rfl (Fr.vals ⟨gn, P.gates[gn].e, entR P.gates[gn] P.gates[gn].a (fun k => s.r (k + 1))⟩) _ hAq.out.range Tryz.underlying74 rfl (by rw [Fr.len]; kernel_rfl) (hK _ _ ?_)
       clear hK K
       try simp only [xap]
       iterate 2 (refine wpList_plain rfl (fun K hK => ?_); go_simp; with_reducible refine hK _ _ ?_; clear hK K; (try simp only [xap]))
       refine wpList_plain rfl (fun K hK => ?_)
       refine wp_store_mid _ _ _ rfl _ _ (List.toArray (Fr.vals ⟨gn, P.gates[gn].e, entR P.gates[gn] P.gates[gn].a (fun k => s.r (k + 1))⟩)) rfl rfl (show World.there _ _ _ _ by simpa [Fr.len] using hth.out) (by rw [List.size_toArray, Fr.len]; kernel_rfl) (Fr.one _) (hK _ _ ?_)
       clear hK K
       try simp only [Act.put]
       generalize World.setCells _ _ _ _ = Y11 at *
       go_wp2_with fail
       first | go_end0 | ((try simp only [Exit.inBlock, Exit.then]); refine bodyPost_ret (results_none rfl _ _ _) rfl ?_)
       exact ⟨rfl, hN.out.drop.drop, hB.out⟩
 · skip
   go_simp
   clear hHeld
   have hAf : At ((V.alloc (.cells (List.toArray [Value.int .i64 0, .int .i64 0, .int .u64 0, .int .u64 0, .int .u64 0, .int .u64 0, .int .u64 0, .int .u64 0, .int .u64 0, .int .u64 0, .int .u64 0, .int .u64 0, .int .u64 0, .int .u64 0, .int .u64 0, .int .u64 0, .int .u64 0, .int .u64 0]) 74)).drew) (V.heap.size) (List.toArray [Value.int .i64 0, .int .i64 0, .int .u64 0, .int .u64 0, .int .u64 0, .int .u64 0, .int .u64 0, .int .u64 0, .int .u64 0, .int .u64 0, .int .u64 0, .int .u64 0, .int .u64 0, .int .u64 0, .int .u64 0, .int .u64 0, .int .u64 0, .int .u64 0]) := (At.new V _ _).drew
   have g1 : Gr V ((V.alloc (.cells (List.toArray [Value.int .i64 0, .int .i64 0, .int .u64 0, .int .u64 0, .int .u64 0, .int .u64 0, .int .u64 0, .int .u64 0, .int .u64 0, .int .u64 0, .int .u64 0, .int .u64 0, .int .u64 0, .int .u64 0, .int .u64 0, .int .u64 0, .int .u64 0, .int .u64 0]) 74)).drew) := ((Gr.refl V).alloc _).drew
   have hks : V.heap.size ≤ V.heap.size := Nat.le_refl _
   generalize hVV : (V.alloc (.cells (List.toArray [Value.int .i64 0, .int .i64 0, .int .u64 0, .int .u64 0, .int .u64 0, .int .u64 0, .int .u64 0, .int .u64 0, .int .u64 0, .int .u64 0, .int .u64 0, .int .u64 0, .int .u64 0, .int .u64 0, .int .u64 0, .int .u64 0, .int .u64 0, .int .u64 0]) 74)).drew = X1 at *
   clear hVV g0
   replace hAf := Hz.mk hAf
   obtain ⟨kf, hkf⟩ : ∃ kf, V.heap.size = kf := ⟨_, rfl⟩
   rw [hkf] at hAf ⊢
   replace hks : V.heap.size ≤ kf := by omega
   clear hkf
   refine hK.out _ _ (KT.out _ g1) (fun hHeld => ?_)
   clear hK K
   try simp only [xap]
   refine xrd 14 rfl (fun K hK => ?_)
   go_simp
   go_wp2_with (refine (handed_any a P.gates[gn].a _ (by omega)).mono ?_; rintro r Y1 ⟨rfl, e1⟩; subst e1; clear hHeld)
   refine hK.out _ _ (KT.out _ g1) (fun hHeld => ?_)
   clear hK K
   try simp only [xap]
   refine xrd 15 rfl (fun K hK => ?_)
   go_simp
   go_wp2_with (refine (hent.out _ g1).mono ?_; rintro r X2 ⟨rfl, gg⟩; have g2 := g1.trans gg; replace hAf := Hz.mk (hAf.out.gr gg); clear gg g1 hHeld)
   refine hK.out _ _ (KT.out _ g2) (fun hHeld => ?_)
   clear hK K
   try simp only [xap]
   refine xrd 17 rfl (fun K hK => ?_)
   rw [if_pos (by rfl)]
   have hth := Hz.mk (At.there hAf.out 0 18 (by decide))
   have hA9 := Hz.mk (At.setAll hAf.out (Fr.vals ⟨gn, P.gates[gn].e, entR P.gates[gn] P.gates[gn].a (fun k => s.r (k + 1))⟩) (by rw [Fr.len]; rfl))
   have g3 := Gr.setCells g2 kf hks (Fr.vals ⟨gn, P.gates[gn].e, entR P.gates[gn] P.gates[gn].a (fun k => s.r (k + 1))⟩) 0
   refine wp_store_mid _ _ _ rfl _ _ (List.toArray (Fr.vals ⟨gn, P.gates[gn].e, entR P.gates[gn] P.gates[gn].a (fun k => s.r (k + 1))⟩)) rfl rfl (show World.there _ _ _ _ by simpa [Fr.len] using hth.out) (by rw [List.size_toArray, Fr.len]; kernel_rfl) (Fr.one _) ?_
   clear hHeld
   refine hK.out _ _ (KT.out _ g3) (fun hHeld => ?_)
   clear hK K hth hAf
   try simp only [Act.put]
   refine xdn ?_ _
   clear hHeld
   have hM := Hz.mk (h.out.add (boxOb kf (List.toArray (Fr.vals ⟨gn, P.gates[gn].e, entR P.gates[gn] P.gates[gn].a (fun k => s.r (k + 1))⟩))) hA9.out (fun k q => by have : k = kf := q; omega) g3.below)
   replace hB := Hz.mk (hB.out.trans (g3.below.mono hleV))
   generalize World.setCells _ _ _ _ = Y at *
   clear h hA9 hent KT g3 hks
   have hnx := Hz.mk (hM.out.onBox (s' := { s with p := s.p + 1 }) ⟨rfl, rfl, rfl, rfl, rfl⟩ (fun q hb => next_any a _ Y hb hp))
   go_wp2_with fail
   refine hnx.out.mono ?_
   rintro r Y2 ⟨rfl, h, hB2⟩
   replace hB := Hz.mk (hB.out.trans hB2)
   clear hB2 hM hnx
   replace h := Hz.mk h
   have hleY := h.out.le
   obtain ⟨ta2, tk2, c22, hO2, hap⟩ := h.out.push ⟨s.g, s.p + 1, s.r⟩
   generalize ta2 = ta at *
   generalize tk2 = tk at *
   replace hO2 := Hz.mk hO2
   replace hap := Hz.mk hap
   generalize s.st.flatMap Fr.vals = xs at *
   go_upto_region 6 with fail
   have f0 : Gr Y2 Y2.drew := (Gr.refl Y2).drew
   have hS6 := (h.out.gro f0).handAt
   refine wp_region_held_drew (S := (fun X => X.rangeAt a 4 (Fr.vals ⟨s.g, s.p + 1, s.r⟩))) (by kernel_rfl) (hS6) (fun hHeld => ?_)
   refine xso 0 ?_ rfl ?_ (xso 1 ?_ rfl ?_ (xso 2 ?_ rfl ?_ (xso 3 ?_ rfl ?_ (xso 5 ?_ rfl ?_ (xso 6 ?_ rfl ?_ (xso 7 ?_ rfl ?_ ?_))))))
   iterate 7 (rotate_left; focus ((try simp only [xap]); intro w hSw; (try dsimp only at hSw); go_simp; first | done | with_reducible rfl))
   try simp only [xap]
   refine xtk 8 rfl (yieldsIf_load_mid (by rfl) _ _ rfl _ _ rfl _ _ (fun _ h => h) Tryz.underlying74 rfl (by rw [Fr.len]; kernel_rfl)) ?_
   try simp only [xap]
   refine wpAnyH_ready (rs := [4, 9]) (by kernel_rfl) (by simp) ?_
   refine (xcn rfl (fun K hK => ?_) (xcn rfl (fun K hK => ?_) AllReadyH.nil))
   · skip
     have c9 := Gr.cellA h.out f0 c22
     go_simp
     clear hHeld
     refine hK.out _ _ ((h.out.gro f0).handAt) (fun hHeld => ?_)
     clear hK K c9
     try simp only [xap]
     refine xrd 9 rfl (fun K hK => ?_)
     rw [if_pos (by rfl)]
     refine wp_build_frs _ rfl ⟨s.g, s.p + 1, s.r⟩ (by rfl) ?_
     clear hHeld
     have hX : At (Y2.drew.alloc (.cells (List.toArray (Fr.vals ⟨s.g, s.p + 1, s.r⟩)) 74)) (Y2.drew.heap.size) (List.toArray (Fr.vals ⟨s.g, s.p + 1, s.r⟩)) := At.new Y2.drew _ _
     have f1 : Gr Y2 (Y2.drew.alloc (.cells (List.toArray (Fr.vals ⟨s.g, s.p + 1, s.r⟩)) 74)) := f0.alloc _
     generalize hVV : Y2.drew.alloc (.cells (List.toArray (Fr.vals ⟨s.g, s.p + 1, s.r⟩)) 74) = Q1 at *
     clear hVV f0
     obtain ⟨kX, hkX⟩ : ∃ kX, Y2.drew.heap.size = kX := ⟨_, rfl⟩
     rw [hkX] at hX ⊢
     clear hkX
     replace hX := Hz.mk hX
     refine hK.out _ _ ((h.out.gro f1).handAt) (fun hHeld => ?_)
     clear hK K
     try simp only [xap]
     refine xrd 10 rfl (fun K hK => ?_)
     refine wp_append_z _ _ 77 74 (.agg (List.toArray [Value.int .i64 0, .int .i64 0, .int .u64 0, .int .u64 0, .int .u64 0, .int .u64 0, .int .u64 0, .int .u64 0, .int .u64 0, .int .u64 0, .int .u64 0, .int .u64 0, .int .u64 0, .int .u64 0, .int .u64 0, .int .u64 0, .int .u64 0, .int .u64 0])) 18 144 rfl Tryz.underlying77 (by kernel_rfl) (by kernel_rfl) (by decide) (by decide) B (.slice ta s.st.length tk) s.st.length xs (Fr.vals ⟨s.g, s.p + 1, s.r⟩) (by rfl) (hO2.out Q1 f1) kX (by rfl) hX.out (Fr.len _) (fun u hu => Array.all_eq_true_iff_forall_mem.1 (Fr.one ⟨s.g, s.p + 1, s.r⟩) u (by simpa using hu)) hsl (Nat.le_trans hleY f1.below.size) ?_
     intro g9 cap9 W9 k1 k2 k3
     obtain ⟨⟨u, cu⟩, fu, hR9, hM9, hBe⟩ := hap.out Q1 W9 g9 cap9 f1 k1 k2 k3
     replace hM9 := Hz.mk hM9
     replace hR9 := Hz.mk hR9
     clear k1 k2 k3 hHeld
     have hlt9 := World.block_lt_of_cell? W9 _ cu
     refine hK.out _ _ hR9.out (fun hHeld => ?_)
     clear hK K
     try simp only [xap]
     refine xso 11 ?_ rfl ?_ (xso 12 ?_ rfl ?_ ?_)
     iterate 2 (rotate_left; focus ((try simp only [xap]); intro w hSw; (try dsimp only at hSw); go_simp; first | done | with_reducible rfl))
     try simp only [xap]
     refine xrd 13 rfl (fun K hK => ?_)
     go_simp
     clear hHeld
     refine hK.out _ _ (hM9.out.handAt) (fun hHeld => ?_)
     clear hK K
     try simp only [Act.put]
     refine xdn ?_ _
     clear hHeld cu fu hR9 hlt9
     replace hB := Hz.mk (hB.out.trans hBe)
     generalize World.setCell _ _ _ = Y9 at *
     clear h hX hap hO2
     have hAq := Hz.mk (hM9.out.there (boxOb kf (List.toArray (Fr.vals ⟨gn, P.gates[gn].e, entR P.gates[gn] P.gates[gn].a (fun k => s.r (k + 1))⟩))) (.head _))
     have hth := Hz.mk (hM9.out.there4)
     have hN := hM9.out.hand ⟨gn, P.gates[gn].e, entR P.gates[gn] P.gates[gn].a (fun k => s.r (k + 1))⟩
     replace hB := Hz.mk (hB.out.trans hN.2)
     replace hN := Hz.mk hN.1
     go_upto_region 7 with fail
     refine wp_region_lit ?_
     refine wpList_plain rfl (fun K hK => ?_)
     go_simp
     with_reducible refine hK _ _ ?_
     clear hK K
     try simp only [xap]
     refine wpList_plain rfl (fun K hK => ?_)
     refine wp_load_mid _ _ rfl _ 0 rfl (Fr.vals ⟨gn, P.gates[gn].e, entR P.gates[gn] P.gates[gn].a (fun k => s.r (k + 1))⟩) _ hAq.out.range Tryz.underlying74 rfl (by rw [Fr.len]; kernel_rfl) (hK _ _ ?_)
     clear hK K
     try simp only [xap]
     iterate 2 (refine wpList_plain rfl (fun K hK => ?_); go_simp; with_reducible refine hK _ _ ?_; clear hK K; (try simp only [xap]))
     refine wpList_plain rfl (fun K hK => ?_)
     refine wp_store_mid _ _ _ rfl _ _ (List.toArray (Fr.vals ⟨gn, P.gates[gn].e, entR P.gates[gn] P.gates[gn].a (fun k => s.r (k + 1))⟩)) rfl rfl (show World.there _ _ _ _ by simpa [Fr.len] using hth.out) (by rw [List.size_toArray, Fr.len]; kernel_rfl) (Fr.one _) (hK _ _ ?_)
     clear hK K
     try simp only [Act.put]
     generalize World.setCells _ _ _ _ = Y11 at *
     go_wp2_with fail
     first | go_end0 | ((try simp only [Exit.inBlock, Exit.then]); refine bodyPost_ret (results_none rfl _ _ _) rfl ?_)
     exact ⟨rfl, hN.out.drop.drop, hB.out⟩
   · skip
     rw [if_pos (by rfl)]
     refine wp_build_frs _ rfl ⟨s.g, s.p + 1, s.r⟩ (by rfl) ?_
     clear hHeld
     have hX : At (Y2.drew.alloc (.cells (List.toArray (Fr.vals ⟨s.g, s.p + 1, s.r⟩)) 74)) (Y2.drew.heap.size) (List.toArray (Fr.vals ⟨s.g, s.p + 1, s.r⟩)) := At.new Y2.drew _ _
     have f1 : Gr Y2 (Y2.drew.alloc (.cells (List.toArray (Fr.vals ⟨s.g, s.p + 1, s.r⟩)) 74)) := f0.alloc _
     generalize hVV : Y2.drew.alloc (.cells (List.toArray (Fr.vals ⟨s.g, s.p + 1, s.r⟩)) 74) = Q1 at *
     clear hVV f0
     obtain ⟨kX, hkX⟩ : ∃ kX, Y2.drew.heap.size = kX := ⟨_, rfl⟩
     rw [hkX] at hX ⊢
     clear hkX
     replace hX := Hz.mk hX
     refine hK.out _ _ ((h.out.gro f1).handAt) (fun hHeld => ?_)
     clear hK K
     try simp only [xap]
     refine xrd 4 rfl (fun K hK => ?_)
     have c9 := Gr.cellA h.out f1 c22
     go_simp
     clear hHeld
     refine hK.out _ _ ((h.out.gro f1).handAt) (fun hHeld => ?_)
     clear hK K c9
     try simp only [xap]
     refine xrd 10 rfl (fun K hK => ?_)
     refine wp_append_z _ _ 77 74 (.agg (List.toArray [Value.int .i64 0, .int .i64 0, .int .u64 0, .int .u64 0, .int .u64 0, .int .u64 0, .int .u64 0, .int .u64 0, .int .u64 0, .int .u64 0, .int .u64 0, .int .u64 0, .int .u64 0, .int .u64 0, .int .u64 0, .int .u64 0, .int .u64 0, .int .u64 0])) 18 144 rfl Tryz.underlying77 (by kernel_rfl) (by kernel_rfl) (by decide) (by decide) B (.slice ta s.st.length tk) s.st.length xs (Fr.vals ⟨s.g, s.p + 1, s.r⟩) (by rfl) (hO2.out Q1 f1) kX (by rfl) hX.out (Fr.len _) (fun u hu => Array.all_eq_true_iff_forall_mem.1 (Fr.one ⟨s.g, s.p + 1, s.r⟩) u (by simpa using hu)) hsl (Nat.le_trans hleY f1.below.size) ?_
     intro g9 cap9 W9 k1 k2 k3
     obtain ⟨⟨u, cu⟩, fu, hR9, hM9, hBe⟩ := hap.out Q1 W9 g9 cap9 f1 k1 k2 k3
     replace hM9 := Hz.mk hM9
     replace hR9 := Hz.mk hR9
     clear k1 k2 k3 hHeld
     have hlt9 := World.block_lt_of_cell? W9 _ cu
     refine hK.out _ _ hR9.out (fun hHeld => ?_)
     clear hK K
     try simp only [xap]
     refine xso 11 ?_ rfl ?_ (xso 12 ?_ rfl ?_ ?_)
     iterate 2 (rotate_left; focus ((try simp only [xap]); intro w hSw; (try dsimp only at hSw); go_simp; first | done | with_reducible rfl))
     try simp only [xap]
     refine xrd 13 rfl (fun K hK => ?_)
     go_simp
     clear hHeld
     refine hK.out _ _ (hM9.out.handAt) (fun hHeld => ?_)
     clear hK K
     try simp only [Act.put]
     refine xdn ?_ _
     clear hHeld cu fu hR9 hlt9
     replace hB := Hz.mk (hB.out.trans hBe)
     generalize World.setCell _ _ _ = Y9 at *
     clear h hX hap hO2
     have hAq := Hz.mk (hM9.out.there (boxOb kf (List.toArray (Fr.vals ⟨gn, P.gates[gn].e, entR P.gates[gn] P.gates[gn].a (fun k => s.r (k + 1))⟩))) (.head _))
     have hth := Hz.mk (hM9.out.there4)
     have hN := hM9.out.hand ⟨gn, P.gates[gn].e, entR P.gates[gn] P.gates[gn].a (fun k => s.r (k + 1))⟩
     replace hB := Hz.mk (hB.out.trans hN.2)
     replace hN := Hz.mk hN.1
     go_upto_region 7 with fail
     refine wp_region_lit ?_
     refine wpList_plain rfl (fun K hK => ?_)
     go_simp
     with_reducible refine hK _ _ ?_
     clear hK K
     try simp only [xap]
     refine wpList_plain rfl (fun K hK => ?_)
     refine wp_load_mid _ _ rfl _ 0 rfl (Fr.vals ⟨gn, P.gates[gn].e, entR P.gates[gn] P.gates[gn].a (fun k => s.r (k + 1))⟩) _ hAq.out.range Tryz.underlying74 rfl (by rw [Fr.len]; kernel_rfl) (hK _ _ ?_)
     clear hK K
     try simp only [xap]
     iterate 2 (refine wpList_plain rfl (fun K hK => ?_); go_simp; with_reducible refine hK _ _ ?_; clear hK K; (try simp only [xap]))
     refine wpList_plain rfl (fun K hK => ?_)
     refine wp_store_mid _ _ _ rfl _ _ (List.toArray (Fr.vals ⟨gn, P.gates[gn].e, entR P.gates[gn] P.gates[gn].a (fun k => s.r (k + 1))⟩)) rfl rfl (show World.there _ _ _ _ by simpa [Fr.len] using hth.out) (by rw [List.size_toArray, Fr.len]; kernel_rfl) (Fr.one _) (hK _ _ ?_)
     clear hK K
     try simp only [Act.put]
     generalize World.setCells _ _ _ _ = Y11 at *
     go_wp2_with fail
     first | go_end0 | ((try simp only [Exit.inBlock, Exit.then]); refine bodyPost_ret (results_none rfl _ _ _) rfl ?_)
     exact ⟨rfl, hN.out.drop.drop, hB.out⟩
end Z
end Go.Proofs.YthfphgjjieddjaaGreat
