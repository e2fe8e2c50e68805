import Derived.Test.YthfphgjjieddjaaGreatP21
namespace Go.Proofs.YthfphgjjieddjaaGreat
set_option maxRecDepth 100000
set_option maxHeartbeats 40000000
namespace Z
open Go.RowKit
open T (Sep Ob Kp Mf FlIn boxOb)

theorem takeIn_none (B : Nat) (W0 : World) (a : Nat) (P : Pr) (s : Fm) (l : List Ob) (i : Fi) (h : MIn B W0 a P s l) (hi : s.inp = []) :
   Calls Tryz.prog 94 #[.agg #[.int .u8 i.op, .int .i64 i.a, .int .i64 i.b, .int .i64 i.c, .int .u64 i.i], .pointer (some ⟨a, 0, none⟩)] W0 fun x w' => x = .returned (.tuple #[]) ∧ MIn B w' a P { s with e := 6, v := 0, f := 0 } l ∧ Below B W0 w' := by
 have h2 := Hz.mk (h.new #[.int .u8 i.op, .int .i64 i.a, .int .i64 i.b, .int .i64 i.c, .int .u64 i.i] 101)
 clear h
 go_enter Tryz.func94, Tryz.ntmps94
 go_upto_region 1 with fail
 refine wp_world (fun W => MIn B W a P s (boxOb W0.heap.size #[.int .u8 i.op, .int .i64 i.a, .int .i64 i.b, .int .i64 i.c, .int .u64 i.i] :: l) ∧ Below B W0 W) h2.out ?_
 rintro W ⟨h, hB⟩
 replace h := Hz.mk h
 replace hB := Hz.mk hB
 clear h2
 generalize W0.heap.size = kb at *
 have KS := xk1 i kb
 clear KS
 have hf := Hz.mk (h.out.onBox (s' := { s with e := 6, v := 0, f := 0 }) ⟨rfl, rfl, rfl, rfl, rfl⟩ (fun q hb => finish_any a _ 6 0 W hb))
 have c23 : ∃ va cap, W.cell? ⟨a, 23, none⟩ = some (.slice va 0 cap) := by
   obtain ⟨⟨q, h1⟩, le⟩ := h.out
   have hb := h1.ins (bxOb a (bxOf P s q)) (by simp [obs])
   obtain ⟨va, cap, e1, _, _⟩ := (h1.ins (inOb q.iv s.inp) (by simp [obs])).go
   rw [hi] at e1
   exact ⟨va, cap, by rw [show (0 : Nat) = ([] : List Int).length from rfl, ← e1]; exact hb.at_ 23 (by omega)⟩
 obtain ⟨va, cap, c23⟩ := c23
 go_wp2_with fail
 refine (hf.out).mono ?_
 rintro r V2 ⟨rfl, h2, hB2⟩
 replace hB : Hz (Below B W0 V2) := Hz.mk (hB.out.trans hB2)
 clear hB2
 clear h
 have h := Hz.mk h2
 clear h2
 go_wp2_with fail
 first | go_end0 | ((try simp only [Exit.inBlock, Exit.then]); refine bodyPost_ret (results_none rfl _ _ _) rfl ?_)
 exact ⟨rfl, h.out.drop, hB.out⟩
theorem takeIn_some (B : Nat) (W0 : World) (a : Nat) (P : Pr) (s : Fm) (l : List Ob) (i : Fi) (n : Int) (L : List Int) (h : MIn B W0 a P s l) (hi : s.inp = n :: L) (hL : L.length ≤ 140737488355328) (ha : i.a < 16) (hp : s.p ≤ 1000000) :
   Calls Tryz.prog 94 #[.agg #[.int .u8 i.op, .int .i64 i.a, .int .i64 i.b, .int .i64 i.c, .int .u64 i.i], .pointer (some ⟨a, 0, none⟩)] W0 fun x w' => x = .returned (.tuple #[]) ∧ MIn B w' a P { s with inp := L, r := updR s.r i.a n, p := s.p + 1 } l ∧ Below B W0 w' := by
 have h2 := Hz.mk (h.new #[.int .u8 i.op, .int .i64 i.a, .int .i64 i.b, .int .i64 i.c, .int .u64 i.i] 101)
 clear h
 go_enter Tryz.func94, Tryz.ntmps94
 go_upto_region 1 with fail
 refine wp_world (fun W => MIn B W a P s (boxOb W0.heap.size #[.int .u8 i.op, .int .i64 i.a, .int .i64 i.b, .int .i64 i.c, .int .u64 i.i] :: l) ∧ Below B W0 W) h2.out ?_
 rintro W ⟨h, hB⟩
 replace h := Hz.mk h
 replace hB := Hz.mk hB
 clear h2
 generalize W0.heap.size = kb at *
 have KS := xk1 i kb
 clear KS
 have c23 : ∃ b off cap, W.cell? ⟨a, 23, none⟩ = some (.slice (some ⟨b, off, none⟩) (L.length + 1) cap) ∧ L.length + 1 ≤ cap ∧ W.cell? ⟨b, off, none⟩ = some (.int .u64 n) ∧ W.frozen? ⟨a, 23, none⟩ = false ∧ ∀ v, (v = Value.slice (some ⟨b, off + 1, none⟩) L.length (cap - 1) ∨ (cap = 1 ∧ v = .slice (some ⟨b, off, none⟩) L.length 0)) → MIn B (W.setCell ⟨a, 23, none⟩ v) a P { s with inp := L } (boxOb kb #[.int .u8 i.op, .int .i64 i.a, .int .i64 i.b, .int .i64 i.c, .int .u64 i.i] :: l) ∧ Below B W (W.setCell ⟨a, 23, none⟩ v) := by
   obtain ⟨⟨q, h1⟩, le⟩ := h.out
   have hb := h1.ins (bxOb a (bxOf P s q)) (by simp [obs])
   have hI : IvIn W q.iv s.inp := h1.ins (inOb q.iv s.inp) (by simp [obs])
   obtain ⟨va, cap, e1, e2, e3⟩ := hI.go
   rw [hi] at e1 e2
   replace e2 : L.length + 1 ≤ cap := by simpa using e2
   rcases e3 with e3 | ⟨b, off, rfl, e3⟩
   · rw [hi] at e3; simp at e3
   · have hblt : b < W.heap.size := hI.lt b (by rw [e1]; rfl)
     have rm : ∀ j, j < cap → (W.cell? ⟨b, off + j, none⟩).isSome = true ∧ W.frozen? ⟨b, off + j, none⟩ = false := by
       obtain ⟨a2, cap2, f1, f2⟩ := hI.rm
       rw [hi, e1] at f1
       injection f1 with f3 _ f4
       subst f3 f4
       rcases f2 with ⟨f2, _⟩ | ⟨b2, off2, f5, f6⟩
       · cases f2
       · cases f5
         exact f6
     have e0 := e3 0 (by rw [hi]; simp)
     simp only [hi, List.getElem_cons_zero, Nat.add_zero] at e0
     refine ⟨b, off, cap, ?_, e2, e0, hb.fr 23, fun v hv => ?_⟩
     · have := hb.at_ 23 (by omega)
       rw [show (bxOf P s q).at 23 = q.iv from rfl, e1] at this
       exact this
     · refine MIn.take L v h1 le ?_ (by rw [e1]; rcases hv with rfl | ⟨_, rfl⟩ <;> rfl)
       rcases hv with rfl | ⟨hc, rfl⟩
       · refine ⟨⟨_, _, rfl, by omega, .inr ⟨b, off + 1, rfl, fun j hj => ?_⟩⟩, fun k r => by cases r; exact hblt, ⟨_, _, rfl, .inr ⟨b, off + 1, rfl, fun j hj => by rw [show off + 1 + j = off + (j + 1) by omega]; exact rm (j + 1) (by omega)⟩⟩⟩
         have := e3 (j + 1) (by rw [hi]; simp; omega)
         simp only [hi, List.getElem_cons_succ] at this
         rw [show off + 1 + j = off + (j + 1) by omega]
         exact this
       · have hL0 : L.length = 0 := by omega
         exact ⟨⟨_, _, rfl, by omega, .inl hL0⟩, fun k r => by cases r; exact hblt, ⟨_, _, rfl, .inr ⟨b, off, rfl, fun j hj => absurd hj (Nat.not_lt_zero j)⟩⟩⟩
 obtain ⟨b, off, cap, c23, hcap, cb, f23, htk⟩ := c23
 replace htk := Hz.mk htk
 have hcap2 : cap ≤ maxLen → True := fun _ => trivial
 clear hcap2
 have hn0 : ((L.length : Int) + 1 == 0) = false := by simpa using (by omega : ¬ (L.length : Int) + 1 = 0)
 obtain ⟨q9, hb9⟩ := h.out.bx
 have hlt := hb9.lt
 clear hb9 q9
 have hle := h.out.le
 by_cases hc1 : cap = 1
 · subst hc1
   have hT := Hz.mk (htk.out _ (.inr ⟨rfl, rfl⟩))
   have hL0 : L.length = 0 := by omega
   rw [hL0] at hT
   go_upto_region 5 with fail
   refine wp_world (fun V => MIn B V a P { s with inp := L } (boxOb kb #[.int .u8 i.op, .int .i64 i.a, .int .i64 i.b, .int .i64 i.c, .int .u64 i.i] :: l) ∧ Below B W V) hT.out ?_
   rintro V ⟨h2, hB2⟩
   clear hT htk c23 cb f23 hlt
   replace hB : Hz (Below B W0 V) := Hz.mk (hB.out.trans hB2)
   clear hB2 h
   have h := Hz.mk h2
   clear h2
   have q1 : V.cell? ⟨kb, 1, none⟩ = some (.int .i64 i.a) := (h.out.there (boxOb kb #[.int .u8 i.op, .int .i64 i.a, .int .i64 i.b, .int .i64 i.c, .int .u64 i.i]) (.head _)).2.1 1
   have hly := Hz.mk (h.out.onBox (s' := { s with inp := L, r := updR s.r i.a n, p := s.p + 1 }) ⟨rfl, rfl, rfl, rfl, rfl⟩ (fun q hb => lay_any a _ i.a n V hb ha hp))
   go_wp2_with fail
   refine hly.out.mono ?_
   rintro r V4 ⟨rfl, h2, hB2⟩
   replace hB : Hz (Below B W0 V4) := Hz.mk (hB.out.trans hB2)
   replace h2 := Hz.mk h2
   clear h hly
   go_wp2_with fail
   first | go_end0 | ((try simp only [Exit.inBlock, Exit.then]); refine bodyPost_ret (results_none rfl _ _ _) rfl ?_)
   exact ⟨rfl, h2.out.drop, hB.out⟩
 · have hT := Hz.mk (htk.out _ (.inl rfl))
   have hc2 : 1 < cap := by omega
   go_upto_region 5 with fail
   refine wp_world (fun V => MIn B V a P { s with inp := L } (boxOb kb #[.int .u8 i.op, .int .i64 i.a, .int .i64 i.b, .int .i64 i.c, .int .u64 i.i] :: l) ∧ Below B W V) hT.out ?_
   rintro V ⟨h2, hB2⟩
   clear hT htk c23 cb f23 hlt
   replace hB : Hz (Below B W0 V) := Hz.mk (hB.out.trans hB2)
   clear hB2 h
   have h := Hz.mk h2
   clear h2
   have q1 : V.cell? ⟨kb, 1, none⟩ = some (.int .i64 i.a) := (h.out.there (boxOb kb #[.int .u8 i.op, .int .i64 i.a, .int .i64 i.b, .int .i64 i.c, .int .u64 i.i]) (.head _)).2.1 1
   have hly := Hz.mk (h.out.onBox (s' := { s with inp := L, r := updR s.r i.a n, p := s.p + 1 }) ⟨rfl, rfl, rfl, rfl, rfl⟩ (fun q hb => lay_any a _ i.a n V hb ha hp))
   go_wp2_with fail
   refine hly.out.mono ?_
   rintro r V4 ⟨rfl, h2, hB2⟩
   replace hB : Hz (Below B W0 V4) := Hz.mk (hB.out.trans hB2)
   replace h2 := Hz.mk h2
   clear h hly
   go_wp2_with fail
   first | go_end0 | ((try simp only [Exit.inBlock, Exit.then]); refine bodyPost_ret (results_none rfl _ _ _) rfl ?_)
   exact ⟨rfl, h2.out.drop, hB.out⟩
theorem putOut_op (B : Nat) (W0 : World) (a : Nat) (P : Pr) (s : Fm) (l : List Ob) (i : Fi) (h : MIn B W0 a P s l) (ha : i.a < 16) (hl : s.out.length ≤ 1000000) (hp : s.p ≤ 1000000) :
   Calls Tryz.prog 95 #[.agg #[.int .u8 i.op, .int .i64 i.a, .int .i64 i.b, .int .i64 i.c, .int .u64 i.i], .pointer (some ⟨a, 0, none⟩)] W0 fun x w' => x = .returned (.tuple #[]) ∧ MIn B w' a P { s with out := s.out ++ [s.r i.a], p := s.p + 1 } l ∧ Below B W0 w' := by
 have h2 := Hz.mk (h.new #[.int .u8 i.op, .int .i64 i.a, .int .i64 i.b, .int .i64 i.c, .int .u64 i.i] 101)
 clear h
 go_enter Tryz.func95, Tryz.ntmps95
 go_upto_region 1 with fail
 refine wp_world (fun W => MIn B W a P s (boxOb W0.heap.size #[.int .u8 i.op, .int .i64 i.a, .int .i64 i.b, .int .i64 i.c, .int .u64 i.i] :: l) ∧ Below B W0 W) h2.out ?_
 rintro W ⟨h, hB⟩
 replace h := Hz.mk h
 replace hB := Hz.mk hB
 clear h2
 generalize W0.heap.size = kb at *
 have KS := xk1 i kb
 have hleW := h.out.le
 have hpk : ∃ q ta tk, Bx W a (bxOf P s q) ∧ W.cell? ⟨a, 24, none⟩ = some (.slice ta s.out.length tk) ∧ (∀ V, Gr W V → V.ownsRow B 34 1 (.slice ta s.out.length tk) s.out.length (s.out.map u64I)) ∧ ∀ V W2 g cap, Gr W V → W2.ownsRow B 34 1 (.slice (some ⟨g, 0, none⟩) (s.out.length + 1) cap) (s.out.length + 1) (s.out.map u64I ++ [.int .u64 (s.r i.a)]) → V.grownBy W2 (Value.slice ta s.out.length tk).ownBlock → ((Value.slice ta s.out.length tk).ownBlock = some g ∨ g = V.heap.size) → (∃ u, W2.cell? ⟨a, 24, none⟩ = some u) ∧ W2.frozen? ⟨a, 24, none⟩ = false ∧ At W2 kb #[.int .u8 i.op, .int .i64 i.a, .int .i64 i.b, .int .i64 i.c, .int .u64 i.i] ∧ MIn B (W2.setCell ⟨a, 24, none⟩ (.slice (some ⟨g, 0, none⟩) (s.out.length + 1) cap)) a P { s with out := s.out ++ [s.r i.a] } (boxOb kb #[.int .u8 i.op, .int .i64 i.a, .int .i64 i.b, .int .i64 i.c, .int .u64 i.i] :: l) ∧ Below B W (W2.setCell ⟨a, 24, none⟩ (.slice (some ⟨g, 0, none⟩) (s.out.length + 1) cap)) := by
   obtain ⟨⟨q, h1⟩, le⟩ := h.out
   have hb := h1.ins (bxOb a (bxOf P s q)) (by simp [obs])
   have hO : W.ownsRow B 34 1 q.ov_ s.out.length (s.out.map u64I) := h1.ins (ouOb B q.ov_ s.out) (by simp [obs])
   obtain ⟨ta, tk, etv⟩ := own_slZ hO
   refine ⟨q, ta, tk, hb, by rw [← etv]; exact hb.at_ 24 (by omega), fun V g => by rw [← etv]; exact own_keep hO (Kp.of_below (S := fun _ => False) g.below) (fun _ _ r => r), fun V W2 g cap g1 k1 k2 k3 => ?_⟩
   rw [← etv] at k2 k3
   have r := MIn.app_out (s.r i.a) (h1.gr g1.below) (Nat.le_trans le g1.below.size) k1 k2 k3
   exact ⟨⟨_, r.1.at_ 24 (by omega)⟩, r.1.fr 24, r.2.1 (boxOb kb #[.int .u8 i.op, .int .i64 i.a, .int .i64 i.b, .int .i64 i.c, .int .u64 i.i]) (.head _), r.2.2.1, (g1.below.mono le).trans r.2.2.2⟩
 obtain ⟨q, ta, tk, hq, c24, hO2, hap⟩ := hpk
 replace hq := Hz.mk hq
 replace hO2 := Hz.mk hO2
 replace hap := Hz.mk hap
 generalize s.out.map u64I = xs at *
 have g0 : Gr W W.drew := (Gr.refl W).drew
 refine wp_region_held_drew (S := (fun W => W.rangeAt kb 0 (Fi.vals i))) (by kernel_rfl) ((KS.out _ ((h.out.there (boxOb kb #[.int .u8 i.op, .int .i64 i.a, .int .i64 i.b, .int .i64 i.c, .int .u64 i.i]) (.head _)).gr g0)).1) (fun hHeld => ?_)
 refine xso 0 ?_ rfl ?_ (xso 1 ?_ rfl ?_ (xso 2 ?_ rfl ?_ (xso 3 ?_ rfl ?_ (xso 5 ?_ rfl ?_ ?_))))
 iterate 5 (rotate_left; focus ((try simp only [xap]); intro w hSw; (try dsimp only at hSw); go_simp; first | done | with_reducible rfl))
 try simp only [xap]
 refine xtk 6 rfl (yieldsIf_load_mid (by rfl) _ _ rfl _ _ rfl _ _ (fun _ h => h) Tryz.underlying101 rfl (by kernel_rfl)) ?_
 try simp only [xap]
 refine wpAnyH_ready (rs := [4, 7]) (by kernel_rfl) (by simp) ?_
 refine (xcn rfl (fun K hK => ?_) (xcn rfl (fun K hK => ?_) AllReadyH.nil))
 · skip
   have c4 := Gr.cellA h.out g0 c24
   go_simp
   clear hHeld
   refine hK.out _ _ ((KS.out _ ((h.out.there (boxOb kb #[.int .u8 i.op, .int .i64 i.a, .int .i64 i.b, .int .i64 i.c, .int .u64 i.i]) (.head _)).gr g0)).1) (fun hHeld => ?_)
   clear hK K c4
   try simp only [xap]
   refine xrd 7 rfl (fun K hK => ?_)
   go_simp
   go_wp2_with (refine (a_any a (bxOf P s q) i _ (hq.out.gr g0) ha).mono ?_; rintro r V1 ⟨rfl, gg⟩; have g1 := g0.trans gg; clear gg g0 hHeld; rw [show (bxOf P s q).r i.a = s.r i.a from rfl])
   refine hK.out _ _ ((KS.out _ ((h.out.there (boxOb kb #[.int .u8 i.op, .int .i64 i.a, .int .i64 i.b, .int .i64 i.c, .int .u64 i.i]) (.head _)).gr g1)).1) (fun hHeld => ?_)
   clear hK K
   try simp only [xap]
   refine xrd 8 rfl (fun K hK => ?_)
   go_simp
   have hX := At.new V1 #[.int .u64 (s.r i.a)] 34
   have g2 : Gr W (V1.alloc (.cells #[.int .u64 (s.r i.a)] 34)) := g1.alloc _
   clear hHeld
   generalize hVV : V1.alloc (.cells #[.int .u64 (s.r i.a)] 34) = V2 at *
   clear hVV g1
   generalize V1.heap.size = kX at *
   refine hK.out _ _ ((KS.out _ ((h.out.there (boxOb kb #[.int .u8 i.op, .int .i64 i.a, .int .i64 i.b, .int .i64 i.c, .int .u64 i.i]) (.head _)).gr g2)).1) (fun hHeld => ?_)
   clear hK K
   try simp only [xap]
   refine xrd 9 rfl (fun K hK => ?_)
   refine wp_append_z _ _ 26 34 (.int .u64 0) 1 8 rfl Tryz.underlying26 (by kernel_rfl) (by kernel_rfl) (by decide) (by decide) B (.slice ta s.out.length tk) s.out.length xs [.int .u64 (s.r i.a)] (by rfl) (hO2.out V2 g2) kX (by rfl) hX rfl (by simp [Value.oneCell']) hl (Nat.le_trans hleW g2.below.size) ?_
   intro g cap W2 k1 k2 k3
   obtain ⟨⟨u, cu⟩, fu, hA2, hM, hBe⟩ := hap.out V2 W2 g cap g2 k1 k2 k3
   replace hM := Hz.mk hM
   replace hA2 := Hz.mk hA2
   clear k1 k2 k3 hHeld
   have hlt2 := World.block_lt_of_cell? W2 _ cu
   refine hK.out _ _ ((KS.out _ hA2.out).1) (fun hHeld => ?_)
   clear hK K
   try simp only [xap]
   refine xso 10 ?_ rfl ?_ (xso 11 ?_ rfl ?_ ?_)
   iterate 2 (rotate_left; focus ((try simp only [xap]); intro w hSw; (try dsimp only at hSw); go_simp; first | done | with_reducible rfl))
   try simp only [xap]
   refine xrd 12 rfl (fun K hK => ?_)
   go_simp
   clear hHeld
   refine hK.out _ _ ((KS.out _ (hM.out.there (boxOb kb #[.int .u8 i.op, .int .i64 i.a, .int .i64 i.b, .int .i64 i.c, .int .u64 i.i]) (.head _))).1) (fun hHeld => ?_)
   clear hK K
   try simp only [Act.put]
   refine xdn ?_ _
   clear hHeld
   replace hB := Hz.mk (hB.out.trans hBe)
   generalize World.setCell _ _ _ = V9 at *
   have hnx := Hz.mk (hM.out.onBox (s' := { s with out := s.out ++ [s.r i.a], p := s.p + 1 }) ⟨rfl, rfl, rfl, rfl, rfl⟩ (fun q hb => next_any a _ _ hb hp))
   go_wp2_with fail
   refine hnx.out.mono ?_
   rintro r V10 ⟨rfl, h9, hB9⟩
   replace hB := Hz.mk (hB.out.trans hB9)
   replace h9 := Hz.mk h9
   go_wp2_with fail
   first | go_end0 | ((try simp only [Exit.inBlock, Exit.then]); refine bodyPost_ret (results_none rfl _ _ _) rfl ?_)
   exact ⟨rfl, h9.out.drop, hB.out⟩
 · skip
   go_simp
   go_wp2_with (refine (a_any a (bxOf P s q) i _ (hq.out.gr g0) ha).mono ?_; rintro r V1 ⟨rfl, gg⟩; have g1 := g0.trans gg; clear gg g0 hHeld; rw [show (bxOf P s q).r i.a = s.r i.a from rfl])
   refine hK.out _ _ ((KS.out _ ((h.out.there (boxOb kb #[.int .u8 i.op, .int .i64 i.a, .int .i64 i.b, .int .i64 i.c, .int .u64 i.i]) (.head _)).gr g1)).1) (fun hHeld => ?_)
   clear hK K
   try simp only [xap]
   refine wpAnyH_ready (rs := [4, 8]) (by kernel_rfl) (by simp) ?_
   refine (xcn rfl (fun K hK => ?_) (xcn rfl (fun K hK => ?_) AllReadyH.nil))
   · skip
     have c4 := Gr.cellA h.out g1 c24
     go_simp
     clear hHeld
     refine hK.out _ _ ((KS.out _ ((h.out.there (boxOb kb #[.int .u8 i.op, .int .i64 i.a, .int .i64 i.b, .int .i64 i.c, .int .u64 i.i]) (.head _)).gr g1)).1) (fun hHeld => ?_)
     clear hK K c4
     try simp only [xap]
     refine xrd 8 rfl (fun K hK => ?_)
     go_simp
     have hX := At.new V1 #[.int .u64 (s.r i.a)] 34
     have g2 : Gr W (V1.alloc (.cells #[.int .u64 (s.r i.a)] 34)) := g1.alloc _
     clear hHeld
     generalize hVV : V1.alloc (.cells #[.int .u64 (s.r i.a)] 34) = V2 at *
     clear hVV g1
     generalize V1.heap.size = kX at *
     refine hK.out _ _ ((KS.out _ ((h.out.there (boxOb kb #[.int .u8 i.op, .int .i64 i.a, .int .i64 i.b, .int .i64 i.c, .int .u64 i.i]) (.head _)).gr g2)).1) (fun hHeld => ?_)
     clear hK K
     try simp only [xap]
     refine xrd 9 rfl (fun K hK => ?_)
     refine wp_append_z _ _ 26 34 (.int .u64 0) 1 8 rfl Tryz.underlying26 (by kernel_rfl) (by kernel_rfl) (by decide) (by decide) B (.slice ta s.out.length tk) s.out.length xs [.int .u64 (s.r i.a)] (by rfl) (hO2.out V2 g2) kX (by rfl) hX rfl (by simp [Value.oneCell']) hl (Nat.le_trans hleW g2.below.size) ?_
     intro g cap W2 k1 k2 k3
     obtain ⟨⟨u, cu⟩, fu, hA2, hM, hBe⟩ := hap.out V2 W2 g cap g2 k1 k2 k3
     replace hM := Hz.mk hM
     replace hA2 := Hz.mk hA2
     clear k1 k2 k3 hHeld
     have hlt2 := World.block_lt_of_cell? W2 _ cu
     refine hK.out _ _ ((KS.out _ hA2.out).1) (fun hHeld => ?_)
     clear hK K
     try simp only [xap]
     refine xso 10 ?_ rfl ?_ (xso 11 ?_ rfl ?_ ?_)
     iterate 2 (rotate_left; focus ((try simp only [xap]); intro w hSw; (try dsimp only at hSw); go_simp; first | done | with_reducible rfl))
     try simp only [xap]
     refine xrd 12 rfl (fun K hK => ?_)
     go_simp
     clear hHeld
     refine hK.out _ _ ((KS.out _ (hM.out.there (boxOb kb #[.int .u8 i.op, .int .i64 i.a, .int .i64 i.b, .int .i64 i.c, .int .u64 i.i]) (.head _))).1) (fun hHeld => ?_)
     clear hK K
     try simp only [Act.put]
     refine xdn ?_ _
     clear hHeld
     replace hB := Hz.mk (hB.out.trans hBe)
     generalize World.setCell _ _ _ = V9 at *
     have hnx := Hz.mk (hM.out.onBox (s' := { s with out := s.out ++ [s.r i.a], p := s.p + 1 }) ⟨rfl, rfl, rfl, rfl, rfl⟩ (fun q hb => next_any a _ _ hb hp))
     go_wp2_with fail
     refine hnx.out.mono ?_
     rintro r V10 ⟨rfl, h9, hB9⟩
     replace hB := Hz.mk (hB.out.trans hB9)
     replace h9 := Hz.mk h9
     go_wp2_with fail
     first | go_end0 | ((try simp only [Exit.inBlock, Exit.then]); refine bodyPost_ret (results_none rfl _ _ _) rfl ?_)
     exact ⟨rfl, h9.out.drop, hB.out⟩
   · skip
     go_simp
     have hX := At.new V1 #[.int .u64 (s.r i.a)] 34
     have g2 : Gr W (V1.alloc (.cells #[.int .u64 (s.r i.a)] 34)) := g1.alloc _
     clear hHeld
     generalize hVV : V1.alloc (.cells #[.int .u64 (s.r i.a)] 34) = V2 at *
     clear hVV g1
     generalize V1.heap.size = kX at *
     refine hK.out _ _ ((KS.out _ ((h.out.there (boxOb kb #[.int .u8 i.op, .int .i64 i.a, .int .i64 i.b, .int .i64 i.c, .int .u64 i.i]) (.head _)).gr g2)).1) (fun hHeld => ?_)
     clear hK K
     try simp only [xap]
     refine xrd 4 rfl (fun K hK => ?_)
     have c4 := Gr.cellA h.out g2 c24
     go_simp
     clear hHeld
     refine hK.out _ _ ((KS.out _ ((h.out.there (boxOb kb #[.int .u8 i.op, .int .i64 i.a, .int .i64 i.b, .int .i64 i.c, .int .u64 i.i]) (.head _)).gr g2)).1) (fun hHeld => ?_)
     clear hK K c4
     try simp only [xap]
     refine xrd 9 rfl (fun K hK => ?_)
     refine wp_append_z _ _ 26 34 (.int .u64 0) 1 8 rfl Tryz.underlying26 (by kernel_rfl) (by kernel_rfl) (by decide) (by decide) B (.slice ta s.out.length tk) s.out.length xs [.int .u64 (s.r i.a)] (by rfl) (hO2.out V2 g2) kX (by rfl) hX rfl (by simp [Value.oneCell']) hl (Nat.le_trans hleW g2.below.size) ?_
     intro g cap W2 k1 k2 k3
     obtain ⟨⟨u, cu⟩, fu, hA2, hM, hBe⟩ := hap.out V2 W2 g cap g2 k1 k2 k3
     replace hM := Hz.mk hM
     replace hA2 := Hz.mk hA2
     clear k1 k2 k3 hHeld
     have hlt2 := World.block_lt_of_cell? W2 _ cu
     refine hK.out _ _ ((KS.out _ hA2.out).1) (fun hHeld => ?_)
     clear hK K
     try simp only [xap]
     refine xso 10 ?_ rfl ?_ (xso 11 ?_ rfl ?_ ?_)
     iterate 2 (rotate_left; focus ((try simp only [xap]); intro w hSw; (try dsimp only at hSw); go_simp; first | done | with_reducible rfl))
     try simp only [xap]
     refine xrd 12 rfl (fun K hK => ?_)
     go_simp
     clear hHeld
     refine hK.out _ _ ((KS.out _ (hM.out.there (boxOb kb #[.int .u8 i.op, .int .i64 i.a, .int .i64 i.b, .int .i64 i.c, .int .u64 i.i]) (.head _))).1) (fun hHeld => ?_)
     clear hK K
     try simp only [Act.put]
     refine xdn ?_ _
     clear hHeld
     replace hB := Hz.mk (hB.out.trans hBe)
     generalize World.setCell _ _ _ = V9 at *
     have hnx := Hz.mk (hM.out.onBox (s' := { s with out := s.out ++ [s.r i.a], p := s.p + 1 }) ⟨rfl, rfl, rfl, rfl, rfl⟩ (fun q hb => next_any a _ _ hb hp))
     go_wp2_with fail
     refine hnx.out.mono ?_
     rintro r V10 ⟨rfl, h9, hB9⟩
     replace hB := Hz.mk (hB.out.trans hB9)
     replace h9 := Hz.mk h9
     go_wp2_with fail
     first | go_end0 | ((try simp only [Exit.inBlock, Exit.then]); refine bodyPost_ret (results_none rfl _ _ _) rfl ?_)
     exact ⟨rfl, h9.out.drop, hB.out⟩
end Z
end Go.Proofs.YthfphgjjieddjaaGreat


namespace Go.Proofs.YthfphgjjieddjaaGreat
set_option maxRecDepth 100000
set_option maxHeartbeats 40000000
namespace Z
open Go.RowKit
open T (Sep Ob Kp Mf FlIn boxOb)

theorem load1_bad (B : Nat) (W0 : World) (a : Nat) (P : Pr) (s : Fm) (l : List Ob) (i : Fi) (h : MIn B W0 a P s l) (hb : i.b < 16) (hq9 : 65536 - 1 < IntKind.u64.wrap (s.r i.b + i.i)) :
   Calls Tryz.prog 118 #[.agg #[.int .u8 i.op, .int .i64 i.a, .int .i64 i.b, .int .i64 i.c, .int .u64 i.i], .pointer (some ⟨a, 0, none⟩), .int .u64 1] W0 fun x w' => x = .returned (.tuple #[]) ∧ MIn B w' a P { s with e := 7, v := 0, f := 5 } l ∧ Below B W0 w' := by
 replace hq9 := Hz.mk hq9
 have h2 := Hz.mk (h.new #[.int .u8 i.op, .int .i64 i.a, .int .i64 i.b, .int .i64 i.c, .int .u64 i.i] 101)
 clear h
 go_enter Tryz.func118, Tryz.ntmps118
 go_upto_region 1 with fail
 refine wp_world (fun W => MIn B W a P s (boxOb W0.heap.size #[.int .u8 i.op, .int .i64 i.a, .int .i64 i.b, .int .i64 i.c, .int .u64 i.i] :: l) ∧ Below B W0 W) h2.out ?_
 rintro W ⟨h, hB⟩
 replace h := Hz.mk h
 replace hB := Hz.mk hB
 clear h2
 generalize W0.heap.size = kb at *
 have KS := xk1 i kb
 have hleW := h.out.le
 obtain ⟨q, hq⟩ := h.out.bx
 replace hq := Hz.mk hq
 have g0 : Gr W W.drew := (Gr.refl W).drew
 refine wp_region_held_drew (S := (fun W => W.rangeAt kb 0 (Fi.vals i) ∧ W.cell? ⟨kb, 1, none⟩ = some (.int .i64 i.a) ∧ W.cell? ⟨kb, 3, none⟩ = some (.int .i64 i.c) ∧ W.cell? ⟨kb, 4, none⟩ = some (.int .u64 i.i))) (by kernel_rfl) (KS.out _ ((h.out.there (boxOb kb #[.int .u8 i.op, .int .i64 i.a, .int .i64 i.b, .int .i64 i.c, .int .u64 i.i]) (.head _)).gr g0)) (fun hHeld => ?_)
 refine xso 0 ?_ rfl ?_ ?_
 rotate_left
 · intro w hSw; (try dsimp only at hSw); go_simp; first | done | with_reducible rfl
 try simp only [xap]
 refine xtk 1 rfl (yieldsIf_load_mid (by rfl) _ _ rfl _ _ rfl _ _ (fun _ h => h.1) Tryz.underlying101 rfl (by kernel_rfl)) ?_
 try simp only [xap]
 refine xso 3 ?_ rfl ?_ (xso 4 ?_ rfl ?_ ?_)
 iterate 2 (rotate_left; focus ((try simp only [xap]); intro w hSw; (try dsimp only at hSw); go_simp; first | done | with_reducible rfl))
 try simp only [xap]
 refine xrd 2 rfl (fun K hK => ?_)
 go_simp
 go_wp2_with (refine (b_any a (bxOf P s q) i _ (hq.out.gr g0) hb).mono ?_; rintro r V1 ⟨rfl, gg⟩; have g1 := g0.trans gg; clear gg g0 hHeld)
 refine hK.out _ _ (KS.out _ ((h.out.there (boxOb kb #[.int .u8 i.op, .int .i64 i.a, .int .i64 i.b, .int .i64 i.c, .int .u64 i.i]) (.head _)).gr g1)) (fun hHeld => ?_)
 clear hK K
 try simp only [xap]
 refine xso 5 ?_ rfl ?_ (xso 6 ?_ rfl ?_ ?_)
 iterate 2 (rotate_left; focus ((try simp only [xap]); intro w hSw; (try dsimp only at hSw); go_simp; first | done | with_reducible rfl))
 try simp only [xap]
 refine xdn ?_ _
 clear hHeld hq
 rw [show (bxOf P s q).r = s.r from rfl]
 clear q
 replace h := Hz.mk (h.out.gro g1)
 replace hB : Hz (Below B W0 V1) := Hz.mk (hB.out.trans (g1.below.mono hleW))
 clear g1
 have ht := Hz.mk (touch_bad B V1 a P s _ false (IntKind.u64.wrap (s.r i.b + i.i)) 1 h.out (by omega) hq9.out)
 go_wp2_with fail
 refine (ht.out).mono ?_
 rintro r V2 ⟨rfl, h2, hB2⟩
 replace hB : Hz (Below B W0 V2) := Hz.mk (hB.out.trans hB2)
 clear hB2
 clear h
 have h := Hz.mk h2
 clear h2
 go_wp2_with fail
 first | go_end0 | ((try simp only [Exit.inBlock, Exit.then]); refine bodyPost_ret (results_none rfl _ _ _) rfl ?_)
 exact ⟨rfl, h.out.drop, hB.out⟩
theorem load1_ok (B : Nat) (W0 : World) (a : Nat) (P : Pr) (s : Fm) (l : List Ob) (i : Fi) (h : MIn B W0 a P s l) (ha : i.a < 16) (hb : i.b < 16) (hq9 : IntKind.u64.wrap (s.r i.b + i.i) ≤ 65536 - 1) (hl : s.tc.length ≤ 1000000) (hp : s.p ≤ 1000000) :
   Calls Tryz.prog 118 #[.agg #[.int .u8 i.op, .int .i64 i.a, .int .i64 i.b, .int .i64 i.c, .int .u64 i.i], .pointer (some ⟨a, 0, none⟩), .int .u64 1] W0 fun x w' => x = .returned (.tuple #[]) ∧ MIn B w' a P { s with tc := s.tc ++ [⟨false, IntKind.u64.wrap (s.r i.b + i.i), 1⟩], r := updR s.r i.a (T.ldV s.m (IntKind.u64.wrap (s.r i.b + i.i)).toNat 1 : Nat), p := s.p + 1 } l ∧ Below B W0 w' := by
 obtain ⟨N, hAD⟩ : ∃ N : Nat, IntKind.u64.wrap (s.r i.b + i.i) = (N : Int) := ⟨(IntKind.u64.wrap (s.r i.b + i.i)).toNat, by have := wrap_u64_nonneg (s.r i.b + i.i); omega⟩
 simp only [hAD, Int.toNat_natCast] at hq9 ⊢
 have e7 : N < 18446744073709551616 := by omega
 generalize hLV : T.ldV s.m N 1 = LV at *
 replace hq9 := Hz.mk hq9
 replace hLV := Hz.mk hLV
 have h2 := Hz.mk (h.new #[.int .u8 i.op, .int .i64 i.a, .int .i64 i.b, .int .i64 i.c, .int .u64 i.i] 101)
 clear h
 go_enter Tryz.func118, Tryz.ntmps118
 go_upto_region 1 with fail
 refine wp_world (fun W => MIn B W a P s (boxOb W0.heap.size #[.int .u8 i.op, .int .i64 i.a, .int .i64 i.b, .int .i64 i.c, .int .u64 i.i] :: l) ∧ Below B W0 W) h2.out ?_
 rintro W ⟨h, hB⟩
 replace h := Hz.mk h
 replace hB := Hz.mk hB
 clear h2
 generalize W0.heap.size = kb at *
 have KS := xk1 i kb
 have hleW := h.out.le
 obtain ⟨q, hq⟩ := h.out.bx
 replace hq := Hz.mk hq
 have g0 : Gr W W.drew := (Gr.refl W).drew
 refine wp_region_held_drew (S := (fun W => W.rangeAt kb 0 (Fi.vals i) ∧ W.cell? ⟨kb, 1, none⟩ = some (.int .i64 i.a) ∧ W.cell? ⟨kb, 3, none⟩ = some (.int .i64 i.c) ∧ W.cell? ⟨kb, 4, none⟩ = some (.int .u64 i.i))) (by kernel_rfl) (KS.out _ ((h.out.there (boxOb kb #[.int .u8 i.op, .int .i64 i.a, .int .i64 i.b, .int .i64 i.c, .int .u64 i.i]) (.head _)).gr g0)) (fun hHeld => ?_)
 refine xso 0 ?_ rfl ?_ ?_
 rotate_left
 · intro w hSw; (try dsimp only at hSw); go_simp; first | done | with_reducible rfl
 try simp only [xap]
 refine xtk 1 rfl (yieldsIf_load_mid (by rfl) _ _ rfl _ _ rfl _ _ (fun _ h => h.1) Tryz.underlying101 rfl (by kernel_rfl)) ?_
 try simp only [xap]
 refine xso 3 ?_ rfl ?_ (xso 4 ?_ rfl ?_ ?_)
 iterate 2 (rotate_left; focus ((try simp only [xap]); intro w hSw; (try dsimp only at hSw); go_simp; first | done | with_reducible rfl))
 try simp only [xap]
 refine xrd 2 rfl (fun K hK => ?_)
 go_simp
 go_wp2_with (refine (b_any a (bxOf P s q) i _ (hq.out.gr g0) hb).mono ?_; rintro r V1 ⟨rfl, gg⟩; have g1 := g0.trans gg; clear gg g0 hHeld)
 refine hK.out _ _ (KS.out _ ((h.out.there (boxOb kb #[.int .u8 i.op, .int .i64 i.a, .int .i64 i.b, .int .i64 i.c, .int .u64 i.i]) (.head _)).gr g1)) (fun hHeld => ?_)
 clear hK K
 try simp only [xap]
 refine xso 5 ?_ rfl ?_ (xso 6 ?_ rfl ?_ ?_)
 iterate 2 (rotate_left; focus ((try simp only [xap]); intro w hSw; (try dsimp only at hSw); go_simp; first | done | with_reducible rfl))
 try simp only [xap]
 refine xdn ?_ _
 clear hHeld hq
 rw [show (bxOf P s q).r = s.r from rfl]
 clear q
 replace h := Hz.mk (h.out.gro g1)
 replace hB : Hz (Below B W0 V1) := Hz.mk (hB.out.trans (g1.below.mono hleW))
 clear g1
 rw [hAD]
 clear hAD
 have ht := Hz.mk (touch_ok B V1 a P s _ false (N : Int) 1 h.out (by omega) hq9.out hl)
 go_wp2_with fail
 refine (ht.out).mono ?_
 rintro r V2 ⟨rfl, h2, hB2⟩
 replace hB : Hz (Below B W0 V2) := Hz.mk (hB.out.trans hB2)
 clear hB2
 clear h
 have h := Hz.mk h2
 clear h2
 clear ht
 obtain ⟨km, c3, FF, hF, _⟩ := h.out.onMem
 have hld := Hz.mk (T.flLoad_any FF km N 1 s.m V2 hF e7 (by decide))
 rw [hLV.out] at hld
 clear hF
 have hleW := h.out.le
 go_wp2_with fail
 refine hld.out.mono ?_
 rintro r V3 ⟨rfl, hB2⟩
 clear c3 hld
 replace h := Hz.mk (h.out.gr hB2)
 replace hB2 := hB2.mono hleW
 replace hB : Hz (Below B W0 V3) := Hz.mk (hB.out.trans hB2)
 clear hB2
 have q1 : V3.cell? ⟨kb, 1, none⟩ = some (.int .i64 i.a) := (h.out.there (boxOb kb #[.int .u8 i.op, .int .i64 i.a, .int .i64 i.b, .int .i64 i.c, .int .u64 i.i]) (.head _)).2.1 1
 have hly := Hz.mk (h.out.onBox (s' := { s with tc := s.tc ++ [⟨false, (N : Int), 1⟩], r := updR s.r i.a (LV : Nat), p := s.p + 1 }) ⟨rfl, rfl, rfl, rfl, rfl⟩ (fun q hb => lay_any a _ i.a (LV : Nat) V3 hb ha hp))
 go_wp2_with fail
 refine (hly.out).mono ?_
 rintro r V4 ⟨rfl, h2, hB2⟩
 replace hB : Hz (Below B W0 V4) := Hz.mk (hB.out.trans hB2)
 clear hB2
 clear h
 have h := Hz.mk h2
 clear h2
 go_wp2_with fail
 first | go_end0 | ((try simp only [Exit.inBlock, Exit.then]); refine bodyPost_ret (results_none rfl _ _ _) rfl ?_)
 exact ⟨rfl, h.out.drop, hB.out⟩
theorem load8_bad (B : Nat) (W0 : World) (a : Nat) (P : Pr) (s : Fm) (l : List Ob) (i : Fi) (h : MIn B W0 a P s l) (hb : i.b < 16) (hq9 : 65536 - 8 < IntKind.u64.wrap (s.r i.b + i.i)) :
   Calls Tryz.prog 118 #[.agg #[.int .u8 i.op, .int .i64 i.a, .int .i64 i.b, .int .i64 i.c, .int .u64 i.i], .pointer (some ⟨a, 0, none⟩), .int .u64 8] W0 fun x w' => x = .returned (.tuple #[]) ∧ MIn B w' a P { s with e := 7, v := 0, f := 5 } l ∧ Below B W0 w' := by
 replace hq9 := Hz.mk hq9
 have h2 := Hz.mk (h.new #[.int .u8 i.op, .int .i64 i.a, .int .i64 i.b, .int .i64 i.c, .int .u64 i.i] 101)
 clear h
 go_enter Tryz.func118, Tryz.ntmps118
 go_upto_region 1 with fail
 refine wp_world (fun W => MIn B W a P s (boxOb W0.heap.size #[.int .u8 i.op, .int .i64 i.a, .int .i64 i.b, .int .i64 i.c, .int .u64 i.i] :: l) ∧ Below B W0 W) h2.out ?_
 rintro W ⟨h, hB⟩
 replace h := Hz.mk h
 replace hB := Hz.mk hB
 clear h2
 generalize W0.heap.size = kb at *
 have KS := xk1 i kb
 have hleW := h.out.le
 obtain ⟨q, hq⟩ := h.out.bx
 replace hq := Hz.mk hq
 have g0 : Gr W W.drew := (Gr.refl W).drew
 refine wp_region_held_drew (S := (fun W => W.rangeAt kb 0 (Fi.vals i) ∧ W.cell? ⟨kb, 1, none⟩ = some (.int .i64 i.a) ∧ W.cell? ⟨kb, 3, none⟩ = some (.int .i64 i.c) ∧ W.cell? ⟨kb, 4, none⟩ = some (.int .u64 i.i))) (by kernel_rfl) (KS.out _ ((h.out.there (boxOb kb #[.int .u8 i.op, .int .i64 i.a, .int .i64 i.b, .int .i64 i.c, .int .u64 i.i]) (.head _)).gr g0)) (fun hHeld => ?_)
 refine xso 0 ?_ rfl ?_ ?_
 rotate_left
 · intro w hSw; (try dsimp only at hSw); go_simp; first | done | with_reducible rfl
 try simp only [xap]
 refine xtk 1 rfl (yieldsIf_load_mid (by rfl) _ _ rfl _ _ rfl _ _ (fun _ h => h.1) Tryz.underlying101 rfl (by kernel_rfl)) ?_
 try simp only [xap]
 refine xso 3 ?_ rfl ?_ (xso 4 ?_ rfl ?_ ?_)
 iterate 2 (rotate_left; focus ((try simp only [xap]); intro w hSw; (try dsimp only at hSw); go_simp; first | done | with_reducible rfl))
 try simp only [xap]
 refine xrd 2 rfl (fun K hK => ?_)
 go_simp
 go_wp2_with (refine (b_any a (bxOf P s q) i _ (hq.out.gr g0) hb).mono ?_; rintro r V1 ⟨rfl, gg⟩; have g1 := g0.trans gg; clear gg g0 hHeld)
 refine hK.out _ _ (KS.out _ ((h.out.there (boxOb kb #[.int .u8 i.op, .int .i64 i.a, .int .i64 i.b, .int .i64 i.c, .int .u64 i.i]) (.head _)).gr g1)) (fun hHeld => ?_)
 clear hK K
 try simp only [xap]
 refine xso 5 ?_ rfl ?_ (xso 6 ?_ rfl ?_ ?_)
 iterate 2 (rotate_left; focus ((try simp only [xap]); intro w hSw; (try dsimp only at hSw); go_simp; first | done | with_reducible rfl))
 try simp only [xap]
 refine xdn ?_ _
 clear hHeld hq
 rw [show (bxOf P s q).r = s.r from rfl]
 clear q
 replace h := Hz.mk (h.out.gro g1)
 replace hB : Hz (Below B W0 V1) := Hz.mk (hB.out.trans (g1.below.mono hleW))
 clear g1
 have ht := Hz.mk (touch_bad B V1 a P s _ false (IntKind.u64.wrap (s.r i.b + i.i)) 8 h.out (by omega) hq9.out)
 go_wp2_with fail
 refine (ht.out).mono ?_
 rintro r V2 ⟨rfl, h2, hB2⟩
 replace hB : Hz (Below B W0 V2) := Hz.mk (hB.out.trans hB2)
 clear hB2
 clear h
 have h := Hz.mk h2
 clear h2
 go_wp2_with fail
 first | go_end0 | ((try simp only [Exit.inBlock, Exit.then]); refine bodyPost_ret (results_none rfl _ _ _) rfl ?_)
 exact ⟨rfl, h.out.drop, hB.out⟩
theorem load8_ok (B : Nat) (W0 : World) (a : Nat) (P : Pr) (s : Fm) (l : List Ob) (i : Fi) (h : MIn B W0 a P s l) (ha : i.a < 16) (hb : i.b < 16) (hq9 : IntKind.u64.wrap (s.r i.b + i.i) ≤ 65536 - 8) (hl : s.tc.length ≤ 1000000) (hp : s.p ≤ 1000000) :
   Calls Tryz.prog 118 #[.agg #[.int .u8 i.op, .int .i64 i.a, .int .i64 i.b, .int .i64 i.c, .int .u64 i.i], .pointer (some ⟨a, 0, none⟩), .int .u64 8] W0 fun x w' => x = .returned (.tuple #[]) ∧ MIn B w' a P { s with tc := s.tc ++ [⟨false, IntKind.u64.wrap (s.r i.b + i.i), 8⟩], r := updR s.r i.a (T.ldV s.m (IntKind.u64.wrap (s.r i.b + i.i)).toNat 8 : Nat), p := s.p + 1 } l ∧ Below B W0 w' := by
 obtain ⟨N, hAD⟩ : ∃ N : Nat, IntKind.u64.wrap (s.r i.b + i.i) = (N : Int) := ⟨(IntKind.u64.wrap (s.r i.b + i.i)).toNat, by have := wrap_u64_nonneg (s.r i.b + i.i); omega⟩
 simp only [hAD, Int.toNat_natCast] at hq9 ⊢
 have e7 : N < 18446744073709551616 := by omega
 generalize hLV : T.ldV s.m N 8 = LV at *
 replace hq9 := Hz.mk hq9
 replace hLV := Hz.mk hLV
 have h2 := Hz.mk (h.new #[.int .u8 i.op, .int .i64 i.a, .int .i64 i.b, .int .i64 i.c, .int .u64 i.i] 101)
 clear h
 go_enter Tryz.func118, Tryz.ntmps118
 go_upto_region 1 with fail
 refine wp_world (fun W => MIn B W a P s (boxOb W0.heap.size #[.int .u8 i.op, .int .i64 i.a, .int .i64 i.b, .int .i64 i.c, .int .u64 i.i] :: l) ∧ Below B W0 W) h2.out ?_
 rintro W ⟨h, hB⟩
 replace h := Hz.mk h
 replace hB := Hz.mk hB
 clear h2
 generalize W0.heap.size = kb at *
 have KS := xk1 i kb
 have hleW := h.out.le
 obtain ⟨q, hq⟩ := h.out.bx
 replace hq := Hz.mk hq
 have g0 : Gr W W.drew := (Gr.refl W).drew
 refine wp_region_held_drew (S := (fun W => W.rangeAt kb 0 (Fi.vals i) ∧ W.cell? ⟨kb, 1, none⟩ = some (.int .i64 i.a) ∧ W.cell? ⟨kb, 3, none⟩ = some (.int .i64 i.c) ∧ W.cell? ⟨kb, 4, none⟩ = some (.int .u64 i.i))) (by kernel_rfl) (KS.out _ ((h.out.there (boxOb kb #[.int .u8 i.op, .int .i64 i.a, .int .i64 i.b, .int .i64 i.c, .int .u64 i.i]) (.head _)).gr g0)) (fun hHeld => ?_)
 refine xso 0 ?_ rfl ?_ ?_
 rotate_left
 · intro w hSw; (try dsimp only at hSw); go_simp; first | done | with_reducible rfl
 try simp only [xap]
 refine xtk 1 rfl (yieldsIf_load_mid (by rfl) _ _ rfl _ _ rfl _ _ (fun _ h => h.1) Tryz.underlying101 rfl (by kernel_rfl)) ?_
 try simp only [xap]
 refine xso 3 ?_ rfl ?_ (xso 4 ?_ rfl ?_ ?_)
 iterate 2 (rotate_left; focus ((try simp only [xap]); intro w hSw; (try dsimp only at hSw); go_simp; first | done | with_reducible rfl))
 try simp only [xap]
 refine xrd 2 rfl (fun K hK => ?_)
 go_simp
 go_wp2_with (refine (b_any a (bxOf P s q) i _ (hq.out.gr g0) hb).mono ?_; rintro r V1 ⟨rfl, gg⟩; have g1 := g0.trans gg; clear gg g0 hHeld)
 refine hK.out _ _ (KS.out _ ((h.out.there (boxOb kb #[.int .u8 i.op, .int .i64 i.a, .int .i64 i.b, .int .i64 i.c, .int .u64 i.i]) (.head _)).gr g1)) (fun hHeld => ?_)
 clear hK K
 try simp only [xap]
 refine xso 5 ?_ rfl ?_ (xso 6 ?_ rfl ?_ ?_)
 iterate 2 (rotate_left; focus ((try simp only [xap]); intro w hSw; (try dsimp only at hSw); go_simp; first | done | with_reducible rfl))
 try simp only [xap]
 refine xdn ?_ _
 clear hHeld hq
 rw [show (bxOf P s q).r = s.r from rfl]
 clear q
 replace h := Hz.mk (h.out.gro g1)
 replace hB : Hz (Below B W0 V1) := Hz.mk (hB.out.trans (g1.below.mono hleW))
 clear g1
 rw [hAD]
 clear hAD
 have ht := Hz.mk (touch_ok B V1 a P s _ false (N : Int) 8 h.out (by omega) hq9.out hl)
 go_wp2_with fail
 refine (ht.out).mono ?_
 rintro r V2 ⟨rfl, h2, hB2⟩
 replace hB : Hz (Below B W0 V2) := Hz.mk (hB.out.trans hB2)
 clear hB2
 clear h
 have h := Hz.mk h2
 clear h2
 clear ht
 obtain ⟨km, c3, FF, hF, _⟩ := h.out.onMem
 have hld := Hz.mk (T.flLoad_any FF km N 8 s.m V2 hF e7 (by decide))
 rw [hLV.out] at hld
 clear hF
 have hleW := h.out.le
 go_wp2_with fail
 refine hld.out.mono ?_
 rintro r V3 ⟨rfl, hB2⟩
 clear c3 hld
 replace h := Hz.mk (h.out.gr hB2)
 replace hB2 := hB2.mono hleW
 replace hB : Hz (Below B W0 V3) := Hz.mk (hB.out.trans hB2)
 clear hB2
 have q1 : V3.cell? ⟨kb, 1, none⟩ = some (.int .i64 i.a) := (h.out.there (boxOb kb #[.int .u8 i.op, .int .i64 i.a, .int .i64 i.b, .int .i64 i.c, .int .u64 i.i]) (.head _)).2.1 1
 have hly := Hz.mk (h.out.onBox (s' := { s with tc := s.tc ++ [⟨false, (N : Int), 8⟩], r := updR s.r i.a (LV : Nat), p := s.p + 1 }) ⟨rfl, rfl, rfl, rfl, rfl⟩ (fun q hb => lay_any a _ i.a (LV : Nat) V3 hb ha hp))
 go_wp2_with fail
 refine (hly.out).mono ?_
 rintro r V4 ⟨rfl, h2, hB2⟩
 replace hB : Hz (Below B W0 V4) := Hz.mk (hB.out.trans hB2)
 clear hB2
 clear h
 have h := Hz.mk h2
 clear h2
 go_wp2_with fail
 first | go_end0 | ((try simp only [Exit.inBlock, Exit.then]); refine bodyPost_ret (results_none rfl _ _ _) rfl ?_)
 exact ⟨rfl, h.out.drop, hB.out⟩
theorem load16_bad (B : Nat) (W0 : World) (a : Nat) (P : Pr) (s : Fm) (l : List Ob) (i : Fi) (h : MIn B W0 a P s l) (hb : i.b < 16) (hq9 : 65536 - 16 < IntKind.u64.wrap (s.r i.b + i.i)) :
   Calls Tryz.prog 118 #[.agg #[.int .u8 i.op, .int .i64 i.a, .int .i64 i.b, .int .i64 i.c, .int .u64 i.i], .pointer (some ⟨a, 0, none⟩), .int .u64 16] W0 fun x w' => x = .returned (.tuple #[]) ∧ MIn B w' a P { s with e := 7, v := 0, f := 5 } l ∧ Below B W0 w' := by
 replace hq9 := Hz.mk hq9
 have h2 := Hz.mk (h.new #[.int .u8 i.op, .int .i64 i.a, .int .i64 i.b, .int .i64 i.c, .int .u64 i.i] 101)
 clear h
 go_enter Tryz.func118, Tryz.ntmps118
 go_upto_region 1 with fail
 refine wp_world (fun W => MIn B W a P s (boxOb W0.heap.size #[.int .u8 i.op, .int .i64 i.a, .int .i64 i.b, .int .i64 i.c, .int .u64 i.i] :: l) ∧ Below B W0 W) h2.out ?_
 rintro W ⟨h, hB⟩
 replace h := Hz.mk h
 replace hB := Hz.mk hB
 clear h2
 generalize W0.heap.size = kb at *
 have KS := xk1 i kb
 have hleW := h.out.le
 obtain ⟨q, hq⟩ := h.out.bx
 replace hq := Hz.mk hq
 have g0 : Gr W W.drew := (Gr.refl W).drew
 refine wp_region_held_drew (S := (fun W => W.rangeAt kb 0 (Fi.vals i) ∧ W.cell? ⟨kb, 1, none⟩ = some (.int .i64 i.a) ∧ W.cell? ⟨kb, 3, none⟩ = some (.int .i64 i.c) ∧ W.cell? ⟨kb, 4, none⟩ = some (.int .u64 i.i))) (by kernel_rfl) (KS.out _ ((h.out.there (boxOb kb #[.int .u8 i.op, .int .i64 i.a, .int .i64 i.b, .int .i64 i.c, .int .u64 i.i]) (.head _)).gr g0)) (fun hHeld => ?_)
 refine xso 0 ?_ rfl ?_ ?_
 rotate_left
 · intro w hSw; (try dsimp only at hSw); go_simp; first | done | with_reducible rfl
 try simp only [xap]
 refine xtk 1 rfl (yieldsIf_load_mid (by rfl) _ _ rfl _ _ rfl _ _ (fun _ h => h.1) Tryz.underlying101 rfl (by kernel_rfl)) ?_
 try simp only [xap]
 refine xso 3 ?_ rfl ?_ (xso 4 ?_ rfl ?_ ?_)
 iterate 2 (rotate_left; focus ((try simp only [xap]); intro w hSw; (try dsimp only at hSw); go_simp; first | done | with_reducible rfl))
 try simp only [xap]
 refine xrd 2 rfl (fun K hK => ?_)
 go_simp
 go_wp2_with (refine (b_any a (bxOf P s q) i _ (hq.out.gr g0) hb).mono ?_; rintro r V1 ⟨rfl, gg⟩; have g1 := g0.trans gg; clear gg g0 hHeld)
 refine hK.out _ _ (KS.out _ ((h.out.there (boxOb kb #[.int .u8 i.op, .int .i64 i.a, .int .i64 i.b, .int .i64 i.c, .int .u64 i.i]) (.head _)).gr g1)) (fun hHeld => ?_)
 clear hK K
 try simp only [xap]
 refine xso 5 ?_ rfl ?_ (xso 6 ?_ rfl ?_ ?_)
 iterate 2 (rotate_left; focus ((try simp only [xap]); intro w hSw; (try dsimp only at hSw); go_simp; first | done | with_reducible rfl))
 try simp only [xap]
 refine xdn ?_ _
 clear hHeld hq
 rw [show (bxOf P s q).r = s.r from rfl]
 clear q
 replace h := Hz.mk (h.out.gro g1)
 replace hB : Hz (Below B W0 V1) := Hz.mk (hB.out.trans (g1.below.mono hleW))
 clear g1
 have ht := Hz.mk (touch_bad B V1 a P s _ false (IntKind.u64.wrap (s.r i.b + i.i)) 16 h.out (by omega) hq9.out)
 go_wp2_with fail
 refine (ht.out).mono ?_
 rintro r V2 ⟨rfl, h2, hB2⟩
 replace hB : Hz (Below B W0 V2) := Hz.mk (hB.out.trans hB2)
 clear hB2
 clear h
 have h := Hz.mk h2
 clear h2
 go_wp2_with fail
 first | go_end0 | ((try simp only [Exit.inBlock, Exit.then]); refine bodyPost_ret (results_none rfl _ _ _) rfl ?_)
 exact ⟨rfl, h.out.drop, hB.out⟩
theorem load16_ok (B : Nat) (W0 : World) (a : Nat) (P : Pr) (s : Fm) (l : List Ob) (i : Fi) (h : MIn B W0 a P s l) (ha : i.a < 16) (hb : i.b < 16) (hq9 : IntKind.u64.wrap (s.r i.b + i.i) ≤ 65536 - 16) (hl : s.tc.length ≤ 1000000) (hp : s.p ≤ 1000000) :
   Calls Tryz.prog 118 #[.agg #[.int .u8 i.op, .int .i64 i.a, .int .i64 i.b, .int .i64 i.c, .int .u64 i.i], .pointer (some ⟨a, 0, none⟩), .int .u64 16] W0 fun x w' => x = .returned (.tuple #[]) ∧ MIn B w' a P { s with tc := s.tc ++ [⟨false, IntKind.u64.wrap (s.r i.b + i.i), 16⟩], r := updR s.r i.a (T.ldV s.m (IntKind.u64.wrap (s.r i.b + i.i)).toNat 8 : Nat), p := s.p + 1 } l ∧ Below B W0 w' := by
 obtain ⟨N, hAD⟩ : ∃ N : Nat, IntKind.u64.wrap (s.r i.b + i.i) = (N : Int) := ⟨(IntKind.u64.wrap (s.r i.b + i.i)).toNat, by have := wrap_u64_nonneg (s.r i.b + i.i); omega⟩
 simp only [hAD, Int.toNat_natCast] at hq9 ⊢
 have e7 : N < 18446744073709551616 := by omega
 generalize hLV : T.ldV s.m N 8 = LV at *
 replace hq9 := Hz.mk hq9
 replace hLV := Hz.mk hLV
 have h2 := Hz.mk (h.new #[.int .u8 i.op, .int .i64 i.a, .int .i64 i.b, .int .i64 i.c, .int .u64 i.i] 101)
 clear h
 go_enter Tryz.func118, Tryz.ntmps118
 go_upto_region 1 with fail
 refine wp_world (fun W => MIn B W a P s (boxOb W0.heap.size #[.int .u8 i.op, .int .i64 i.a, .int .i64 i.b, .int .i64 i.c, .int .u64 i.i] :: l) ∧ Below B W0 W) h2.out ?_
 rintro W ⟨h, hB⟩
 replace h := Hz.mk h
 replace hB := Hz.mk hB
 clear h2
 generalize W0.heap.size = kb at *
 have KS := xk1 i kb
 have hleW := h.out.le
 obtain ⟨q, hq⟩ := h.out.bx
 replace hq := Hz.mk hq
 have g0 : Gr W W.drew := (Gr.refl W).drew
 refine wp_region_held_drew (S := (fun W => W.rangeAt kb 0 (Fi.vals i) ∧ W.cell? ⟨kb, 1, none⟩ = some (.int .i64 i.a) ∧ W.cell? ⟨kb, 3, none⟩ = some (.int .i64 i.c) ∧ W.cell? ⟨kb, 4, none⟩ = some (.int .u64 i.i))) (by kernel_rfl) (KS.out _ ((h.out.there (boxOb kb #[.int .u8 i.op, .int .i64 i.a, .int .i64 i.b, .int .i64 i.c, .int .u64 i.i]) (.head _)).gr g0)) (fun hHeld => ?_)
 refine xso 0 ?_ rfl ?_ ?_
 rotate_left
 · intro w hSw; (try dsimp only at hSw); go_simp; first | done | with_reducible rfl
 try simp only [xap]
 refine xtk 1 rfl (yieldsIf_load_mid (by rfl) _ _ rfl _ _ rfl _ _ (fun _ h => h.1) Tryz.underlying101 rfl (by kernel_rfl)) ?_
 try simp only [xap]
 refine xso 3 ?_ rfl ?_ (xso 4 ?_ rfl ?_ ?_)
 iterate 2 (rotate_left; focus ((try simp only [xap]); intro w hSw; (try dsimp only at hSw); go_simp; first | done | with_reducible rfl))
 try simp only [xap]
 refine xrd 2 rfl (fun K hK => ?_)
 go_simp
 go_wp2_with (refine (b_any a (bxOf P s q) i _ (hq.out.gr g0) hb).mono ?_; rintro r V1 ⟨rfl, gg⟩; have g1 := g0.trans gg; clear gg g0 hHeld)
 refine hK.out _ _ (KS.out _ ((h.out.there (boxOb kb #[.int .u8 i.op, .int .i64 i.a, .int .i64 i.b, .int .i64 i.c, .int .u64 i.i]) (.head _)).gr g1)) (fun hHeld => ?_)
 clear hK K
 try simp only [xap]
 refine xso 5 ?_ rfl ?_ (xso 6 ?_ rfl ?_ ?_)
 iterate 2 (rotate_left; focus ((try simp only [xap]); intro w hSw; (try dsimp only at hSw); go_simp; first | done | with_reducible rfl))
 try simp only [xap]
 refine xdn ?_ _
 clear hHeld hq
 rw [show (bxOf P s q).r = s.r from rfl]
 clear q
 replace h := Hz.mk (h.out.gro g1)
 replace hB : Hz (Below B W0 V1) := Hz.mk (hB.out.trans (g1.below.mono hleW))
 clear g1
 rw [hAD]
 clear hAD
 have ht := Hz.mk (touch_ok B V1 a P s _ false (N : Int) 16 h.out (by omega) hq9.out hl)
 go_wp2_with fail
 refine (ht.out).mono ?_
 rintro r V2 ⟨rfl, h2, hB2⟩
 replace hB : Hz (Below B W0 V2) := Hz.mk (hB.out.trans hB2)
 clear hB2
 clear h
 have h := Hz.mk h2
 clear h2
 clear ht
 obtain ⟨km, c3, FF, hF, _⟩ := h.out.onMem
 have hld := Hz.mk (T.flLoad_any FF km N 8 s.m V2 hF e7 (by decide))
 rw [hLV.out] at hld
 clear hF
 have hleW := h.out.le
 go_wp2_with fail
 refine hld.out.mono ?_
 rintro r V3 ⟨rfl, hB2⟩
 clear c3 hld
 replace h := Hz.mk (h.out.gr hB2)
 replace hB2 := hB2.mono hleW
 replace hB : Hz (Below B W0 V3) := Hz.mk (hB.out.trans hB2)
 clear hB2
 have q1 : V3.cell? ⟨kb, 1, none⟩ = some (.int .i64 i.a) := (h.out.there (boxOb kb #[.int .u8 i.op, .int .i64 i.a, .int .i64 i.b, .int .i64 i.c, .int .u64 i.i]) (.head _)).2.1 1
 have hly := Hz.mk (h.out.onBox (s' := { s with tc := s.tc ++ [⟨false, (N : Int), 16⟩], r := updR s.r i.a (LV : Nat), p := s.p + 1 }) ⟨rfl, rfl, rfl, rfl, rfl⟩ (fun q hb => lay_any a _ i.a (LV : Nat) V3 hb ha hp))
 go_wp2_with fail
 refine (hly.out).mono ?_
 rintro r V4 ⟨rfl, h2, hB2⟩
 replace hB : Hz (Below B W0 V4) := Hz.mk (hB.out.trans hB2)
 clear hB2
 clear h
 have h := Hz.mk h2
 clear h2
 go_wp2_with fail
 first | go_end0 | ((try simp only [Exit.inBlock, Exit.then]); refine bodyPost_ret (results_none rfl _ _ _) rfl ?_)
 exact ⟨rfl, h.out.drop, hB.out⟩
theorem loadByte_bad (B : Nat) (W0 : World) (a : Nat) (P : Pr) (s : Fm) (l : List Ob) (i : Fi) (h : MIn B W0 a P s l) (hb : i.b < 16) (hq9 : 65536 - 1 < IntKind.u64.wrap (s.r i.b + i.i)) :
   Calls Tryz.prog 98 #[.agg #[.int .u8 i.op, .int .i64 i.a, .int .i64 i.b, .int .i64 i.c, .int .u64 i.i], .pointer (some ⟨a, 0, none⟩)] W0 fun x w' => x = .returned (.tuple #[]) ∧ MIn B w' a P { s with e := 7, v := 0, f := 5 } l ∧ Below B W0 w' := by
 have hc := Hz.mk (fun W (g : MIn B W a P s (boxOb W0.heap.size #[.int .u8 i.op, .int .i64 i.a, .int .i64 i.b, .int .i64 i.c, .int .u64 i.i] :: l)) => load1_bad B W a P s _ i g hb hq9)
 have h2 := Hz.mk (h.new #[.int .u8 i.op, .int .i64 i.a, .int .i64 i.b, .int .i64 i.c, .int .u64 i.i] 101)
 clear h
 go_enter Tryz.func98, Tryz.ntmps98
 go_upto_region 1 with fail
 refine wp_world (fun W => MIn B W a P s (boxOb W0.heap.size #[.int .u8 i.op, .int .i64 i.a, .int .i64 i.b, .int .i64 i.c, .int .u64 i.i] :: l) ∧ Below B W0 W) h2.out ?_
 rintro W ⟨h, hB⟩
 replace h := Hz.mk h
 replace hB := Hz.mk hB
 clear h2
 generalize W0.heap.size = kb at *
 have KS := xk1 i kb
 have q0 : W.cell? ⟨kb, 0, none⟩ = some (.int .u8 i.op) := (h.out.there (boxOb kb #[.int .u8 i.op, .int .i64 i.a, .int .i64 i.b, .int .i64 i.c, .int .u64 i.i]) (.head _)).2.1 0
 have q1 : W.cell? ⟨kb, 1, none⟩ = some (.int .i64 i.a) := (h.out.there (boxOb kb #[.int .u8 i.op, .int .i64 i.a, .int .i64 i.b, .int .i64 i.c, .int .u64 i.i]) (.head _)).2.1 1
 have q2 : W.cell? ⟨kb, 2, none⟩ = some (.int .i64 i.b) := (h.out.there (boxOb kb #[.int .u8 i.op, .int .i64 i.a, .int .i64 i.b, .int .i64 i.c, .int .u64 i.i]) (.head _)).2.1 2
 have q3 : W.cell? ⟨kb, 3, none⟩ = some (.int .i64 i.c) := (h.out.there (boxOb kb #[.int .u8 i.op, .int .i64 i.a, .int .i64 i.b, .int .i64 i.c, .int .u64 i.i]) (.head _)).2.1 3
 have q4 : W.cell? ⟨kb, 4, none⟩ = some (.int .u64 i.i) := (h.out.there (boxOb kb #[.int .u8 i.op, .int .i64 i.a, .int .i64 i.b, .int .i64 i.c, .int .u64 i.i]) (.head _)).2.1 4
 go_wp2_with fail
 refine (hc.out _ h.out).mono ?_
 rintro r V2 ⟨rfl, h2, hB2⟩
 replace hB : Hz (Below B W0 V2) := Hz.mk (hB.out.trans hB2)
 clear hB2
 replace h2 := Hz.mk h2
 clear h hc
 go_wp2_with fail
 first | go_end0 | ((try simp only [Exit.inBlock, Exit.then]); refine bodyPost_ret (results_none rfl _ _ _) rfl ?_)
 exact ⟨rfl, h2.out.drop, hB.out⟩
theorem loadByte_ok (B : Nat) (W0 : World) (a : Nat) (P : Pr) (s : Fm) (l : List Ob) (i : Fi) (h : MIn B W0 a P s l) (ha : i.a < 16) (hb : i.b < 16) (hq9 : IntKind.u64.wrap (s.r i.b + i.i) ≤ 65536 - 1) (hl : s.tc.length ≤ 1000000) (hp : s.p ≤ 1000000) :
   Calls Tryz.prog 98 #[.agg #[.int .u8 i.op, .int .i64 i.a, .int .i64 i.b, .int .i64 i.c, .int .u64 i.i], .pointer (some ⟨a, 0, none⟩)] W0 fun x w' => x = .returned (.tuple #[]) ∧ MIn B w' a P { s with tc := s.tc ++ [⟨false, IntKind.u64.wrap (s.r i.b + i.i), 1⟩], r := updR s.r i.a (T.ldV s.m (IntKind.u64.wrap (s.r i.b + i.i)).toNat 1 : Nat), p := s.p + 1 } l ∧ Below B W0 w' := by
 have hc := Hz.mk (fun W (g : MIn B W a P s (boxOb W0.heap.size #[.int .u8 i.op, .int .i64 i.a, .int .i64 i.b, .int .i64 i.c, .int .u64 i.i] :: l)) => load1_ok B W a P s _ i g ha hb hq9 hl hp)
 have h2 := Hz.mk (h.new #[.int .u8 i.op, .int .i64 i.a, .int .i64 i.b, .int .i64 i.c, .int .u64 i.i] 101)
 clear h
 go_enter Tryz.func98, Tryz.ntmps98
 go_upto_region 1 with fail
 refine wp_world (fun W => MIn B W a P s (boxOb W0.heap.size #[.int .u8 i.op, .int .i64 i.a, .int .i64 i.b, .int .i64 i.c, .int .u64 i.i] :: l) ∧ Below B W0 W) h2.out ?_
 rintro W ⟨h, hB⟩
 replace h := Hz.mk h
 replace hB := Hz.mk hB
 clear h2
 generalize W0.heap.size = kb at *
 have KS := xk1 i kb
 have q0 : W.cell? ⟨kb, 0, none⟩ = some (.int .u8 i.op) := (h.out.there (boxOb kb #[.int .u8 i.op, .int .i64 i.a, .int .i64 i.b, .int .i64 i.c, .int .u64 i.i]) (.head _)).2.1 0
 have q1 : W.cell? ⟨kb, 1, none⟩ = some (.int .i64 i.a) := (h.out.there (boxOb kb #[.int .u8 i.op, .int .i64 i.a, .int .i64 i.b, .int .i64 i.c, .int .u64 i.i]) (.head _)).2.1 1
 have q2 : W.cell? ⟨kb, 2, none⟩ = some (.int .i64 i.b) := (h.out.there (boxOb kb #[.int .u8 i.op, .int .i64 i.a, .int .i64 i.b, .int .i64 i.c, .int .u64 i.i]) (.head _)).2.1 2
 have q3 : W.cell? ⟨kb, 3, none⟩ = some (.int .i64 i.c) := (h.out.there (boxOb kb #[.int .u8 i.op, .int .i64 i.a, .int .i64 i.b, .int .i64 i.c, .int .u64 i.i]) (.head _)).2.1 3
 have q4 : W.cell? ⟨kb, 4, none⟩ = some (.int .u64 i.i) := (h.out.there (boxOb kb #[.int .u8 i.op, .int .i64 i.a, .int .i64 i.b, .int .i64 i.c, .int .u64 i.i]) (.head _)).2.1 4
 go_wp2_with fail
 refine (hc.out _ h.out).mono ?_
 rintro r V2 ⟨rfl, h2, hB2⟩
 replace hB : Hz (Below B W0 V2) := Hz.mk (hB.out.trans hB2)
 clear hB2
 replace h2 := Hz.mk h2
 clear h hc
 go_wp2_with fail
 first | go_end0 | ((try simp only [Exit.inBlock, Exit.then]); refine bodyPost_ret (results_none rfl _ _ _) rfl ?_)
 exact ⟨rfl, h2.out.drop, hB.out⟩
theorem loadWord_bad (B : Nat) (W0 : World) (a : Nat) (P : Pr) (s : Fm) (l : List Ob) (i : Fi) (h : MIn B W0 a P s l) (hb : i.b < 16) (hq9 : 65536 - 8 < IntKind.u64.wrap (s.r i.b + i.i)) :
   Calls Tryz.prog 99 #[.agg #[.int .u8 i.op, .int .i64 i.a, .int .i64 i.b, .int .i64 i.c, .int .u64 i.i], .pointer (some ⟨a, 0, none⟩)] W0 fun x w' => x = .returned (.tuple #[]) ∧ MIn B w' a P { s with e := 7, v := 0, f := 5 } l ∧ Below B W0 w' := by
 have hc := Hz.mk (fun W (g : MIn B W a P s (boxOb W0.heap.size #[.int .u8 i.op, .int .i64 i.a, .int .i64 i.b, .int .i64 i.c, .int .u64 i.i] :: l)) => load8_bad B W a P s _ i g hb hq9)
 have h2 := Hz.mk (h.new #[.int .u8 i.op, .int .i64 i.a, .int .i64 i.b, .int .i64 i.c, .int .u64 i.i] 101)
 clear h
 go_enter Tryz.func99, Tryz.ntmps99
 go_upto_region 1 with fail
 refine wp_world (fun W => MIn B W a P s (boxOb W0.heap.size #[.int .u8 i.op, .int .i64 i.a, .int .i64 i.b, .int .i64 i.c, .int .u64 i.i] :: l) ∧ Below B W0 W) h2.out ?_
 rintro W ⟨h, hB⟩
 replace h := Hz.mk h
 replace hB := Hz.mk hB
 clear h2
 generalize W0.heap.size = kb at *
 have KS := xk1 i kb
 have q0 : W.cell? ⟨kb, 0, none⟩ = some (.int .u8 i.op) := (h.out.there (boxOb kb #[.int .u8 i.op, .int .i64 i.a, .int .i64 i.b, .int .i64 i.c, .int .u64 i.i]) (.head _)).2.1 0
 have q1 : W.cell? ⟨kb, 1, none⟩ = some (.int .i64 i.a) := (h.out.there (boxOb kb #[.int .u8 i.op, .int .i64 i.a, .int .i64 i.b, .int .i64 i.c, .int .u64 i.i]) (.head _)).2.1 1
 have q2 : W.cell? ⟨kb, 2, none⟩ = some (.int .i64 i.b) := (h.out.there (boxOb kb #[.int .u8 i.op, .int .i64 i.a, .int .i64 i.b, .int .i64 i.c, .int .u64 i.i]) (.head _)).2.1 2
 have q3 : W.cell? ⟨kb, 3, none⟩ = some (.int .i64 i.c) := (h.out.there (boxOb kb #[.int .u8 i.op, .int .i64 i.a, .int .i64 i.b, .int .i64 i.c, .int .u64 i.i]) (.head _)).2.1 3
 have q4 : W.cell? ⟨kb, 4, none⟩ = some (.int .u64 i.i) := (h.out.there (boxOb kb #[.int .u8 i.op, .int .i64 i.a, .int .i64 i.b, .int .i64 i.c, .int .u64 i.i]) (.head _)).2.1 4
 go_wp2_with fail
 refine (hc.out _ h.out).mono ?_
 rintro r V2 ⟨rfl, h2, hB2⟩
 replace hB : Hz (Below B W0 V2) := Hz.mk (hB.out.trans hB2)
 clear hB2
 replace h2 := Hz.mk h2
 clear h hc
 go_wp2_with fail
 first | go_end0 | ((try simp only [Exit.inBlock, Exit.then]); refine bodyPost_ret (results_none rfl _ _ _) rfl ?_)
 exact ⟨rfl, h2.out.drop, hB.out⟩
theorem loadWord_ok (B : Nat) (W0 : World) (a : Nat) (P : Pr) (s : Fm) (l : List Ob) (i : Fi) (h : MIn B W0 a P s l) (ha : i.a < 16) (hb : i.b < 16) (hq9 : IntKind.u64.wrap (s.r i.b + i.i) ≤ 65536 - 8) (hl : s.tc.length ≤ 1000000) (hp : s.p ≤ 1000000) :
   Calls Tryz.prog 99 #[.agg #[.int .u8 i.op, .int .i64 i.a, .int .i64 i.b, .int .i64 i.c, .int .u64 i.i], .pointer (some ⟨a, 0, none⟩)] W0 fun x w' => x = .returned (.tuple #[]) ∧ MIn B w' a P { s with tc := s.tc ++ [⟨false, IntKind.u64.wrap (s.r i.b + i.i), 8⟩], r := updR s.r i.a (T.ldV s.m (IntKind.u64.wrap (s.r i.b + i.i)).toNat 8 : Nat), p := s.p + 1 } l ∧ Below B W0 w' := by
 have hc := Hz.mk (fun W (g : MIn B W a P s (boxOb W0.heap.size #[.int .u8 i.op, .int .i64 i.a, .int .i64 i.b, .int .i64 i.c, .int .u64 i.i] :: l)) => load8_ok B W a P s _ i g ha hb hq9 hl hp)
 have h2 := Hz.mk (h.new #[.int .u8 i.op, .int .i64 i.a, .int .i64 i.b, .int .i64 i.c, .int .u64 i.i] 101)
 clear h
 go_enter Tryz.func99, Tryz.ntmps99
 go_upto_region 1 with fail
 refine wp_world (fun W => MIn B W a P s (boxOb W0.heap.size #[.int .u8 i.op, .int .i64 i.a, .int .i64 i.b, .int .i64 i.c, .int .u64 i.i] :: l) ∧ Below B W0 W) h2.out ?_
 rintro W ⟨h, hB⟩
 replace h := Hz.mk h
 replace hB := Hz.mk hB
 clear h2
 generalize W0.heap.size = kb at *
 have KS := xk1 i kb
 have q0 : W.cell? ⟨kb, 0, none⟩ = some (.int .u8 i.op) := (h.out.there (boxOb kb #[.int .u8 i.op, .int .i64 i.a, .int .i64 i.b, .int .i64 i.c, .int .u64 i.i]) (.head _)).2.1 0
 have q1 : W.cell? ⟨kb, 1, none⟩ = some (.int .i64 i.a) := (h.out.there (boxOb kb #[.int .u8 i.op, .int .i64 i.a, .int .i64 i.b, .int .i64 i.c, .int .u64 i.i]) (.head _)).2.1 1
 have q2 : W.cell? ⟨kb, 2, none⟩ = some (.int .i64 i.b) := (h.out.there (boxOb kb #[.int .u8 i.op, .int .i64 i.a, .int .i64 i.b, .int .i64 i.c, .int .u64 i.i]) (.head _)).2.1 2
 have q3 : W.cell? ⟨kb, 3, none⟩ = some (.int .i64 i.c) := (h.out.there (boxOb kb #[.int .u8 i.op, .int .i64 i.a, .int .i64 i.b, .int .i64 i.c, .int .u64 i.i]) (.head _)).2.1 3
 have q4 : W.cell? ⟨kb, 4, none⟩ = some (.int .u64 i.i) := (h.out.there (boxOb kb #[.int .u8 i.op, .int .i64 i.a, .int .i64 i.b, .int .i64 i.c, .int .u64 i.i]) (.head _)).2.1 4
 go_wp2_with fail
 refine (hc.out _ h.out).mono ?_
 rintro r V2 ⟨rfl, h2, hB2⟩
 replace hB : Hz (Below B W0 V2) := Hz.mk (hB.out.trans hB2)
 clear hB2
 replace h2 := Hz.mk h2
 clear h hc
 go_wp2_with fail
 first | go_end0 | ((try simp only [Exit.inBlock, Exit.then]); refine bodyPost_ret (results_none rfl _ _ _) rfl ?_)
 exact ⟨rfl, h2.out.drop, hB.out⟩
theorem loadGranule_bad (B : Nat) (W0 : World) (a : Nat) (P : Pr) (s : Fm) (l : List Ob) (i : Fi) (h : MIn B W0 a P s l) (hb : i.b < 16) (hq9 : 65536 - 16 < IntKind.u64.wrap (s.r i.b + i.i)) :
   Calls Tryz.prog 102 #[.agg #[.int .u8 i.op, .int .i64 i.a, .int .i64 i.b, .int .i64 i.c, .int .u64 i.i], .pointer (some ⟨a, 0, none⟩)] W0 fun x w' => x = .returned (.tuple #[]) ∧ MIn B w' a P { s with e := 7, v := 0, f := 5 } l ∧ Below B W0 w' := by
 have hc := Hz.mk (fun W (g : MIn B W a P s (boxOb W0.heap.size #[.int .u8 i.op, .int .i64 i.a, .int .i64 i.b, .int .i64 i.c, .int .u64 i.i] :: l)) => load16_bad B W a P s _ i g hb hq9)
 have h2 := Hz.mk (h.new #[.int .u8 i.op, .int .i64 i.a, .int .i64 i.b, .int .i64 i.c, .int .u64 i.i] 101)
 clear h
 go_enter Tryz.func102, Tryz.ntmps102
 go_upto_region 1 with fail
 refine wp_world (fun W => MIn B W a P s (boxOb W0.heap.size #[.int .u8 i.op, .int .i64 i.a, .int .i64 i.b, .int .i64 i.c, .int .u64 i.i] :: l) ∧ Below B W0 W) h2.out ?_
 rintro W ⟨h, hB⟩
 replace h := Hz.mk h
 replace hB := Hz.mk hB
 clear h2
 generalize W0.heap.size = kb at *
 have KS := xk1 i kb
 have q0 : W.cell? ⟨kb, 0, none⟩ = some (.int .u8 i.op) := (h.out.there (boxOb kb #[.int .u8 i.op, .int .i64 i.a, .int .i64 i.b, .int .i64 i.c, .int .u64 i.i]) (.head _)).2.1 0
 have q1 : W.cell? ⟨kb, 1, none⟩ = some (.int .i64 i.a) := (h.out.there (boxOb kb #[.int .u8 i.op, .int .i64 i.a, .int .i64 i.b, .int .i64 i.c, .int .u64 i.i]) (.head _)).2.1 1
 have q2 : W.cell? ⟨kb, 2, none⟩ = some (.int .i64 i.b) := (h.out.there (boxOb kb #[.int .u8 i.op, .int .i64 i.a, .int .i64 i.b, .int .i64 i.c, .int .u64 i.i]) (.head _)).2.1 2
 have q3 : W.cell? ⟨kb, 3, none⟩ = some (.int .i64 i.c) := (h.out.there (boxOb kb #[.int .u8 i.op, .int .i64 i.a, .int .i64 i.b, .int .i64 i.c, .int .u64 i.i]) (.head _)).2.1 3
 have q4 : W.cell? ⟨kb, 4, none⟩ = some (.int .u64 i.i) := (h.out.there (boxOb kb #[.int .u8 i.op, .int .i64 i.a, .int .i64 i.b, .int .i64 i.c, .int .u64 i.i]) (.head _)).2.1 4
 go_wp2_with fail
 refine (hc.out _ h.out).mono ?_
 rintro r V2 ⟨rfl, h2, hB2⟩
 replace hB : Hz (Below B W0 V2) := Hz.mk (hB.out.trans hB2)
 clear hB2
 replace h2 := Hz.mk h2
 clear h hc
 go_wp2_with fail
 first | go_end0 | ((try simp only [Exit.inBlock, Exit.then]); refine bodyPost_ret (results_none rfl _ _ _) rfl ?_)
 exact ⟨rfl, h2.out.drop, hB.out⟩
theorem loadGranule_ok (B : Nat) (W0 : World) (a : Nat) (P : Pr) (s : Fm) (l : List Ob) (i : Fi) (h : MIn B W0 a P s l) (ha : i.a < 16) (hb : i.b < 16) (hq9 : IntKind.u64.wrap (s.r i.b + i.i) ≤ 65536 - 16) (hl : s.tc.length ≤ 1000000) (hp : s.p ≤ 1000000) :
   Calls Tryz.prog 102 #[.agg #[.int .u8 i.op, .int .i64 i.a, .int .i64 i.b, .int .i64 i.c, .int .u64 i.i], .pointer (some ⟨a, 0, none⟩)] W0 fun x w' => x = .returned (.tuple #[]) ∧ MIn B w' a P { s with tc := s.tc ++ [⟨false, IntKind.u64.wrap (s.r i.b + i.i), 16⟩], r := updR s.r i.a (T.ldV s.m (IntKind.u64.wrap (s.r i.b + i.i)).toNat 8 : Nat), p := s.p + 1 } l ∧ Below B W0 w' := by
 have hc := Hz.mk (fun W (g : MIn B W a P s (boxOb W0.heap.size #[.int .u8 i.op, .int .i64 i.a, .int .i64 i.b, .int .i64 i.c, .int .u64 i.i] :: l)) => load16_ok B W a P s _ i g ha hb hq9 hl hp)
 have h2 := Hz.mk (h.new #[.int .u8 i.op, .int .i64 i.a, .int .i64 i.b, .int .i64 i.c, .int .u64 i.i] 101)
 clear h
 go_enter Tryz.func102, Tryz.ntmps102
 go_upto_region 1 with fail
 refine wp_world (fun W => MIn B W a P s (boxOb W0.heap.size #[.int .u8 i.op, .int .i64 i.a, .int .i64 i.b, .int .i64 i.c, .int .u64 i.i] :: l) ∧ Below B W0 W) h2.out ?_
 rintro W ⟨h, hB⟩
 replace h := Hz.mk h
 replace hB := Hz.mk hB
 clear h2
 generalize W0.heap.size = kb at *
 have KS := xk1 i kb
 have q0 : W.cell? ⟨kb, 0, none⟩ = some (.int .u8 i.op) := (h.out.there (boxOb kb #[.int .u8 i.op, .int .i64 i.a, .int .i64 i.b, .int .i64 i.c, .int .u64 i.i]) (.head _)).2.1 0
 have q1 : W.cell? ⟨kb, 1, none⟩ = some (.int .i64 i.a) := (h.out.there (boxOb kb #[.int .u8 i.op, .int .i64 i.a, .int .i64 i.b, .int .i64 i.c, .int .u64 i.i]) (.head _)).2.1 1
 have q2 : W.cell? ⟨kb, 2, none⟩ = some (.int .i64 i.b) := (h.out.there (boxOb kb #[.int .u8 i.op, .int .i64 i.a, .int .i64 i.b, .int .i64 i.c, .int .u64 i.i]) (.head _)).2.1 2
 have q3 : W.cell? ⟨kb, 3, none⟩ = some (.int .i64 i.c) := (h.out.there (boxOb kb #[.int .u8 i.op, .int .i64 i.a, .int .i64 i.b, .int .i64 i.c, .int .u64 i.i]) (.head _)).2.1 3
 have q4 : W.cell? ⟨kb, 4, none⟩ = some (.int .u64 i.i) := (h.out.there (boxOb kb #[.int .u8 i.op, .int .i64 i.a, .int .i64 i.b, .int .i64 i.c, .int .u64 i.i]) (.head _)).2.1 4
 go_wp2_with fail
 refine (hc.out _ h.out).mono ?_
 rintro r V2 ⟨rfl, h2, hB2⟩
 replace hB : Hz (Below B W0 V2) := Hz.mk (hB.out.trans hB2)
 clear hB2
 replace h2 := Hz.mk h2
 clear h hc
 go_wp2_with fail
 first | go_end0 | ((try simp only [Exit.inBlock, Exit.then]); refine bodyPost_ret (results_none rfl _ _ _) rfl ?_)
 exact ⟨rfl, h2.out.drop, hB.out⟩
end Z
end Go.Proofs.YthfphgjjieddjaaGreat
