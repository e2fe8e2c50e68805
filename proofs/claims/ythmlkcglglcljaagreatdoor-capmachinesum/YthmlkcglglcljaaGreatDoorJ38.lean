import Derived.Test.YthmlkcglglcljaaGreatDoorJ37
namespace Go.Proofs.YthmlkcglglcljaaGreatDoor
set_option maxRecDepth 100000
set_option maxHeartbeats 40000000
namespace C
open Go.RowKit
open T (Sep Ob Kp Mf TgIn boxOb Fm Tc Ed Vl Cp Bx tgOb mRow mRow_idx mRow_tail mRow_at updV flt ofI ofI_agg capability_any)

theorem steer25 (B : Nat) (W0 : World) (a : Nat) (P : PImg) (s : Ms) (l : List Ob) (A B_ C_ : Nat) (m : Int) (h : MIn B W0 a P s l) (hP : POk P) (hg : s.at_.gate < P.gates.length) (hA : A < 16) (hp : s.at_.pc < 1000000000) (hm : 0 ≤ m ∧ m < (codeOf P (kOf P s.at_.gate)).length) :
   Calls Tryz.prog 73 #[.pointer (some ⟨a, 0, none⟩), insA 25 A B_ C_ m] W0 fun x w' => Dv B W0 a P s l (.ok (s.put A (ofC (ccap P (kOf P s.at_.gate) m.toNat))).next) x w' := by
 have h2 := Hz.mk (h.new #[.int .u8 25, .int .i64 A, .int .i64 B_, .int .i64 C_, .int .i64 m] 56)
 have hCd := Hz.mk (fun X l' (q : MIn B X a P s l') => codeCap_any B a P s l' X q hP hg m.toNat (by omega))
 rw [show ((m.toNat : Nat) : Int) = m by omega] at hCd
 generalize ccap P (kOf P s.at_.gate) m.toNat = d at *
 have hLy := Hz.mk (fun X l' (q : MIn B X a P s l') => lay_any B a A (ofC d) P _ _ X q hA hp)
 have hc2 := Hz.mk (fun X => (capability_any d.b d.e d.c d.p d.s X).mono (R' := fun x w' => x = .returned (.agg #[.bool true, .int .u64 0, .int .u64 d.b, .int .u64 d.e, .int .u64 d.c, .int .u8 d.p, .int .i64 d.s]) ∧ Bl X w') (by rintro x w' ⟨rfl, rfl⟩; exact ⟨rfl, ((Bl.refl _).alloc _).alloc _⟩))
 unfold Cp.val at hCd
 have e0 : (ofC d).agg = .agg #[.bool true, .int .u64 0, .int .u64 d.b, .int .u64 d.e, .int .u64 d.c, .int .u8 d.p, .int .i64 d.s] := rfl
 rw [e0] at hLy
 clear h e0 hm
 simp only [Dv]
 unfold insA
 go_enter Tryz.func73, Tryz.ntmps73
 go_upto_region 1 with fail
 refine wp_world (fun W => MIn B W a P s (boxOb W0.heap.size #[.int .u8 25, .int .i64 A, .int .i64 B_, .int .i64 C_, .int .i64 m] :: l) ∧ Below B W0 W) h2.out ?_
 clear h2
 rintro W ⟨h, hB⟩
 generalize W0.heap.size = kb at *
 have ⟨_, p0, _⟩ := h.there (boxOb kb #[.int .u8 25, .int .i64 A, .int .i64 B_, .int .i64 C_, .int .i64 m]) (.head _)
 replace h := Hz.mk h
 replace hB := Hz.mk hB
 go_upto_region 10 with fail
 clear p0
 replace hB := Hz.mk (hB.out.trans (h.out.bl (Bl.refl W).drew).2)
 replace h := Hz.mk (h.out.bl (Bl.refl W).drew).1
 refine wp_region_held_drew (S := (fun X => X.cell? ⟨kb, 1, none⟩ = some (.int .i64 A) ∧ X.cell? ⟨kb, 4, none⟩ = some (.int .i64 m))) (by kernel_rfl) (⟨(h.out.there (boxOb kb #[.int .u8 25, .int .i64 A, .int .i64 B_, .int .i64 C_, .int .i64 m]) (.head _)).2.1 1, (h.out.there (boxOb kb #[.int .u8 25, .int .i64 A, .int .i64 B_, .int .i64 C_, .int .i64 m]) (.head _)).2.1 4⟩) (fun hHeld => ?_)
 generalize W.drew = X0 at *
 refine xso 0 ?_ rfl ?_ (xso 1 ?_ rfl ?_ (xso 2 ?_ rfl ?_ (xso 3 ?_ rfl ?_ (xso 4 ?_ rfl ?_ (xso 5 ?_ rfl ?_ ?_)))))
 iterate 6 (rotate_left; focus ((try simp only [xap]); intro w hSw; (try dsimp only at hSw); go_simp; first | done | with_reducible rfl))
 try simp only [xap]
 refine xrd 6 rfl (fun K hK => ?_)
 go_simp
 go_wp2_with (refine (hCd.out _ _ h.out).mono ?_; rintro r Y1 ⟨rfl, e1⟩; replace hB := Hz.mk (hB.out.trans (h.out.bl e1).2); replace h := Hz.mk (h.out.bl e1).1; clear e1 hHeld)
 refine hK.out _ _ ⟨(h.out.there (boxOb kb #[.int .u8 25, .int .i64 A, .int .i64 B_, .int .i64 C_, .int .i64 m]) (.head _)).2.1 1, (h.out.there (boxOb kb #[.int .u8 25, .int .i64 A, .int .i64 B_, .int .i64 C_, .int .i64 m]) (.head _)).2.1 4⟩ (fun hHeld => ?_)
 clear hK K
 try simp only [xap]
 refine xrd 7 rfl (fun K hK => ?_)
 go_simp
 go_wp2_with (refine (hc2.out _).mono ?_; rintro r Y2 ⟨rfl, e1⟩; replace hB := Hz.mk (hB.out.trans (h.out.bl e1).2); replace h := Hz.mk (h.out.bl e1).1; clear e1 hHeld)
 refine hK.out _ _ ⟨(h.out.there (boxOb kb #[.int .u8 25, .int .i64 A, .int .i64 B_, .int .i64 C_, .int .i64 m]) (.head _)).2.1 1, (h.out.there (boxOb kb #[.int .u8 25, .int .i64 A, .int .i64 B_, .int .i64 C_, .int .i64 m]) (.head _)).2.1 4⟩ (fun hHeld => ?_)
 clear hK K
 try simp only [xap]
 refine xrd 8 rfl (fun K hK => ?_)
 go_simp
 go_wp2_with (refine (hLy.out _ _ h.out).mono ?_; rintro r Y3 ⟨rfl, h6, hB6⟩; replace hB := Hz.mk (hB.out.trans hB6); replace h := Hz.mk h6; clear h6 hB6 hHeld)
 refine hK.out _ _ ⟨(h.out.there (boxOb kb #[.int .u8 25, .int .i64 A, .int .i64 B_, .int .i64 C_, .int .i64 m]) (.head _)).2.1 1, (h.out.there (boxOb kb #[.int .u8 25, .int .i64 A, .int .i64 B_, .int .i64 C_, .int .i64 m]) (.head _)).2.1 4⟩ (fun hHeld => ?_)
 clear hK K
 try simp only [xap]
 refine xdn ?_ _
 clear hHeld
 go_wp2_with fail
 first | go_end0 | ((try simp only [Exit.inBlock, Exit.then]); refine bodyPost_ret (results_none rfl _ _ _) rfl ?_)
 exact ⟨rfl, h.out.drop, hB.out⟩
theorem steer26 (B : Nat) (W0 : World) (a : Nat) (P : PImg) (s : Ms) (l : List Ob) (A B_ C_ : Nat) (m : Int) (h : MIn B W0 a P s l) (hP : POk P) (hg : s.at_.gate < P.gates.length) (hA : A < 16) :
   Calls Tryz.prog 73 #[.pointer (some ⟨a, 0, none⟩), insA 26 A B_ C_ m] W0 fun x w' => Dv B W0 a P s l (goR s (tgtR P (kOf P s.at_.gate) (s.at_.regs A))) x w' := by
 have h2 := Hz.mk (h.new #[.int .u8 26, .int .i64 A, .int .i64 B_, .int .i64 C_, .int .i64 m] 56)
 have hTg := Hz.mk (fun X l' (q : MIn B X a P s l') => target_any B a P s l' (s.at_.regs A).c X q hP hg)
 rw [tgtR_eq]
 cases hq : (s.at_.regs A).g with
 | false =>
   have hHd := Hz.mk (fun X l' (q : MIn B X a P s l') => held_badB a A (s.at_.regs A) X (q.rg A hA) hq)
   rw [if_neg (by decide)]
   simp only [goR, Dv, pan] at hHd ⊢
   clear hTg hq
   unfold insA
   go_enter Tryz.func73, Tryz.ntmps73
   go_upto_region 1 with fail
   refine wp_world (fun W => MIn B W a P s (boxOb W0.heap.size #[.int .u8 26, .int .i64 A, .int .i64 B_, .int .i64 C_, .int .i64 m] :: l) ∧ Below B W0 W) h2.out ?_
   clear h2
   rintro W ⟨h, hB⟩
   generalize W0.heap.size = kb at *
   have ⟨_, p0, _⟩ := h.there (boxOb kb #[.int .u8 26, .int .i64 A, .int .i64 B_, .int .i64 C_, .int .i64 m]) (.head _)
   replace h := Hz.mk h
   replace hB := Hz.mk hB
   go_upto_region 12 with fail
   go_wp2_with (refine (hHd.out _ _ h.out).mono ?_; rintro r X1 ⟨rfl, e1⟩)
   exact ⟨rfl, rfl, (h.out.bl e1).1.drop, hB.out.trans (h.out.bl e1).2⟩
 | true =>
   have hHd := Hz.mk (fun X l' (q : MIn B X a P s l') => held_okB a A (s.at_.regs A) X (q.rg A hA) hq)
   rw [if_pos rfl]
   clear hq h
   generalize (s.at_.regs A).c = c at *
   unfold Cp.val at hHd hTg
   cases hq : tgtC P (kOf P s.at_.gate) c with
   | error e =>
     rw [hq] at hTg
     simp only [NtV, goR, Dv, pan] at hTg ⊢
     clear hq
     unfold insA
     go_enter Tryz.func73, Tryz.ntmps73
     go_upto_region 1 with fail
     refine wp_world (fun W => MIn B W a P s (boxOb W0.heap.size #[.int .u8 26, .int .i64 A, .int .i64 B_, .int .i64 C_, .int .i64 m] :: l) ∧ Below B W0 W) h2.out ?_
     clear h2
     rintro W ⟨h, hB⟩
     generalize W0.heap.size = kb at *
     have ⟨_, p0, _⟩ := h.there (boxOb kb #[.int .u8 26, .int .i64 A, .int .i64 B_, .int .i64 C_, .int .i64 m]) (.head _)
     replace h := Hz.mk h
     replace hB := Hz.mk hB
     go_upto_region 12 with fail
     go_wp2_with fail
     refine (hHd.out _ _ h.out).mono ?_
     rintro r X1 ⟨rfl, e1⟩
     replace hB := Hz.mk (hB.out.trans (h.out.bl e1).2)
     replace h := Hz.mk (h.out.bl e1).1
     clear e1 p0
     go_wp2_with (refine (hTg.out _ _ h.out).mono ?_; rintro r X2 ⟨rfl, h3, hB3⟩)
     exact ⟨rfl, rfl, h3.drop, hB.out.trans hB3⟩
   | ok k =>
     rw [hq] at hTg
     simp only [NtV, goR, Dv] at hTg ⊢
     clear hq
     unfold insA
     go_enter Tryz.func73, Tryz.ntmps73
     go_upto_region 1 with fail
     refine wp_world (fun W => MIn B W a P s (boxOb W0.heap.size #[.int .u8 26, .int .i64 A, .int .i64 B_, .int .i64 C_, .int .i64 m] :: l) ∧ Below B W0 W) h2.out ?_
     clear h2
     rintro W ⟨h, hB⟩
     generalize W0.heap.size = kb at *
     have ⟨_, p0, _⟩ := h.there (boxOb kb #[.int .u8 26, .int .i64 A, .int .i64 B_, .int .i64 C_, .int .i64 m]) (.head _)
     replace h := Hz.mk h
     replace hB := Hz.mk hB
     go_upto_region 12 with fail
     go_wp2_with fail
     refine (hHd.out _ _ h.out).mono ?_
     rintro r X1 ⟨rfl, e1⟩
     replace hB := Hz.mk (hB.out.trans (h.out.bl e1).2)
     replace h := Hz.mk (h.out.bl e1).1
     clear e1 p0
     go_wp2_with fail
     refine (hTg.out _ _ h.out).mono ?_
     rintro r X2 ⟨rfl, h3, hB3⟩
     replace hB := Hz.mk (hB.out.trans hB3)
     obtain ⟨_, c6, _, _, _, fr⟩ := h3.cell
     have hlt := h3.alt
     have hq := Hz.mk (h3.setPc k)
     clear h3 h hB3
     go_wp2_with fail
     first | go_end0 | ((try simp only [Exit.inBlock, Exit.then]); refine bodyPost_ret (results_none rfl _ _ _) rfl ?_)
     exact ⟨rfl, hq.out.1.drop, hB.out.trans hq.out.2⟩
theorem MIn.pushO {B : Nat} {W : World} {a : Nat} {P : PImg} {s : Ms} {l : List Ob} (h : MIn B W a P s l) (n : Nat) (cs : Array Value) (kb : Nat) (hkb : boxOb kb cs ∈ l) : ∃ ta tk, W.cell? ⟨a, 121, none⟩ = some (.slice ta s.out.length tk) ∧ (∀ V, Bl W V → V.ownsRow B 32 1 (.slice ta s.out.length tk) s.out.length (s.out.map u64I)) ∧ ∀ V W2 g cap, Bl W V → W2.ownsRow B 32 1 (.slice (some ⟨g, 0, none⟩) (s.out.length + 1) cap) (s.out.length + 1) (s.out.map u64I ++ [Value.int .u64 (n : Int)]) → V.grownBy W2 (Value.slice ta s.out.length tk).ownBlock → ((Value.slice ta s.out.length tk).ownBlock = some g ∨ g = V.heap.size) →
   (∃ u, W2.cell? ⟨a, 121, none⟩ = some u) ∧ W2.frozen? ⟨a, 121, none⟩ = false ∧ At W2 kb cs ∧ MIn B (W2.setCell ⟨a, 121, none⟩ (.slice (some ⟨g, 0, none⟩) (s.out.length + 1) cap)) a P { s with out := s.out ++ [(n : Int)] } l ∧ Below B W (W2.setCell ⟨a, 121, none⟩ (.slice (some ⟨g, 0, none⟩) (s.out.length + 1) cap)) := by
 obtain ⟨⟨q, h1, hpg⟩, le⟩ := h
 have hb : Bx W a (rowOf P s q) := h1.ins (bx_ a (rowOf P s q)) (by simp [obs])
 have hO : W.ownsRow B 32 1 q.ov_ s.out.length (s.out.map u64I) := h1.ins (ouOb B q.ov_ s.out) (by simp [obs])
 obtain ⟨ta, tk, etv⟩ := own_slZ hO
 refine ⟨ta, tk, by rw [← etv]; exact hb.at_ 121 _ (mRow_at 2), fun V g => by rw [← etv]; exact own_keep hO (Kp.of_below (S := fun _ => False) g) (fun _ _ r => r), fun V W2 g cap g1 k1 k2 k3 => ?_⟩
 rw [← etv] at k2 k3
 have r := MIn.app_out (n : Int) (h1.gr g1) hpg (Nat.le_trans le g1.size) k1 k2 k3
 exact ⟨⟨_, r.1.at_ 121 _ (mRow_at 2)⟩, r.1.fr 121, r.2.1 _ hkb, r.2.2.1, (Below.mono g1 le).trans r.2.2.2⟩
theorem steer30 (B : Nat) (W0 : World) (a : Nat) (P : PImg) (s : Ms) (l : List Ob) (A B_ C_ : Nat) (m : Int) (h : MIn B W0 a P s l) (hA : A < 16) (hp : s.at_.pc < 1000000000) (hl : s.out.length ≤ 1000000) :
   Calls Tryz.prog 73 #[.pointer (some ⟨a, 0, none⟩), insA 30 A B_ C_ m] W0 fun x w' => Dv B W0 a P s l (outM s A) x w' := by
 have h2 := Hz.mk (h.new #[.int .u8 30, .int .i64 A, .int .i64 B_, .int .i64 C_, .int .i64 m] 56)
 unfold outM
 generalize hxs : s.out.map u64I = xs
 cases hq : (s.at_.regs A).g with
 | true =>
   have h1 := Hz.mk (fun X l' (q : MIn B X a P s l') => number_badB a A (s.at_.regs A) X (q.rg A hA) hq)
   rw [if_pos rfl]
   simp only [Dv, pan] at h1 ⊢
   generalize (s.at_.regs A).n = n at *
   clear hq h
   unfold insA
   go_enter Tryz.func73, Tryz.ntmps73
   go_upto_region 1 with fail
   refine wp_world (fun W => MIn B W a P s (boxOb W0.heap.size #[.int .u8 30, .int .i64 A, .int .i64 B_, .int .i64 C_, .int .i64 m] :: l) ∧ Below B W0 W) h2.out ?_
   clear h2
   rintro W ⟨h, hB⟩
   generalize W0.heap.size = kb at *
   have ⟨_, p0, _⟩ := h.there (boxOb kb #[.int .u8 30, .int .i64 A, .int .i64 B_, .int .i64 C_, .int .i64 m]) (.head _)
   replace h := Hz.mk h
   replace hB := Hz.mk hB
   go_upto_region 20 with fail
   clear p0
   generalize W = Y2 at *
   have hleY := h.out.le
   have halt := h.out.alt
   obtain ⟨ta, tk, c121, -, -⟩ := h.out.pushO 0 #[.int .u8 30, .int .i64 A, .int .i64 B_, .int .i64 C_, .int .i64 m] kb (.head _)
   have f0 : Bl Y2 Y2.drew := (Bl.refl Y2).drew
   refine wp_region_held_drew (S := (fun X => X.cell? ⟨kb, 1, none⟩ = some (.int .i64 A))) (by kernel_rfl) (((h.out.gr f0).there (boxOb kb #[.int .u8 30, .int .i64 A, .int .i64 B_, .int .i64 C_, .int .i64 m]) (.head _)).2.1 1) (fun hHeld => ?_)
   refine xso 0 ?_ rfl ?_ (xso 1 ?_ rfl ?_ (xso 2 ?_ rfl ?_ (xso 3 ?_ rfl ?_ (xso 5 ?_ rfl ?_ (xso 6 ?_ rfl ?_ (xso 7 ?_ rfl ?_ ?_))))))
   iterate 7 (rotate_left; focus ((try simp only [xap]); intro w hSw; (try dsimp only at hSw); go_simp; first | done | with_reducible rfl))
   try simp only [xap]
   refine wpAnyH_ready (rs := [4, 8]) (by kernel_rfl) (by simp) ?_
   refine (xcn rfl (fun K hK => ?_) (xcn rfl (fun K hK => ?_) AllReadyH.nil))
   · skip
     have c9 := (f0.cell (p := ⟨a, 121, none⟩) halt).trans c121
     go_simp
     clear hHeld
     refine hK.out _ _ (((h.out.gr f0).there (boxOb kb #[.int .u8 30, .int .i64 A, .int .i64 B_, .int .i64 C_, .int .i64 m]) (.head _)).2.1 1) (fun hHeld => ?_)
     clear hK K c9
     try simp only [xap]
     refine xrd 8 rfl (fun K hK => ?_)
     go_simp
     go_wp2_with (refine (h1.out _ _ (h.out.gr f0)).mono ?_; rintro r Y1 ⟨rfl, e1⟩)
     exact ⟨rfl, rfl, (h.out.gr (f0.trans e1)).drop, hB.out.trans (Below.mono (f0.trans e1) hleY)⟩
   · skip
     go_simp
     go_wp2_with (refine (h1.out _ _ (h.out.gr f0)).mono ?_; rintro r Y1 ⟨rfl, e1⟩)
     exact ⟨rfl, rfl, (h.out.gr (f0.trans e1)).drop, hB.out.trans (Below.mono (f0.trans e1) hleY)⟩
 | false =>
   have h1 := Hz.mk (fun X l' (q : MIn B X a P s l') => number_okB a A (s.at_.regs A) X (q.rg A hA) hq)
   rw [if_neg (by decide)]
   simp only [Dv]
   generalize (s.at_.regs A).n = n at *
   clear hq h
   unfold insA
   go_enter Tryz.func73, Tryz.ntmps73
   go_upto_region 1 with fail
   refine wp_world (fun W => MIn B W a P s (boxOb W0.heap.size #[.int .u8 30, .int .i64 A, .int .i64 B_, .int .i64 C_, .int .i64 m] :: l) ∧ Below B W0 W) h2.out ?_
   clear h2
   rintro W ⟨h, hB⟩
   generalize W0.heap.size = kb at *
   have ⟨_, p0, _⟩ := h.there (boxOb kb #[.int .u8 30, .int .i64 A, .int .i64 B_, .int .i64 C_, .int .i64 m]) (.head _)
   replace h := Hz.mk h
   replace hB := Hz.mk hB
   go_upto_region 20 with fail
   clear p0
   generalize W = Y2 at *
   have hleY := h.out.le
   have halt := h.out.alt
   obtain ⟨ta, tk, c121, hO2, hap⟩ := h.out.pushO n #[.int .u8 30, .int .i64 A, .int .i64 B_, .int .i64 C_, .int .i64 m] kb (.head _)
   rw [hxs] at hO2 hap
   replace hO2 := Hz.mk hO2
   replace hap := Hz.mk hap
   have f0 : Bl Y2 Y2.drew := (Bl.refl Y2).drew
   refine wp_region_held_drew (S := (fun X => X.cell? ⟨kb, 1, none⟩ = some (.int .i64 A))) (by kernel_rfl) (((h.out.gr f0).there (boxOb kb #[.int .u8 30, .int .i64 A, .int .i64 B_, .int .i64 C_, .int .i64 m]) (.head _)).2.1 1) (fun hHeld => ?_)
   refine xso 0 ?_ rfl ?_ (xso 1 ?_ rfl ?_ (xso 2 ?_ rfl ?_ (xso 3 ?_ rfl ?_ (xso 5 ?_ rfl ?_ (xso 6 ?_ rfl ?_ (xso 7 ?_ rfl ?_ ?_))))))
   iterate 7 (rotate_left; focus ((try simp only [xap]); intro w hSw; (try dsimp only at hSw); go_simp; first | done | with_reducible rfl))
   try simp only [xap]
   refine wpAnyH_ready (rs := [4, 8]) (by kernel_rfl) (by simp) ?_
   refine (xcn rfl (fun K hK => ?_) (xcn rfl (fun K hK => ?_) AllReadyH.nil))
   · skip
     have c9 := (f0.cell (p := ⟨a, 121, none⟩) halt).trans c121
     go_simp
     clear hHeld
     refine hK.out _ _ (((h.out.gr f0).there (boxOb kb #[.int .u8 30, .int .i64 A, .int .i64 B_, .int .i64 C_, .int .i64 m]) (.head _)).2.1 1) (fun hHeld => ?_)
     clear hK K c9
     try simp only [xap]
     refine xrd 8 rfl (fun K hK => ?_)
     go_simp
     go_wp2_with (refine (h1.out _ _ (h.out.gr f0)).mono ?_; rintro r Q1 ⟨rfl, e1⟩; have f1 := f0.trans e1; clear e1 f0 hHeld)
     refine hK.out _ _ (((h.out.gr f1).there (boxOb kb #[.int .u8 30, .int .i64 A, .int .i64 B_, .int .i64 C_, .int .i64 m]) (.head _)).2.1 1) (fun hHeld => ?_)
     clear hK K
     try simp only [xap]
     refine xrd 9 rfl (fun K hK => ?_)
     go_simp
     clear hHeld
     have hX : At (Q1.alloc (.cells #[.int .u64 (n : Int)] 32)) (Q1.heap.size) #[.int .u64 (n : Int)] := At.new Q1 _ _
     have f2 : Bl Y2 (Q1.alloc (.cells #[.int .u64 (n : Int)] 32)) := f1.alloc _
     generalize hVV : Q1.alloc (.cells #[.int .u64 (n : Int)] 32) = Q2 at *
     clear hVV f1
     obtain ⟨kX, hkX⟩ : ∃ kX, Q1.heap.size = kX := ⟨_, rfl⟩
     rw [hkX] at hX ⊢
     clear hkX
     replace hX := Hz.mk hX
     refine hK.out _ _ (((h.out.gr f2).there (boxOb kb #[.int .u8 30, .int .i64 A, .int .i64 B_, .int .i64 C_, .int .i64 m]) (.head _)).2.1 1) (fun hHeld => ?_)
     clear hK K
     try simp only [xap]
     refine xrd 10 rfl (fun K hK => ?_)
     refine wp_append_z _ _ 27 32 (.int .u64 0) 1 8 rfl Tryz.underlying27 (by kernel_rfl) (by kernel_rfl) (by decide) (by decide) B (.slice ta s.out.length tk) s.out.length xs [Value.int .u64 (n : Int)] (by rfl) (hO2.out Q2 f2) kX (by rfl) hX.out rfl (by simp [Value.oneCell']) hl (Nat.le_trans hleY f2.size) ?_
     intro g9 cap9 W9 k1 k2 k3
     obtain ⟨⟨u, cu⟩, fu, hR9, hM9, hBe⟩ := hap.out Q2 W9 g9 cap9 f2 k1 k2 k3
     replace hM9 := Hz.mk hM9
     replace hR9 := Hz.mk hR9
     clear k1 k2 k3 hHeld
     have hlt9 := World.block_lt_of_cell? W9 _ cu
     refine hK.out _ _ (hR9.out.2.1 1) (fun hHeld => ?_)
     clear hK K
     try simp only [xap]
     refine xso 11 ?_ rfl ?_ (xso 12 ?_ rfl ?_ ?_)
     iterate 2 (rotate_left; focus ((try simp only [xap]); intro w hSw; (try dsimp only at hSw); go_simp; first | done | with_reducible rfl))
     try simp only [xap]
     refine xrd 13 rfl (fun K hK => ?_)
     go_simp
     clear hHeld
     refine hK.out _ _ ((hM9.out.there (boxOb kb #[.int .u8 30, .int .i64 A, .int .i64 B_, .int .i64 C_, .int .i64 m]) (.head _)).2.1 1) (fun hHeld => ?_)
     clear hK K
     try simp only [Act.put]
     refine xdn ?_ _
     clear hHeld cu fu hR9 hlt9
     replace hB := Hz.mk (hB.out.trans hBe)
     generalize World.setCell _ _ _ = Y9 at *
     clear h hX hap hO2
     have hnx := Hz.mk (next_any B a P { s with out := s.out ++ [(n : Int)] } _ Y9 hM9.out hp)
     go_wp2_with fail
     refine hnx.out.mono ?_
     rintro r Y10 ⟨rfl, h, hB2⟩
     replace hB := Hz.mk (hB.out.trans hB2)
     replace h := Hz.mk h
     clear hB2 hM9 hnx
     go_wp2_with fail
     first | go_end0 | ((try simp only [Exit.inBlock, Exit.then]); refine bodyPost_ret (results_none rfl _ _ _) rfl ?_)
     exact ⟨rfl, h.out.drop, hB.out⟩
   · skip
     go_simp
     go_wp2_with (refine (h1.out _ _ (h.out.gr f0)).mono ?_; rintro r Q1 ⟨rfl, e1⟩; have f1 := f0.trans e1; clear e1 f0 hHeld)
     refine hK.out _ _ (((h.out.gr f1).there (boxOb kb #[.int .u8 30, .int .i64 A, .int .i64 B_, .int .i64 C_, .int .i64 m]) (.head _)).2.1 1) (fun hHeld => ?_)
     clear hK K
     try simp only [xap]
     refine wpAnyH_ready (rs := [4, 9]) (by kernel_rfl) (by simp) ?_
     refine (xcn rfl (fun K hK => ?_) (xcn rfl (fun K hK => ?_) AllReadyH.nil))
     · skip
       have c9 := (f1.cell (p := ⟨a, 121, none⟩) halt).trans c121
       go_simp
       clear hHeld
       refine hK.out _ _ (((h.out.gr f1).there (boxOb kb #[.int .u8 30, .int .i64 A, .int .i64 B_, .int .i64 C_, .int .i64 m]) (.head _)).2.1 1) (fun hHeld => ?_)
       clear hK K c9
       try simp only [xap]
       refine xrd 9 rfl (fun K hK => ?_)
       go_simp
       clear hHeld
       have hX : At (Q1.alloc (.cells #[.int .u64 (n : Int)] 32)) (Q1.heap.size) #[.int .u64 (n : Int)] := At.new Q1 _ _
       have f2 : Bl Y2 (Q1.alloc (.cells #[.int .u64 (n : Int)] 32)) := f1.alloc _
       generalize hVV : Q1.alloc (.cells #[.int .u64 (n : Int)] 32) = Q2 at *
       clear hVV f1
       obtain ⟨kX, hkX⟩ : ∃ kX, Q1.heap.size = kX := ⟨_, rfl⟩
       rw [hkX] at hX ⊢
       clear hkX
       replace hX := Hz.mk hX
       refine hK.out _ _ (((h.out.gr f2).there (boxOb kb #[.int .u8 30, .int .i64 A, .int .i64 B_, .int .i64 C_, .int .i64 m]) (.head _)).2.1 1) (fun hHeld => ?_)
       clear hK K
       try simp only [xap]
       refine xrd 10 rfl (fun K hK => ?_)
       refine wp_append_z _ _ 27 32 (.int .u64 0) 1 8 rfl Tryz.underlying27 (by kernel_rfl) (by kernel_rfl) (by decide) (by decide) B (.slice ta s.out.length tk) s.out.length xs [Value.int .u64 (n : Int)] (by rfl) (hO2.out Q2 f2) kX (by rfl) hX.out rfl (by simp [Value.oneCell']) hl (Nat.le_trans hleY f2.size) ?_
       intro g9 cap9 W9 k1 k2 k3
       obtain ⟨⟨u, cu⟩, fu, hR9, hM9, hBe⟩ := hap.out Q2 W9 g9 cap9 f2 k1 k2 k3
       replace hM9 := Hz.mk hM9
       replace hR9 := Hz.mk hR9
       clear k1 k2 k3 hHeld
       have hlt9 := World.block_lt_of_cell? W9 _ cu
       refine hK.out _ _ (hR9.out.2.1 1) (fun hHeld => ?_)
       clear hK K
       try simp only [xap]
       refine xso 11 ?_ rfl ?_ (xso 12 ?_ rfl ?_ ?_)
       iterate 2 (rotate_left; focus ((try simp only [xap]); intro w hSw; (try dsimp only at hSw); go_simp; first | done | with_reducible rfl))
       try simp only [xap]
       refine xrd 13 rfl (fun K hK => ?_)
       go_simp
       clear hHeld
       refine hK.out _ _ ((hM9.out.there (boxOb kb #[.int .u8 30, .int .i64 A, .int .i64 B_, .int .i64 C_, .int .i64 m]) (.head _)).2.1 1) (fun hHeld => ?_)
       clear hK K
       try simp only [Act.put]
       refine xdn ?_ _
       clear hHeld cu fu hR9 hlt9
       replace hB := Hz.mk (hB.out.trans hBe)
       generalize World.setCell _ _ _ = Y9 at *
       clear h hX hap hO2
       have hnx := Hz.mk (next_any B a P { s with out := s.out ++ [(n : Int)] } _ Y9 hM9.out hp)
       go_wp2_with fail
       refine hnx.out.mono ?_
       rintro r Y10 ⟨rfl, h, hB2⟩
       replace hB := Hz.mk (hB.out.trans hB2)
       replace h := Hz.mk h
       clear hB2 hM9 hnx
       go_wp2_with fail
       first | go_end0 | ((try simp only [Exit.inBlock, Exit.then]); refine bodyPost_ret (results_none rfl _ _ _) rfl ?_)
       exact ⟨rfl, h.out.drop, hB.out⟩
     · skip
       go_simp
       clear hHeld
       have hX : At (Q1.alloc (.cells #[.int .u64 (n : Int)] 32)) (Q1.heap.size) #[.int .u64 (n : Int)] := At.new Q1 _ _
       have f2 : Bl Y2 (Q1.alloc (.cells #[.int .u64 (n : Int)] 32)) := f1.alloc _
       generalize hVV : Q1.alloc (.cells #[.int .u64 (n : Int)] 32) = Q2 at *
       clear hVV f1
       obtain ⟨kX, hkX⟩ : ∃ kX, Q1.heap.size = kX := ⟨_, rfl⟩
       rw [hkX] at hX ⊢
       clear hkX
       replace hX := Hz.mk hX
       refine hK.out _ _ (((h.out.gr f2).there (boxOb kb #[.int .u8 30, .int .i64 A, .int .i64 B_, .int .i64 C_, .int .i64 m]) (.head _)).2.1 1) (fun hHeld => ?_)
       clear hK K
       try simp only [xap]
       refine xrd 4 rfl (fun K hK => ?_)
       have c9 := (f2.cell (p := ⟨a, 121, none⟩) halt).trans c121
       go_simp
       clear hHeld
       refine hK.out _ _ (((h.out.gr f2).there (boxOb kb #[.int .u8 30, .int .i64 A, .int .i64 B_, .int .i64 C_, .int .i64 m]) (.head _)).2.1 1) (fun hHeld => ?_)
       clear hK K c9
       try simp only [xap]
       refine xrd 10 rfl (fun K hK => ?_)
       refine wp_append_z _ _ 27 32 (.int .u64 0) 1 8 rfl Tryz.underlying27 (by kernel_rfl) (by kernel_rfl) (by decide) (by decide) B (.slice ta s.out.length tk) s.out.length xs [Value.int .u64 (n : Int)] (by rfl) (hO2.out Q2 f2) kX (by rfl) hX.out rfl (by simp [Value.oneCell']) hl (Nat.le_trans hleY f2.size) ?_
       intro g9 cap9 W9 k1 k2 k3
       obtain ⟨⟨u, cu⟩, fu, hR9, hM9, hBe⟩ := hap.out Q2 W9 g9 cap9 f2 k1 k2 k3
       replace hM9 := Hz.mk hM9
       replace hR9 := Hz.mk hR9
       clear k1 k2 k3 hHeld
       have hlt9 := World.block_lt_of_cell? W9 _ cu
       refine hK.out _ _ (hR9.out.2.1 1) (fun hHeld => ?_)
       clear hK K
       try simp only [xap]
       refine xso 11 ?_ rfl ?_ (xso 12 ?_ rfl ?_ ?_)
       iterate 2 (rotate_left; focus ((try simp only [xap]); intro w hSw; (try dsimp only at hSw); go_simp; first | done | with_reducible rfl))
       try simp only [xap]
       refine xrd 13 rfl (fun K hK => ?_)
       go_simp
       clear hHeld
       refine hK.out _ _ ((hM9.out.there (boxOb kb #[.int .u8 30, .int .i64 A, .int .i64 B_, .int .i64 C_, .int .i64 m]) (.head _)).2.1 1) (fun hHeld => ?_)
       clear hK K
       try simp only [Act.put]
       refine xdn ?_ _
       clear hHeld cu fu hR9 hlt9
       replace hB := Hz.mk (hB.out.trans hBe)
       generalize World.setCell _ _ _ = Y9 at *
       clear h hX hap hO2
       have hnx := Hz.mk (next_any B a P { s with out := s.out ++ [(n : Int)] } _ Y9 hM9.out hp)
       go_wp2_with fail
       refine hnx.out.mono ?_
       rintro r Y10 ⟨rfl, h, hB2⟩
       replace hB := Hz.mk (hB.out.trans hB2)
       replace h := Hz.mk h
       clear hB2 hM9 hnx
       go_wp2_with fail
       first | go_end0 | ((try simp only [Exit.inBlock, Exit.then]); refine bodyPost_ret (results_none rfl _ _ _) rfl ?_)
       exact ⟨rfl, h.out.drop, hB.out⟩
end C
end Go.Proofs.YthmlkcglglcljaaGreatDoor


namespace Go.Proofs.YthmlkcglglcljaaGreatDoor
namespace C
open Go.RowKit
open T (Sep Ob Kp Mf TgIn boxOb Fm Tc Ed Vl Cp Bx tgOb mRow updV flt ofI)

theorem ins_agg (P : PImg) (k : Nat) (i : Ins) (hi : IOk P k i) : i.agg = insA i.op i.a.toNat i.b.toNat i.c.toNat i.m := by
 have h1 := hi.ra
 have h2 := hi.rb
 have h3 := hi.rc
 unfold Ins.agg insA
 rw [Int.toNat_of_nonneg h1.1, Int.toNat_of_nonneg h2.1, Int.toNat_of_nonneg h3.1]
section
variable (B : Nat) (W0 : World) (a : Nat) (P : PImg) (s : Ms) (l : List Ob) (n : Nat)
theorem steer_any (hP : POk P) (h : MIn B W0 a P s l) (ok : Okm P n s) (hn : n ≤ 1000000) (op : Int) (A B_ C_ : Nat) (m : Int) (hA : A < 16) (hB : B_ < 16) (hop : 20 ≤ op ∧ op ≤ 32) (hp : s.at_.pc < 1000000000)
   (tg : 20 ≤ op ∧ op ≤ 25 → 0 ≤ m ∧ m < (codeOf P (kOf P s.at_.gate)).length) (cl : op = 31 → 0 ≤ m ∧ m < P.gates.length) :
   Calls Tryz.prog 73 #[.pointer (some ⟨a, 0, none⟩), insA op A B_ C_ m] W0 fun x w' => Dv B W0 a P s l (strM P s op A B_ m) x w' := by
 have hg := ok.f.g
 have hst : s.st.length ≤ 1000000 := by have := ok.dp; have := hP.dp; omega
 have ho : op = 20 ∨ op = 21 ∨ op = 22 ∨ op = 23 ∨ op = 24 ∨ op = 25 ∨ op = 26 ∨ op = 27 ∨ op = 28 ∨ op = 29 ∨ op = 30 ∨ op = 31 ∨ op = 32 := by omega
 rcases ho with rfl | rfl | rfl | rfl | rfl | rfl | rfl | rfl | rfl | rfl | rfl | rfl | rfl
 · obtain ⟨t1, _⟩ := tg (by decide)
   obtain ⟨k, rfl⟩ : ∃ k : Nat, m = k := ⟨m.toNat, by omega⟩
   exact steer20 B W0 a P s l A B_ C_ k h
 · obtain ⟨t1, _⟩ := tg (by decide)
   obtain ⟨k, rfl⟩ : ∃ k : Nat, m = k := ⟨m.toNat, by omega⟩
   exact steer21 B W0 a P s l A B_ C_ k _ h (fun X l' q => branch_any B X a P s l' 21 A B_ C_ k q hA hB hp (.inl rfl))
 · obtain ⟨t1, _⟩ := tg (by decide)
   obtain ⟨k, rfl⟩ : ∃ k : Nat, m = k := ⟨m.toNat, by omega⟩
   exact steer22 B W0 a P s l A B_ C_ k _ h (fun X l' q => branch_any B X a P s l' 22 A B_ C_ k q hA hB hp (.inr (.inl rfl)))
 · obtain ⟨t1, _⟩ := tg (by decide)
   obtain ⟨k, rfl⟩ : ∃ k : Nat, m = k := ⟨m.toNat, by omega⟩
   exact steer23 B W0 a P s l A B_ C_ k _ h (fun X l' q => branch_any B X a P s l' 23 A B_ C_ k q hA hB hp (.inr (.inr (.inl rfl))))
 · obtain ⟨t1, _⟩ := tg (by decide)
   obtain ⟨k, rfl⟩ : ∃ k : Nat, m = k := ⟨m.toNat, by omega⟩
   exact steer24 B W0 a P s l A B_ C_ k _ h (fun X l' q => branch_any B X a P s l' 24 A B_ C_ k q hA hB hp (.inr (.inr (.inr rfl))))
 · exact steer25 B W0 a P s l A B_ C_ m h hP hg hA hp (tg (by decide))
 · exact steer26 B W0 a P s l A B_ C_ m h hP hg hA
 · show Calls Tryz.prog _ _ _ fun x w' => Dv B W0 a P s l (haltM s A) x w'
   unfold haltM
   cases hq : (s.at_.regs A).g with
   | true => rw [if_pos rfl]; exact steer27_b B W0 a P s l A B_ C_ m h hA hq
   | false => rw [if_neg (by decide)]; exact steer27_ok B W0 a P s l A B_ C_ m h hA hq
 · exact steer28 B W0 a P s l A B_ C_ m h
 · refine steer29 B W0 a P s l A B_ C_ m _ h (fun X l' q => ?_)
   show Calls Tryz.prog _ _ _ fun x w' => Dv B X a P s l' (inM s A) x w'
   unfold inM
   have hI := ok.inp
   cases hi : s.inp with
   | nil => exact takeIn_none B X a P s l' A q hi
   | cons x L =>
     rw [hi] at hI
     exact takeIn_some B X a P s l' A x L q hi (by have := hI.1; simp at this; omega) (hI.2 x (.head _)).1 hA hp
 · exact steer30 B W0 a P s l A B_ C_ m h hA hp (by have := ok.out; omega)
 · obtain ⟨t1, t2⟩ := cl rfl
   obtain ⟨k, rfl⟩ : ∃ k : Nat, m = k := ⟨m.toNat, by omega⟩
   exact steer31 B W0 a P s l A B_ C_ k _ h (fun X l' q => call_any B X a P s l' k q hP (by omega) hp hst)
 · exact steer32 B W0 a P s l A B_ C_ m _ h (fun X l' q => ret_any B X a P s l' q hP hg hst)
theorem do_any (hP : POk P) (h : MIn B W0 a P s l) (ok : Okm P n s) (hn : n ≤ 1000000) (i : Ins) (hi : IOk P (kOf P s.at_.gate) i) :
   Calls Tryz.prog 45 #[.pointer (some ⟨a, 0, none⟩), i.agg] W0 fun x w' => Dv B W0 a P s l (insM P s i.op i.a.toNat i.b.toNat i.c.toNat i.m) x w' := by
 rw [ins_agg P _ i hi]
 have hA : i.a.toNat < 16 := by have := hi.ra; omega
 have hB : i.b.toNat < 16 := by have := hi.rb; omega
 have hp : s.at_.pc < 1000000000 := by have := ok.f.pc; have := (hP.code (kOf P s.at_.gate)).1; omega
 have htou : s.tou.length ≤ 1000000 := by have := ok.tou; omega
 have hC : i.op < 70 → i.c.toNat < 16 := fun q => by have := hi.rc2 q; have := hi.rc; omega
 have tg := hi.tg
 have cl := hi.cl
 have hop := hi.op
 unfold insM
 generalize i.a.toNat = A at *
 generalize i.b.toNat = B_ at *
 generalize i.c.toNat = C_ at *
 generalize i.m = m at *
 generalize i.op = op at *
 rcases hop with ho | ho | ho | ho | ho | ho
 · rw [if_pos (by omega)]
   exact do_num B W0 a P s l op A B_ C_ m h hA hB (hC (by omega)) hp (ok.f.r C_).n ho
 · rw [if_neg (by omega), if_pos (by omega)]
   exact do_steer B W0 a P s l op A B_ C_ m _ h (by omega) (fun X l' q => steer_any B X a P s l' n hP q ok hn op A B_ C_ m hA hB ho hp tg cl)
 · rw [if_neg (by omega), if_neg (by omega), if_pos (by omega)]
   exact do_cap B W0 a P s l op A B_ C_ m h hA hB (hC (by omega)) hp (by have := (ok.f.r B_).c.s.2; omega) ho
 · rw [if_neg (by omega), if_neg (by omega), if_neg (by omega), if_pos (by omega)]
   exact do_ask B W0 a P s l op A B_ C_ m h hA hB (hC (by omega)) hp (fun x q => (ask_in (ok.f.r B_) q).1) ho
 · rw [if_neg (by omega), if_neg (by omega), if_neg (by omega), if_neg (by omega), if_pos (by omega)]
   exact do_touch B W0 a P s l op A B_ C_ m _ h (by omega) (fun X l' q => touch_any B X a P s l' op A B_ C_ m q hA hB hp htou (ok.f.r A).c.c.1 ho)
 · rw [if_neg (by omega), if_neg (by omega), if_neg (by omega), if_neg (by omega), if_neg (by omega)]
   exact do_guard B W0 a P s l op A B_ C_ m _ h (by omega) (fun X l' q => guard_any B X a P s l' op A B_ C_ m q hA hp ho)
end
structure Goes (B a : Nat) (P : PImg) (s s' : Ms) (iv : Value) : Prop where
 fe : ∀ W l, MIn B W a P s l → Calls Tryz.prog 46 #[.pointer (some ⟨a, 0, none⟩)] W fun x w' => x = .returned iv ∧ Bl W w'
 go : ∀ W l, MIn B W a P s l → Calls Tryz.prog 45 #[.pointer (some ⟨a, 0, none⟩), iv] W fun x w' => x = .returned (.tuple #[]) ∧ MIn B w' a P s' l ∧ Below B W w'
structure Ends (B a : Nat) (P : PImg) (s : Ms) (e : Ed) (iv : Value) : Prop where
 fe : ∀ W l, MIn B W a P s l → Calls Tryz.prog 46 #[.pointer (some ⟨a, 0, none⟩)] W fun x w' => x = .returned iv ∧ Bl W w'
 go : ∀ W l, MIn B W a P s l → Calls Tryz.prog 45 #[.pointer (some ⟨a, 0, none⟩), iv] W fun x w' => x = pan e ∧ MIn B w' a P s l ∧ Below B W w'
def Off (B a : Nat) (P : PImg) (s : Ms) (e : Ed) : Prop := ∀ W l, MIn B W a P s l → Calls Tryz.prog 46 #[.pointer (some ⟨a, 0, none⟩)] W fun x w' => x = pan e ∧ Bl W w'
section
variable {B a : Nat} {P : PImg} {s s' : Ms} {n : Nat}
theorem fetch_some (hP : POk P) (ok : Okm P n s) {i : Ins} (hi : (codeOf P (kOf P s.at_.gate))[s.at_.pc]? = some i) : ∀ W l, MIn B W a P s l → Calls Tryz.prog 46 #[.pointer (some ⟨a, 0, none⟩)] W fun x w' => x = .returned i.agg ∧ Bl W w' := fun W l h => by
 obtain ⟨k1, k2, _, _⟩ := hP.kl _ ok.f.g
 rw [codeOf_at P _ k1] at hi
 obtain ⟨hp, e⟩ := List.getElem?_eq_some_iff.1 hi
 rw [← e]
 exact fetch_ok B a P s l _ W h ok.f.g k2 k1 hp
theorem goes_of (hP : POk P) (ok : Okm P n s) (hn : n ≤ 1000000) (hq : stepM P s = .ok s') : ∃ iv, Goes B a P s s' iv := by
 unfold stepM at hq
 split at hq
 · cases hq
 · rename_i i hi
   refine ⟨i.agg, fetch_some hP ok hi, fun W l h => ?_⟩
   have := do_any B W a P s l n hP h ok hn i ((hP.code _).2 i (List.mem_of_getElem? hi))
   rw [hq] at this
   exact this
theorem ends_of (hP : POk P) (ok : Okm P n s) (hn : n ≤ 1000000) {e : Ed} (hq : stepM P s = .error e) : Off B a P s e ∨ ∃ iv, Ends B a P s e iv := by
 unfold stepM at hq
 split at hq
 · rename_i hi
   injection hq with hq
   subst hq
   refine .inl (fun W l h => ?_)
   obtain ⟨k1, k2, _, _⟩ := hP.kl _ ok.f.g
   rw [codeOf_at P _ k1] at hi
   exact fetch_bad B a P s l _ W h ok.f.g k2 k1 (by simpa using hi)
 · rename_i i hi
   refine .inr ⟨i.agg, fetch_some hP ok hi, fun W l h => ?_⟩
   have := do_any B W a P s l n hP h ok hn i ((hP.code _).2 i (List.mem_of_getElem? hi))
   rw [hq] at this
   exact this
end
end C
end Go.Proofs.YthmlkcglglcljaaGreatDoor


namespace Go.Proofs.YthmlkcglglcljaaGreatDoor
set_option maxRecDepth 100000
set_option maxHeartbeats 40000000
namespace C
open Go.RowKit
open T (Sep Ob Kp Mf TgIn boxOb Fm Tc Ed Vl Cp Bx tgOb mRow mRow_idx mRow_tail mRow_at updV flt)

theorem assert_end (v : Value) (w : World) : (Instr.typeAssert (.iface 89 v) 20 89 true).run Tryz.prog w = .ok (.tuple #[v, .bool true]) w := by kernel_rfl
theorem catch_end (b a : Nat) (e : Ed) (older : List PanicEntry) (w : World) (hb : w.cell? ⟨b, 0, none⟩ = some (.pointer (some ⟨a, 0, none⟩))) (c0 c1 c2 : Value) (h0 : w.cell? ⟨a, 123, none⟩ = some c0) (h1 : w.cell? ⟨a, 124, none⟩ = some c1) (h2 : w.cell? ⟨a, 125, none⟩ = some c2) (hf : ∀ o, w.frozen? ⟨a, o, none⟩ = false) (hl : a < w.heap.size) (hlb : b < w.heap.size) :
   CallsD Tryz.prog 44 #[.pointer (some ⟨b, 0, none⟩)] (.panicking ({ v := .iface 89 (.agg #[.int .i64 e.e, .int .u64 e.v, .int .i64 e.f]), recovered := false } :: older)) w fun x u' w' => x = .returned (.tuple #[]) ∧ u' = .panicking ({ v := .iface 89 (.agg #[.int .i64 e.e, .int .u64 e.v, .int .i64 e.f]), recovered := true } :: older) ∧ ∃ o, w' = (((w.setCell ⟨a, 123, none⟩ (.int .i64 e.e)).setCell ⟨a, 124, none⟩ (.int .u64 e.v)).setCell ⟨a, 125, none⟩ (.int .i64 e.f)).alloc o := by
 have hta := assert_end
 refine callsD_of_wpS Tryz.func44 rfl fun c₀ cs hu => ?_
 apply wpS_seq
 apply wpS_region
 simp [wpOpsS, go_sem, recoverD, hu, Tryz.ntmps44, Exit.thenS]
 refine wpS_of_wp ?_
 have hr : Array.replicate 13 undef = #[undef, undef, undef, undef, undef, undef, undef, undef, undef, undef, undef, undef, undef] := rfl
 simp only [hr, List.setIfInBounds_toArray, List.set_cons_zero, List.set_cons_succ, List.append_toArray, List.cons_append, List.nil_append]
 go_wp2_with fail
 simp [bodyPostS, results, Tryz.results44, go_sem]
 exact ⟨_, rfl⟩
theorem catch_idle (b : Nat) (w : World) :
   CallsD Tryz.prog 44 #[.pointer (some ⟨b, 0, none⟩)] .returning w fun x u' w' => x = .returned (.tuple #[]) ∧ u' = .returning ∧ w' = w := by
 refine callsD_of_wpS Tryz.func44 rfl fun c₀ cs hu => ?_
 apply wpS_seq
 apply wpS_region
 simp [wpOpsS, go_sem, recoverD, hu, Tryz.ntmps44, Exit.thenS]
 refine wpS_of_wp ?_
 go_wp2_with fail
 cases c₀
 simp_all [bodyPostS, results, Tryz.results44]
section
variable {B kb : Nat} {W W' : World} {a : Nat} {P : PImg} {s s' : Ms} {l : List Ob}
theorem MIn.setOv4 (h : MIn B W a P s l) (x : Int) : MIn B (W.setCell ⟨a, 123, none⟩ (.int .i64 x)) a P (s.ended ⟨x, s.over.v, s.over.f⟩) l ∧ Below B W (W.setCell ⟨a, 123, none⟩ (.int .i64 x)) :=
 h.box (s' := s.ended ⟨x, s.over.v, s.over.f⟩) ⟨rfl, rfl, rfl, rfl, rfl, rfl⟩ (fun q hb => T.Bx.setAt 123 _ hb (mRow_tail (i := 4) fun y hy => by
     match y, hy with
     | 0, hy => first | rfl | exact absurd rfl hy
     | 1, hy => first | rfl | exact absurd rfl hy
     | 2, hy => first | rfl | exact absurd rfl hy
     | 3, hy => first | rfl | exact absurd rfl hy
     | 4, hy => first | rfl | exact absurd rfl hy
     | 5, hy => first | rfl | exact absurd rfl hy
     | 6, hy => first | rfl | exact absurd rfl hy
     | _ + 7, _ => rfl) (mRow_at 4) ⟨_, mRow_at 4⟩) (Kp.set (S := fun k => k = a) W ⟨a, 123, none⟩ _ rfl)
theorem MIn.setOv5 (h : MIn B W a P s l) (x : Int) : MIn B (W.setCell ⟨a, 124, none⟩ (.int .u64 x)) a P (s.ended ⟨s.over.e, x, s.over.f⟩) l ∧ Below B W (W.setCell ⟨a, 124, none⟩ (.int .u64 x)) :=
 h.box (s' := s.ended ⟨s.over.e, x, s.over.f⟩) ⟨rfl, rfl, rfl, rfl, rfl, rfl⟩ (fun q hb => T.Bx.setAt 124 _ hb (mRow_tail (i := 5) fun y hy => by
     match y, hy with
     | 0, hy => first | rfl | exact absurd rfl hy
     | 1, hy => first | rfl | exact absurd rfl hy
     | 2, hy => first | rfl | exact absurd rfl hy
     | 3, hy => first | rfl | exact absurd rfl hy
     | 4, hy => first | rfl | exact absurd rfl hy
     | 5, hy => first | rfl | exact absurd rfl hy
     | 6, hy => first | rfl | exact absurd rfl hy
     | _ + 7, _ => rfl) (mRow_at 5) ⟨_, mRow_at 5⟩) (Kp.set (S := fun k => k = a) W ⟨a, 124, none⟩ _ rfl)
theorem MIn.setOv6 (h : MIn B W a P s l) (x : Int) : MIn B (W.setCell ⟨a, 125, none⟩ (.int .i64 x)) a P (s.ended ⟨s.over.e, s.over.v, x⟩) l ∧ Below B W (W.setCell ⟨a, 125, none⟩ (.int .i64 x)) :=
 h.box (s' := s.ended ⟨s.over.e, s.over.v, x⟩) ⟨rfl, rfl, rfl, rfl, rfl, rfl⟩ (fun q hb => T.Bx.setAt 125 _ hb (mRow_tail (i := 6) fun y hy => by
     match y, hy with
     | 0, hy => first | rfl | exact absurd rfl hy
     | 1, hy => first | rfl | exact absurd rfl hy
     | 2, hy => first | rfl | exact absurd rfl hy
     | 3, hy => first | rfl | exact absurd rfl hy
     | 4, hy => first | rfl | exact absurd rfl hy
     | 5, hy => first | rfl | exact absurd rfl hy
     | 6, hy => first | rfl | exact absurd rfl hy
     | _ + 7, _ => rfl) (mRow_at 6) ⟨_, mRow_at 6⟩) (Kp.set (S := fun k => k = a) W ⟨a, 125, none⟩ _ rfl)
theorem MIn.setOver (h : MIn B W a P s l) (e : Ed) : MIn B (((W.setCell ⟨a, 123, none⟩ (.int .i64 e.e)).setCell ⟨a, 124, none⟩ (.int .u64 e.v)).setCell ⟨a, 125, none⟩ (.int .i64 e.f)) a P (s.ended e) l ∧ Below B W (((W.setCell ⟨a, 123, none⟩ (.int .i64 e.e)).setCell ⟨a, 124, none⟩ (.int .u64 e.v)).setCell ⟨a, 125, none⟩ (.int .i64 e.f)) := by
 have h1 := h.setOv4 e.e
 have h2 := h1.1.setOv5 e.v
 have h3 := h2.1.setOv6 e.f
 exact ⟨h3.1, (h1.2.trans h2.2).trans h3.2⟩
theorem caught (h : MIn B W a P s (boxOb kb #[.pointer (some ⟨a, 0, none⟩)] :: l)) (e : Ed) : CallsD Tryz.prog 44 #[.pointer (some ⟨kb, 0, none⟩)] (.panicking [{ v := .iface 89 (.agg #[.int .i64 e.e, .int .u64 e.v, .int .i64 e.f]), recovered := false }]) W fun x u' w' => x = .returned (.tuple #[]) ∧ u' = .panicking [{ v := .iface 89 (.agg #[.int .i64 e.e, .int .u64 e.v, .int .i64 e.f]), recovered := true }] ∧ MIn B w' a P (s.ended e) l ∧ Below B W w' := by
 have hk := h.there (boxOb kb #[.pointer (some ⟨a, 0, none⟩)]) (.head _)
 obtain ⟨_, _, k3, k4, k5, kf⟩ := h.cell
 refine (catch_end kb a e [] W (hk.2.1 0) _ _ _ k3 k4 k5 kf h.alt hk.1).mono ?_
 rintro x u' w' ⟨rfl, rfl, o, rfl⟩
 obtain ⟨m1, m2⟩ := h.setOver e
 exact ⟨rfl, rfl, (m1.gr ((Below.refl _ _).alloc (Nat.le_refl _) _)).drop, m2.trans (Below.mono ((Below.refl _ _).alloc (Nat.le_refl _) _) m1.le)⟩
end
theorem stepsM_ok {P : PImg} {s s' : Ms} {n : Nat} (h0 : s.over.e = 0) (h : stepM P s = .ok s') : stepsM P (n + 1) s = stepsM P n s' := by rw [stepsM, if_pos h0, h]
theorem stepsM_err {P : PImg} {s : Ms} {n : Nat} {e : Ed} (h0 : s.over.e = 0) (h : stepM P s = .error e) : stepsM P (n + 1) s = s.ended e := by rw [stepsM, if_pos h0, h]
theorem stepsM_end {P : PImg} {s : Ms} (h0 : ¬ s.over.e = 0) (n : Nat) : stepsM P n s = s := by
 cases n with
 | zero => rfl
 | succ n => rw [stepsM, if_neg h0]
theorem step_over {P : PImg} {s s' : Ms} (h : stepM P s = .ok s') : s'.over = s.over := by
 unfold stepM at h
 split at h
 · cases h
 · rename_i i _
   unfold insM at h
   split at h
   · obtain ⟨v, _, rfl⟩ := lay_ok h; rfl
   split at h
   · unfold strM at h
     split at h
     · injection h with h; subst h; rfl
     split at h
     · unfold braM at h
       split at h
       · cases h
       · split at h
         · cases h
         · injection h with h; subst h; split <;> rfl
     split at h
     · injection h with h; subst h; rfl
     split at h
     · unfold goR at h
       split at h
       · injection h with h; subst h; rfl
       · cases h
     split at h
     · unfold haltM at h
       split at h <;> cases h
     split at h
     · cases h
     split at h
     · unfold inM at h
       split at h
       · cases h
       · injection h with h; subst h; rfl
     split at h
     · unfold outM at h
       split at h
       · cases h
       · injection h with h; subst h; rfl
     split at h
     · unfold callM at h
       split at h
       · split at h
         · cases h
         · injection h with h; subst h; rfl
       · cases h
     · unfold retM at h
       split at h
       · split at h
         · cases h
         · injection h with h; subst h; rfl
       · cases h
   split at h
   · obtain ⟨v, _, rfl⟩ := lay_ok h; rfl
   split at h
   · obtain ⟨v, _, rfl⟩ := lay_ok h; rfl
   split at h
   · have l1 : ∀ sz, loadM s i.a.toNat i.b.toNat i.m sz = .ok s' → s'.over = s.over := fun sz h => by
       unfold loadM at h
       split at h
       · cases h
       · split at h
         · injection h with h; subst h; rfl
         · cases h
     have l2 : ∀ sz, storeM s i.a.toNat i.b.toNat i.m sz = .ok s' → s'.over = s.over := fun sz h => by
       unfold storeM at h
       split at h
       · cases h
       · split at h
         · cases h
         · split at h
           · injection h with h; subst h; rfl
           · cases h
     unfold touM at h
     split at h
     · exact l1 _ h
     split at h
     · exact l1 _ h
     split at h
     · exact l2 _ h
     split at h
     · exact l2 _ h
     split at h
     · unfold ldcM at h
       split at h
       · cases h
       · split at h
         · injection h with h; subst h; rfl
         · cases h
     · unfold stcM at h
       split at h
       · cases h
       · split at h
         · injection h with h; subst h; rfl
         · cases h
   · unfold grdR at h
     split at h
     · cases h
     · injection h with h; subst h; rfl
     · cases h
end C
end Go.Proofs.YthmlkcglglcljaaGreatDoor


namespace Go.Proofs.YthmlkcglglcljaaGreatDoor
set_option maxRecDepth 100000
set_option maxHeartbeats 40000000
namespace C
open Go.RowKit
open T (Sep Ob Kp Mf TgIn boxOb Fm Tc Ed Vl Cp Bx tgOb mRow mRow_idx mRow_tail mRow_at updV flt)

theorem steps_any (B : Nat) (W0 : World) (a : Nat) (P : PImg) (s : Ms) (l : List Ob) (n k : Nat) (most : Int) (hmk : most.toNat = k) (hP : POk P) (h : MIn B W0 a P s l) (ok : Okm P n s) (hn : n + k ≤ 1000000) (h0 : s.over.e = 0) :
   Calls Tryz.prog 24 #[.pointer (some ⟨a, 0, none⟩), .int .i64 most] W0 fun x w' => x = .returned (.tuple #[]) ∧ MIn B w' a P (stepsM P k s) l ∧ Below B W0 w' := by
 have hmf : ∀ (fn : Fn) (first cap : Array Value) (w : World), (Instr.makeFunc fn first cap).run Tryz.prog w = .ok (.func fn first cap) w := fun _ _ _ _ => rfl
 have h2 := Hz.mk (h.new #[.pointer (some ⟨a, 0, none⟩)] 29)
 clear h
 have hs0 : Hz (Okm P (n + 0) s ∧ s.over.e = 0 ∧ stepsM P (k - 0) s = stepsM P k s) := Hz.mk ⟨ok, h0, rfl⟩
 replace h0 := Hz.mk h0
 replace ok := Hz.mk ok
 generalize hR : stepsM P k s = sR
 replace hR := Hz.mk hR
 go_enter_defers Tryz.func24, Tryz.ntmps24
 go_upto_region 2 with fail
 refine wp_world (fun W => MIn B W a P s (boxOb W0.heap.size #[.pointer (some ⟨a, 0, none⟩)] :: l) ∧ Below B W0 W) h2.out ?_
 clear h2
 rintro W ⟨h, hB⟩
 generalize W0.heap.size = kb at *
 have ⟨_, p0, _⟩ := h.there (boxOb kb #[.pointer (some ⟨a, 0, none⟩)]) (.head _)
 have c123 := h.cell.2.2.1
 rw [h0.out] at c123
 have hlt := h.alt
 replace h := Hz.mk h
 replace hB := Hz.mk hB
 go_wp2_with fail
 clear p0 c123 hlt
 go_loopw [12] (fun i wr => ∃ (j : Nat) (sj : Ms), i = .int .i64 j ∧ j ≤ k ∧ MIn B wr a P sj (boxOb kb #[.pointer (some ⟨a, 0, none⟩)] :: l) ∧ Below B W0 wr ∧ Okm P (n + j) sj ∧ sj.over.e = 0 ∧ stepsM P (k - j) sj = stepsM P k s) (fun i _ => k - (intOf i).toNat)
 case atStart => exact ⟨0, s, rfl, Nat.zero_le _, h.out, hB.out, hs0.out⟩
 case round =>
   clear h hB hs0 ok
   obtain ⟨j, sj, rfl, hj, h, hB, ok, h0j, hst⟩ := hrel
   by_cases hjk : j < k
   · have hkj : k - j = (k - (j + 1)) + 1 := by omega
     cases hq : stepM P sj with
     | ok s' =>
       rw [hkj, stepsM_ok h0j hq] at hst
       obtain ⟨iv, hG⟩ := goes_of (B := B) (a := a) hP ok (by omega) hq
       have hok' := Hz.mk (okm_step hP ok hq)
       have hov : Hz (s'.over.e = 0) := Hz.mk (by rw [step_over hq]; exact h0j)
       replace hG := Hz.mk hG
       replace hst := Hz.mk hst
       replace ok := Hz.mk ok
       clear hq
       have jl : (j : Int) < most := by omega
       replace hB := Hz.mk (hB.trans (h.bl (Bl.refl wr).drew).2)
       replace h := Hz.mk (h.bl (Bl.refl wr).drew).1
       go_upto_region 5 with fail
       refine wp_region_held_drew (S := (fun X => X.cell? ⟨kb, 0, none⟩ = some (.pointer (some ⟨a, 0, none⟩)))) (by kernel_rfl) (((h.out.there (boxOb kb #[.pointer (some ⟨a, 0, none⟩)]) (.head _)).2.1 0)) (fun hHeld => ?_)
       generalize wr.drew = X0 at *
       refine wpAnyH_ready (rs := [0, 1]) (by kernel_rfl) (by simp) ?_
       refine (xcn rfl (fun K hK => ?_) (xcn rfl (fun K hK => ?_) AllReadyH.nil))
       · skip
         go_simp
         clear hHeld
         refine hK.out _ _ ((h.out.there (boxOb kb #[.pointer (some ⟨a, 0, none⟩)]) (.head _)).2.1 0) (fun hHeld => ?_)
         clear hK K
         try simp only [xap]
         refine xrd 1 rfl (fun K hK => ?_)
         go_simp
         clear hHeld
         refine hK.out _ _ ((h.out.there (boxOb kb #[.pointer (some ⟨a, 0, none⟩)]) (.head _)).2.1 0) (fun hHeld => ?_)
         clear hK K
         try simp only [xap]
         refine xrd 2 rfl (fun K hK => ?_)
         go_simp
         refine (hG.out.fe _ _ h.out).mono ?_
         rintro r Y1 ⟨rfl, e1⟩
         replace hB := Hz.mk (hB.out.trans (h.out.bl e1).2)
         replace h := Hz.mk (h.out.bl e1).1
         clear e1 hHeld
         refine hK.out _ _ ((h.out.there (boxOb kb #[.pointer (some ⟨a, 0, none⟩)]) (.head _)).2.1 0) (fun hHeld => ?_)
         clear hK K
         try simp only [xap]
         refine xrd 3 rfl (fun K hK => ?_)
         go_simp
         refine (hG.out.go _ _ h.out).mono ?_
         rintro r Y2 ⟨rfl, h6, hB6⟩
         replace hB := Hz.mk (hB.out.trans hB6)
         replace h := Hz.mk h6
         clear h6 hB6 hHeld
         refine hK.out _ _ ((h.out.there (boxOb kb #[.pointer (some ⟨a, 0, none⟩)]) (.head _)).2.1 0) (fun hHeld => ?_)
         clear hK K
         try simp only [xap]
         refine xdn ?_ _
         clear hHeld
         go_wp2_with fail
         exact ⟨⟨j + 1, s', by go_num, by omega, h.out, hB.out, by rw [← Nat.add_assoc]; exact hok'.out, hov.out, hst.out⟩, by simp [intOf]; omega⟩
       · skip
         go_simp
         clear hHeld
         refine hK.out _ _ ((h.out.there (boxOb kb #[.pointer (some ⟨a, 0, none⟩)]) (.head _)).2.1 0) (fun hHeld => ?_)
         clear hK K
         try simp only [xap]
         refine wpAnyH_ready (rs := [0, 2]) (by kernel_rfl) (by simp) ?_
         refine (xcn rfl (fun K hK => ?_) (xcn rfl (fun K hK => ?_) AllReadyH.nil))
         · skip
           go_simp
           clear hHeld
           refine hK.out _ _ ((h.out.there (boxOb kb #[.pointer (some ⟨a, 0, none⟩)]) (.head _)).2.1 0) (fun hHeld => ?_)
           clear hK K
           try simp only [xap]
           refine xrd 2 rfl (fun K hK => ?_)
           go_simp
           refine (hG.out.fe _ _ h.out).mono ?_
           rintro r Y1 ⟨rfl, e1⟩
           replace hB := Hz.mk (hB.out.trans (h.out.bl e1).2)
           replace h := Hz.mk (h.out.bl e1).1
           clear e1 hHeld
           refine hK.out _ _ ((h.out.there (boxOb kb #[.pointer (some ⟨a, 0, none⟩)]) (.head _)).2.1 0) (fun hHeld => ?_)
           clear hK K
           try simp only [xap]
           refine xrd 3 rfl (fun K hK => ?_)
           go_simp
           refine (hG.out.go _ _ h.out).mono ?_
           rintro r Y2 ⟨rfl, h6, hB6⟩
           replace hB := Hz.mk (hB.out.trans hB6)
           replace h := Hz.mk h6
           clear h6 hB6 hHeld
           refine hK.out _ _ ((h.out.there (boxOb kb #[.pointer (some ⟨a, 0, none⟩)]) (.head _)).2.1 0) (fun hHeld => ?_)
           clear hK K
           try simp only [xap]
           refine xdn ?_ _
           clear hHeld
           go_wp2_with fail
           exact ⟨⟨j + 1, s', by go_num, by omega, h.out, hB.out, by rw [← Nat.add_assoc]; exact hok'.out, hov.out, hst.out⟩, by simp [intOf]; omega⟩
         · skip
           go_simp
           refine (hG.out.fe _ _ h.out).mono ?_
           rintro r Y1 ⟨rfl, e1⟩
           replace hB := Hz.mk (hB.out.trans (h.out.bl e1).2)
           replace h := Hz.mk (h.out.bl e1).1
           clear e1 hHeld
           refine hK.out _ _ ((h.out.there (boxOb kb #[.pointer (some ⟨a, 0, none⟩)]) (.head _)).2.1 0) (fun hHeld => ?_)
           clear hK K
           try simp only [xap]
           refine xrd 0 rfl (fun K hK => ?_)
           go_simp
           clear hHeld
           refine hK.out _ _ ((h.out.there (boxOb kb #[.pointer (some ⟨a, 0, none⟩)]) (.head _)).2.1 0) (fun hHeld => ?_)
           clear hK K
           try simp only [xap]
           refine xrd 3 rfl (fun K hK => ?_)
           go_simp
           refine (hG.out.go _ _ h.out).mono ?_
           rintro r Y2 ⟨rfl, h6, hB6⟩
           replace hB := Hz.mk (hB.out.trans hB6)
           replace h := Hz.mk h6
           clear h6 hB6 hHeld
           refine hK.out _ _ ((h.out.there (boxOb kb #[.pointer (some ⟨a, 0, none⟩)]) (.head _)).2.1 0) (fun hHeld => ?_)
           clear hK K
           try simp only [xap]
           refine xdn ?_ _
           clear hHeld
           go_wp2_with fail
           exact ⟨⟨j + 1, s', by go_num, by omega, h.out, hB.out, by rw [← Nat.add_assoc]; exact hok'.out, hov.out, hst.out⟩, by simp [intOf]; omega⟩
     | error e =>
       rw [hkj, stepsM_err h0j hq] at hst
       have hse : sj.ended e = sR := hst.trans hR.out
       subst hse
       rcases ends_of (B := B) (a := a) hP ok (by omega) hq with hO | ⟨iv, hG⟩
       · replace hO := Hz.mk hO
         replace hst := Hz.mk hst
         replace ok := Hz.mk ok
         clear hq
         have jl : (j : Int) < most := by omega
         replace hB := Hz.mk (hB.trans (h.bl (Bl.refl wr).drew).2)
         replace h := Hz.mk (h.bl (Bl.refl wr).drew).1
         go_upto_region 5 with fail
         refine wp_region_held_drew (S := (fun X => X.cell? ⟨kb, 0, none⟩ = some (.pointer (some ⟨a, 0, none⟩)))) (by kernel_rfl) (((h.out.there (boxOb kb #[.pointer (some ⟨a, 0, none⟩)]) (.head _)).2.1 0)) (fun hHeld => ?_)
         generalize wr.drew = X0 at *
         refine wpAnyH_ready (rs := [0, 1]) (by kernel_rfl) (by simp) ?_
         refine (xcn rfl (fun K hK => ?_) (xcn rfl (fun K hK => ?_) AllReadyH.nil))
         · skip
           go_simp
           clear hHeld
           refine hK.out _ _ ((h.out.there (boxOb kb #[.pointer (some ⟨a, 0, none⟩)]) (.head _)).2.1 0) (fun hHeld => ?_)
           clear hK K
           try simp only [xap]
           refine xrd 1 rfl (fun K hK => ?_)
           go_simp
           clear hHeld
           refine hK.out _ _ ((h.out.there (boxOb kb #[.pointer (some ⟨a, 0, none⟩)]) (.head _)).2.1 0) (fun hHeld => ?_)
           clear hK K
           try simp only [xap]
           refine xrd 2 rfl (fun K hK => ?_)
           go_simp
           refine (hO.out _ _ h.out).mono ?_
           rintro r Y1 ⟨rfl, e1⟩
           replace hB := Hz.mk (hB.out.trans (h.out.bl e1).2)
           replace h := Hz.mk (h.out.bl e1).1
           clear e1
           (show bodyPostD Tryz.prog _ _ (Exit.panic _) _ _)
           refine leaves_cons (f := 44) (args := #[.pointer (some ⟨kb, 0, none⟩)]) (by simp) (by simp [go_sem]) ?_
           refine (caught h.out e).mono ?_
           rintro y u' w'' ⟨rfl, rfl, h9, B9⟩
           simp [Leaves, settle, results, Tryz.results24, go_sem]
           exact ⟨h9, hB.out.trans B9⟩
         · skip
           go_simp
           clear hHeld
           refine hK.out _ _ ((h.out.there (boxOb kb #[.pointer (some ⟨a, 0, none⟩)]) (.head _)).2.1 0) (fun hHeld => ?_)
           clear hK K
           try simp only [xap]
           refine wpAnyH_ready (rs := [0, 2]) (by kernel_rfl) (by simp) ?_
           refine (xcn rfl (fun K hK => ?_) (xcn rfl (fun K hK => ?_) AllReadyH.nil))
           · skip
             go_simp
             clear hHeld
             refine hK.out _ _ ((h.out.there (boxOb kb #[.pointer (some ⟨a, 0, none⟩)]) (.head _)).2.1 0) (fun hHeld => ?_)
             clear hK K
             try simp only [xap]
             refine xrd 2 rfl (fun K hK => ?_)
             go_simp
             refine (hO.out _ _ h.out).mono ?_
             rintro r Y1 ⟨rfl, e1⟩
             replace hB := Hz.mk (hB.out.trans (h.out.bl e1).2)
             replace h := Hz.mk (h.out.bl e1).1
             clear e1
             (show bodyPostD Tryz.prog _ _ (Exit.panic _) _ _)
             refine leaves_cons (f := 44) (args := #[.pointer (some ⟨kb, 0, none⟩)]) (by simp) (by simp [go_sem]) ?_
             refine (caught h.out e).mono ?_
             rintro y u' w'' ⟨rfl, rfl, h9, B9⟩
             simp [Leaves, settle, results, Tryz.results24, go_sem]
             exact ⟨h9, hB.out.trans B9⟩
           · skip
             go_simp
             refine (hO.out _ _ h.out).mono ?_
             rintro r Y1 ⟨rfl, e1⟩
             replace hB := Hz.mk (hB.out.trans (h.out.bl e1).2)
             replace h := Hz.mk (h.out.bl e1).1
             clear e1
             (show bodyPostD Tryz.prog _ _ (Exit.panic _) _ _)
             refine leaves_cons (f := 44) (args := #[.pointer (some ⟨kb, 0, none⟩)]) (by simp) (by simp [go_sem]) ?_
             refine (caught h.out e).mono ?_
             rintro y u' w'' ⟨rfl, rfl, h9, B9⟩
             simp [Leaves, settle, results, Tryz.results24, go_sem]
             exact ⟨h9, hB.out.trans B9⟩
       · replace hG := Hz.mk hG
         replace hst := Hz.mk hst
         replace ok := Hz.mk ok
         clear hq
         have jl : (j : Int) < most := by omega
         replace hB := Hz.mk (hB.trans (h.bl (Bl.refl wr).drew).2)
         replace h := Hz.mk (h.bl (Bl.refl wr).drew).1
         go_upto_region 5 with fail
         refine wp_region_held_drew (S := (fun X => X.cell? ⟨kb, 0, none⟩ = some (.pointer (some ⟨a, 0, none⟩)))) (by kernel_rfl) (((h.out.there (boxOb kb #[.pointer (some ⟨a, 0, none⟩)]) (.head _)).2.1 0)) (fun hHeld => ?_)
         generalize wr.drew = X0 at *
         refine wpAnyH_ready (rs := [0, 1]) (by kernel_rfl) (by simp) ?_
         refine (xcn rfl (fun K hK => ?_) (xcn rfl (fun K hK => ?_) AllReadyH.nil))
         · skip
           go_simp
           clear hHeld
           refine hK.out _ _ ((h.out.there (boxOb kb #[.pointer (some ⟨a, 0, none⟩)]) (.head _)).2.1 0) (fun hHeld => ?_)
           clear hK K
           try simp only [xap]
           refine xrd 1 rfl (fun K hK => ?_)
           go_simp
           clear hHeld
           refine hK.out _ _ ((h.out.there (boxOb kb #[.pointer (some ⟨a, 0, none⟩)]) (.head _)).2.1 0) (fun hHeld => ?_)
           clear hK K
           try simp only [xap]
           refine xrd 2 rfl (fun K hK => ?_)
           go_simp
           refine (hG.out.fe _ _ h.out).mono ?_
           rintro r Y1 ⟨rfl, e1⟩
           replace hB := Hz.mk (hB.out.trans (h.out.bl e1).2)
           replace h := Hz.mk (h.out.bl e1).1
           clear e1 hHeld
           refine hK.out _ _ ((h.out.there (boxOb kb #[.pointer (some ⟨a, 0, none⟩)]) (.head _)).2.1 0) (fun hHeld => ?_)
           clear hK K
           try simp only [xap]
           refine xrd 3 rfl (fun K hK => ?_)
           go_simp
           refine (hG.out.go _ _ h.out).mono ?_
           rintro r Y2 ⟨rfl, h6, hB6⟩
           replace hB := Hz.mk (hB.out.trans hB6)
           replace h := Hz.mk h6
           clear h6 hB6
           (show bodyPostD Tryz.prog _ _ (Exit.panic _) _ _)
           refine leaves_cons (f := 44) (args := #[.pointer (some ⟨kb, 0, none⟩)]) (by simp) (by simp [go_sem]) ?_
           refine (caught h.out e).mono ?_
           rintro y u' w'' ⟨rfl, rfl, h9, B9⟩
           simp [Leaves, settle, results, Tryz.results24, go_sem]
           exact ⟨h9, hB.out.trans B9⟩
         · skip
           go_simp
           clear hHeld
           refine hK.out _ _ ((h.out.there (boxOb kb #[.pointer (some ⟨a, 0, none⟩)]) (.head _)).2.1 0) (fun hHeld => ?_)
           clear hK K
           try simp only [xap]
           refine wpAnyH_ready (rs := [0, 2]) (by kernel_rfl) (by simp) ?_
           refine (xcn rfl (fun K hK => ?_) (xcn rfl (fun K hK => ?_) AllReadyH.nil))
           · skip
             go_simp
             clear hHeld
             refine hK.out _ _ ((h.out.there (boxOb kb #[.pointer (some ⟨a, 0, none⟩)]) (.head _)).2.1 0) (fun hHeld => ?_)
             clear hK K
             try simp only [xap]
             refine xrd 2 rfl (fun K hK => ?_)
             go_simp
             refine (hG.out.fe _ _ h.out).mono ?_
             rintro r Y1 ⟨rfl, e1⟩
             replace hB := Hz.mk (hB.out.trans (h.out.bl e1).2)
             replace h := Hz.mk (h.out.bl e1).1
             clear e1 hHeld
             refine hK.out _ _ ((h.out.there (boxOb kb #[.pointer (some ⟨a, 0, none⟩)]) (.head _)).2.1 0) (fun hHeld => ?_)
             clear hK K
             try simp only [xap]
             refine xrd 3 rfl (fun K hK => ?_)
             go_simp
             refine (hG.out.go _ _ h.out).mono ?_
             rintro r Y2 ⟨rfl, h6, hB6⟩
             replace hB := Hz.mk (hB.out.trans hB6)
             replace h := Hz.mk h6
             clear h6 hB6
             (show bodyPostD Tryz.prog _ _ (Exit.panic _) _ _)
             refine leaves_cons (f := 44) (args := #[.pointer (some ⟨kb, 0, none⟩)]) (by simp) (by simp [go_sem]) ?_
             refine (caught h.out e).mono ?_
             rintro y u' w'' ⟨rfl, rfl, h9, B9⟩
             simp [Leaves, settle, results, Tryz.results24, go_sem]
             exact ⟨h9, hB.out.trans B9⟩
           · skip
             go_simp
             refine (hG.out.fe _ _ h.out).mono ?_
             rintro r Y1 ⟨rfl, e1⟩
             replace hB := Hz.mk (hB.out.trans (h.out.bl e1).2)
             replace h := Hz.mk (h.out.bl e1).1
             clear e1 hHeld
             refine hK.out _ _ ((h.out.there (boxOb kb #[.pointer (some ⟨a, 0, none⟩)]) (.head _)).2.1 0) (fun hHeld => ?_)
             clear hK K
             try simp only [xap]
             refine xrd 0 rfl (fun K hK => ?_)
             go_simp
             clear hHeld
             refine hK.out _ _ ((h.out.there (boxOb kb #[.pointer (some ⟨a, 0, none⟩)]) (.head _)).2.1 0) (fun hHeld => ?_)
             clear hK K
             try simp only [xap]
             refine xrd 3 rfl (fun K hK => ?_)
             go_simp
             refine (hG.out.go _ _ h.out).mono ?_
             rintro r Y2 ⟨rfl, h6, hB6⟩
             replace hB := Hz.mk (hB.out.trans hB6)
             replace h := Hz.mk h6
             clear h6 hB6
             (show bodyPostD Tryz.prog _ _ (Exit.panic _) _ _)
             refine leaves_cons (f := 44) (args := #[.pointer (some ⟨kb, 0, none⟩)]) (by simp) (by simp [go_sem]) ?_
             refine (caught h.out e).mono ?_
             rintro y u' w'' ⟨rfl, rfl, h9, B9⟩
             simp [Leaves, settle, results, Tryz.results24, go_sem]
             exact ⟨h9, hB.out.trans B9⟩
   · have : j = k := by omega
     have jl : ¬ (j : Int) < most := by omega
     subst this
     rw [Nat.sub_self] at hst
     have hse : sj = sR := (show stepsM P 0 sj = _ from hst).trans hR.out
     subst hse
     have hC := Hz.mk (fun W => catch_idle kb W)
     replace h := Hz.mk h
     replace hB := Hz.mk hB
     replace hst := Hz.mk hst
     go_wp2_with fail
     refine leaves_cons (f := 44) (args := #[.pointer (some ⟨kb, 0, none⟩)]) (by simp) (by simp [go_sem]) ?_
     refine (hC.out _).mono ?_
     rintro y u' w'' ⟨rfl, rfl, rfl⟩
     exact ⟨.tuple #[], results_none rfl _ _ _, rfl, h.out.drop, hB.out⟩
theorem steps_over (B : Nat) (W0 : World) (a : Nat) (P : PImg) (s : Ms) (l : List Ob) (most : Int) (h : MIn B W0 a P s l) (h0 : ¬ s.over.e = 0) :
   Calls Tryz.prog 24 #[.pointer (some ⟨a, 0, none⟩), .int .i64 most] W0 fun x w' => x = .returned (.tuple #[]) ∧ MIn B w' a P s l ∧ Below B W0 w' := by
 have hmf : ∀ (fn : Fn) (first cap : Array Value) (w : World), (Instr.makeFunc fn first cap).run Tryz.prog w = .ok (.func fn first cap) w := fun _ _ _ _ => rfl
 have h2 := Hz.mk (h.new #[.pointer (some ⟨a, 0, none⟩)] 29)
 clear h
 go_enter_defers Tryz.func24, Tryz.ntmps24
 go_upto_region 2 with fail
 refine wp_world (fun W => MIn B W a P s (boxOb W0.heap.size #[.pointer (some ⟨a, 0, none⟩)] :: l) ∧ Below B W0 W) h2.out ?_
 clear h2
 rintro W ⟨h, hB⟩
 generalize W0.heap.size = kb at *
 have ⟨_, p0, _⟩ := h.there (boxOb kb #[.pointer (some ⟨a, 0, none⟩)]) (.head _)
 have c123 := h.cell.2.2.1
 have hlt := h.alt
 have hC := Hz.mk (fun W => catch_idle kb W)
 replace h := Hz.mk h
 replace hB := Hz.mk hB
 have h1 : (s.over.e != 0) = true := by simpa using h0
 generalize s.over.e = x at *
 go_wp2_with fail
 refine leaves_cons (f := 44) (args := #[.pointer (some ⟨kb, 0, none⟩)]) (by simp) (by simp [go_sem]) ?_
 refine (hC.out _).mono ?_
 rintro y u' w'' ⟨rfl, rfl, rfl⟩
 exact ⟨.tuple #[], results_none rfl _ _ _, rfl, h.out.drop, hB.out⟩
end C
end Go.Proofs.YthmlkcglglcljaaGreatDoor
