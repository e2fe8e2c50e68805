import Derived.Test.YtiigpncfmakgjaaGreatDoorJ32
import Derived.Test.YtiigpncfmakgjaaGreatDoorJ27
namespace Go.Proofs.YtiigpncfmakgjaaGreatDoor
set_option maxRecDepth 100000
set_option maxHeartbeats 40000000
namespace C
open Go.RowKit
open T (Sep Ob Kp Mf TgIn boxOb Fm Tc Ed Vl Cp Bx tgOb mRow mRow_idx mRow_reg updV flt accessF ldE ldV stB stT lcE lcV scB scT)

theorem MIn.mem2 {B : Nat} {W : World} {a : Nat} {P : PImg} {s : Ms} {l : List Ob} (h : MIn B W a P s l) : ∃ km SM, (W.cell? ⟨a, 4, none⟩ = some (.pointer (some ⟨km, 0, none⟩)) ∧ ∀ r, r < 16 → ∀ v, s.at_.regs r = v → W.rangeAt a (7 + r * 7) [Value.bool v.g, .int .u64 v.n, .int .u64 v.c.b, .int .u64 v.c.e, .int .u64 v.c.c, .int .u8 v.c.p, .int .i64 v.c.s]) ∧ TgIn SM W km s.b s.t ∧ ∀ W' b' t' SM', TgIn SM' W' km b' t' → Mf SM SM' W W' → MIn B W' a P { s with b := b', t := t' } l ∧ Below B W W' ∧ (W'.cell? ⟨a, 4, none⟩ = some (.pointer (some ⟨km, 0, none⟩)) ∧ ∀ r, r < 16 → ∀ v, s.at_.regs r = v → W'.rangeAt a (7 + r * 7) [Value.bool v.g, .int .u64 v.n, .int .u64 v.c.b, .int .u64 v.c.e, .int .u64 v.c.c, .int .u8 v.c.p, .int .i64 v.c.s]) := by
 obtain ⟨⟨q, h1, h2⟩, le⟩ := h
 have key : ∀ X, Bx X a (rowOf P s q) → X.cell? ⟨a, 4, none⟩ = some (.pointer (some ⟨q.km, 0, none⟩)) ∧ ∀ r, r < 16 → ∀ v, s.at_.regs r = v → X.rangeAt a (7 + r * 7) [Value.bool v.g, .int .u64 v.n, .int .u64 v.c.b, .int .u64 v.c.e, .int .u64 v.c.c, .int .u8 v.c.p, .int .i64 v.c.s] := fun X hB => ⟨hB.at_ 4 _ rfl, fun r hr v e j u z => by
   subst e
   have hj : j < 7 := (List.getElem?_eq_some_iff.1 z).1
   exact hB.at_ _ u ((mRow_reg _ _ _ _ _ _ _ _ _ _ _ r j hr hj).trans z)⟩
 have hB : Bx W a (rowOf P s q) := h1.ins (bx_ a (rowOf P s q)) (by simp [obs])
 refine ⟨q.km, q.SM, key W hB, h1.ins (tgOb q.SM q.km s.b s.t) (by simp [obs]), fun W' b' t' SM' h3 hm => ?_⟩
 have h4 := sep_change (l1 := [bx_ a (rowOf P s q)]) (o := tgOb q.SM q.km s.b s.t) (o' := tgOb SM' q.km b' t') h1 h3 hm.kp hm.new le
 exact ⟨⟨⟨{ q with SM := SM' }, h4, h2⟩, Nat.le_trans le hm.kp.size⟩, sep_below (l1 := [bx_ a (rowOf P s q)]) (o := tgOb q.SM q.km s.b s.t) h1 hm.kp le, key W' (h4.ins (bx_ a (rowOf P s q)) (by simp))⟩
def stcM (s : Ms) (A B_ : Nat) (m : Int) : Except Ed Ms := match granR m 8 (s.at_.regs B_) with
 | .error e => .error e
 | .ok n => if lcE n.toNat = 0 then .ok (Ms.next { s with tou := s.tou ++ [⟨true, n.toNat, 16⟩], b := scB s.b n.toNat (s.at_.regs A), t := scT s.t n.toNat (s.at_.regs A) }) else .error (flt 5)
theorem stc_bad {b : Nat → UInt8} {t : Nat → Option Cp} {ad : Nat} {v : Vl} (h : lcE ad ≠ 0) : scB b ad v = b ∧ scT t ad v = t := by
 unfold lcE at h
 unfold scB scT
 split at h
 · exact absurd rfl h
 · rename_i q
   rw [if_neg q, if_neg q]
   exact ⟨rfl, rfl⟩
theorem storeCap_any (B : Nat) (W0 : World) (a : Nat) (P : PImg) (s : Ms) (l : List Ob) (op : Int) (A B_ C_ : Nat) (m : Int) (h : MIn B W0 a P s l) (hA : A < 16) (hB_ : B_ < 16) (hp : s.at_.pc < 1000000000) (hl : s.tou.length ≤ 1000000) (hc0 : 0 ≤ (s.at_.regs A).c.c) :
   Calls Tryz.prog 99 #[.pointer (some ⟨a, 0, none⟩), insA op A B_ C_ m] W0 fun x w' => Dv B W0 a P s l (stcM s A B_ m) x w' := by
 have h2 := Hz.mk (h.new #[.int .u8 op, .int .i64 A, .int .i64 B_, .int .i64 C_, .int .i64 m] 64)
 have hP := Hz.mk (fun X l' (q : MIn B X a P s l') => granule_any a op A B_ C_ m 8 (s.at_.regs B_) X (q.rg B_ hB_))
 have hA16 : (A : Int) < 16 := by omega
 unfold stcM
 cases hq : granR m 8 (s.at_.regs B_) with
 | error e =>
   rw [hq] at hP
   unfold insA at *
   simp only [UnV, pan] at hP
   simp only [Dv, pan]
   clear h hq hp hl
   go_enter Tryz.func99, Tryz.ntmps99
   go_upto_region 1 with fail
   refine wp_world (fun W => MIn B W a P s (boxOb W0.heap.size #[.int .u8 op, .int .i64 A, .int .i64 B_, .int .i64 C_, .int .i64 m] :: l) ∧ Below B W0 W) h2.out ?_
   clear h2
   rintro W ⟨h, hB⟩
   generalize W0.heap.size = kb at *
   have ⟨_, p0, _⟩ := h.there (boxOb kb #[.int .u8 op, .int .i64 A, .int .i64 B_, .int .i64 C_, .int .i64 m]) (.head _)
   replace h := Hz.mk h
   replace hB := Hz.mk hB
   go_wp2_with (refine (hP.out _ _ h.out).mono ?_; rintro r X1 ⟨rfl, e1⟩)
   exact ⟨rfl, rfl, (h.out.bl e1).1.drop, hB.out.trans (h.out.bl e1).2⟩
 | ok n =>
   rw [hq] at hP
   obtain ⟨hn1, hn2⟩ := granR_nat hq
   clear hq
   simp only [UnV] at hP
   rw [hn1] at hP
   simp only
   generalize n.toNat = ad at *
   clear hn1
   obtain ⟨v, hvA⟩ : ∃ v, s.at_.regs A = v := ⟨_, rfl⟩
   rw [hvA] at hc0 ⊢
   have hL0 := fun X S km (q : TgIn S X km s.b s.t) => T.tgStoreCap_any S km ad s.b s.t v X q hn2 hc0
   have hNt := Hz.mk (fun X l' (q : MIn B X a P { s with b := scB s.b ad v, t := scT s.t ad v } l') => note_any B X a P _ l' ⟨true, ad, 16⟩ q hl)
   have hNx := Hz.mk (fun X l' (q : MIn B X a P { s with tou := s.tou ++ [⟨true, ad, 16⟩], b := scB s.b ad v, t := scT s.t ad v } l') => next_any B a P _ l' X q hp)
   simp only at hNt
   unfold insA at *
   simp only [Vl.agg] at hL0
   replace hvA := Hz.mk hvA
   clear h hp hl hn2 hB_ hc0
   by_cases he : lcE ad = 0
   · rw [if_pos he]
     rw [he] at hL0
     have hL := Hz.mk (fun X SM {km : Nat} (q : TgIn SM X km s.b s.t) => hL0 X SM km q)
     have hM := Hz.mk inMem_ok
     simp only [Dv]
     clear hL0 he
     go_enter Tryz.func99, Tryz.ntmps99
     go_upto_region 1 with fail
     refine wp_world (fun W => MIn B W a P s (boxOb W0.heap.size #[.int .u8 op, .int .i64 A, .int .i64 B_, .int .i64 C_, .int .i64 m] :: l) ∧ Below B W0 W) h2.out ?_
     clear h2
     rintro W ⟨h, hB⟩
     generalize W0.heap.size = kb at *
     have ⟨_, p0, _⟩ := h.there (boxOb kb #[.int .u8 op, .int .i64 A, .int .i64 B_, .int .i64 C_, .int .i64 m]) (.head _)
     replace h := Hz.mk h
     replace hB := Hz.mk hB
     go_wp2_with fail
     refine (hP.out _ _ h.out).mono ?_
     rintro r X1 ⟨rfl, e1⟩
     replace hB := Hz.mk (hB.out.trans (h.out.bl e1).2)
     replace h := Hz.mk (h.out.bl e1).1
     clear e1
     clear p0 hP
     go_upto_region 2 with fail
     obtain ⟨km, SM, hx0, hTg, hMm⟩ := (h.out.bl (Bl.refl X1).drew).1.mem2
     replace hMm := Hz.mk hMm
     replace hTg := Hz.mk hTg
     replace hB := Hz.mk (hB.out.trans (h.out.bl (Bl.refl X1).drew).2)
     replace h := Hz.mk (h.out.bl (Bl.refl X1).drew).1
     refine wp_region_held_drew (S := (fun X => X.cell? ⟨a, 4, none⟩ = some (.pointer (some ⟨km, 0, none⟩)) ∧ X.cell? ⟨kb, 1, none⟩ = some (.int .i64 A) ∧ X.rangeAt a (7 + A * 7) [Value.bool v.g, .int .u64 v.n, .int .u64 v.c.b, .int .u64 v.c.e, .int .u64 v.c.c, .int .u8 v.c.p, .int .i64 v.c.s])) (by kernel_rfl) (⟨hx0.1, (h.out.there (boxOb kb #[.int .u8 op, .int .i64 A, .int .i64 B_, .int .i64 C_, .int .i64 m]) (.head _)).2.1 1, hx0.2 A hA v hvA.out⟩) (fun hHeld => ?_)
     generalize X1.drew = X2 at *
     clear hx0
     refine xso 0 ?_ rfl ?_ (xso 1 ?_ rfl ?_ (xso 2 ?_ rfl ?_ (xso 3 ?_ rfl ?_ (xso 4 ?_ rfl ?_ (xso 5 ?_ rfl ?_ (xso 6 ?_ rfl ?_ (xso 7 ?_ rfl ?_ (xso 8 ?_ rfl ?_ (xso 9 ?_ rfl ?_ (xso 10 ?_ rfl ?_ (xso 11 ?_ rfl ?_ ?_)))))))))))
     iterate 12 (rotate_left; focus ((try simp only [xap]); intro w hSw; (try dsimp only at hSw); go_simp; first | done | with_reducible rfl))
     try simp only [xap]
     refine xtk 12 rfl (yieldsIf_load_mid (by rfl) _ _ rfl _ _ rfl _ _ (fun _ h => h.2.2) Tryz.underlying37 rfl (by kernel_rfl)) ?_
     try simp only [xap]
     refine xrd 13 rfl (fun K hK => ?_)
     go_simp
     go_wp2_with (refine (hL.out _ _ hTg.out).mono ?_; rintro r Y3 ⟨rfl, SM2, hT2, hm2⟩; obtain ⟨h3, hB3, hx3⟩ := hMm.out _ _ _ _ hT2 hm2; replace hB := Hz.mk (hB.out.trans hB3); replace h := Hz.mk h3; clear h3 hB3 hT2 hm2 hTg hMm hHeld)
     refine hK.out _ _ ⟨hx3.1, (h.out.there (boxOb kb #[.int .u8 op, .int .i64 A, .int .i64 B_, .int .i64 C_, .int .i64 m]) (.head _)).2.1 1, hx3.2 A hA v hvA.out⟩ (fun hHeld => ?_)
     clear hK K
     try simp only [xap]
     refine xrd 14 rfl (fun K hK => ?_)
     go_simp
     go_wp2_with (refine (hM.out _).mono ?_; rintro r Y4 ⟨rfl, rfl⟩; clear hHeld)
     refine hK.out _ _ ⟨hx3.1, (h.out.there (boxOb kb #[.int .u8 op, .int .i64 A, .int .i64 B_, .int .i64 C_, .int .i64 m]) (.head _)).2.1 1, hx3.2 A hA v hvA.out⟩ (fun hHeld => ?_)
     clear hK K
     try simp only [xap]
     refine xdn ?_ _
     clear hHeld hx3
     go_wp2_with fail
     refine (hNt.out _ _ h.out).mono ?_
     rintro r Y5 ⟨rfl, h4, hB4⟩
     replace hB := Hz.mk (hB.out.trans hB4)
     replace h := Hz.mk h4
     clear h4 hB4 hNt
     go_wp2_with fail
     refine (hNx.out _ _ h.out).mono ?_
     rintro r Y6 ⟨rfl, h5, hB5⟩
     replace hB := Hz.mk (hB.out.trans hB5)
     replace h := Hz.mk h5
     clear h5 hB5
     go_wp2_with fail
     go_end0
     exact ⟨rfl, h.out.drop, hB.out⟩
   · rw [if_neg he]
     have hL := Hz.mk (fun X SM {km : Nat} (q : TgIn SM X km s.b s.t) => hL0 X SM km q)
     have hM := Hz.mk (fun X => inMem_bad _ X he)
     have hsb := Hz.mk (stc_bad (b := s.b) (t := s.t) (v := v) he)
     simp only [Dv, pan] at hM ⊢
     clear hL0 he hNt hNx
     go_enter Tryz.func99, Tryz.ntmps99
     go_upto_region 1 with fail
     refine wp_world (fun W => MIn B W a P s (boxOb W0.heap.size #[.int .u8 op, .int .i64 A, .int .i64 B_, .int .i64 C_, .int .i64 m] :: l) ∧ Below B W0 W) h2.out ?_
     clear h2
     rintro W ⟨h, hB⟩
     generalize W0.heap.size = kb at *
     have ⟨_, p0, _⟩ := h.there (boxOb kb #[.int .u8 op, .int .i64 A, .int .i64 B_, .int .i64 C_, .int .i64 m]) (.head _)
     replace h := Hz.mk h
     replace hB := Hz.mk hB
     go_wp2_with fail
     refine (hP.out _ _ h.out).mono ?_
     rintro r X1 ⟨rfl, e1⟩
     replace hB := Hz.mk (hB.out.trans (h.out.bl e1).2)
     replace h := Hz.mk (h.out.bl e1).1
     clear e1
     clear p0 hP
     go_upto_region 2 with fail
     obtain ⟨km, SM, hx0, hTg, hMm⟩ := (h.out.bl (Bl.refl X1).drew).1.mem2
     replace hMm := Hz.mk hMm
     replace hTg := Hz.mk hTg
     replace hB := Hz.mk (hB.out.trans (h.out.bl (Bl.refl X1).drew).2)
     replace h := Hz.mk (h.out.bl (Bl.refl X1).drew).1
     refine wp_region_held_drew (S := (fun X => X.cell? ⟨a, 4, none⟩ = some (.pointer (some ⟨km, 0, none⟩)) ∧ X.cell? ⟨kb, 1, none⟩ = some (.int .i64 A) ∧ X.rangeAt a (7 + A * 7) [Value.bool v.g, .int .u64 v.n, .int .u64 v.c.b, .int .u64 v.c.e, .int .u64 v.c.c, .int .u8 v.c.p, .int .i64 v.c.s])) (by kernel_rfl) (⟨hx0.1, (h.out.there (boxOb kb #[.int .u8 op, .int .i64 A, .int .i64 B_, .int .i64 C_, .int .i64 m]) (.head _)).2.1 1, hx0.2 A hA v hvA.out⟩) (fun hHeld => ?_)
     generalize X1.drew = X2 at *
     clear hx0
     refine xso 0 ?_ rfl ?_ (xso 1 ?_ rfl ?_ (xso 2 ?_ rfl ?_ (xso 3 ?_ rfl ?_ (xso 4 ?_ rfl ?_ (xso 5 ?_ rfl ?_ (xso 6 ?_ rfl ?_ (xso 7 ?_ rfl ?_ (xso 8 ?_ rfl ?_ (xso 9 ?_ rfl ?_ (xso 10 ?_ rfl ?_ (xso 11 ?_ rfl ?_ ?_)))))))))))
     iterate 12 (rotate_left; focus ((try simp only [xap]); intro w hSw; (try dsimp only at hSw); go_simp; first | done | with_reducible rfl))
     try simp only [xap]
     refine xtk 12 rfl (yieldsIf_load_mid (by rfl) _ _ rfl _ _ rfl _ _ (fun _ h => h.2.2) Tryz.underlying37 rfl (by kernel_rfl)) ?_
     try simp only [xap]
     refine xrd 13 rfl (fun K hK => ?_)
     go_simp
     go_wp2_with (refine (hL.out _ _ hTg.out).mono ?_; rintro r Y3 ⟨rfl, SM2, hT2, hm2⟩; rw [hsb.out.1, hsb.out.2] at hT2; obtain ⟨h3, hB3, hx3⟩ := hMm.out _ _ _ _ hT2 hm2; replace hB := Hz.mk (hB.out.trans hB3); replace h := Hz.mk h3; clear h3 hB3 hT2 hm2 hTg hMm hHeld)
     refine hK.out _ _ ⟨hx3.1, (h.out.there (boxOb kb #[.int .u8 op, .int .i64 A, .int .i64 B_, .int .i64 C_, .int .i64 m]) (.head _)).2.1 1, hx3.2 A hA v hvA.out⟩ (fun hHeld => ?_)
     clear hK K
     try simp only [xap]
     refine xrd 14 rfl (fun K hK => ?_)
     go_simp
     go_wp2_with (refine (hM.out _).mono ?_; rintro r Y4 ⟨rfl, rfl⟩)
     exact ⟨rfl, rfl, h.out.drop, hB.out⟩
end C
end Go.Proofs.YtiigpncfmakgjaaGreatDoor


namespace Go.Proofs.YtiigpncfmakgjaaGreatDoor
set_option maxRecDepth 100000
set_option maxHeartbeats 40000000
namespace C
open Go.RowKit
open T (Sep Ob Kp Mf TgIn boxOb Fm Tc Ed Vl Cp Bx tgOb mRow updV flt)

def touM (s : Ms) (op : Int) (A B_ : Nat) (m : Int) : Except Ed Ms :=
 if op = 60 then loadM s A B_ m 1 else if op = 61 then loadM s A B_ m 8 else if op = 62 then storeM s A B_ m 1 else if op = 63 then storeM s A B_ m 8 else if op = 64 then ldcM s A B_ m else stcM s A B_ m
theorem touch60 (B : Nat) (W0 : World) (a : Nat) (P : PImg) (s : Ms) (l : List Ob) (A B_ C_ : Nat) (m : Int) (h : MIn B W0 a P s l) (hA : A < 16) (hB_ : B_ < 16) (hp : s.at_.pc < 1000000000) (hl : s.tou.length ≤ 1000000) :
   Calls Tryz.prog 60 #[.pointer (some ⟨a, 0, none⟩), insA 60 A B_ C_ m] W0 fun x w' => Dv B W0 a P s l (loadM s A B_ m 1) x w' := by
 have h2 := Hz.mk (h.new #[.int .u8 60, .int .i64 A, .int .i64 B_, .int .i64 C_, .int .i64 m] 64)
 have hC := Hz.mk (fun X l' (q : MIn B X a P s l') => load_any B X a P s l' 60 A B_ C_ m 1 q hA hB_ hp hl (.inl rfl))
 clear h
 generalize loadM s A B_ m 1 = q at *
 unfold insA at *
 cases q with
 | error e =>
   simp only [Dv, pan] at hC ⊢
   go_enter Tryz.func60, Tryz.ntmps60
   go_upto_region 1 with fail
   refine wp_world (fun W => MIn B W a P s (boxOb W0.heap.size #[.int .u8 60, .int .i64 A, .int .i64 B_, .int .i64 C_, .int .i64 m] :: l) ∧ Below B W0 W) h2.out ?_
   clear h2
   rintro W ⟨h, hB⟩
   generalize W0.heap.size = kb at *
   have ⟨_, p0, _⟩ := h.there (boxOb kb #[.int .u8 60, .int .i64 A, .int .i64 B_, .int .i64 C_, .int .i64 m]) (.head _)
   replace h := Hz.mk h
   replace hB := Hz.mk hB
   go_wp2_with (refine (hC.out _ _ h.out).mono ?_; rintro x w1 ⟨rfl, h1, hB1⟩)
   exact ⟨rfl, rfl, h1.drop, hB.out.trans hB1⟩
 | ok s' =>
   simp only [Dv] at hC ⊢
   go_enter Tryz.func60, Tryz.ntmps60
   go_upto_region 1 with fail
   refine wp_world (fun W => MIn B W a P s (boxOb W0.heap.size #[.int .u8 60, .int .i64 A, .int .i64 B_, .int .i64 C_, .int .i64 m] :: l) ∧ Below B W0 W) h2.out ?_
   clear h2
   rintro W ⟨h, hB⟩
   generalize W0.heap.size = kb at *
   have ⟨_, p0, _⟩ := h.there (boxOb kb #[.int .u8 60, .int .i64 A, .int .i64 B_, .int .i64 C_, .int .i64 m]) (.head _)
   replace h := Hz.mk h
   replace hB := Hz.mk hB
   go_wp2_with fail
   refine (hC.out _ _ h.out).mono ?_
   rintro x w1 ⟨rfl, h1, hB1⟩
   replace h1 := Hz.mk h1
   replace hB1 := Hz.mk hB1
   clear p0
   go_wp2_with fail
   first | go_end0 | ((try simp only [Exit.inBlock, Exit.then]); refine bodyPost_ret (results_none rfl _ _ _) rfl ?_)
   exact ⟨rfl, h1.out.drop, hB.out.trans hB1.out⟩
theorem touch61 (B : Nat) (W0 : World) (a : Nat) (P : PImg) (s : Ms) (l : List Ob) (A B_ C_ : Nat) (m : Int) (h : MIn B W0 a P s l) (hA : A < 16) (hB_ : B_ < 16) (hp : s.at_.pc < 1000000000) (hl : s.tou.length ≤ 1000000) :
   Calls Tryz.prog 60 #[.pointer (some ⟨a, 0, none⟩), insA 61 A B_ C_ m] W0 fun x w' => Dv B W0 a P s l (loadM s A B_ m 8) x w' := by
 have h2 := Hz.mk (h.new #[.int .u8 61, .int .i64 A, .int .i64 B_, .int .i64 C_, .int .i64 m] 64)
 have hC := Hz.mk (fun X l' (q : MIn B X a P s l') => load_any B X a P s l' 61 A B_ C_ m 8 q hA hB_ hp hl (.inr rfl))
 clear h
 generalize loadM s A B_ m 8 = q at *
 unfold insA at *
 cases q with
 | error e =>
   simp only [Dv, pan] at hC ⊢
   go_enter Tryz.func60, Tryz.ntmps60
   go_upto_region 1 with fail
   refine wp_world (fun W => MIn B W a P s (boxOb W0.heap.size #[.int .u8 61, .int .i64 A, .int .i64 B_, .int .i64 C_, .int .i64 m] :: l) ∧ Below B W0 W) h2.out ?_
   clear h2
   rintro W ⟨h, hB⟩
   generalize W0.heap.size = kb at *
   have ⟨_, p0, _⟩ := h.there (boxOb kb #[.int .u8 61, .int .i64 A, .int .i64 B_, .int .i64 C_, .int .i64 m]) (.head _)
   replace h := Hz.mk h
   replace hB := Hz.mk hB
   go_wp2_with (refine (hC.out _ _ h.out).mono ?_; rintro x w1 ⟨rfl, h1, hB1⟩)
   exact ⟨rfl, rfl, h1.drop, hB.out.trans hB1⟩
 | ok s' =>
   simp only [Dv] at hC ⊢
   go_enter Tryz.func60, Tryz.ntmps60
   go_upto_region 1 with fail
   refine wp_world (fun W => MIn B W a P s (boxOb W0.heap.size #[.int .u8 61, .int .i64 A, .int .i64 B_, .int .i64 C_, .int .i64 m] :: l) ∧ Below B W0 W) h2.out ?_
   clear h2
   rintro W ⟨h, hB⟩
   generalize W0.heap.size = kb at *
   have ⟨_, p0, _⟩ := h.there (boxOb kb #[.int .u8 61, .int .i64 A, .int .i64 B_, .int .i64 C_, .int .i64 m]) (.head _)
   replace h := Hz.mk h
   replace hB := Hz.mk hB
   go_wp2_with fail
   refine (hC.out _ _ h.out).mono ?_
   rintro x w1 ⟨rfl, h1, hB1⟩
   replace h1 := Hz.mk h1
   replace hB1 := Hz.mk hB1
   clear p0
   go_wp2_with fail
   first | go_end0 | ((try simp only [Exit.inBlock, Exit.then]); refine bodyPost_ret (results_none rfl _ _ _) rfl ?_)
   exact ⟨rfl, h1.out.drop, hB.out.trans hB1.out⟩
theorem touch62 (B : Nat) (W0 : World) (a : Nat) (P : PImg) (s : Ms) (l : List Ob) (A B_ C_ : Nat) (m : Int) (h : MIn B W0 a P s l) (hA : A < 16) (hB_ : B_ < 16) (hp : s.at_.pc < 1000000000) (hl : s.tou.length ≤ 1000000) :
   Calls Tryz.prog 60 #[.pointer (some ⟨a, 0, none⟩), insA 62 A B_ C_ m] W0 fun x w' => Dv B W0 a P s l (storeM s A B_ m 1) x w' := by
 have h2 := Hz.mk (h.new #[.int .u8 62, .int .i64 A, .int .i64 B_, .int .i64 C_, .int .i64 m] 64)
 have hC := Hz.mk (fun X l' (q : MIn B X a P s l') => store_any B X a P s l' 62 A B_ C_ m 1 q hA hB_ hp hl (.inl rfl))
 clear h
 generalize storeM s A B_ m 1 = q at *
 unfold insA at *
 cases q with
 | error e =>
   simp only [Dv, pan] at hC ⊢
   go_enter Tryz.func60, Tryz.ntmps60
   go_upto_region 1 with fail
   refine wp_world (fun W => MIn B W a P s (boxOb W0.heap.size #[.int .u8 62, .int .i64 A, .int .i64 B_, .int .i64 C_, .int .i64 m] :: l) ∧ Below B W0 W) h2.out ?_
   clear h2
   rintro W ⟨h, hB⟩
   generalize W0.heap.size = kb at *
   have ⟨_, p0, _⟩ := h.there (boxOb kb #[.int .u8 62, .int .i64 A, .int .i64 B_, .int .i64 C_, .int .i64 m]) (.head _)
   replace h := Hz.mk h
   replace hB := Hz.mk hB
   go_wp2_with (refine (hC.out _ _ h.out).mono ?_; rintro x w1 ⟨rfl, h1, hB1⟩)
   exact ⟨rfl, rfl, h1.drop, hB.out.trans hB1⟩
 | ok s' =>
   simp only [Dv] at hC ⊢
   go_enter Tryz.func60, Tryz.ntmps60
   go_upto_region 1 with fail
   refine wp_world (fun W => MIn B W a P s (boxOb W0.heap.size #[.int .u8 62, .int .i64 A, .int .i64 B_, .int .i64 C_, .int .i64 m] :: l) ∧ Below B W0 W) h2.out ?_
   clear h2
   rintro W ⟨h, hB⟩
   generalize W0.heap.size = kb at *
   have ⟨_, p0, _⟩ := h.there (boxOb kb #[.int .u8 62, .int .i64 A, .int .i64 B_, .int .i64 C_, .int .i64 m]) (.head _)
   replace h := Hz.mk h
   replace hB := Hz.mk hB
   go_wp2_with fail
   refine (hC.out _ _ h.out).mono ?_
   rintro x w1 ⟨rfl, h1, hB1⟩
   replace h1 := Hz.mk h1
   replace hB1 := Hz.mk hB1
   clear p0
   go_wp2_with fail
   first | go_end0 | ((try simp only [Exit.inBlock, Exit.then]); refine bodyPost_ret (results_none rfl _ _ _) rfl ?_)
   exact ⟨rfl, h1.out.drop, hB.out.trans hB1.out⟩
theorem touch63 (B : Nat) (W0 : World) (a : Nat) (P : PImg) (s : Ms) (l : List Ob) (A B_ C_ : Nat) (m : Int) (h : MIn B W0 a P s l) (hA : A < 16) (hB_ : B_ < 16) (hp : s.at_.pc < 1000000000) (hl : s.tou.length ≤ 1000000) :
   Calls Tryz.prog 60 #[.pointer (some ⟨a, 0, none⟩), insA 63 A B_ C_ m] W0 fun x w' => Dv B W0 a P s l (storeM s A B_ m 8) x w' := by
 have h2 := Hz.mk (h.new #[.int .u8 63, .int .i64 A, .int .i64 B_, .int .i64 C_, .int .i64 m] 64)
 have hC := Hz.mk (fun X l' (q : MIn B X a P s l') => store_any B X a P s l' 63 A B_ C_ m 8 q hA hB_ hp hl (.inr rfl))
 clear h
 generalize storeM s A B_ m 8 = q at *
 unfold insA at *
 cases q with
 | error e =>
   simp only [Dv, pan] at hC ⊢
   go_enter Tryz.func60, Tryz.ntmps60
   go_upto_region 1 with fail
   refine wp_world (fun W => MIn B W a P s (boxOb W0.heap.size #[.int .u8 63, .int .i64 A, .int .i64 B_, .int .i64 C_, .int .i64 m] :: l) ∧ Below B W0 W) h2.out ?_
   clear h2
   rintro W ⟨h, hB⟩
   generalize W0.heap.size = kb at *
   have ⟨_, p0, _⟩ := h.there (boxOb kb #[.int .u8 63, .int .i64 A, .int .i64 B_, .int .i64 C_, .int .i64 m]) (.head _)
   replace h := Hz.mk h
   replace hB := Hz.mk hB
   go_wp2_with (refine (hC.out _ _ h.out).mono ?_; rintro x w1 ⟨rfl, h1, hB1⟩)
   exact ⟨rfl, rfl, h1.drop, hB.out.trans hB1⟩
 | ok s' =>
   simp only [Dv] at hC ⊢
   go_enter Tryz.func60, Tryz.ntmps60
   go_upto_region 1 with fail
   refine wp_world (fun W => MIn B W a P s (boxOb W0.heap.size #[.int .u8 63, .int .i64 A, .int .i64 B_, .int .i64 C_, .int .i64 m] :: l) ∧ Below B W0 W) h2.out ?_
   clear h2
   rintro W ⟨h, hB⟩
   generalize W0.heap.size = kb at *
   have ⟨_, p0, _⟩ := h.there (boxOb kb #[.int .u8 63, .int .i64 A, .int .i64 B_, .int .i64 C_, .int .i64 m]) (.head _)
   replace h := Hz.mk h
   replace hB := Hz.mk hB
   go_wp2_with fail
   refine (hC.out _ _ h.out).mono ?_
   rintro x w1 ⟨rfl, h1, hB1⟩
   replace h1 := Hz.mk h1
   replace hB1 := Hz.mk hB1
   clear p0
   go_wp2_with fail
   first | go_end0 | ((try simp only [Exit.inBlock, Exit.then]); refine bodyPost_ret (results_none rfl _ _ _) rfl ?_)
   exact ⟨rfl, h1.out.drop, hB.out.trans hB1.out⟩
theorem touch64 (B : Nat) (W0 : World) (a : Nat) (P : PImg) (s : Ms) (l : List Ob) (A B_ C_ : Nat) (m : Int) (h : MIn B W0 a P s l) (hA : A < 16) (hB_ : B_ < 16) (hp : s.at_.pc < 1000000000) (hl : s.tou.length ≤ 1000000) :
   Calls Tryz.prog 60 #[.pointer (some ⟨a, 0, none⟩), insA 64 A B_ C_ m] W0 fun x w' => Dv B W0 a P s l (ldcM s A B_ m) x w' := by
 have h2 := Hz.mk (h.new #[.int .u8 64, .int .i64 A, .int .i64 B_, .int .i64 C_, .int .i64 m] 64)
 have hC := Hz.mk (fun X l' (q : MIn B X a P s l') => loadCap_any B X a P s l' 64 A B_ C_ m q hA hB_ hp hl)
 clear h
 generalize ldcM s A B_ m = q at *
 unfold insA at *
 cases q with
 | error e =>
   simp only [Dv, pan] at hC ⊢
   go_enter Tryz.func60, Tryz.ntmps60
   go_upto_region 1 with fail
   refine wp_world (fun W => MIn B W a P s (boxOb W0.heap.size #[.int .u8 64, .int .i64 A, .int .i64 B_, .int .i64 C_, .int .i64 m] :: l) ∧ Below B W0 W) h2.out ?_
   clear h2
   rintro W ⟨h, hB⟩
   generalize W0.heap.size = kb at *
   have ⟨_, p0, _⟩ := h.there (boxOb kb #[.int .u8 64, .int .i64 A, .int .i64 B_, .int .i64 C_, .int .i64 m]) (.head _)
   replace h := Hz.mk h
   replace hB := Hz.mk hB
   go_wp2_with (refine (hC.out _ _ h.out).mono ?_; rintro x w1 ⟨rfl, h1, hB1⟩)
   exact ⟨rfl, rfl, h1.drop, hB.out.trans hB1⟩
 | ok s' =>
   simp only [Dv] at hC ⊢
   go_enter Tryz.func60, Tryz.ntmps60
   go_upto_region 1 with fail
   refine wp_world (fun W => MIn B W a P s (boxOb W0.heap.size #[.int .u8 64, .int .i64 A, .int .i64 B_, .int .i64 C_, .int .i64 m] :: l) ∧ Below B W0 W) h2.out ?_
   clear h2
   rintro W ⟨h, hB⟩
   generalize W0.heap.size = kb at *
   have ⟨_, p0, _⟩ := h.there (boxOb kb #[.int .u8 64, .int .i64 A, .int .i64 B_, .int .i64 C_, .int .i64 m]) (.head _)
   replace h := Hz.mk h
   replace hB := Hz.mk hB
   go_wp2_with fail
   refine (hC.out _ _ h.out).mono ?_
   rintro x w1 ⟨rfl, h1, hB1⟩
   replace h1 := Hz.mk h1
   replace hB1 := Hz.mk hB1
   clear p0
   go_wp2_with fail
   first | go_end0 | ((try simp only [Exit.inBlock, Exit.then]); refine bodyPost_ret (results_none rfl _ _ _) rfl ?_)
   exact ⟨rfl, h1.out.drop, hB.out.trans hB1.out⟩
theorem touch65 (B : Nat) (W0 : World) (a : Nat) (P : PImg) (s : Ms) (l : List Ob) (A B_ C_ : Nat) (m : Int) (h : MIn B W0 a P s l) (hA : A < 16) (hB_ : B_ < 16) (hp : s.at_.pc < 1000000000) (hl : s.tou.length ≤ 1000000) (hc0 : 0 ≤ (s.at_.regs A).c.c) :
   Calls Tryz.prog 60 #[.pointer (some ⟨a, 0, none⟩), insA 65 A B_ C_ m] W0 fun x w' => Dv B W0 a P s l (stcM s A B_ m) x w' := by
 have h2 := Hz.mk (h.new #[.int .u8 65, .int .i64 A, .int .i64 B_, .int .i64 C_, .int .i64 m] 64)
 have hC := Hz.mk (fun X l' (q : MIn B X a P s l') => storeCap_any B X a P s l' 65 A B_ C_ m q hA hB_ hp hl hc0)
 clear h
 generalize stcM s A B_ m = q at *
 unfold insA at *
 cases q with
 | error e =>
   simp only [Dv, pan] at hC ⊢
   go_enter Tryz.func60, Tryz.ntmps60
   go_upto_region 1 with fail
   refine wp_world (fun W => MIn B W a P s (boxOb W0.heap.size #[.int .u8 65, .int .i64 A, .int .i64 B_, .int .i64 C_, .int .i64 m] :: l) ∧ Below B W0 W) h2.out ?_
   clear h2
   rintro W ⟨h, hB⟩
   generalize W0.heap.size = kb at *
   have ⟨_, p0, _⟩ := h.there (boxOb kb #[.int .u8 65, .int .i64 A, .int .i64 B_, .int .i64 C_, .int .i64 m]) (.head _)
   replace h := Hz.mk h
   replace hB := Hz.mk hB
   go_wp2_with (refine (hC.out _ _ h.out).mono ?_; rintro x w1 ⟨rfl, h1, hB1⟩)
   exact ⟨rfl, rfl, h1.drop, hB.out.trans hB1⟩
 | ok s' =>
   simp only [Dv] at hC ⊢
   go_enter Tryz.func60, Tryz.ntmps60
   go_upto_region 1 with fail
   refine wp_world (fun W => MIn B W a P s (boxOb W0.heap.size #[.int .u8 65, .int .i64 A, .int .i64 B_, .int .i64 C_, .int .i64 m] :: l) ∧ Below B W0 W) h2.out ?_
   clear h2
   rintro W ⟨h, hB⟩
   generalize W0.heap.size = kb at *
   have ⟨_, p0, _⟩ := h.there (boxOb kb #[.int .u8 65, .int .i64 A, .int .i64 B_, .int .i64 C_, .int .i64 m]) (.head _)
   replace h := Hz.mk h
   replace hB := Hz.mk hB
   go_wp2_with fail
   refine (hC.out _ _ h.out).mono ?_
   rintro x w1 ⟨rfl, h1, hB1⟩
   replace h1 := Hz.mk h1
   replace hB1 := Hz.mk hB1
   clear p0
   go_wp2_with fail
   first | go_end0 | ((try simp only [Exit.inBlock, Exit.then]); refine bodyPost_ret (results_none rfl _ _ _) rfl ?_)
   exact ⟨rfl, h1.out.drop, hB.out.trans hB1.out⟩
theorem touch_any (B : Nat) (W0 : World) (a : Nat) (P : PImg) (s : Ms) (l : List Ob) (op : Int) (A B_ C_ : Nat) (m : Int) (h : MIn B W0 a P s l) (hA : A < 16) (hB_ : B_ < 16) (hp : s.at_.pc < 1000000000) (hl : s.tou.length ≤ 1000000) (hc0 : 0 ≤ (s.at_.regs A).c.c) (hop : 60 ≤ op ∧ op ≤ 65) :
   Calls Tryz.prog 60 #[.pointer (some ⟨a, 0, none⟩), insA op A B_ C_ m] W0 fun x w' => Dv B W0 a P s l (touM s op A B_ m) x w' := by
 have ho : op = 60 ∨ op = 61 ∨ op = 62 ∨ op = 63 ∨ op = 64 ∨ op = 65 := by omega
 rcases ho with rfl | rfl | rfl | rfl | rfl | rfl
 · exact touch60 B W0 a P s l A B_ C_ m h hA hB_ hp hl
 · exact touch61 B W0 a P s l A B_ C_ m h hA hB_ hp hl
 · exact touch62 B W0 a P s l A B_ C_ m h hA hB_ hp hl
 · exact touch63 B W0 a P s l A B_ C_ m h hA hB_ hp hl
 · exact touch64 B W0 a P s l A B_ C_ m h hA hB_ hp hl
 · exact touch65 B W0 a P s l A B_ C_ m h hA hB_ hp hl hc0
end C
end Go.Proofs.YtiigpncfmakgjaaGreatDoor


namespace Go.Proofs.YtiigpncfmakgjaaGreatDoor
set_option maxRecDepth 100000
set_option maxHeartbeats 40000000
namespace C
open Go.RowKit
open T (Sep Ob Kp Mf TgIn boxOb Fm Tc Ed Vl Cp Bx tgOb mRow updV flt)

def brF (op x y : Int) : Bool := if op = 21 then x == y else if op = 22 then x != y else if op = 23 then decide (x < y) else decide (y ≤ x)
theorem branches_any (op x y : Int) (w : World) (hop : op = 21 ∨ op = 22 ∨ op = 23 ∨ op = 24) : Calls Tryz.prog 112 #[.int .u8 op, .int .u64 x, .int .u64 y] w fun r w' => r = .returned (.bool (brF op x y)) ∧ Bl w w' := by
 rcases hop with rfl | rfl | rfl | rfl
 · go_enter Tryz.func112, Tryz.ntmps112
   go_wp2_with fail
   go_ret
   exact ⟨rfl, Bl.refl _⟩
 · go_enter Tryz.func112, Tryz.ntmps112
   go_wp2_with fail
   go_ret
   exact ⟨rfl, Bl.refl _⟩
 · go_enter Tryz.func112, Tryz.ntmps112
   go_wp2_with fail
   go_ret
   exact ⟨rfl, Bl.refl _⟩
 · go_enter Tryz.func112, Tryz.ntmps112
   go_wp2_with fail
   go_ret
   exact ⟨rfl, Bl.refl _⟩
def braM (s : Ms) (op : Int) (A B_ : Nat) (k : Nat) : Except Ed Ms :=
 if (s.at_.regs A).g then .error (flt 2) else if (s.at_.regs B_).g then .error (flt 2) else .ok (if brF op (s.at_.regs A).n (s.at_.regs B_).n then s.goTo k else s.next)
theorem branch_a (B : Nat) (W0 : World) (a : Nat) (P : PImg) (s : Ms) (l : List Ob) (op : Int) (A B_ C_ : Nat) (k : Nat) (h : MIn B W0 a P s l) (hA : A < 16) (_hB : B_ < 16) (_hp : s.at_.pc < 1000000000) (_hop : op = 21 ∨ op = 22 ∨ op = 23 ∨ op = 24) (hg : (s.at_.regs A).g = true) :
   Calls Tryz.prog 85 #[.pointer (some ⟨a, 0, none⟩), insA op A B_ C_ k] W0 fun x w' => Dv B W0 a P s l (braM s op A B_ k) x w' := by
 have er : braM s op A B_ k = .error (flt 2) := by unfold braM; rw [hg]; rfl
 rw [er]
 clear er
 have h2 := Hz.mk (h.new #[.int .u8 op, .int .i64 A, .int .i64 B_, .int .i64 C_, .int .i64 (k : Int)] 64)
 have h1 := Hz.mk (fun X l' (q : MIn B X a P s l') => number_badB a A (s.at_.regs A) X (q.rg A hA) hg)
 simp only [Dv, pan] at *
 clear h
 unfold insA at *
 go_enter Tryz.func85, Tryz.ntmps85
 go_upto_region 1 with fail
 refine wp_world (fun W => MIn B W a P s (boxOb W0.heap.size #[.int .u8 op, .int .i64 A, .int .i64 B_, .int .i64 C_, .int .i64 (k : Int)] :: l) ∧ Below B W0 W) h2.out ?_
 clear h2
 rintro W ⟨h, hB⟩
 generalize W0.heap.size = kb at *
 replace hB := Hz.mk (hB.trans (h.bl (Bl.refl W).drew).2)
 replace h := Hz.mk (h.bl (Bl.refl W).drew).1
 refine wp_region_held_drew (S := (fun X => X.cell? ⟨kb, 0, none⟩ = some (.int .u8 op) ∧ X.cell? ⟨kb, 1, none⟩ = some (.int .i64 A) ∧ X.cell? ⟨kb, 2, none⟩ = some (.int .i64 B_))) (by kernel_rfl) (⟨(h.out.there (boxOb kb #[.int .u8 op, .int .i64 A, .int .i64 B_, .int .i64 C_, .int .i64 (k : Int)]) (.head _)).2.1 0, (h.out.there (boxOb kb #[.int .u8 op, .int .i64 A, .int .i64 B_, .int .i64 C_, .int .i64 (k : Int)]) (.head _)).2.1 1, (h.out.there (boxOb kb #[.int .u8 op, .int .i64 A, .int .i64 B_, .int .i64 C_, .int .i64 (k : Int)]) (.head _)).2.1 2⟩) (fun hHeld => ?_)
 generalize W.drew = X0 at *
 refine xso 0 ?_ rfl ?_ (xso 1 ?_ rfl ?_ (xso 2 ?_ rfl ?_ (xso 3 ?_ rfl ?_ (xso 4 ?_ rfl ?_ (xso 6 ?_ rfl ?_ (xso 7 ?_ rfl ?_ (xso 8 ?_ rfl ?_ ?_)))))))
 iterate 8 (rotate_left; focus ((try simp only [xap]); intro w hSw; (try dsimp only at hSw); go_simp; first | done | with_reducible rfl))
 try simp only [xap]
 refine xrd 5 rfl (fun K hK => ?_)
 go_simp
 go_wp2_with (refine (h1.out _ _ h.out).mono ?_; rintro r Y1 ⟨rfl, e1⟩)
 exact ⟨rfl, rfl, (h.out.bl e1).1.drop, hB.out.trans (h.out.bl e1).2⟩
theorem branch_b (B : Nat) (W0 : World) (a : Nat) (P : PImg) (s : Ms) (l : List Ob) (op : Int) (A B_ C_ : Nat) (k : Nat) (h : MIn B W0 a P s l) (hA : A < 16) (hB_ : B_ < 16) (_hp : s.at_.pc < 1000000000) (_hop : op = 21 ∨ op = 22 ∨ op = 23 ∨ op = 24) (hg : (s.at_.regs A).g = false) (hg2 : (s.at_.regs B_).g = true) :
   Calls Tryz.prog 85 #[.pointer (some ⟨a, 0, none⟩), insA op A B_ C_ k] W0 fun x w' => Dv B W0 a P s l (braM s op A B_ k) x w' := by
 have er : braM s op A B_ k = .error (flt 2) := by unfold braM; rw [hg, hg2]; rfl
 rw [er]
 clear er
 have h2 := Hz.mk (h.new #[.int .u8 op, .int .i64 A, .int .i64 B_, .int .i64 C_, .int .i64 (k : Int)] 64)
 have h1 := Hz.mk (fun X l' (q : MIn B X a P s l') => number_okB a A (s.at_.regs A) X (q.rg A hA) hg)
 have h3 := Hz.mk (fun X l' (q : MIn B X a P s l') => number_badB a B_ (s.at_.regs B_) X (q.rg B_ hB_) hg2)
 simp only [Dv, pan] at *
 clear h
 unfold insA at *
 go_enter Tryz.func85, Tryz.ntmps85
 go_upto_region 1 with fail
 refine wp_world (fun W => MIn B W a P s (boxOb W0.heap.size #[.int .u8 op, .int .i64 A, .int .i64 B_, .int .i64 C_, .int .i64 (k : Int)] :: l) ∧ Below B W0 W) h2.out ?_
 clear h2
 rintro W ⟨h, hB⟩
 generalize W0.heap.size = kb at *
 replace hB := Hz.mk (hB.trans (h.bl (Bl.refl W).drew).2)
 replace h := Hz.mk (h.bl (Bl.refl W).drew).1
 refine wp_region_held_drew (S := (fun X => X.cell? ⟨kb, 0, none⟩ = some (.int .u8 op) ∧ X.cell? ⟨kb, 1, none⟩ = some (.int .i64 A) ∧ X.cell? ⟨kb, 2, none⟩ = some (.int .i64 B_))) (by kernel_rfl) (⟨(h.out.there (boxOb kb #[.int .u8 op, .int .i64 A, .int .i64 B_, .int .i64 C_, .int .i64 (k : Int)]) (.head _)).2.1 0, (h.out.there (boxOb kb #[.int .u8 op, .int .i64 A, .int .i64 B_, .int .i64 C_, .int .i64 (k : Int)]) (.head _)).2.1 1, (h.out.there (boxOb kb #[.int .u8 op, .int .i64 A, .int .i64 B_, .int .i64 C_, .int .i64 (k : Int)]) (.head _)).2.1 2⟩) (fun hHeld => ?_)
 generalize W.drew = X0 at *
 refine xso 0 ?_ rfl ?_ (xso 1 ?_ rfl ?_ (xso 2 ?_ rfl ?_ (xso 3 ?_ rfl ?_ (xso 4 ?_ rfl ?_ (xso 6 ?_ rfl ?_ (xso 7 ?_ rfl ?_ (xso 8 ?_ rfl ?_ ?_)))))))
 iterate 8 (rotate_left; focus ((try simp only [xap]); intro w hSw; (try dsimp only at hSw); go_simp; first | done | with_reducible rfl))
 try simp only [xap]
 refine xrd 5 rfl (fun K hK => ?_)
 go_simp
 go_wp2_with (refine (h1.out _ _ h.out).mono ?_; rintro r Y1 ⟨rfl, e1⟩; replace hB := Hz.mk (hB.out.trans (h.out.bl e1).2); replace h := Hz.mk (h.out.bl e1).1; clear e1 hHeld)
 refine hK.out _ _ ⟨(h.out.there (boxOb kb #[.int .u8 op, .int .i64 A, .int .i64 B_, .int .i64 C_, .int .i64 (k : Int)]) (.head _)).2.1 0, (h.out.there (boxOb kb #[.int .u8 op, .int .i64 A, .int .i64 B_, .int .i64 C_, .int .i64 (k : Int)]) (.head _)).2.1 1, (h.out.there (boxOb kb #[.int .u8 op, .int .i64 A, .int .i64 B_, .int .i64 C_, .int .i64 (k : Int)]) (.head _)).2.1 2⟩ (fun hHeld => ?_)
 clear hK K
 try simp only [xap]
 refine xrd 9 rfl (fun K hK => ?_)
 go_simp
 go_wp2_with (refine (h3.out _ _ h.out).mono ?_; rintro r Y2 ⟨rfl, e1⟩)
 exact ⟨rfl, rfl, (h.out.bl e1).1.drop, hB.out.trans (h.out.bl e1).2⟩
theorem branch_yes (B : Nat) (W0 : World) (a : Nat) (P : PImg) (s : Ms) (l : List Ob) (op : Int) (A B_ C_ : Nat) (k : Nat) (h : MIn B W0 a P s l) (hA : A < 16) (hB_ : B_ < 16) (_hp : s.at_.pc < 1000000000) (hop : op = 21 ∨ op = 22 ∨ op = 23 ∨ op = 24) (hg : (s.at_.regs A).g = false) (hg2 : (s.at_.regs B_).g = false) (hb : brF op (s.at_.regs A).n (s.at_.regs B_).n = true) :
   Calls Tryz.prog 85 #[.pointer (some ⟨a, 0, none⟩), insA op A B_ C_ k] W0 fun x w' => Dv B W0 a P s l (braM s op A B_ k) x w' := by
 have er : braM s op A B_ k = .ok (s.goTo k) := by unfold braM; rw [hg, hg2, hb]; rfl
 rw [er]
 clear er
 have h2 := Hz.mk (h.new #[.int .u8 op, .int .i64 A, .int .i64 B_, .int .i64 C_, .int .i64 (k : Int)] 64)
 have h1 := Hz.mk (fun X l' (q : MIn B X a P s l') => number_okB a A (s.at_.regs A) X (q.rg A hA) hg)
 have h3 := Hz.mk (fun X l' (q : MIn B X a P s l') => number_okB a B_ (s.at_.regs B_) X (q.rg B_ hB_) hg2)
 have hX := Hz.mk (fun X => branches_any op (s.at_.regs A).n (s.at_.regs B_).n X hop)
 rw [hb] at hX
 simp only [Dv]
 clear h
 unfold insA at *
 go_enter Tryz.func85, Tryz.ntmps85
 go_upto_region 1 with fail
 refine wp_world (fun W => MIn B W a P s (boxOb W0.heap.size #[.int .u8 op, .int .i64 A, .int .i64 B_, .int .i64 C_, .int .i64 (k : Int)] :: l) ∧ Below B W0 W) h2.out ?_
 clear h2
 rintro W ⟨h, hB⟩
 generalize W0.heap.size = kb at *
 replace hB := Hz.mk (hB.trans (h.bl (Bl.refl W).drew).2)
 replace h := Hz.mk (h.bl (Bl.refl W).drew).1
 refine wp_region_held_drew (S := (fun X => X.cell? ⟨kb, 0, none⟩ = some (.int .u8 op) ∧ X.cell? ⟨kb, 1, none⟩ = some (.int .i64 A) ∧ X.cell? ⟨kb, 2, none⟩ = some (.int .i64 B_))) (by kernel_rfl) (⟨(h.out.there (boxOb kb #[.int .u8 op, .int .i64 A, .int .i64 B_, .int .i64 C_, .int .i64 (k : Int)]) (.head _)).2.1 0, (h.out.there (boxOb kb #[.int .u8 op, .int .i64 A, .int .i64 B_, .int .i64 C_, .int .i64 (k : Int)]) (.head _)).2.1 1, (h.out.there (boxOb kb #[.int .u8 op, .int .i64 A, .int .i64 B_, .int .i64 C_, .int .i64 (k : Int)]) (.head _)).2.1 2⟩) (fun hHeld => ?_)
 generalize W.drew = X0 at *
 refine xso 0 ?_ rfl ?_ (xso 1 ?_ rfl ?_ (xso 2 ?_ rfl ?_ (xso 3 ?_ rfl ?_ (xso 4 ?_ rfl ?_ (xso 6 ?_ rfl ?_ (xso 7 ?_ rfl ?_ (xso 8 ?_ rfl ?_ ?_)))))))
 iterate 8 (rotate_left; focus ((try simp only [xap]); intro w hSw; (try dsimp only at hSw); go_simp; first | done | with_reducible rfl))
 try simp only [xap]
 refine xrd 5 rfl (fun K hK => ?_)
 go_simp
 go_wp2_with (refine (h1.out _ _ h.out).mono ?_; rintro r Y1 ⟨rfl, e1⟩; replace hB := Hz.mk (hB.out.trans (h.out.bl e1).2); replace h := Hz.mk (h.out.bl e1).1; clear e1 hHeld)
 refine hK.out _ _ ⟨(h.out.there (boxOb kb #[.int .u8 op, .int .i64 A, .int .i64 B_, .int .i64 C_, .int .i64 (k : Int)]) (.head _)).2.1 0, (h.out.there (boxOb kb #[.int .u8 op, .int .i64 A, .int .i64 B_, .int .i64 C_, .int .i64 (k : Int)]) (.head _)).2.1 1, (h.out.there (boxOb kb #[.int .u8 op, .int .i64 A, .int .i64 B_, .int .i64 C_, .int .i64 (k : Int)]) (.head _)).2.1 2⟩ (fun hHeld => ?_)
 clear hK K
 try simp only [xap]
 refine xrd 9 rfl (fun K hK => ?_)
 go_simp
 go_wp2_with (refine (h3.out _ _ h.out).mono ?_; rintro r Y2 ⟨rfl, e1⟩; replace hB := Hz.mk (hB.out.trans (h.out.bl e1).2); replace h := Hz.mk (h.out.bl e1).1; clear e1 hHeld)
 refine hK.out _ _ ⟨(h.out.there (boxOb kb #[.int .u8 op, .int .i64 A, .int .i64 B_, .int .i64 C_, .int .i64 (k : Int)]) (.head _)).2.1 0, (h.out.there (boxOb kb #[.int .u8 op, .int .i64 A, .int .i64 B_, .int .i64 C_, .int .i64 (k : Int)]) (.head _)).2.1 1, (h.out.there (boxOb kb #[.int .u8 op, .int .i64 A, .int .i64 B_, .int .i64 C_, .int .i64 (k : Int)]) (.head _)).2.1 2⟩ (fun hHeld => ?_)
 clear hK K
 try simp only [xap]
 refine xrd 10 rfl (fun K hK => ?_)
 go_simp
 go_wp2_with (refine (hX.out _).mono ?_; rintro r Y3 ⟨rfl, e1⟩; replace hB := Hz.mk (hB.out.trans (h.out.bl e1).2); replace h := Hz.mk (h.out.bl e1).1; clear e1 hHeld)
 refine hK.out _ _ ⟨(h.out.there (boxOb kb #[.int .u8 op, .int .i64 A, .int .i64 B_, .int .i64 C_, .int .i64 (k : Int)]) (.head _)).2.1 0, (h.out.there (boxOb kb #[.int .u8 op, .int .i64 A, .int .i64 B_, .int .i64 C_, .int .i64 (k : Int)]) (.head _)).2.1 1, (h.out.there (boxOb kb #[.int .u8 op, .int .i64 A, .int .i64 B_, .int .i64 C_, .int .i64 (k : Int)]) (.head _)).2.1 2⟩ (fun hHeld => ?_)
 clear hK K
 try simp only [xap]
 refine xdn ?_ _
 clear hHeld
 have ⟨_, p0, _⟩ := (h.out.there (boxOb kb #[.int .u8 op, .int .i64 A, .int .i64 B_, .int .i64 C_, .int .i64 (k : Int)]) (.head _))
 obtain ⟨_, c6, _, _, _, fr⟩ := h.out.cell
 have hlt := h.out.alt
 have hq := Hz.mk (h.out.setPc k)
 go_wp2_with fail
 first | go_end0 | ((try simp only [Exit.inBlock, Exit.then]); refine bodyPost_ret (results_none rfl _ _ _) rfl ?_)
 exact ⟨rfl, hq.out.1.drop, hB.out.trans hq.out.2⟩
theorem branch_no (B : Nat) (W0 : World) (a : Nat) (P : PImg) (s : Ms) (l : List Ob) (op : Int) (A B_ C_ : Nat) (k : Nat) (h : MIn B W0 a P s l) (hA : A < 16) (hB_ : B_ < 16) (hp : s.at_.pc < 1000000000) (hop : op = 21 ∨ op = 22 ∨ op = 23 ∨ op = 24) (hg : (s.at_.regs A).g = false) (hg2 : (s.at_.regs B_).g = false) (hb : brF op (s.at_.regs A).n (s.at_.regs B_).n = false) :
   Calls Tryz.prog 85 #[.pointer (some ⟨a, 0, none⟩), insA op A B_ C_ k] W0 fun x w' => Dv B W0 a P s l (braM s op A B_ k) x w' := by
 have er : braM s op A B_ k = .ok s.next := by unfold braM; rw [hg, hg2, hb]; rfl
 rw [er]
 clear er
 have h2 := Hz.mk (h.new #[.int .u8 op, .int .i64 A, .int .i64 B_, .int .i64 C_, .int .i64 (k : Int)] 64)
 have h1 := Hz.mk (fun X l' (q : MIn B X a P s l') => number_okB a A (s.at_.regs A) X (q.rg A hA) hg)
 have h3 := Hz.mk (fun X l' (q : MIn B X a P s l') => number_okB a B_ (s.at_.regs B_) X (q.rg B_ hB_) hg2)
 have hX := Hz.mk (fun X => branches_any op (s.at_.regs A).n (s.at_.regs B_).n X hop)
 rw [hb] at hX
 have hNx := Hz.mk (fun X l' (q : MIn B X a P s l') => next_any B a P _ l' X q hp)
 simp only [Dv]
 clear h
 unfold insA at *
 go_enter Tryz.func85, Tryz.ntmps85
 go_upto_region 1 with fail
 refine wp_world (fun W => MIn B W a P s (boxOb W0.heap.size #[.int .u8 op, .int .i64 A, .int .i64 B_, .int .i64 C_, .int .i64 (k : Int)] :: l) ∧ Below B W0 W) h2.out ?_
 clear h2
 rintro W ⟨h, hB⟩
 generalize W0.heap.size = kb at *
 replace hB := Hz.mk (hB.trans (h.bl (Bl.refl W).drew).2)
 replace h := Hz.mk (h.bl (Bl.refl W).drew).1
 refine wp_region_held_drew (S := (fun X => X.cell? ⟨kb, 0, none⟩ = some (.int .u8 op) ∧ X.cell? ⟨kb, 1, none⟩ = some (.int .i64 A) ∧ X.cell? ⟨kb, 2, none⟩ = some (.int .i64 B_))) (by kernel_rfl) (⟨(h.out.there (boxOb kb #[.int .u8 op, .int .i64 A, .int .i64 B_, .int .i64 C_, .int .i64 (k : Int)]) (.head _)).2.1 0, (h.out.there (boxOb kb #[.int .u8 op, .int .i64 A, .int .i64 B_, .int .i64 C_, .int .i64 (k : Int)]) (.head _)).2.1 1, (h.out.there (boxOb kb #[.int .u8 op, .int .i64 A, .int .i64 B_, .int .i64 C_, .int .i64 (k : Int)]) (.head _)).2.1 2⟩) (fun hHeld => ?_)
 generalize W.drew = X0 at *
 refine xso 0 ?_ rfl ?_ (xso 1 ?_ rfl ?_ (xso 2 ?_ rfl ?_ (xso 3 ?_ rfl ?_ (xso 4 ?_ rfl ?_ (xso 6 ?_ rfl ?_ (xso 7 ?_ rfl ?_ (xso 8 ?_ rfl ?_ ?_)))))))
 iterate 8 (rotate_left; focus ((try simp only [xap]); intro w hSw; (try dsimp only at hSw); go_simp; first | done | with_reducible rfl))
 try simp only [xap]
 refine xrd 5 rfl (fun K hK => ?_)
 go_simp
 go_wp2_with (refine (h1.out _ _ h.out).mono ?_; rintro r Y1 ⟨rfl, e1⟩; replace hB := Hz.mk (hB.out.trans (h.out.bl e1).2); replace h := Hz.mk (h.out.bl e1).1; clear e1 hHeld)
 refine hK.out _ _ ⟨(h.out.there (boxOb kb #[.int .u8 op, .int .i64 A, .int .i64 B_, .int .i64 C_, .int .i64 (k : Int)]) (.head _)).2.1 0, (h.out.there (boxOb kb #[.int .u8 op, .int .i64 A, .int .i64 B_, .int .i64 C_, .int .i64 (k : Int)]) (.head _)).2.1 1, (h.out.there (boxOb kb #[.int .u8 op, .int .i64 A, .int .i64 B_, .int .i64 C_, .int .i64 (k : Int)]) (.head _)).2.1 2⟩ (fun hHeld => ?_)
 clear hK K
 try simp only [xap]
 refine xrd 9 rfl (fun K hK => ?_)
 go_simp
 go_wp2_with (refine (h3.out _ _ h.out).mono ?_; rintro r Y2 ⟨rfl, e1⟩; replace hB := Hz.mk (hB.out.trans (h.out.bl e1).2); replace h := Hz.mk (h.out.bl e1).1; clear e1 hHeld)
 refine hK.out _ _ ⟨(h.out.there (boxOb kb #[.int .u8 op, .int .i64 A, .int .i64 B_, .int .i64 C_, .int .i64 (k : Int)]) (.head _)).2.1 0, (h.out.there (boxOb kb #[.int .u8 op, .int .i64 A, .int .i64 B_, .int .i64 C_, .int .i64 (k : Int)]) (.head _)).2.1 1, (h.out.there (boxOb kb #[.int .u8 op, .int .i64 A, .int .i64 B_, .int .i64 C_, .int .i64 (k : Int)]) (.head _)).2.1 2⟩ (fun hHeld => ?_)
 clear hK K
 try simp only [xap]
 refine xrd 10 rfl (fun K hK => ?_)
 go_simp
 go_wp2_with (refine (hX.out _).mono ?_; rintro r Y3 ⟨rfl, e1⟩; replace hB := Hz.mk (hB.out.trans (h.out.bl e1).2); replace h := Hz.mk (h.out.bl e1).1; clear e1 hHeld)
 refine hK.out _ _ ⟨(h.out.there (boxOb kb #[.int .u8 op, .int .i64 A, .int .i64 B_, .int .i64 C_, .int .i64 (k : Int)]) (.head _)).2.1 0, (h.out.there (boxOb kb #[.int .u8 op, .int .i64 A, .int .i64 B_, .int .i64 C_, .int .i64 (k : Int)]) (.head _)).2.1 1, (h.out.there (boxOb kb #[.int .u8 op, .int .i64 A, .int .i64 B_, .int .i64 C_, .int .i64 (k : Int)]) (.head _)).2.1 2⟩ (fun hHeld => ?_)
 clear hK K
 try simp only [xap]
 refine xdn ?_ _
 clear hHeld
 go_wp2_with fail
 refine (hNx.out _ _ h.out).mono ?_
 rintro r Y5 ⟨rfl, h5, hB5⟩
 replace hB := Hz.mk (hB.out.trans hB5)
 replace h := Hz.mk h5
 clear h5 hB5
 go_wp2_with fail
 first | go_end0 | ((try simp only [Exit.inBlock, Exit.then]); refine bodyPost_ret (results_none rfl _ _ _) rfl ?_)
 exact ⟨rfl, h.out.drop, hB.out⟩
theorem branch_any (B : Nat) (W0 : World) (a : Nat) (P : PImg) (s : Ms) (l : List Ob) (op : Int) (A B_ C_ : Nat) (k : Nat) (h : MIn B W0 a P s l) (hA : A < 16) (hB_ : B_ < 16) (hp : s.at_.pc < 1000000000) (hop : op = 21 ∨ op = 22 ∨ op = 23 ∨ op = 24) :
   Calls Tryz.prog 85 #[.pointer (some ⟨a, 0, none⟩), insA op A B_ C_ k] W0 fun x w' => Dv B W0 a P s l (braM s op A B_ k) x w' := by
 cases hg : (s.at_.regs A).g with
 | true => exact branch_a B W0 a P s l op A B_ C_ k h hA hB_ hp hop hg
 | false =>
   cases hg2 : (s.at_.regs B_).g with
   | true => exact branch_b B W0 a P s l op A B_ C_ k h hA hB_ hp hop hg hg2
   | false =>
     cases hb : brF op (s.at_.regs A).n (s.at_.regs B_).n with
     | true => exact branch_yes B W0 a P s l op A B_ C_ k h hA hB_ hp hop hg hg2 hb
     | false => exact branch_no B W0 a P s l op A B_ C_ k h hA hB_ hp hop hg hg2 hb
end C
end Go.Proofs.YtiigpncfmakgjaaGreatDoor


namespace Go.Proofs.YtiigpncfmakgjaaGreatDoor
set_option maxRecDepth 100000
set_option maxHeartbeats 40000000
namespace C
open Go.RowKit
open T (Sep Ob Kp Mf TgIn boxOb Fm Tc Ed Vl Cp Bx tgOb mRow updV flt twoI ofI ofI_agg twoI_nonneg integer_any ofTwo_any)

theorem reckoned1 (a A B C : Nat) (m : Int) (w : World) :
   Calls Tryz.prog 56 #[.pointer (some ⟨a, 0, none⟩), insA 1 A B C m] w fun x w' => x = Rv (.ok (ofI (IntKind.u64.wrap m))) ∧ Gr w w' := by
 rw [show Rv (.ok (ofI (IntKind.u64.wrap m))) = .returned (ofI (IntKind.u64.wrap m)).agg from rfl, ofI_agg _ (wrap_u64_nonneg m)]
 obtain ⟨n, hn⟩ : ∃ n, IntKind.u64.wrap m = n := ⟨_, rfl⟩
 rw [hn]
 have hI : Hz (∀ X, Calls Tryz.prog 48 #[.int .u64 n] X fun x w' => x = .returned (.agg #[.bool false, .int .u64 n, .int .u64 0, .int .u64 0, .int .u64 0, .int .u8 0, .int .i64 0]) ∧ Gr X w') := Hz.mk (fun X => (integer_any n X).mono (by rintro x w' ⟨rfl, rfl⟩; exact ⟨rfl, (Gr.refl _).alloc _⟩))
 unfold insA
 have q0 := Hz.mk (⟨(At.new w #[.int .u8 1, .int .i64 A, .int .i64 B, .int .i64 C, .int .i64 m] 64).alloc (.cells (List.toArray [Value.bool false, .int .u64 0, .int .u64 0, .int .u64 0, .int .u64 0, .int .u8 0, .int .i64 0]) 37), At.new (w.alloc (.cells #[.int .u8 1, .int .i64 A, .int .i64 B, .int .i64 C, .int .i64 m] 64)) (List.toArray [Value.bool false, .int .u64 0, .int .u64 0, .int .u64 0, .int .u64 0, .int .u8 0, .int .i64 0]) 37, (Gr.refl (w.alloc (.cells #[.int .u8 1, .int .i64 A, .int .i64 B, .int .i64 C, .int .i64 m] 64))).alloc (.cells (List.toArray [Value.bool false, .int .u64 0, .int .u64 0, .int .u64 0, .int .u64 0, .int .u8 0, .int .i64 0]) 37)⟩ : At ((w.alloc (.cells #[.int .u8 1, .int .i64 A, .int .i64 B, .int .i64 C, .int .i64 m] 64)).alloc (.cells (List.toArray [Value.bool false, .int .u64 0, .int .u64 0, .int .u64 0, .int .u64 0, .int .u8 0, .int .i64 0]) 37)) w.heap.size #[.int .u8 1, .int .i64 A, .int .i64 B, .int .i64 C, .int .i64 m] ∧ At ((w.alloc (.cells #[.int .u8 1, .int .i64 A, .int .i64 B, .int .i64 C, .int .i64 m] 64)).alloc (.cells (List.toArray [Value.bool false, .int .u64 0, .int .u64 0, .int .u64 0, .int .u64 0, .int .u8 0, .int .i64 0]) 37)) (w.alloc (.cells #[.int .u8 1, .int .i64 A, .int .i64 B, .int .i64 C, .int .i64 m] 64)).heap.size (List.toArray [Value.bool false, .int .u64 0, .int .u64 0, .int .u64 0, .int .u64 0, .int .u8 0, .int .i64 0]) ∧ Gr (w.alloc (.cells #[.int .u8 1, .int .i64 A, .int .i64 B, .int .i64 C, .int .i64 m] 64)) ((w.alloc (.cells #[.int .u8 1, .int .i64 A, .int .i64 B, .int .i64 C, .int .i64 m] 64)).alloc (.cells (List.toArray [Value.bool false, .int .u64 0, .int .u64 0, .int .u64 0, .int .u64 0, .int .u8 0, .int .i64 0]) 37)))
 have KS : Hz (∀ X, Gr (w.alloc (.cells #[.int .u8 1, .int .i64 A, .int .i64 B, .int .i64 C, .int .i64 m] 64)) X → X.cell? ⟨w.heap.size, 0, none⟩ = some (.int .u8 1) ∧ X.cell? ⟨w.heap.size, 2, none⟩ = some (.int .i64 B) ∧ X.cell? ⟨w.heap.size, 3, none⟩ = some (.int .i64 C) ∧ X.cell? ⟨w.heap.size, 4, none⟩ = some (.int .i64 m)) := Hz.mk (fun X g => have q := (At.new w #[.int .u8 1, .int .i64 A, .int .i64 B, .int .i64 C, .int .i64 m] 64).gr g; ⟨q.2.1 0, q.2.1 2, q.2.1 3, q.2.1 4⟩)
 have hw0 : Hz (Gr w (w.alloc (.cells #[.int .u8 1, .int .i64 A, .int .i64 B, .int .i64 C, .int .i64 m] 64))) := Hz.mk ((Gr.refl w).alloc _)
 go_enter Tryz.func56, Tryz.ntmps56
 go_upto_region 3 with fail
 have hsz : (w.alloc (.cells #[.int .u8 1, .int .i64 A, .int .i64 B, .int .i64 C, .int .i64 m] 64)).heap.size = w.heap.size + 1 := by simp
 refine wp_world (fun W => At W (w.heap.size + 1) (List.toArray [Value.bool false, .int .u64 0, .int .u64 0, .int .u64 0, .int .u64 0, .int .u8 0, .int .i64 0]) ∧ Gr (w.alloc (.cells #[.int .u8 1, .int .i64 A, .int .i64 B, .int .i64 C, .int .i64 m] 64)) W) ⟨by rw [← hsz]; exact q0.out.2.1, q0.out.2.2⟩ ?_
 clear q0
 have hk1 : Hz ((w.alloc (.cells #[.int .u8 1, .int .i64 A, .int .i64 B, .int .i64 C, .int .i64 m] 64)).heap.size ≤ w.heap.size + 1) := Hz.mk (Nat.le_of_eq hsz)
 clear hsz
 rintro W ⟨A0, g0⟩
 generalize w.alloc (.cells #[.int .u8 1, .int .i64 A, .int .i64 B, .int .i64 C, .int .i64 m] 64) = V0 at *
 generalize w.heap.size + 1 = kr at *
 generalize w.heap.size = kb at *
 have c4 := (KS.out _ g0).2.2.2
 go_wp2_with fail
 refine (hI.out _).mono ?_
 rintro r X1 ⟨rfl, e1⟩
 have A1 := Hz.mk (A0.gr e1)
 have g1 := g0.trans e1
 clear e1 c4
 have ⟨l1, p1, f1⟩ := A1.out
 go_wp2_with fail
 have A9 := At.setAll (cs := [Value.bool false, .int .u64 0, .int .u64 0, .int .u64 0, .int .u64 0, .int .u8 0, .int .i64 0]) A1.out [Value.bool false, .int .u64 n, .int .u64 0, .int .u64 0, .int .u64 0, .int .u8 0, .int .i64 0] rfl
 have g9 := hw0.out.trans (g1.setCells kr hk1.out [Value.bool false, .int .u64 n, .int .u64 0, .int .u64 0, .int .u64 0, .int .u8 0, .int .i64 0] 0)
 have ⟨_, q4, _⟩ := A9
 simp only [World.setCells] at q4 g9
 simp [bodyPost, results, Tryz.results56, go_sem, q4]
 exact g9
theorem reckoned2 (a A B C : Nat) (m : Int) (v : Vl) (w : World) (hv : RgAt w a B v) :
   Calls Tryz.prog 56 #[.pointer (some ⟨a, 0, none⟩), insA 2 A B C m] w fun x w' => x = Rv (.ok v) ∧ Gr w w' := by
 have hB16 : (B : Int) < 16 := by have := hv.rl; omega
 have hrow : ∀ X, RgAt X a B v → X.rangeAt a (7 + B * 7) [Value.bool v.g, .int .u64 v.n, .int .u64 v.c.b, .int .u64 v.c.e, .int .u64 v.c.c, .int .u8 v.c.p, .int .i64 v.c.s] := fun X h j u z => by
   match j, z with
   | 0, z => injection z with z; subst z; exact h.c0
   | 1, z => injection z with z; subst z; exact h.c1
   | 2, z => injection z with z; subst z; exact h.c2
   | 3, z => injection z with z; subst z; exact h.c3
   | 4, z => injection z with z; subst z; exact h.c4
   | 5, z => injection z with z; subst z; exact h.c5
   | 6, z => injection z with z; subst z; exact h.c6
 unfold insA
 have q0 := Hz.mk (⟨(At.new w #[.int .u8 2, .int .i64 A, .int .i64 B, .int .i64 C, .int .i64 m] 64).alloc (.cells (List.toArray [Value.bool false, .int .u64 0, .int .u64 0, .int .u64 0, .int .u64 0, .int .u8 0, .int .i64 0]) 37), At.new (w.alloc (.cells #[.int .u8 2, .int .i64 A, .int .i64 B, .int .i64 C, .int .i64 m] 64)) (List.toArray [Value.bool false, .int .u64 0, .int .u64 0, .int .u64 0, .int .u64 0, .int .u8 0, .int .i64 0]) 37, (Gr.refl (w.alloc (.cells #[.int .u8 2, .int .i64 A, .int .i64 B, .int .i64 C, .int .i64 m] 64))).alloc (.cells (List.toArray [Value.bool false, .int .u64 0, .int .u64 0, .int .u64 0, .int .u64 0, .int .u8 0, .int .i64 0]) 37)⟩ : At ((w.alloc (.cells #[.int .u8 2, .int .i64 A, .int .i64 B, .int .i64 C, .int .i64 m] 64)).alloc (.cells (List.toArray [Value.bool false, .int .u64 0, .int .u64 0, .int .u64 0, .int .u64 0, .int .u8 0, .int .i64 0]) 37)) w.heap.size #[.int .u8 2, .int .i64 A, .int .i64 B, .int .i64 C, .int .i64 m] ∧ At ((w.alloc (.cells #[.int .u8 2, .int .i64 A, .int .i64 B, .int .i64 C, .int .i64 m] 64)).alloc (.cells (List.toArray [Value.bool false, .int .u64 0, .int .u64 0, .int .u64 0, .int .u64 0, .int .u8 0, .int .i64 0]) 37)) (w.alloc (.cells #[.int .u8 2, .int .i64 A, .int .i64 B, .int .i64 C, .int .i64 m] 64)).heap.size (List.toArray [Value.bool false, .int .u64 0, .int .u64 0, .int .u64 0, .int .u64 0, .int .u8 0, .int .i64 0]) ∧ Gr (w.alloc (.cells #[.int .u8 2, .int .i64 A, .int .i64 B, .int .i64 C, .int .i64 m] 64)) ((w.alloc (.cells #[.int .u8 2, .int .i64 A, .int .i64 B, .int .i64 C, .int .i64 m] 64)).alloc (.cells (List.toArray [Value.bool false, .int .u64 0, .int .u64 0, .int .u64 0, .int .u64 0, .int .u8 0, .int .i64 0]) 37)))
 have KS : Hz (∀ X, Gr (w.alloc (.cells #[.int .u8 2, .int .i64 A, .int .i64 B, .int .i64 C, .int .i64 m] 64)) X → X.cell? ⟨w.heap.size, 0, none⟩ = some (.int .u8 2) ∧ X.cell? ⟨w.heap.size, 2, none⟩ = some (.int .i64 B) ∧ X.cell? ⟨w.heap.size, 3, none⟩ = some (.int .i64 C) ∧ X.cell? ⟨w.heap.size, 4, none⟩ = some (.int .i64 m)) := Hz.mk (fun X g => have q := (At.new w #[.int .u8 2, .int .i64 A, .int .i64 B, .int .i64 C, .int .i64 m] 64).gr g; ⟨q.2.1 0, q.2.1 2, q.2.1 3, q.2.1 4⟩)
 have hw0 : Hz (Gr w (w.alloc (.cells #[.int .u8 2, .int .i64 A, .int .i64 B, .int .i64 C, .int .i64 m] 64))) := Hz.mk ((Gr.refl w).alloc _)
 go_enter Tryz.func56, Tryz.ntmps56
 go_upto_region 5 with fail
 have hsz : (w.alloc (.cells #[.int .u8 2, .int .i64 A, .int .i64 B, .int .i64 C, .int .i64 m] 64)).heap.size = w.heap.size + 1 := by simp
 refine wp_world (fun W => At W (w.heap.size + 1) (List.toArray [Value.bool false, .int .u64 0, .int .u64 0, .int .u64 0, .int .u64 0, .int .u8 0, .int .i64 0]) ∧ Gr (w.alloc (.cells #[.int .u8 2, .int .i64 A, .int .i64 B, .int .i64 C, .int .i64 m] 64)) W) ⟨by rw [← hsz]; exact q0.out.2.1, q0.out.2.2⟩ ?_
 clear q0
 have hk1 : Hz ((w.alloc (.cells #[.int .u8 2, .int .i64 A, .int .i64 B, .int .i64 C, .int .i64 m] 64)).heap.size ≤ w.heap.size + 1) := Hz.mk (Nat.le_of_eq hsz)
 clear hsz
 rintro W ⟨A0, g0⟩
 have hRg : Hz (∀ X, Gr (w.alloc (.cells #[.int .u8 2, .int .i64 A, .int .i64 B, .int .i64 C, .int .i64 m] 64)) X → X.rangeAt a (7 + B * 7) [Value.bool v.g, .int .u64 v.n, .int .u64 v.c.b, .int .u64 v.c.e, .int .u64 v.c.c, .int .u8 v.c.p, .int .i64 v.c.s]) := Hz.mk (fun X g => hrow X (hv.gr (hw0.out.trans g)))
 generalize w.alloc (.cells #[.int .u8 2, .int .i64 A, .int .i64 B, .int .i64 C, .int .i64 m] 64) = V0 at *
 generalize w.heap.size + 1 = kr at *
 generalize w.heap.size = kb at *
 replace A0 := Hz.mk (A0.gr (Gr.refl W).drew)
 replace g0 : Gr V0 W.drew := g0.drew
 refine wp_region_held_drew (S := (fun X => X.cell? ⟨kb, 2, none⟩ = some (.int .i64 B) ∧ X.rangeAt a (7 + B * 7) [Value.bool v.g, .int .u64 v.n, .int .u64 v.c.b, .int .u64 v.c.e, .int .u64 v.c.c, .int .u8 v.c.p, .int .i64 v.c.s])) (by kernel_rfl) (⟨(KS.out _ g0).2.1, hRg.out _ g0⟩) (fun hHeld => ?_)
 refine xso 0 ?_ rfl ?_ (xso 1 ?_ rfl ?_ (xso 2 ?_ rfl ?_ (xso 3 ?_ rfl ?_ (xso 4 ?_ rfl ?_ (xso 5 ?_ rfl ?_ (xso 6 ?_ rfl ?_ ?_))))))
 iterate 7 (rotate_left; focus ((try simp only [xap]); intro w hSw; (try dsimp only at hSw); go_simp; first | done | with_reducible rfl))
 try simp only [xap]
 refine xtk 7 rfl (yieldsIf_load_mid (by rfl) _ _ rfl _ _ rfl _ _ (fun _ h => h.2) Tryz.underlying37 rfl (by kernel_rfl)) ?_
 try simp only [xap]
 refine xrd 8 rfl (fun K hK => ?_)
 rw [if_pos (by rfl)]
 refine wp_store_mid _ _ _ rfl _ _ (List.toArray [Value.bool v.g, .int .u64 v.n, .int .u64 v.c.b, .int .u64 v.c.e, .int .u64 v.c.c, .int .u8 v.c.p, .int .i64 v.c.s]) rfl rfl (At.there A0.out 0 7 (by decide)) (by kernel_rfl) (by simp [Value.oneCell']) ?_
 refine hK.out _ _ ⟨(KS.out _ (g0.setCells kr hk1.out _ _)).2.1, hRg.out _ (g0.setCells kr hk1.out _ _)⟩ (fun hHeld => ?_)
 clear hK K hHeld
 try simp only [Act.put]
 refine xdn ?_ _
 have A9 := Hz.mk (At.setAll (cs := [Value.bool false, .int .u64 0, .int .u64 0, .int .u64 0, .int .u64 0, .int .u8 0, .int .i64 0]) A0.out [Value.bool v.g, .int .u64 v.n, .int .u64 v.c.b, .int .u64 v.c.e, .int .u64 v.c.c, .int .u8 v.c.p, .int .i64 v.c.s] rfl)
 have g9 := hw0.out.trans (g0.setCells kr hk1.out [Value.bool v.g, .int .u64 v.n, .int .u64 v.c.b, .int .u64 v.c.e, .int .u64 v.c.c, .int .u8 v.c.p, .int .i64 v.c.s] 0)
 try simp only [Act.put]
 generalize World.setCells _ _ _ _ = V9 at *
 have hrun := Hz.mk (run_loadVar_mid (P := Tryz.prog) V9 kr 0 37 [Value.bool v.g, .int .u64 v.n, .int .u64 v.c.b, .int .u64 v.c.e, .int .u64 v.c.c, .int .u8 v.c.p, .int .i64 v.c.s] _ (fun j v q => by rw [Nat.zero_add]; exact (A9.out.2.1 j).trans (by simpa using q)) Tryz.underlying37 rfl (by kernel_rfl))
 replace g9 := Hz.mk g9
 go_wp2_with fail
 refine bodyPost_ret (v := v.agg) ?_ rfl ⟨rfl, g9.out⟩
 exact results_row Tryz.results56 _ _ rfl hrun.out
theorem reckoned11_b (a A B C : Nat) (m : Int) (v : Vl) (w : World) (hv : RgAt w a B v) (hg : v.g = true) :
   Calls Tryz.prog 56 #[.pointer (some ⟨a, 0, none⟩), insA 11 A B C m] w fun x w' => x = Rv (.error (flt 2)) ∧ Gr w w' := by
 unfold insA
 have q0 := Hz.mk (⟨(At.new w #[.int .u8 11, .int .i64 A, .int .i64 B, .int .i64 C, .int .i64 m] 64).alloc (.cells (List.toArray [Value.bool false, .int .u64 0, .int .u64 0, .int .u64 0, .int .u64 0, .int .u8 0, .int .i64 0]) 37), At.new (w.alloc (.cells #[.int .u8 11, .int .i64 A, .int .i64 B, .int .i64 C, .int .i64 m] 64)) (List.toArray [Value.bool false, .int .u64 0, .int .u64 0, .int .u64 0, .int .u64 0, .int .u8 0, .int .i64 0]) 37, (Gr.refl (w.alloc (.cells #[.int .u8 11, .int .i64 A, .int .i64 B, .int .i64 C, .int .i64 m] 64))).alloc (.cells (List.toArray [Value.bool false, .int .u64 0, .int .u64 0, .int .u64 0, .int .u64 0, .int .u8 0, .int .i64 0]) 37)⟩ : At ((w.alloc (.cells #[.int .u8 11, .int .i64 A, .int .i64 B, .int .i64 C, .int .i64 m] 64)).alloc (.cells (List.toArray [Value.bool false, .int .u64 0, .int .u64 0, .int .u64 0, .int .u64 0, .int .u8 0, .int .i64 0]) 37)) w.heap.size #[.int .u8 11, .int .i64 A, .int .i64 B, .int .i64 C, .int .i64 m] ∧ At ((w.alloc (.cells #[.int .u8 11, .int .i64 A, .int .i64 B, .int .i64 C, .int .i64 m] 64)).alloc (.cells (List.toArray [Value.bool false, .int .u64 0, .int .u64 0, .int .u64 0, .int .u64 0, .int .u8 0, .int .i64 0]) 37)) (w.alloc (.cells #[.int .u8 11, .int .i64 A, .int .i64 B, .int .i64 C, .int .i64 m] 64)).heap.size (List.toArray [Value.bool false, .int .u64 0, .int .u64 0, .int .u64 0, .int .u64 0, .int .u8 0, .int .i64 0]) ∧ Gr (w.alloc (.cells #[.int .u8 11, .int .i64 A, .int .i64 B, .int .i64 C, .int .i64 m] 64)) ((w.alloc (.cells #[.int .u8 11, .int .i64 A, .int .i64 B, .int .i64 C, .int .i64 m] 64)).alloc (.cells (List.toArray [Value.bool false, .int .u64 0, .int .u64 0, .int .u64 0, .int .u64 0, .int .u8 0, .int .i64 0]) 37)))
 have KS : Hz (∀ X, Gr (w.alloc (.cells #[.int .u8 11, .int .i64 A, .int .i64 B, .int .i64 C, .int .i64 m] 64)) X → X.cell? ⟨w.heap.size, 0, none⟩ = some (.int .u8 11) ∧ X.cell? ⟨w.heap.size, 2, none⟩ = some (.int .i64 B) ∧ X.cell? ⟨w.heap.size, 3, none⟩ = some (.int .i64 C) ∧ X.cell? ⟨w.heap.size, 4, none⟩ = some (.int .i64 m)) := Hz.mk (fun X g => have q := (At.new w #[.int .u8 11, .int .i64 A, .int .i64 B, .int .i64 C, .int .i64 m] 64).gr g; ⟨q.2.1 0, q.2.1 2, q.2.1 3, q.2.1 4⟩)
 have hw0 : Hz (Gr w (w.alloc (.cells #[.int .u8 11, .int .i64 A, .int .i64 B, .int .i64 C, .int .i64 m] 64))) := Hz.mk ((Gr.refl w).alloc _)
 have hM1 := Hz.mk (fun X g => number_bad a B v X (hv.gr g) hg)
 unfold pan at hM1
 simp only [Rv, pan]
 clear hv hg
 go_enter Tryz.func56, Tryz.ntmps56
 go_upto_region 7 with fail
 have hsz : (w.alloc (.cells #[.int .u8 11, .int .i64 A, .int .i64 B, .int .i64 C, .int .i64 m] 64)).heap.size = w.heap.size + 1 := by simp
 refine wp_world (fun W => At W (w.heap.size + 1) (List.toArray [Value.bool false, .int .u64 0, .int .u64 0, .int .u64 0, .int .u64 0, .int .u8 0, .int .i64 0]) ∧ Gr (w.alloc (.cells #[.int .u8 11, .int .i64 A, .int .i64 B, .int .i64 C, .int .i64 m] 64)) W) ⟨by rw [← hsz]; exact q0.out.2.1, q0.out.2.2⟩ ?_
 clear q0
 have hk1 : Hz ((w.alloc (.cells #[.int .u8 11, .int .i64 A, .int .i64 B, .int .i64 C, .int .i64 m] 64)).heap.size ≤ w.heap.size + 1) := Hz.mk (Nat.le_of_eq hsz)
 clear hsz
 rintro W ⟨A0, g0⟩
 generalize w.alloc (.cells #[.int .u8 11, .int .i64 A, .int .i64 B, .int .i64 C, .int .i64 m] 64) = V0 at *
 generalize w.heap.size + 1 = kr at *
 generalize w.heap.size = kb at *
 replace A0 := Hz.mk (A0.gr (Gr.refl W).drew)
 replace g0 : Gr V0 W.drew := g0.drew
 refine wp_region_held_drew (S := (fun X => X.cell? ⟨kb, 0, none⟩ = some (.int .u8 11) ∧ X.cell? ⟨kb, 2, none⟩ = some (.int .i64 B) ∧ X.cell? ⟨kb, 3, none⟩ = some (.int .i64 C) ∧ X.cell? ⟨kb, 4, none⟩ = some (.int .i64 m))) (by kernel_rfl) (KS.out _ g0) (fun hHeld => ?_)
 refine xso 0 ?_ rfl ?_ (xso 1 ?_ rfl ?_ (xso 2 ?_ rfl ?_ (xso 4 ?_ rfl ?_ (xso 5 ?_ rfl ?_ (xso 6 ?_ rfl ?_ ?_)))))
 iterate 6 (rotate_left; focus ((try simp only [xap]); intro w hSw; (try dsimp only at hSw); go_simp; first | done | with_reducible rfl))
 try simp only [xap]
 refine xrd 3 rfl (fun K hK => ?_)
 go_simp
 go_wp2_with (refine (hM1.out _ (hw0.out.trans g0)).mono ?_; rintro r X1 ⟨rfl, e1⟩)
 exact ⟨rfl, rfl, (hw0.out.trans g0).trans e1⟩
theorem reckoned11_ok (a A B C : Nat) (m : Int) (v : Vl) (w : World) (hv : RgAt w a B v) (hg : v.g = false) :
   Calls Tryz.prog 56 #[.pointer (some ⟨a, 0, none⟩), insA 11 A B C m] w fun x w' => x = Rv (.ok (ofI (IntKind.u64.wrap (v.n + IntKind.u64.wrap m)))) ∧ Gr w w' := by
 unfold insA
 have q0 := Hz.mk (⟨(At.new w #[.int .u8 11, .int .i64 A, .int .i64 B, .int .i64 C, .int .i64 m] 64).alloc (.cells (List.toArray [Value.bool false, .int .u64 0, .int .u64 0, .int .u64 0, .int .u64 0, .int .u8 0, .int .i64 0]) 37), At.new (w.alloc (.cells #[.int .u8 11, .int .i64 A, .int .i64 B, .int .i64 C, .int .i64 m] 64)) (List.toArray [Value.bool false, .int .u64 0, .int .u64 0, .int .u64 0, .int .u64 0, .int .u8 0, .int .i64 0]) 37, (Gr.refl (w.alloc (.cells #[.int .u8 11, .int .i64 A, .int .i64 B, .int .i64 C, .int .i64 m] 64))).alloc (.cells (List.toArray [Value.bool false, .int .u64 0, .int .u64 0, .int .u64 0, .int .u64 0, .int .u8 0, .int .i64 0]) 37)⟩ : At ((w.alloc (.cells #[.int .u8 11, .int .i64 A, .int .i64 B, .int .i64 C, .int .i64 m] 64)).alloc (.cells (List.toArray [Value.bool false, .int .u64 0, .int .u64 0, .int .u64 0, .int .u64 0, .int .u8 0, .int .i64 0]) 37)) w.heap.size #[.int .u8 11, .int .i64 A, .int .i64 B, .int .i64 C, .int .i64 m] ∧ At ((w.alloc (.cells #[.int .u8 11, .int .i64 A, .int .i64 B, .int .i64 C, .int .i64 m] 64)).alloc (.cells (List.toArray [Value.bool false, .int .u64 0, .int .u64 0, .int .u64 0, .int .u64 0, .int .u8 0, .int .i64 0]) 37)) (w.alloc (.cells #[.int .u8 11, .int .i64 A, .int .i64 B, .int .i64 C, .int .i64 m] 64)).heap.size (List.toArray [Value.bool false, .int .u64 0, .int .u64 0, .int .u64 0, .int .u64 0, .int .u8 0, .int .i64 0]) ∧ Gr (w.alloc (.cells #[.int .u8 11, .int .i64 A, .int .i64 B, .int .i64 C, .int .i64 m] 64)) ((w.alloc (.cells #[.int .u8 11, .int .i64 A, .int .i64 B, .int .i64 C, .int .i64 m] 64)).alloc (.cells (List.toArray [Value.bool false, .int .u64 0, .int .u64 0, .int .u64 0, .int .u64 0, .int .u8 0, .int .i64 0]) 37)))
 have KS : Hz (∀ X, Gr (w.alloc (.cells #[.int .u8 11, .int .i64 A, .int .i64 B, .int .i64 C, .int .i64 m] 64)) X → X.cell? ⟨w.heap.size, 0, none⟩ = some (.int .u8 11) ∧ X.cell? ⟨w.heap.size, 2, none⟩ = some (.int .i64 B) ∧ X.cell? ⟨w.heap.size, 3, none⟩ = some (.int .i64 C) ∧ X.cell? ⟨w.heap.size, 4, none⟩ = some (.int .i64 m)) := Hz.mk (fun X g => have q := (At.new w #[.int .u8 11, .int .i64 A, .int .i64 B, .int .i64 C, .int .i64 m] 64).gr g; ⟨q.2.1 0, q.2.1 2, q.2.1 3, q.2.1 4⟩)
 have hw0 : Hz (Gr w (w.alloc (.cells #[.int .u8 11, .int .i64 A, .int .i64 B, .int .i64 C, .int .i64 m] 64))) := Hz.mk ((Gr.refl w).alloc _)
 have hN1 := Hz.mk (fun X g => number_ok a B v X (hv.gr g) hg)
 rw [show Rv (.ok (ofI (IntKind.u64.wrap (v.n + IntKind.u64.wrap m)))) = .returned (ofI (IntKind.u64.wrap (v.n + IntKind.u64.wrap m))).agg from rfl, ofI_agg _ (wrap_u64_nonneg _)]
 have hI : Hz (∀ n X, Calls Tryz.prog 48 #[.int .u64 n] X fun x w' => x = .returned (.agg #[.bool false, .int .u64 n, .int .u64 0, .int .u64 0, .int .u64 0, .int .u8 0, .int .i64 0]) ∧ Gr X w') := Hz.mk (fun n X => (integer_any n X).mono (by rintro x w' ⟨rfl, rfl⟩; exact ⟨rfl, (Gr.refl _).alloc _⟩))
 clear hv hg
 go_enter Tryz.func56, Tryz.ntmps56
 go_upto_region 7 with fail
 have hsz : (w.alloc (.cells #[.int .u8 11, .int .i64 A, .int .i64 B, .int .i64 C, .int .i64 m] 64)).heap.size = w.heap.size + 1 := by simp
 refine wp_world (fun W => At W (w.heap.size + 1) (List.toArray [Value.bool false, .int .u64 0, .int .u64 0, .int .u64 0, .int .u64 0, .int .u8 0, .int .i64 0]) ∧ Gr (w.alloc (.cells #[.int .u8 11, .int .i64 A, .int .i64 B, .int .i64 C, .int .i64 m] 64)) W) ⟨by rw [← hsz]; exact q0.out.2.1, q0.out.2.2⟩ ?_
 clear q0
 have hk1 : Hz ((w.alloc (.cells #[.int .u8 11, .int .i64 A, .int .i64 B, .int .i64 C, .int .i64 m] 64)).heap.size ≤ w.heap.size + 1) := Hz.mk (Nat.le_of_eq hsz)
 clear hsz
 rintro W ⟨A0, g0⟩
 generalize w.alloc (.cells #[.int .u8 11, .int .i64 A, .int .i64 B, .int .i64 C, .int .i64 m] 64) = V0 at *
 generalize w.heap.size + 1 = kr at *
 generalize w.heap.size = kb at *
 replace A0 := Hz.mk (A0.gr (Gr.refl W).drew)
 replace g0 : Gr V0 W.drew := g0.drew
 refine wp_region_held_drew (S := (fun X => X.cell? ⟨kb, 0, none⟩ = some (.int .u8 11) ∧ X.cell? ⟨kb, 2, none⟩ = some (.int .i64 B) ∧ X.cell? ⟨kb, 3, none⟩ = some (.int .i64 C) ∧ X.cell? ⟨kb, 4, none⟩ = some (.int .i64 m))) (by kernel_rfl) (KS.out _ g0) (fun hHeld => ?_)
 refine xso 0 ?_ rfl ?_ (xso 1 ?_ rfl ?_ (xso 2 ?_ rfl ?_ (xso 4 ?_ rfl ?_ (xso 5 ?_ rfl ?_ (xso 6 ?_ rfl ?_ ?_)))))
 iterate 6 (rotate_left; focus ((try simp only [xap]); intro w hSw; (try dsimp only at hSw); go_simp; first | done | with_reducible rfl))
 try simp only [xap]
 refine xrd 3 rfl (fun K hK => ?_)
 go_simp
 go_wp2_with (refine (hN1.out _ (hw0.out.trans g0)).mono ?_; rintro r X1 ⟨rfl, e1⟩; have g1 := g0.trans e1; have A1 := Hz.mk (A0.out.gr e1); clear e1 g0 A0 hHeld)
 refine hK.out _ _ (KS.out _ g1) (fun hHeld => ?_)
 clear hK K
 try simp only [xap]
 refine xso 7 ?_ rfl ?_ ?_
 rotate_left
 · intro w hSw; (try dsimp only at hSw); go_simp; first | done | with_reducible rfl
 try simp only [xap]
 refine xrd 8 rfl (fun K hK => ?_)
 go_simp
 go_wp2_with (refine (hI.out _ _).mono ?_; rintro r X2 ⟨rfl, e2⟩; have g2 := g1.trans e2; have A2 := Hz.mk (A1.out.gr e2); clear e2 g1 A1 hHeld)
 refine hK.out _ _ (KS.out _ g2) (fun hHeld => ?_)
 clear hK K
 try simp only [xap]
 refine xrd 9 rfl (fun K hK => ?_)
 rw [if_pos (by rfl)]
 refine wp_store_mid _ _ _ rfl _ _ (List.toArray [Value.bool false, .int .u64 (IntKind.u64.wrap (v.n + IntKind.u64.wrap m)), .int .u64 0, .int .u64 0, .int .u64 0, .int .u8 0, .int .i64 0]) rfl rfl (At.there A2.out 0 7 (by decide)) (by kernel_rfl) (by simp [Value.oneCell']) ?_
 refine hK.out _ _ (KS.out _ (g2.setCells kr hk1.out _ _)) (fun hHeld => ?_)
 clear hK K hHeld
 try simp only [Act.put]
 refine xdn ?_ _
 have A9 := Hz.mk (At.setAll (cs := [Value.bool false, .int .u64 0, .int .u64 0, .int .u64 0, .int .u64 0, .int .u8 0, .int .i64 0]) A2.out [Value.bool false, .int .u64 (IntKind.u64.wrap (v.n + IntKind.u64.wrap m)), .int .u64 0, .int .u64 0, .int .u64 0, .int .u8 0, .int .i64 0] rfl)
 have g9 := hw0.out.trans (g2.setCells kr hk1.out [Value.bool false, .int .u64 (IntKind.u64.wrap (v.n + IntKind.u64.wrap m)), .int .u64 0, .int .u64 0, .int .u64 0, .int .u8 0, .int .i64 0] 0)
 try simp only [Act.put]
 generalize World.setCells _ _ _ _ = V9 at *
 have hrun := Hz.mk (run_loadVar_mid (P := Tryz.prog) V9 kr 0 37 [Value.bool false, .int .u64 (IntKind.u64.wrap (v.n + IntKind.u64.wrap m)), .int .u64 0, .int .u64 0, .int .u64 0, .int .u8 0, .int .i64 0] _ (fun j v q => by rw [Nat.zero_add]; exact (A9.out.2.1 j).trans (by simpa using q)) Tryz.underlying37 rfl (by kernel_rfl))
 replace g9 := Hz.mk g9
 go_wp2_with fail
 refine bodyPost_ret (v := .agg #[.bool false, .int .u64 (IntKind.u64.wrap (v.n + IntKind.u64.wrap m)), .int .u64 0, .int .u64 0, .int .u64 0, .int .u8 0, .int .i64 0]) ?_ rfl ⟨rfl, g9.out⟩
 exact results_row Tryz.results56 _ _ rfl hrun.out
def recM (s : Ms) (op : Int) (B C : Nat) (m : Int) : Except Ed Vl :=
 if op = 1 then .ok (ofI (IntKind.u64.wrap m)) else if op = 2 then .ok (s.at_.regs B)
 else if op = 11 then (if (s.at_.regs B).g then .error (flt 2) else .ok (ofI (IntKind.u64.wrap ((s.at_.regs B).n + IntKind.u64.wrap m))))
 else twoR op (s.at_.regs B) (s.at_.regs C)
theorem reckoned_any (a : Nat) (op : Int) (A B C : Nat) (m : Int) (s : Ms) (w : World) (hv : RgAt w a B (s.at_.regs B)) (hu : RgAt w a C (s.at_.regs C)) (hn : (s.at_.regs C).n < 18446744073709551616) (hop : 1 ≤ op ∧ op ≤ 13) :
   Calls Tryz.prog 56 #[.pointer (some ⟨a, 0, none⟩), insA op A B C m] w fun x w' => x = Rv (recM s op B C m) ∧ Gr w w' := by
 by_cases h1 : op = 1
 · subst h1; exact reckoned1 a A B C m w
 by_cases h2 : op = 2
 · subst h2; exact reckoned2 a A B C m _ w hv
 by_cases h11 : op = 11
 · subst h11
   cases hg : (s.at_.regs B).g with
   | true =>
     have e : recM s 11 B C m = .error (flt 2) := by unfold recM; rw [hg]; rfl
     rw [e]
     exact reckoned11_b a A B C m _ w hv hg
   | false =>
     have e : recM s 11 B C m = .ok (ofI (IntKind.u64.wrap ((s.at_.regs B).n + IntKind.u64.wrap m))) := by unfold recM; rw [hg]; rfl
     rw [e]
     exact reckoned11_ok a A B C m _ w hv hg
 have e : recM s op B C m = twoR op (s.at_.regs B) (s.at_.regs C) := by unfold recM; rw [if_neg h1, if_neg h2, if_neg h11]
 rw [e]
 have ho : op = 3 ∨ op = 4 ∨ op = 5 ∨ op = 6 ∨ op = 7 ∨ op = 8 ∨ op = 9 ∨ op = 10 ∨ op = 12 ∨ op = 13 := by omega
 cases hg : (s.at_.regs B).g with
 | true => exact reckoned_b a op A B C m _ _ w hv hu hn ho hg
 | false =>
   cases hg2 : (s.at_.regs C).g with
   | true => exact reckoned_c a op A B C m _ _ w hv hu hn ho hg hg2
   | false => exact reckoned_ok a op A B C m _ _ w hv hu hn ho hg hg2
end C
end Go.Proofs.YtiigpncfmakgjaaGreatDoor
