import Derived.Test.YthmlkcglglcljaaGreatDoorJ30
namespace Go.Proofs.YthmlkcglglcljaaGreatDoor
set_option maxRecDepth 100000
set_option maxHeartbeats 40000000
namespace C
open Go.RowKit
open T (Sep Ob Kp Mf TgIn boxOb Fm Tc Ed Vl Cp Bx tgOb mRow mRow_idx mRow_reg updV flt accessF ldE ldV stB stT lcE lcV scB scT)

def granR (m p : Int) (v : Vl) : Except Ed Int := match plcR m 16 p v with
 | .error e => .error e
 | .ok n => if Int.tmod n 16 = 0 then .ok n else .error (flt 7)
theorem granR_nat {m p : Int} {v : Vl} {n : Int} (h : granR m p v = .ok n) : n = ((n.toNat : Nat) : Int) ∧ n.toNat < 18446744073709551616 := by
 unfold granR at h
 cases hq : plcR m 16 p v with
 | error e => rw [hq] at h; cases h
 | ok k =>
   rw [hq] at h
   simp only at h
   split at h
   · injection h with h
     rw [← h]
     exact plcR_nat hq
   · cases h
theorem granule_any (a : Nat) (op : Int) (A B C : Nat) (m p : Int) (v : Vl) (w : World) (hv : RgAt w a B v) :
   Calls Tryz.prog 144 #[.pointer (some ⟨a, 0, none⟩), insA op A B C m, .int .u8 p] w fun x w' => x = UnV (granR m p v) ∧ Bl w w' := by
 have hP := Hz.mk (fun X (g : Bl w X) => place_any a op A B C m 16 p v X (hv.bl g))
 unfold granR
 generalize plcR m 16 p v = q at *
 unfold insA at *
 clear hv
 cases q with
 | error e =>
   simp only [UnV, pan] at hP ⊢
   have A0 : At (w.alloc (.cells #[.int .u8 op, .int .i64 A, .int .i64 B, .int .i64 C, .int .i64 m] 56)) w.heap.size #[.int .u8 op, .int .i64 A, .int .i64 B, .int .i64 C, .int .i64 m] := At.new w #[.int .u8 op, .int .i64 A, .int .i64 B, .int .i64 C, .int .i64 m] 56
   have g0 : Bl w (w.alloc (.cells #[.int .u8 op, .int .i64 A, .int .i64 B, .int .i64 C, .int .i64 m] 56)) := (Bl.refl w).alloc _
   replace A0 := Hz.mk A0
   replace g0 := Hz.mk g0
   go_enter Tryz.func144, Tryz.ntmps144
   go_upto_region 1 with fail
   refine wp_world (fun W => At W w.heap.size #[.int .u8 op, .int .i64 A, .int .i64 B, .int .i64 C, .int .i64 m] ∧ Bl w W) ⟨A0.out, g0.out⟩ ?_
   clear A0 g0
   rintro W ⟨A0, g0⟩
   have ⟨_, p0, _⟩ := A0
   replace A0 := Hz.mk A0
   replace g0 := Hz.mk g0
   go_wp2_with (refine (hP.out _ g0.out).mono ?_; rintro r X1 ⟨rfl, e1⟩)
   exact ⟨rfl, rfl, g0.out.trans e1⟩
 | ok n =>
   simp only [UnV] at hP
   simp only
   by_cases hz : Int.tmod n 16 = 0
   · rw [if_pos hz]
     have hz2 : (Int.tmod n 16 != 0) = false := by simpa using hz
     simp only [UnV]
     replace hz := Hz.mk hz
     have A0 : At (w.alloc (.cells #[.int .u8 op, .int .i64 A, .int .i64 B, .int .i64 C, .int .i64 m] 56)) w.heap.size #[.int .u8 op, .int .i64 A, .int .i64 B, .int .i64 C, .int .i64 m] := At.new w #[.int .u8 op, .int .i64 A, .int .i64 B, .int .i64 C, .int .i64 m] 56
     have g0 : Bl w (w.alloc (.cells #[.int .u8 op, .int .i64 A, .int .i64 B, .int .i64 C, .int .i64 m] 56)) := (Bl.refl w).alloc _
     replace A0 := Hz.mk A0
     replace g0 := Hz.mk g0
     go_enter Tryz.func144, Tryz.ntmps144
     go_upto_region 1 with fail
     refine wp_world (fun W => At W w.heap.size #[.int .u8 op, .int .i64 A, .int .i64 B, .int .i64 C, .int .i64 m] ∧ Bl w W) ⟨A0.out, g0.out⟩ ?_
     clear A0 g0
     rintro W ⟨A0, g0⟩
     have ⟨_, p0, _⟩ := A0
     replace A0 := Hz.mk A0
     replace g0 := Hz.mk g0
     go_wp2_with fail
     refine (hP.out _ g0.out).mono ?_
     rintro r X1 ⟨rfl, e1⟩
     replace g0 := Hz.mk (g0.out.trans e1)
     clear e1 p0 A0 hP
     go_wp2_with fail
     go_ret
     exact ⟨rfl, g0.out⟩
   · rw [if_neg hz]
     have hz2 : (Int.tmod n 16 != 0) = true := by simpa using hz
     have hF := Hz.mk (fail_any 7)
     simp only [UnV, pan] at hF ⊢
     replace hz := Hz.mk hz
     have A0 : At (w.alloc (.cells #[.int .u8 op, .int .i64 A, .int .i64 B, .int .i64 C, .int .i64 m] 56)) w.heap.size #[.int .u8 op, .int .i64 A, .int .i64 B, .int .i64 C, .int .i64 m] := At.new w #[.int .u8 op, .int .i64 A, .int .i64 B, .int .i64 C, .int .i64 m] 56
     have g0 : Bl w (w.alloc (.cells #[.int .u8 op, .int .i64 A, .int .i64 B, .int .i64 C, .int .i64 m] 56)) := (Bl.refl w).alloc _
     replace A0 := Hz.mk A0
     replace g0 := Hz.mk g0
     go_enter Tryz.func144, Tryz.ntmps144
     go_upto_region 1 with fail
     refine wp_world (fun W => At W w.heap.size #[.int .u8 op, .int .i64 A, .int .i64 B, .int .i64 C, .int .i64 m] ∧ Bl w W) ⟨A0.out, g0.out⟩ ?_
     clear A0 g0
     rintro W ⟨A0, g0⟩
     have ⟨_, p0, _⟩ := A0
     replace A0 := Hz.mk A0
     replace g0 := Hz.mk g0
     go_wp2_with fail
     refine (hP.out _ g0.out).mono ?_
     rintro r X1 ⟨rfl, e1⟩
     replace g0 := Hz.mk (g0.out.trans e1)
     clear e1 p0 A0 hP
     go_wp2_with (refine (hF.out _).mono ?_; rintro r X2 ⟨rfl, rfl⟩)
     exact ⟨rfl, rfl, g0.out⟩
def ldcM (s : Ms) (A B_ : Nat) (m : Int) : Except Ed Ms := match granR m 4 (s.at_.regs B_) with
 | .error e => .error e
 | .ok n => if lcE n.toNat = 0 then .ok ((Ms.put { s with tou := s.tou ++ [⟨false, n.toNat, 16⟩] } A (lcV s.b s.t n.toNat)).next) else .error (flt 5)
theorem loadCap_any (B : Nat) (W0 : World) (a : Nat) (P : PImg) (s : Ms) (l : List Ob) (op : Int) (A B_ C_ : Nat) (m : Int) (h : MIn B W0 a P s l) (hA : A < 16) (hB_ : B_ < 16) (hp : s.at_.pc < 1000000000) (hl : s.tou.length ≤ 1000000) :
   Calls Tryz.prog 114 #[.pointer (some ⟨a, 0, none⟩), insA op A B_ C_ m] W0 fun x w' => Dv B W0 a P s l (ldcM s A B_ m) x w' := by
 have h2 := Hz.mk (h.new #[.int .u8 op, .int .i64 A, .int .i64 B_, .int .i64 C_, .int .i64 m] 56)
 have hP := Hz.mk (fun X l' (q : MIn B X a P s l') => granule_any a op A B_ C_ m 4 (s.at_.regs B_) X (q.rg B_ hB_))
 unfold ldcM
 cases hq : granR m 4 (s.at_.regs B_) with
 | error e =>
   rw [hq] at hP
   unfold insA at *
   simp only [UnV, pan] at hP
   simp only [Dv, pan]
   clear h hq hp hl
   go_enter Tryz.func114, Tryz.ntmps114
   go_upto_region 1 with fail
   refine wp_world (fun W => MIn B W a P s (boxOb W0.heap.size #[.int .u8 op, .int .i64 A, .int .i64 B_, .int .i64 C_, .int .i64 m] :: l) ∧ Below B W0 W) h2.out ?_
   clear h2
   rintro W ⟨h, hB⟩
   generalize W0.heap.size = kb at *
   have ⟨_, p0, _⟩ := h.there (boxOb kb #[.int .u8 op, .int .i64 A, .int .i64 B_, .int .i64 C_, .int .i64 m]) (.head _)
   replace h := Hz.mk h
   replace hB := Hz.mk hB
   go_wp2_with (refine (hP.out _ _ h.out).mono ?_; rintro r X1 ⟨rfl, e1⟩)
   exact ⟨rfl, rfl, (h.out.bl e1).1.drop, hB.out.trans (h.out.bl e1).2⟩
 | ok n =>
   rw [hq] at hP
   obtain ⟨hn1, hn2⟩ := granR_nat hq
   clear hq
   simp only [UnV] at hP
   rw [hn1] at hP
   simp only
   generalize n.toNat = ad at *
   clear hn1
   have hL := Hz.mk (fun X S km (q : TgIn S X km s.b s.t) => T.tgLoadCap_any S km ad s.b s.t X q hn2)
   have hLy := Hz.mk (fun X l' (q : MIn B X a P { s with tou := s.tou ++ [⟨false, ad, 16⟩] } l') => lay_any B a A (lcV s.b s.t ad) P _ _ X q hA hp)
   have hNt := Hz.mk (fun X l' (q : MIn B X a P s l') => note_any B X a P s l' ⟨false, ad, 16⟩ q hl)
   simp only at hNt
   unfold insA at *
   clear h hp hl hn2 hA hB_
   generalize lcV s.b s.t ad = u at *
   simp only [Vl.agg] at hL hLy
   by_cases he : lcE ad = 0
   · rw [if_pos he]
     rw [he] at hL
     have hM := Hz.mk inMem_ok
     simp only [Dv]
     go_enter Tryz.func114, Tryz.ntmps114
     go_upto_region 1 with fail
     refine wp_world (fun W => MIn B W a P s (boxOb W0.heap.size #[.int .u8 op, .int .i64 A, .int .i64 B_, .int .i64 C_, .int .i64 m] :: l) ∧ Below B W0 W) h2.out ?_
     clear h2
     rintro W ⟨h, hB⟩
     generalize W0.heap.size = kb at *
     have ⟨_, p0, _⟩ := h.there (boxOb kb #[.int .u8 op, .int .i64 A, .int .i64 B_, .int .i64 C_, .int .i64 m]) (.head _)
     replace h := Hz.mk h
     replace hB := Hz.mk hB
     go_wp2_with fail
     refine (hP.out _ _ h.out).mono ?_
     rintro r X1 ⟨rfl, e1⟩
     replace hB := Hz.mk (hB.out.trans (h.out.bl e1).2)
     replace h := Hz.mk (h.out.bl e1).1
     clear e1
     obtain ⟨km, SM, c4, hTg, hMm⟩ := h.out.mem
     replace hTg := Hz.mk hTg
     clear p0 hMm
     go_wp2_with fail
     refine (hL.out _ _ _ hTg.out).mono ?_
     rintro r X2 ⟨rfl, e1⟩
     clear hTg c4
     replace hB := Hz.mk (hB.out.trans (h.out.bl e1).2)
     replace h := Hz.mk (h.out.bl e1).1
     clear e1
     have h5 := h.out.new #[.bool u.g, .int .u64 u.n, .int .u64 u.c.b, .int .u64 u.c.e, .int .u64 u.c.c, .int .u8 u.c.p, .int .i64 u.c.s] 37
     replace h5 := Hz.mk h5
     go_upto_region 3 with fail
     refine wp_world (fun X => MIn B X a P s (boxOb X2.heap.size #[.bool u.g, .int .u64 u.n, .int .u64 u.c.b, .int .u64 u.c.e, .int .u64 u.c.c, .int .u8 u.c.p, .int .i64 u.c.s] :: boxOb kb #[.int .u8 op, .int .i64 A, .int .i64 B_, .int .i64 C_, .int .i64 m] :: l) ∧ Below B W0 X) ⟨h5.out.1, hB.out.trans h5.out.2⟩ ?_
     clear h5 h hB
     rintro X3 ⟨h, hB⟩
     generalize X2.heap.size = k5 at *
     replace h := Hz.mk h
     replace hB := Hz.mk hB
     go_wp2_with fail
     refine (hM.out _).mono ?_
     rintro r X4 ⟨rfl, rfl⟩
     go_wp2_with fail
     refine (hNt.out _ _ h.out).mono ?_
     rintro r Y4 ⟨rfl, h4, hB4⟩
     replace hB := Hz.mk (hB.out.trans hB4)
     replace h := Hz.mk h4
     clear h4 hB4 hNt hP hL hM
     have ⟨_, p5, _⟩ := h.out.there (boxOb k5 #[.bool u.g, .int .u64 u.n, .int .u64 u.c.b, .int .u64 u.c.e, .int .u64 u.c.c, .int .u8 u.c.p, .int .i64 u.c.s]) (.head _)
     have ⟨_, p0, _⟩ := h.out.there (boxOb kb #[.int .u8 op, .int .i64 A, .int .i64 B_, .int .i64 C_, .int .i64 m]) (.tail _ (.head _))
     go_wp2_with fail
     refine (hLy.out _ _ h.out).mono ?_
     rintro r Y5 ⟨rfl, h5, hB5⟩
     replace hB := Hz.mk (hB.out.trans hB5)
     replace h := Hz.mk h5
     clear h5 hB5 p0 p5
     go_wp2_with fail
     go_end0
     exact ⟨rfl, h.out.drop.drop, hB.out⟩
   · rw [if_neg he]
     have hM := Hz.mk (fun X => inMem_bad _ X he)
     simp only [Dv, pan] at hM ⊢
     go_enter Tryz.func114, Tryz.ntmps114
     go_upto_region 1 with fail
     refine wp_world (fun W => MIn B W a P s (boxOb W0.heap.size #[.int .u8 op, .int .i64 A, .int .i64 B_, .int .i64 C_, .int .i64 m] :: l) ∧ Below B W0 W) h2.out ?_
     clear h2
     rintro W ⟨h, hB⟩
     generalize W0.heap.size = kb at *
     have ⟨_, p0, _⟩ := h.there (boxOb kb #[.int .u8 op, .int .i64 A, .int .i64 B_, .int .i64 C_, .int .i64 m]) (.head _)
     replace h := Hz.mk h
     replace hB := Hz.mk hB
     go_wp2_with fail
     refine (hP.out _ _ h.out).mono ?_
     rintro r X1 ⟨rfl, e1⟩
     replace hB := Hz.mk (hB.out.trans (h.out.bl e1).2)
     replace h := Hz.mk (h.out.bl e1).1
     clear e1
     obtain ⟨km, SM, c4, hTg, hMm⟩ := h.out.mem
     replace hTg := Hz.mk hTg
     clear p0 hMm
     go_wp2_with fail
     refine (hL.out _ _ _ hTg.out).mono ?_
     rintro r X2 ⟨rfl, e1⟩
     clear hTg c4
     replace hB := Hz.mk (hB.out.trans (h.out.bl e1).2)
     replace h := Hz.mk (h.out.bl e1).1
     clear e1
     have h5 := Hz.mk (h.out.new #[.bool u.g, .int .u64 u.n, .int .u64 u.c.b, .int .u64 u.c.e, .int .u64 u.c.c, .int .u8 u.c.p, .int .i64 u.c.s] 37)
     go_wp2_with (refine (hM.out _).mono ?_; rintro r X3 ⟨rfl, rfl⟩)
     exact ⟨rfl, rfl, h5.out.1.drop.drop, hB.out.trans h5.out.2⟩
end C
end Go.Proofs.YthmlkcglglcljaaGreatDoor


namespace Go.Proofs.YthmlkcglglcljaaGreatDoor
set_option maxRecDepth 100000
set_option maxHeartbeats 40000000
namespace C
open Go.RowKit
open T (Sep Ob Kp Mf TgIn boxOb Fm Tc Ed Vl Cp Bx tgOb mRow mRow_idx mRow_reg updV flt accessF ldE ldV stB stT lcE lcV scB scT)

theorem MIn.mem2 {B : Nat} {W : World} {a : Nat} {P : PImg} {s : Ms} {l : List Ob} (h : MIn B W a P s l) : ∃ km SM, (W.cell? ⟨a, 4, none⟩ = some (.pointer (some ⟨km, 0, none⟩)) ∧ ∀ r, r < 16 → ∀ v, s.at_.regs r = v → W.rangeAt a (7 + r * 7) [Value.bool v.g, .int .u64 v.n, .int .u64 v.c.b, .int .u64 v.c.e, .int .u64 v.c.c, .int .u8 v.c.p, .int .i64 v.c.s]) ∧ TgIn SM W km s.b s.t ∧ ∀ W' b' t' SM', TgIn SM' W' km b' t' → Mf SM SM' W W' → MIn B W' a P { s with b := b', t := t' } l ∧ Below B W W' ∧ (W'.cell? ⟨a, 4, none⟩ = some (.pointer (some ⟨km, 0, none⟩)) ∧ ∀ r, r < 16 → ∀ v, s.at_.regs r = v → W'.rangeAt a (7 + r * 7) [Value.bool v.g, .int .u64 v.n, .int .u64 v.c.b, .int .u64 v.c.e, .int .u64 v.c.c, .int .u8 v.c.p, .int .i64 v.c.s]) := by
 obtain ⟨⟨q, h1, h2⟩, le⟩ := h
 have key : ∀ X, Bx X a (rowOf P s q) → X.cell? ⟨a, 4, none⟩ = some (.pointer (some ⟨q.km, 0, none⟩)) ∧ ∀ r, r < 16 → ∀ v, s.at_.regs r = v → X.rangeAt a (7 + r * 7) [Value.bool v.g, .int .u64 v.n, .int .u64 v.c.b, .int .u64 v.c.e, .int .u64 v.c.c, .int .u8 v.c.p, .int .i64 v.c.s] := fun X hB => ⟨hB.at_ 4 _ rfl, fun r hr v e j u z => by
   subst e
   have hj : j < 7 := (List.getElem?_eq_some_iff.1 z).1
   exact hB.at_ _ u ((mRow_reg _ _ _ _ _ _ _ _ _ _ _ r j hr hj).trans z)⟩
 have hB : Bx W a (rowOf P s q) := h1.ins (bx_ a (rowOf P s q)) (by simp [obs])
 refine ⟨q.km, q.SM, key W hB, h1.ins (tgOb q.SM q.km s.b s.t) (by simp [obs]), fun W' b' t' SM' h3 hm => ?_⟩
 have h4 := sep_change (l1 := [bx_ a (rowOf P s q)]) (o := tgOb q.SM q.km s.b s.t) (o' := tgOb SM' q.km b' t') h1 h3 hm.kp hm.new le
 exact ⟨⟨⟨{ q with SM := SM' }, h4, h2⟩, Nat.le_trans le hm.kp.size⟩, sep_below (l1 := [bx_ a (rowOf P s q)]) (o := tgOb q.SM q.km s.b s.t) h1 hm.kp le, key W' (h4.ins (bx_ a (rowOf P s q)) (by simp))⟩
def stcM (s : Ms) (A B_ : Nat) (m : Int) : Except Ed Ms := match granR m 8 (s.at_.regs B_) with
 | .error e => .error e
 | .ok n => if lcE n.toNat = 0 then .ok (Ms.next { s with tou := s.tou ++ [⟨true, n.toNat, 16⟩], b := scB s.b n.toNat (s.at_.regs A), t := scT s.t n.toNat (s.at_.regs A) }) else .error (flt 5)
theorem stc_bad {b : Nat → UInt8} {t : Nat → Option Cp} {ad : Nat} {v : Vl} (h : lcE ad ≠ 0) : scB b ad v = b ∧ scT t ad v = t := by
 unfold lcE at h
 unfold scB scT
 split at h
 · exact absurd rfl h
 · rename_i q
   rw [if_neg q, if_neg q]
   exact ⟨rfl, rfl⟩
theorem storeCap_any (B : Nat) (W0 : World) (a : Nat) (P : PImg) (s : Ms) (l : List Ob) (op : Int) (A B_ C_ : Nat) (m : Int) (h : MIn B W0 a P s l) (hA : A < 16) (hB_ : B_ < 16) (hp : s.at_.pc < 1000000000) (hl : s.tou.length ≤ 1000000) (hc0 : 0 ≤ (s.at_.regs A).c.c) :
   Calls Tryz.prog 115 #[.pointer (some ⟨a, 0, none⟩), insA op A B_ C_ m] W0 fun x w' => Dv B W0 a P s l (stcM s A B_ m) x w' := by
 have h2 := Hz.mk (h.new #[.int .u8 op, .int .i64 A, .int .i64 B_, .int .i64 C_, .int .i64 m] 56)
 have hP := Hz.mk (fun X l' (q : MIn B X a P s l') => granule_any a op A B_ C_ m 8 (s.at_.regs B_) X (q.rg B_ hB_))
 have hA16 : (A : Int) < 16 := by omega
 unfold stcM
 cases hq : granR m 8 (s.at_.regs B_) with
 | error e =>
   rw [hq] at hP
   unfold insA at *
   simp only [UnV, pan] at hP
   simp only [Dv, pan]
   clear h hq hp hl
   go_enter Tryz.func115, Tryz.ntmps115
   go_upto_region 1 with fail
   refine wp_world (fun W => MIn B W a P s (boxOb W0.heap.size #[.int .u8 op, .int .i64 A, .int .i64 B_, .int .i64 C_, .int .i64 m] :: l) ∧ Below B W0 W) h2.out ?_
   clear h2
   rintro W ⟨h, hB⟩
   generalize W0.heap.size = kb at *
   have ⟨_, p0, _⟩ := h.there (boxOb kb #[.int .u8 op, .int .i64 A, .int .i64 B_, .int .i64 C_, .int .i64 m]) (.head _)
   replace h := Hz.mk h
   replace hB := Hz.mk hB
   go_wp2_with (refine (hP.out _ _ h.out).mono ?_; rintro r X1 ⟨rfl, e1⟩)
   exact ⟨rfl, rfl, (h.out.bl e1).1.drop, hB.out.trans (h.out.bl e1).2⟩
 | ok n =>
   rw [hq] at hP
   obtain ⟨hn1, hn2⟩ := granR_nat hq
   clear hq
   simp only [UnV] at hP
   rw [hn1] at hP
   simp only
   generalize n.toNat = ad at *
   clear hn1
   obtain ⟨v, hvA⟩ : ∃ v, s.at_.regs A = v := ⟨_, rfl⟩
   rw [hvA] at hc0 ⊢
   have hL0 := fun X S km (q : TgIn S X km s.b s.t) => T.tgStoreCap_any S km ad s.b s.t v X q hn2 hc0
   have hNt := Hz.mk (fun X l' (q : MIn B X a P { s with b := scB s.b ad v, t := scT s.t ad v } l') => note_any B X a P _ l' ⟨true, ad, 16⟩ q hl)
   have hNx := Hz.mk (fun X l' (q : MIn B X a P { s with tou := s.tou ++ [⟨true, ad, 16⟩], b := scB s.b ad v, t := scT s.t ad v } l') => next_any B a P _ l' X q hp)
   simp only at hNt
   unfold insA at *
   simp only [Vl.agg] at hL0
   replace hvA := Hz.mk hvA
   clear h hp hl hn2 hB_ hc0
   by_cases he : lcE ad = 0
   · rw [if_pos he]
     rw [he] at hL0
     have hL := Hz.mk (fun X SM {km : Nat} (q : TgIn SM X km s.b s.t) => hL0 X SM km q)
     have hM := Hz.mk inMem_ok
     simp only [Dv]
     clear hL0 he
     go_enter Tryz.func115, Tryz.ntmps115
     go_upto_region 1 with fail
     refine wp_world (fun W => MIn B W a P s (boxOb W0.heap.size #[.int .u8 op, .int .i64 A, .int .i64 B_, .int .i64 C_, .int .i64 m] :: l) ∧ Below B W0 W) h2.out ?_
     clear h2
     rintro W ⟨h, hB⟩
     generalize W0.heap.size = kb at *
     have ⟨_, p0, _⟩ := h.there (boxOb kb #[.int .u8 op, .int .i64 A, .int .i64 B_, .int .i64 C_, .int .i64 m]) (.head _)
     replace h := Hz.mk h
     replace hB := Hz.mk hB
     go_wp2_with fail
     refine (hP.out _ _ h.out).mono ?_
     rintro r X1 ⟨rfl, e1⟩
     replace hB := Hz.mk (hB.out.trans (h.out.bl e1).2)
     replace h := Hz.mk (h.out.bl e1).1
     clear e1
     clear p0 hP
     go_upto_region 2 with fail
     obtain ⟨km, SM, hx0, hTg, hMm⟩ := (h.out.bl (Bl.refl X1).drew).1.mem2
     replace hMm := Hz.mk hMm
     replace hTg := Hz.mk hTg
     replace hB := Hz.mk (hB.out.trans (h.out.bl (Bl.refl X1).drew).2)
     replace h := Hz.mk (h.out.bl (Bl.refl X1).drew).1
     refine wp_region_held_drew (S := (fun X => X.cell? ⟨a, 4, none⟩ = some (.pointer (some ⟨km, 0, none⟩)) ∧ X.cell? ⟨kb, 1, none⟩ = some (.int .i64 A) ∧ X.rangeAt a (7 + A * 7) [Value.bool v.g, .int .u64 v.n, .int .u64 v.c.b, .int .u64 v.c.e, .int .u64 v.c.c, .int .u8 v.c.p, .int .i64 v.c.s])) (by kernel_rfl) (⟨hx0.1, (h.out.there (boxOb kb #[.int .u8 op, .int .i64 A, .int .i64 B_, .int .i64 C_, .int .i64 m]) (.head _)).2.1 1, hx0.2 A hA v hvA.out⟩) (fun hHeld => ?_)
     generalize X1.drew = X2 at *
     clear hx0
     refine xso 0 ?_ rfl ?_ (xso 1 ?_ rfl ?_ (xso 2 ?_ rfl ?_ (xso 3 ?_ rfl ?_ (xso 4 ?_ rfl ?_ (xso 5 ?_ rfl ?_ (xso 6 ?_ rfl ?_ (xso 7 ?_ rfl ?_ (xso 8 ?_ rfl ?_ (xso 9 ?_ rfl ?_ (xso 10 ?_ rfl ?_ (xso 11 ?_ rfl ?_ ?_)))))))))))
     iterate 12 (rotate_left; focus ((try simp only [xap]); intro w hSw; (try dsimp only at hSw); go_simp; first | done | with_reducible rfl))
     try simp only [xap]
     refine xtk 12 rfl (yieldsIf_load_mid (by rfl) _ _ rfl _ _ rfl _ _ (fun _ h => h.2.2) Tryz.underlying37 rfl (by kernel_rfl)) ?_
     try simp only [xap]
     refine xrd 13 rfl (fun K hK => ?_)
     go_simp
     go_wp2_with (refine (hL.out _ _ hTg.out).mono ?_; rintro r Y3 ⟨rfl, SM2, hT2, hm2⟩; obtain ⟨h3, hB3, hx3⟩ := hMm.out _ _ _ _ hT2 hm2; replace hB := Hz.mk (hB.out.trans hB3); replace h := Hz.mk h3; clear h3 hB3 hT2 hm2 hTg hMm hHeld)
     refine hK.out _ _ ⟨hx3.1, (h.out.there (boxOb kb #[.int .u8 op, .int .i64 A, .int .i64 B_, .int .i64 C_, .int .i64 m]) (.head _)).2.1 1, hx3.2 A hA v hvA.out⟩ (fun hHeld => ?_)
     clear hK K
     try simp only [xap]
     refine xrd 14 rfl (fun K hK => ?_)
     go_simp
     go_wp2_with (refine (hM.out _).mono ?_; rintro r Y4 ⟨rfl, rfl⟩; clear hHeld)
     refine hK.out _ _ ⟨hx3.1, (h.out.there (boxOb kb #[.int .u8 op, .int .i64 A, .int .i64 B_, .int .i64 C_, .int .i64 m]) (.head _)).2.1 1, hx3.2 A hA v hvA.out⟩ (fun hHeld => ?_)
     clear hK K
     try simp only [xap]
     refine xdn ?_ _
     clear hHeld hx3
     go_wp2_with fail
     refine (hNt.out _ _ h.out).mono ?_
     rintro r Y5 ⟨rfl, h4, hB4⟩
     replace hB := Hz.mk (hB.out.trans hB4)
     replace h := Hz.mk h4
     clear h4 hB4 hNt
     go_wp2_with fail
     refine (hNx.out _ _ h.out).mono ?_
     rintro r Y6 ⟨rfl, h5, hB5⟩
     replace hB := Hz.mk (hB.out.trans hB5)
     replace h := Hz.mk h5
     clear h5 hB5
     go_wp2_with fail
     go_end0
     exact ⟨rfl, h.out.drop, hB.out⟩
   · rw [if_neg he]
     have hL := Hz.mk (fun X SM {km : Nat} (q : TgIn SM X km s.b s.t) => hL0 X SM km q)
     have hM := Hz.mk (fun X => inMem_bad _ X he)
     have hsb := Hz.mk (stc_bad (b := s.b) (t := s.t) (v := v) he)
     simp only [Dv, pan] at hM ⊢
     clear hL0 he hNt hNx
     go_enter Tryz.func115, Tryz.ntmps115
     go_upto_region 1 with fail
     refine wp_world (fun W => MIn B W a P s (boxOb W0.heap.size #[.int .u8 op, .int .i64 A, .int .i64 B_, .int .i64 C_, .int .i64 m] :: l) ∧ Below B W0 W) h2.out ?_
     clear h2
     rintro W ⟨h, hB⟩
     generalize W0.heap.size = kb at *
     have ⟨_, p0, _⟩ := h.there (boxOb kb #[.int .u8 op, .int .i64 A, .int .i64 B_, .int .i64 C_, .int .i64 m]) (.head _)
     replace h := Hz.mk h
     replace hB := Hz.mk hB
     go_wp2_with fail
     refine (hP.out _ _ h.out).mono ?_
     rintro r X1 ⟨rfl, e1⟩
     replace hB := Hz.mk (hB.out.trans (h.out.bl e1).2)
     replace h := Hz.mk (h.out.bl e1).1
     clear e1
     clear p0 hP
     go_upto_region 2 with fail
     obtain ⟨km, SM, hx0, hTg, hMm⟩ := (h.out.bl (Bl.refl X1).drew).1.mem2
     replace hMm := Hz.mk hMm
     replace hTg := Hz.mk hTg
     replace hB := Hz.mk (hB.out.trans (h.out.bl (Bl.refl X1).drew).2)
     replace h := Hz.mk (h.out.bl (Bl.refl X1).drew).1
     refine wp_region_held_drew (S := (fun X => X.cell? ⟨a, 4, none⟩ = some (.pointer (some ⟨km, 0, none⟩)) ∧ X.cell? ⟨kb, 1, none⟩ = some (.int .i64 A) ∧ X.rangeAt a (7 + A * 7) [Value.bool v.g, .int .u64 v.n, .int .u64 v.c.b, .int .u64 v.c.e, .int .u64 v.c.c, .int .u8 v.c.p, .int .i64 v.c.s])) (by kernel_rfl) (⟨hx0.1, (h.out.there (boxOb kb #[.int .u8 op, .int .i64 A, .int .i64 B_, .int .i64 C_, .int .i64 m]) (.head _)).2.1 1, hx0.2 A hA v hvA.out⟩) (fun hHeld => ?_)
     generalize X1.drew = X2 at *
     clear hx0
     refine xso 0 ?_ rfl ?_ (xso 1 ?_ rfl ?_ (xso 2 ?_ rfl ?_ (xso 3 ?_ rfl ?_ (xso 4 ?_ rfl ?_ (xso 5 ?_ rfl ?_ (xso 6 ?_ rfl ?_ (xso 7 ?_ rfl ?_ (xso 8 ?_ rfl ?_ (xso 9 ?_ rfl ?_ (xso 10 ?_ rfl ?_ (xso 11 ?_ rfl ?_ ?_)))))))))))
     iterate 12 (rotate_left; focus ((try simp only [xap]); intro w hSw; (try dsimp only at hSw); go_simp; first | done | with_reducible rfl))
     try simp only [xap]
     refine xtk 12 rfl (yieldsIf_load_mid (by rfl) _ _ rfl _ _ rfl _ _ (fun _ h => h.2.2) Tryz.underlying37 rfl (by kernel_rfl)) ?_
     try simp only [xap]
     refine xrd 13 rfl (fun K hK => ?_)
     go_simp
     go_wp2_with (refine (hL.out _ _ hTg.out).mono ?_; rintro r Y3 ⟨rfl, SM2, hT2, hm2⟩; rw [hsb.out.1, hsb.out.2] at hT2; obtain ⟨h3, hB3, hx3⟩ := hMm.out _ _ _ _ hT2 hm2; replace hB := Hz.mk (hB.out.trans hB3); replace h := Hz.mk h3; clear h3 hB3 hT2 hm2 hTg hMm hHeld)
     refine hK.out _ _ ⟨hx3.1, (h.out.there (boxOb kb #[.int .u8 op, .int .i64 A, .int .i64 B_, .int .i64 C_, .int .i64 m]) (.head _)).2.1 1, hx3.2 A hA v hvA.out⟩ (fun hHeld => ?_)
     clear hK K
     try simp only [xap]
     refine xrd 14 rfl (fun K hK => ?_)
     go_simp
     go_wp2_with (refine (hM.out _).mono ?_; rintro r Y4 ⟨rfl, rfl⟩)
     exact ⟨rfl, rfl, h.out.drop, hB.out⟩
end C
end Go.Proofs.YthmlkcglglcljaaGreatDoor


namespace Go.Proofs.YthmlkcglglcljaaGreatDoor
set_option maxRecDepth 100000
set_option maxHeartbeats 40000000
namespace C
open Go.RowKit
open T (Sep Ob Kp Mf TgIn boxOb Fm Tc Ed Vl Cp Bx tgOb mRow updV flt)

def touM (s : Ms) (op : Int) (A B_ : Nat) (m : Int) : Except Ed Ms :=
 if op = 60 then loadM s A B_ m 1 else if op = 61 then loadM s A B_ m 8 else if op = 62 then storeM s A B_ m 1 else if op = 63 then storeM s A B_ m 8 else if op = 64 then ldcM s A B_ m else stcM s A B_ m
theorem touch60 (B : Nat) (W0 : World) (a : Nat) (P : PImg) (s : Ms) (l : List Ob) (A B_ C_ : Nat) (m : Int) (h : MIn B W0 a P s l) (hA : A < 16) (hB_ : B_ < 16) (hp : s.at_.pc < 1000000000) (hl : s.tou.length ≤ 1000000) :
   Calls Tryz.prog 76 #[.pointer (some ⟨a, 0, none⟩), insA 60 A B_ C_ m] W0 fun x w' => Dv B W0 a P s l (loadM s A B_ m 1) x w' := by
 have h2 := Hz.mk (h.new #[.int .u8 60, .int .i64 A, .int .i64 B_, .int .i64 C_, .int .i64 m] 56)
 have hC := Hz.mk (fun X l' (q : MIn B X a P s l') => load_any B X a P s l' 60 A B_ C_ m 1 q hA hB_ hp hl (.inl rfl))
 clear h
 generalize loadM s A B_ m 1 = q at *
 unfold insA at *
 cases q with
 | error e =>
   simp only [Dv, pan] at hC ⊢
   go_enter Tryz.func76, Tryz.ntmps76
   go_upto_region 1 with fail
   refine wp_world (fun W => MIn B W a P s (boxOb W0.heap.size #[.int .u8 60, .int .i64 A, .int .i64 B_, .int .i64 C_, .int .i64 m] :: l) ∧ Below B W0 W) h2.out ?_
   clear h2
   rintro W ⟨h, hB⟩
   generalize W0.heap.size = kb at *
   have ⟨_, p0, _⟩ := h.there (boxOb kb #[.int .u8 60, .int .i64 A, .int .i64 B_, .int .i64 C_, .int .i64 m]) (.head _)
   replace h := Hz.mk h
   replace hB := Hz.mk hB
   go_wp2_with (refine (hC.out _ _ h.out).mono ?_; rintro x w1 ⟨rfl, h1, hB1⟩)
   exact ⟨rfl, rfl, h1.drop, hB.out.trans hB1⟩
 | ok s' =>
   simp only [Dv] at hC ⊢
   go_enter Tryz.func76, Tryz.ntmps76
   go_upto_region 1 with fail
   refine wp_world (fun W => MIn B W a P s (boxOb W0.heap.size #[.int .u8 60, .int .i64 A, .int .i64 B_, .int .i64 C_, .int .i64 m] :: l) ∧ Below B W0 W) h2.out ?_
   clear h2
   rintro W ⟨h, hB⟩
   generalize W0.heap.size = kb at *
   have ⟨_, p0, _⟩ := h.there (boxOb kb #[.int .u8 60, .int .i64 A, .int .i64 B_, .int .i64 C_, .int .i64 m]) (.head _)
   replace h := Hz.mk h
   replace hB := Hz.mk hB
   go_wp2_with fail
   refine (hC.out _ _ h.out).mono ?_
   rintro x w1 ⟨rfl, h1, hB1⟩
   replace h1 := Hz.mk h1
   replace hB1 := Hz.mk hB1
   clear p0
   go_wp2_with fail
   first | go_end0 | ((try simp only [Exit.inBlock, Exit.then]); refine bodyPost_ret (results_none rfl _ _ _) rfl ?_)
   exact ⟨rfl, h1.out.drop, hB.out.trans hB1.out⟩
theorem touch61 (B : Nat) (W0 : World) (a : Nat) (P : PImg) (s : Ms) (l : List Ob) (A B_ C_ : Nat) (m : Int) (h : MIn B W0 a P s l) (hA : A < 16) (hB_ : B_ < 16) (hp : s.at_.pc < 1000000000) (hl : s.tou.length ≤ 1000000) :
   Calls Tryz.prog 76 #[.pointer (some ⟨a, 0, none⟩), insA 61 A B_ C_ m] W0 fun x w' => Dv B W0 a P s l (loadM s A B_ m 8) x w' := by
 have h2 := Hz.mk (h.new #[.int .u8 61, .int .i64 A, .int .i64 B_, .int .i64 C_, .int .i64 m] 56)
 have hC := Hz.mk (fun X l' (q : MIn B X a P s l') => load_any B X a P s l' 61 A B_ C_ m 8 q hA hB_ hp hl (.inr rfl))
 clear h
 generalize loadM s A B_ m 8 = q at *
 unfold insA at *
 cases q with
 | error e =>
   simp only [Dv, pan] at hC ⊢
   go_enter Tryz.func76, Tryz.ntmps76
   go_upto_region 1 with fail
   refine wp_world (fun W => MIn B W a P s (boxOb W0.heap.size #[.int .u8 61, .int .i64 A, .int .i64 B_, .int .i64 C_, .int .i64 m] :: l) ∧ Below B W0 W) h2.out ?_
   clear h2
   rintro W ⟨h, hB⟩
   generalize W0.heap.size = kb at *
   have ⟨_, p0, _⟩ := h.there (boxOb kb #[.int .u8 61, .int .i64 A, .int .i64 B_, .int .i64 C_, .int .i64 m]) (.head _)
   replace h := Hz.mk h
   replace hB := Hz.mk hB
   go_wp2_with (refine (hC.out _ _ h.out).mono ?_; rintro x w1 ⟨rfl, h1, hB1⟩)
   exact ⟨rfl, rfl, h1.drop, hB.out.trans hB1⟩
 | ok s' =>
   simp only [Dv] at hC ⊢
   go_enter Tryz.func76, Tryz.ntmps76
   go_upto_region 1 with fail
   refine wp_world (fun W => MIn B W a P s (boxOb W0.heap.size #[.int .u8 61, .int .i64 A, .int .i64 B_, .int .i64 C_, .int .i64 m] :: l) ∧ Below B W0 W) h2.out ?_
   clear h2
   rintro W ⟨h, hB⟩
   generalize W0.heap.size = kb at *
   have ⟨_, p0, _⟩ := h.there (boxOb kb #[.int .u8 61, .int .i64 A, .int .i64 B_, .int .i64 C_, .int .i64 m]) (.head _)
   replace h := Hz.mk h
   replace hB := Hz.mk hB
   go_wp2_with fail
   refine (hC.out _ _ h.out).mono ?_
   rintro x w1 ⟨rfl, h1, hB1⟩
   replace h1 := Hz.mk h1
   replace hB1 := Hz.mk hB1
   clear p0
   go_wp2_with fail
   first | go_end0 | ((try simp only [Exit.inBlock, Exit.then]); refine bodyPost_ret (results_none rfl _ _ _) rfl ?_)
   exact ⟨rfl, h1.out.drop, hB.out.trans hB1.out⟩
theorem touch62 (B : Nat) (W0 : World) (a : Nat) (P : PImg) (s : Ms) (l : List Ob) (A B_ C_ : Nat) (m : Int) (h : MIn B W0 a P s l) (hA : A < 16) (hB_ : B_ < 16) (hp : s.at_.pc < 1000000000) (hl : s.tou.length ≤ 1000000) :
   Calls Tryz.prog 76 #[.pointer (some ⟨a, 0, none⟩), insA 62 A B_ C_ m] W0 fun x w' => Dv B W0 a P s l (storeM s A B_ m 1) x w' := by
 have h2 := Hz.mk (h.new #[.int .u8 62, .int .i64 A, .int .i64 B_, .int .i64 C_, .int .i64 m] 56)
 have hC := Hz.mk (fun X l' (q : MIn B X a P s l') => store_any B X a P s l' 62 A B_ C_ m 1 q hA hB_ hp hl (.inl rfl))
 clear h
 generalize storeM s A B_ m 1 = q at *
 unfold insA at *
 cases q with
 | error e =>
   simp only [Dv, pan] at hC ⊢
   go_enter Tryz.func76, Tryz.ntmps76
   go_upto_region 1 with fail
   refine wp_world (fun W => MIn B W a P s (boxOb W0.heap.size #[.int .u8 62, .int .i64 A, .int .i64 B_, .int .i64 C_, .int .i64 m] :: l) ∧ Below B W0 W) h2.out ?_
   clear h2
   rintro W ⟨h, hB⟩
   generalize W0.heap.size = kb at *
   have ⟨_, p0, _⟩ := h.there (boxOb kb #[.int .u8 62, .int .i64 A, .int .i64 B_, .int .i64 C_, .int .i64 m]) (.head _)
   replace h := Hz.mk h
   replace hB := Hz.mk hB
   go_wp2_with (refine (hC.out _ _ h.out).mono ?_; rintro x w1 ⟨rfl, h1, hB1⟩)
   exact ⟨rfl, rfl, h1.drop, hB.out.trans hB1⟩
 | ok s' =>
   simp only [Dv] at hC ⊢
   go_enter Tryz.func76, Tryz.ntmps76
   go_upto_region 1 with fail
   refine wp_world (fun W => MIn B W a P s (boxOb W0.heap.size #[.int .u8 62, .int .i64 A, .int .i64 B_, .int .i64 C_, .int .i64 m] :: l) ∧ Below B W0 W) h2.out ?_
   clear h2
   rintro W ⟨h, hB⟩
   generalize W0.heap.size = kb at *
   have ⟨_, p0, _⟩ := h.there (boxOb kb #[.int .u8 62, .int .i64 A, .int .i64 B_, .int .i64 C_, .int .i64 m]) (.head _)
   replace h := Hz.mk h
   replace hB := Hz.mk hB
   go_wp2_with fail
   refine (hC.out _ _ h.out).mono ?_
   rintro x w1 ⟨rfl, h1, hB1⟩
   replace h1 := Hz.mk h1
   replace hB1 := Hz.mk hB1
   clear p0
   go_wp2_with fail
   first | go_end0 | ((try simp only [Exit.inBlock, Exit.then]); refine bodyPost_ret (results_none rfl _ _ _) rfl ?_)
   exact ⟨rfl, h1.out.drop, hB.out.trans hB1.out⟩
theorem touch63 (B : Nat) (W0 : World) (a : Nat) (P : PImg) (s : Ms) (l : List Ob) (A B_ C_ : Nat) (m : Int) (h : MIn B W0 a P s l) (hA : A < 16) (hB_ : B_ < 16) (hp : s.at_.pc < 1000000000) (hl : s.tou.length ≤ 1000000) :
   Calls Tryz.prog 76 #[.pointer (some ⟨a, 0, none⟩), insA 63 A B_ C_ m] W0 fun x w' => Dv B W0 a P s l (storeM s A B_ m 8) x w' := by
 have h2 := Hz.mk (h.new #[.int .u8 63, .int .i64 A, .int .i64 B_, .int .i64 C_, .int .i64 m] 56)
 have hC := Hz.mk (fun X l' (q : MIn B X a P s l') => store_any B X a P s l' 63 A B_ C_ m 8 q hA hB_ hp hl (.inr rfl))
 clear h
 generalize storeM s A B_ m 8 = q at *
 unfold insA at *
 cases q with
 | error e =>
   simp only [Dv, pan] at hC ⊢
   go_enter Tryz.func76, Tryz.ntmps76
   go_upto_region 1 with fail
   refine wp_world (fun W => MIn B W a P s (boxOb W0.heap.size #[.int .u8 63, .int .i64 A, .int .i64 B_, .int .i64 C_, .int .i64 m] :: l) ∧ Below B W0 W) h2.out ?_
   clear h2
   rintro W ⟨h, hB⟩
   generalize W0.heap.size = kb at *
   have ⟨_, p0, _⟩ := h.there (boxOb kb #[.int .u8 63, .int .i64 A, .int .i64 B_, .int .i64 C_, .int .i64 m]) (.head _)
   replace h := Hz.mk h
   replace hB := Hz.mk hB
   go_wp2_with (refine (hC.out _ _ h.out).mono ?_; rintro x w1 ⟨rfl, h1, hB1⟩)
   exact ⟨rfl, rfl, h1.drop, hB.out.trans hB1⟩
 | ok s' =>
   simp only [Dv] at hC ⊢
   go_enter Tryz.func76, Tryz.ntmps76
   go_upto_region 1 with fail
   refine wp_world (fun W => MIn B W a P s (boxOb W0.heap.size #[.int .u8 63, .int .i64 A, .int .i64 B_, .int .i64 C_, .int .i64 m] :: l) ∧ Below B W0 W) h2.out ?_
   clear h2
   rintro W ⟨h, hB⟩
   generalize W0.heap.size = kb at *
   have ⟨_, p0, _⟩ := h.there (boxOb kb #[.int .u8 63, .int .i64 A, .int .i64 B_, .int .i64 C_, .int .i64 m]) (.head _)
   replace h := Hz.mk h
   replace hB := Hz.mk hB
   go_wp2_with fail
   refine (hC.out _ _ h.out).mono ?_
   rintro x w1 ⟨rfl, h1, hB1⟩
   replace h1 := Hz.mk h1
   replace hB1 := Hz.mk hB1
   clear p0
   go_wp2_with fail
   first | go_end0 | ((try simp only [Exit.inBlock, Exit.then]); refine bodyPost_ret (results_none rfl _ _ _) rfl ?_)
   exact ⟨rfl, h1.out.drop, hB.out.trans hB1.out⟩
theorem touch64 (B : Nat) (W0 : World) (a : Nat) (P : PImg) (s : Ms) (l : List Ob) (A B_ C_ : Nat) (m : Int) (h : MIn B W0 a P s l) (hA : A < 16) (hB_ : B_ < 16) (hp : s.at_.pc < 1000000000) (hl : s.tou.length ≤ 1000000) :
   Calls Tryz.prog 76 #[.pointer (some ⟨a, 0, none⟩), insA 64 A B_ C_ m] W0 fun x w' => Dv B W0 a P s l (ldcM s A B_ m) x w' := by
 have h2 := Hz.mk (h.new #[.int .u8 64, .int .i64 A, .int .i64 B_, .int .i64 C_, .int .i64 m] 56)
 have hC := Hz.mk (fun X l' (q : MIn B X a P s l') => loadCap_any B X a P s l' 64 A B_ C_ m q hA hB_ hp hl)
 clear h
 generalize ldcM s A B_ m = q at *
 unfold insA at *
 cases q with
 | error e =>
   simp only [Dv, pan] at hC ⊢
   go_enter Tryz.func76, Tryz.ntmps76
   go_upto_region 1 with fail
   refine wp_world (fun W => MIn B W a P s (boxOb W0.heap.size #[.int .u8 64, .int .i64 A, .int .i64 B_, .int .i64 C_, .int .i64 m] :: l) ∧ Below B W0 W) h2.out ?_
   clear h2
   rintro W ⟨h, hB⟩
   generalize W0.heap.size = kb at *
   have ⟨_, p0, _⟩ := h.there (boxOb kb #[.int .u8 64, .int .i64 A, .int .i64 B_, .int .i64 C_, .int .i64 m]) (.head _)
   replace h := Hz.mk h
   replace hB := Hz.mk hB
   go_wp2_with (refine (hC.out _ _ h.out).mono ?_; rintro x w1 ⟨rfl, h1, hB1⟩)
   exact ⟨rfl, rfl, h1.drop, hB.out.trans hB1⟩
 | ok s' =>
   simp only [Dv] at hC ⊢
   go_enter Tryz.func76, Tryz.ntmps76
   go_upto_region 1 with fail
   refine wp_world (fun W => MIn B W a P s (boxOb W0.heap.size #[.int .u8 64, .int .i64 A, .int .i64 B_, .int .i64 C_, .int .i64 m] :: l) ∧ Below B W0 W) h2.out ?_
   clear h2
   rintro W ⟨h, hB⟩
   generalize W0.heap.size = kb at *
   have ⟨_, p0, _⟩ := h.there (boxOb kb #[.int .u8 64, .int .i64 A, .int .i64 B_, .int .i64 C_, .int .i64 m]) (.head _)
   replace h := Hz.mk h
   replace hB := Hz.mk hB
   go_wp2_with fail
   refine (hC.out _ _ h.out).mono ?_
   rintro x w1 ⟨rfl, h1, hB1⟩
   replace h1 := Hz.mk h1
   replace hB1 := Hz.mk hB1
   clear p0
   go_wp2_with fail
   first | go_end0 | ((try simp only [Exit.inBlock, Exit.then]); refine bodyPost_ret (results_none rfl _ _ _) rfl ?_)
   exact ⟨rfl, h1.out.drop, hB.out.trans hB1.out⟩
theorem touch65 (B : Nat) (W0 : World) (a : Nat) (P : PImg) (s : Ms) (l : List Ob) (A B_ C_ : Nat) (m : Int) (h : MIn B W0 a P s l) (hA : A < 16) (hB_ : B_ < 16) (hp : s.at_.pc < 1000000000) (hl : s.tou.length ≤ 1000000) (hc0 : 0 ≤ (s.at_.regs A).c.c) :
   Calls Tryz.prog 76 #[.pointer (some ⟨a, 0, none⟩), insA 65 A B_ C_ m] W0 fun x w' => Dv B W0 a P s l (stcM s A B_ m) x w' := by
 have h2 := Hz.mk (h.new #[.int .u8 65, .int .i64 A, .int .i64 B_, .int .i64 C_, .int .i64 m] 56)
 have hC := Hz.mk (fun X l' (q : MIn B X a P s l') => storeCap_any B X a P s l' 65 A B_ C_ m q hA hB_ hp hl hc0)
 clear h
 generalize stcM s A B_ m = q at *
 unfold insA at *
 cases q with
 | error e =>
   simp only [Dv, pan] at hC ⊢
   go_enter Tryz.func76, Tryz.ntmps76
   go_upto_region 1 with fail
   refine wp_world (fun W => MIn B W a P s (boxOb W0.heap.size #[.int .u8 65, .int .i64 A, .int .i64 B_, .int .i64 C_, .int .i64 m] :: l) ∧ Below B W0 W) h2.out ?_
   clear h2
   rintro W ⟨h, hB⟩
   generalize W0.heap.size = kb at *
   have ⟨_, p0, _⟩ := h.there (boxOb kb #[.int .u8 65, .int .i64 A, .int .i64 B_, .int .i64 C_, .int .i64 m]) (.head _)
   replace h := Hz.mk h
   replace hB := Hz.mk hB
   go_wp2_with (refine (hC.out _ _ h.out).mono ?_; rintro x w1 ⟨rfl, h1, hB1⟩)
   exact ⟨rfl, rfl, h1.drop, hB.out.trans hB1⟩
 | ok s' =>
   simp only [Dv] at hC ⊢
   go_enter Tryz.func76, Tryz.ntmps76
   go_upto_region 1 with fail
   refine wp_world (fun W => MIn B W a P s (boxOb W0.heap.size #[.int .u8 65, .int .i64 A, .int .i64 B_, .int .i64 C_, .int .i64 m] :: l) ∧ Below B W0 W) h2.out ?_
   clear h2
   rintro W ⟨h, hB⟩
   generalize W0.heap.size = kb at *
   have ⟨_, p0, _⟩ := h.there (boxOb kb #[.int .u8 65, .int .i64 A, .int .i64 B_, .int .i64 C_, .int .i64 m]) (.head _)
   replace h := Hz.mk h
   replace hB := Hz.mk hB
   go_wp2_with fail
   refine (hC.out _ _ h.out).mono ?_
   rintro x w1 ⟨rfl, h1, hB1⟩
   replace h1 := Hz.mk h1
   replace hB1 := Hz.mk hB1
   clear p0
   go_wp2_with fail
   first | go_end0 | ((try simp only [Exit.inBlock, Exit.then]); refine bodyPost_ret (results_none rfl _ _ _) rfl ?_)
   exact ⟨rfl, h1.out.drop, hB.out.trans hB1.out⟩
theorem touch_any (B : Nat) (W0 : World) (a : Nat) (P : PImg) (s : Ms) (l : List Ob) (op : Int) (A B_ C_ : Nat) (m : Int) (h : MIn B W0 a P s l) (hA : A < 16) (hB_ : B_ < 16) (hp : s.at_.pc < 1000000000) (hl : s.tou.length ≤ 1000000) (hc0 : 0 ≤ (s.at_.regs A).c.c) (hop : 60 ≤ op ∧ op ≤ 65) :
   Calls Tryz.prog 76 #[.pointer (some ⟨a, 0, none⟩), insA op A B_ C_ m] W0 fun x w' => Dv B W0 a P s l (touM s op A B_ m) x w' := by
 have ho : op = 60 ∨ op = 61 ∨ op = 62 ∨ op = 63 ∨ op = 64 ∨ op = 65 := by omega
 rcases ho with rfl | rfl | rfl | rfl | rfl | rfl
 · exact touch60 B W0 a P s l A B_ C_ m h hA hB_ hp hl
 · exact touch61 B W0 a P s l A B_ C_ m h hA hB_ hp hl
 · exact touch62 B W0 a P s l A B_ C_ m h hA hB_ hp hl
 · exact touch63 B W0 a P s l A B_ C_ m h hA hB_ hp hl
 · exact touch64 B W0 a P s l A B_ C_ m h hA hB_ hp hl
 · exact touch65 B W0 a P s l A B_ C_ m h hA hB_ hp hl hc0
end C
end Go.Proofs.YthmlkcglglcljaaGreatDoor


namespace Go.Proofs.YthmlkcglglcljaaGreatDoor
set_option maxRecDepth 100000
set_option maxHeartbeats 40000000
namespace C
open Go.RowKit
open T (Sep Ob Kp Mf TgIn boxOb Fm Tc Ed Vl Cp Bx tgOb mRow updV flt)

def brF (op x y : Int) : Bool := if op = 21 then x == y else if op = 22 then x != y else if op = 23 then decide (x < y) else decide (y ≤ x)
theorem branches_any (op x y : Int) (w : World) (hop : op = 21 ∨ op = 22 ∨ op = 23 ∨ op = 24) : Calls Tryz.prog 129 #[.int .u8 op, .int .u64 x, .int .u64 y] w fun r w' => r = .returned (.bool (brF op x y)) ∧ Bl w w' := by
 rcases hop with rfl | rfl | rfl | rfl
 · go_enter Tryz.func129, Tryz.ntmps129
   go_wp2_with fail
   go_ret
   exact ⟨rfl, Bl.refl _⟩
 · go_enter Tryz.func129, Tryz.ntmps129
   go_wp2_with fail
   go_ret
   exact ⟨rfl, Bl.refl _⟩
 · go_enter Tryz.func129, Tryz.ntmps129
   go_wp2_with fail
   go_ret
   exact ⟨rfl, Bl.refl _⟩
 · go_enter Tryz.func129, Tryz.ntmps129
   go_wp2_with fail
   go_ret
   exact ⟨rfl, Bl.refl _⟩
def braM (s : Ms) (op : Int) (A B_ : Nat) (k : Nat) : Except Ed Ms :=
 if (s.at_.regs A).g then .error (flt 2) else if (s.at_.regs B_).g then .error (flt 2) else .ok (if brF op (s.at_.regs A).n (s.at_.regs B_).n then s.goTo k else s.next)
theorem branch_a (B : Nat) (W0 : World) (a : Nat) (P : PImg) (s : Ms) (l : List Ob) (op : Int) (A B_ C_ : Nat) (k : Nat) (h : MIn B W0 a P s l) (hA : A < 16) (_hB : B_ < 16) (_hp : s.at_.pc < 1000000000) (_hop : op = 21 ∨ op = 22 ∨ op = 23 ∨ op = 24) (hg : (s.at_.regs A).g = true) :
   Calls Tryz.prog 101 #[.pointer (some ⟨a, 0, none⟩), insA op A B_ C_ k] W0 fun x w' => Dv B W0 a P s l (braM s op A B_ k) x w' := by
 have er : braM s op A B_ k = .error (flt 2) := by unfold braM; rw [hg]; rfl
 rw [er]
 clear er
 have h2 := Hz.mk (h.new #[.int .u8 op, .int .i64 A, .int .i64 B_, .int .i64 C_, .int .i64 (k : Int)] 56)
 have h1 := Hz.mk (fun X l' (q : MIn B X a P s l') => number_badB a A (s.at_.regs A) X (q.rg A hA) hg)
 simp only [Dv, pan] at *
 clear h
 unfold insA at *
 go_enter Tryz.func101, Tryz.ntmps101
 go_upto_region 1 with fail
 refine wp_world (fun W => MIn B W a P s (boxOb W0.heap.size #[.int .u8 op, .int .i64 A, .int .i64 B_, .int .i64 C_, .int .i64 (k : Int)] :: l) ∧ Below B W0 W) h2.out ?_
 clear h2
 rintro W ⟨h, hB⟩
 generalize W0.heap.size = kb at *
 replace hB := Hz.mk (hB.trans (h.bl (Bl.refl W).drew).2)
 replace h := Hz.mk (h.bl (Bl.refl W).drew).1
 refine wp_region_held_drew (S := (fun X => X.cell? ⟨kb, 0, none⟩ = some (.int .u8 op) ∧ X.cell? ⟨kb, 1, none⟩ = some (.int .i64 A) ∧ X.cell? ⟨kb, 2, none⟩ = some (.int .i64 B_))) (by kernel_rfl) (⟨(h.out.there (boxOb kb #[.int .u8 op, .int .i64 A, .int .i64 B_, .int .i64 C_, .int .i64 (k : Int)]) (.head _)).2.1 0, (h.out.there (boxOb kb #[.int .u8 op, .int .i64 A, .int .i64 B_, .int .i64 C_, .int .i64 (k : Int)]) (.head _)).2.1 1, (h.out.there (boxOb kb #[.int .u8 op, .int .i64 A, .int .i64 B_, .int .i64 C_, .int .i64 (k : Int)]) (.head _)).2.1 2⟩) (fun hHeld => ?_)
 generalize W.drew = X0 at *
 refine xso 0 ?_ rfl ?_ (xso 1 ?_ rfl ?_ (xso 2 ?_ rfl ?_ (xso 3 ?_ rfl ?_ (xso 4 ?_ rfl ?_ (xso 6 ?_ rfl ?_ (xso 7 ?_ rfl ?_ (xso 8 ?_ rfl ?_ ?_)))))))
 iterate 8 (rotate_left; focus ((try simp only [xap]); intro w hSw; (try dsimp only at hSw); go_simp; first | done | with_reducible rfl))
 try simp only [xap]
 refine xrd 5 rfl (fun K hK => ?_)
 go_simp
 go_wp2_with (refine (h1.out _ _ h.out).mono ?_; rintro r Y1 ⟨rfl, e1⟩)
 exact ⟨rfl, rfl, (h.out.bl e1).1.drop, hB.out.trans (h.out.bl e1).2⟩
theorem branch_b (B : Nat) (W0 : World) (a : Nat) (P : PImg) (s : Ms) (l : List Ob) (op : Int) (A B_ C_ : Nat) (k : Nat) (h : MIn B W0 a P s l) (hA : A < 16) (hB_ : B_ < 16) (_hp : s.at_.pc < 1000000000) (_hop : op = 21 ∨ op = 22 ∨ op = 23 ∨ op = 24) (hg : (s.at_.regs A).g = false) (hg2 : (s.at_.regs B_).g = true) :
   Calls Tryz.prog 101 #[.pointer (some ⟨a, 0, none⟩), insA op A B_ C_ k] W0 fun x w' => Dv B W0 a P s l (braM s op A B_ k) x w' := by
 have er : braM s op A B_ k = .error (flt 2) := by unfold braM; rw [hg, hg2]; rfl
 rw [er]
 clear er
 have h2 := Hz.mk (h.new #[.int .u8 op, .int .i64 A, .int .i64 B_, .int .i64 C_, .int .i64 (k : Int)] 56)
 have h1 := Hz.mk (fun X l' (q : MIn B X a P s l') => number_okB a A (s.at_.regs A) X (q.rg A hA) hg)
 have h3 := Hz.mk (fun X l' (q : MIn B X a P s l') => number_badB a B_ (s.at_.regs B_) X (q.rg B_ hB_) hg2)
 simp only [Dv, pan] at *
 clear h
 unfold insA at *
 go_enter Tryz.func101, Tryz.ntmps101
 go_upto_region 1 with fail
 refine wp_world (fun W => MIn B W a P s (boxOb W0.heap.size #[.int .u8 op, .int .i64 A, .int .i64 B_, .int .i64 C_, .int .i64 (k : Int)] :: l) ∧ Below B W0 W) h2.out ?_
 clear h2
 rintro W ⟨h, hB⟩
 generalize W0.heap.size = kb at *
 replace hB := Hz.mk (hB.trans (h.bl (Bl.refl W).drew).2)
 replace h := Hz.mk (h.bl (Bl.refl W).drew).1
 refine wp_region_held_drew (S := (fun X => X.cell? ⟨kb, 0, none⟩ = some (.int .u8 op) ∧ X.cell? ⟨kb, 1, none⟩ = some (.int .i64 A) ∧ X.cell? ⟨kb, 2, none⟩ = some (.int .i64 B_))) (by kernel_rfl) (⟨(h.out.there (boxOb kb #[.int .u8 op, .int .i64 A, .int .i64 B_, .int .i64 C_, .int .i64 (k : Int)]) (.head _)).2.1 0, (h.out.there (boxOb kb #[.int .u8 op, .int .i64 A, .int .i64 B_, .int .i64 C_, .int .i64 (k : Int)]) (.head _)).2.1 1, (h.out.there (boxOb kb #[.int .u8 op, .int .i64 A, .int .i64 B_, .int .i64 C_, .int .i64 (k : Int)]) (.head _)).2.1 2⟩) (fun hHeld => ?_)
 generalize W.drew = X0 at *
 refine xso 0 ?_ rfl ?_ (xso 1 ?_ rfl ?_ (xso 2 ?_ rfl ?_ (xso 3 ?_ rfl ?_ (xso 4 ?_ rfl ?_ (xso 6 ?_ rfl ?_ (xso 7 ?_ rfl ?_ (xso 8 ?_ rfl ?_ ?_)))))))
 iterate 8 (rotate_left; focus ((try simp only [xap]); intro w hSw; (try dsimp only at hSw); go_simp; first | done | with_reducible rfl))
 try simp only [xap]
 refine xrd 5 rfl (fun K hK => ?_)
 go_simp
 go_wp2_with (refine (h1.out _ _ h.out).mono ?_; rintro r Y1 ⟨rfl, e1⟩; replace hB := Hz.mk (hB.out.trans (h.out.bl e1).2); replace h := Hz.mk (h.out.bl e1).1; clear e1 hHeld)
 refine hK.out _ _ ⟨(h.out.there (boxOb kb #[.int .u8 op, .int .i64 A, .int .i64 B_, .int .i64 C_, .int .i64 (k : Int)]) (.head _)).2.1 0, (h.out.there (boxOb kb #[.int .u8 op, .int .i64 A, .int .i64 B_, .int .i64 C_, .int .i64 (k : Int)]) (.head _)).2.1 1, (h.out.there (boxOb kb #[.int .u8 op, .int .i64 A, .int .i64 B_, .int .i64 C_, .int .i64 (k : Int)]) (.head _)).2.1 2⟩ (fun hHeld => ?_)
 clear hK K
 try simp only [xap]
 refine xrd 9 rfl (fun K hK => ?_)
 go_simp
 go_wp2_with (refine (h3.out _ _ h.out).mono ?_; rintro r Y2 ⟨rfl, e1⟩)
 exact ⟨rfl, rfl, (h.out.bl e1).1.drop, hB.out.trans (h.out.bl e1).2⟩
theorem branch_yes (B : Nat) (W0 : World) (a : Nat) (P : PImg) (s : Ms) (l : List Ob) (op : Int) (A B_ C_ : Nat) (k : Nat) (h : MIn B W0 a P s l) (hA : A < 16) (hB_ : B_ < 16) (_hp : s.at_.pc < 1000000000) (hop : op = 21 ∨ op = 22 ∨ op = 23 ∨ op = 24) (hg : (s.at_.regs A).g = false) (hg2 : (s.at_.regs B_).g = false) (hb : brF op (s.at_.regs A).n (s.at_.regs B_).n = true) :
   Calls Tryz.prog 101 #[.pointer (some ⟨a, 0, none⟩), insA op A B_ C_ k] W0 fun x w' => Dv B W0 a P s l (braM s op A B_ k) x w' := by
 have er : braM s op A B_ k = .ok (s.goTo k) := by unfold braM; rw [hg, hg2, hb]; rfl
 rw [er]
 clear er
 have h2 := Hz.mk (h.new #[.int .u8 op, .int .i64 A, .int .i64 B_, .int .i64 C_, .int .i64 (k : Int)] 56)
 have h1 := Hz.mk (fun X l' (q : MIn B X a P s l') => number_okB a A (s.at_.regs A) X (q.rg A hA) hg)
 have h3 := Hz.mk (fun X l' (q : MIn B X a P s l') => number_okB a B_ (s.at_.regs B_) X (q.rg B_ hB_) hg2)
 have hX := Hz.mk (fun X => branches_any op (s.at_.regs A).n (s.at_.regs B_).n X hop)
 rw [hb] at hX
 simp only [Dv]
 clear h
 unfold insA at *
 go_enter Tryz.func101, Tryz.ntmps101
 go_upto_region 1 with fail
 refine wp_world (fun W => MIn B W a P s (boxOb W0.heap.size #[.int .u8 op, .int .i64 A, .int .i64 B_, .int .i64 C_, .int .i64 (k : Int)] :: l) ∧ Below B W0 W) h2.out ?_
 clear h2
 rintro W ⟨h, hB⟩
 generalize W0.heap.size = kb at *
 replace hB := Hz.mk (hB.trans (h.bl (Bl.refl W).drew).2)
 replace h := Hz.mk (h.bl (Bl.refl W).drew).1
 refine wp_region_held_drew (S := (fun X => X.cell? ⟨kb, 0, none⟩ = some (.int .u8 op) ∧ X.cell? ⟨kb, 1, none⟩ = some (.int .i64 A) ∧ X.cell? ⟨kb, 2, none⟩ = some (.int .i64 B_))) (by kernel_rfl) (⟨(h.out.there (boxOb kb #[.int .u8 op, .int .i64 A, .int .i64 B_, .int .i64 C_, .int .i64 (k : Int)]) (.head _)).2.1 0, (h.out.there (boxOb kb #[.int .u8 op, .int .i64 A, .int .i64 B_, .int .i64 C_, .int .i64 (k : Int)]) (.head _)).2.1 1, (h.out.there (boxOb kb #[.int .u8 op, .int .i64 A, .int .i64 B_, .int .i64 C_, .int .i64 (k : Int)]) (.head _)).2.1 2⟩) (fun hHeld => ?_)
 generalize W.drew = X0 at *
 refine xso 0 ?_ rfl ?_ (xso 1 ?_ rfl ?_ (xso 2 ?_ rfl ?_ (xso 3 ?_ rfl ?_ (xso 4 ?_ rfl ?_ (xso 6 ?_ rfl ?_ (xso 7 ?_ rfl ?_ (xso 8 ?_ rfl ?_ ?_)))))))
 iterate 8 (rotate_left; focus ((try simp only [xap]); intro w hSw; (try dsimp only at hSw); go_simp; first | done | with_reducible rfl))
 try simp only [xap]
 refine xrd 5 rfl (fun K hK => ?_)
 go_simp
 go_wp2_with (refine (h1.out _ _ h.out).mono ?_; rintro r Y1 ⟨rfl, e1⟩; replace hB := Hz.mk (hB.out.trans (h.out.bl e1).2); replace h := Hz.mk (h.out.bl e1).1; clear e1 hHeld)
 refine hK.out _ _ ⟨(h.out.there (boxOb kb #[.int .u8 op, .int .i64 A, .int .i64 B_, .int .i64 C_, .int .i64 (k : Int)]) (.head _)).2.1 0, (h.out.there (boxOb kb #[.int .u8 op, .int .i64 A, .int .i64 B_, .int .i64 C_, .int .i64 (k : Int)]) (.head _)).2.1 1, (h.out.there (boxOb kb #[.int .u8 op, .int .i64 A, .int .i64 B_, .int .i64 C_, .int .i64 (k : Int)]) (.head _)).2.1 2⟩ (fun hHeld => ?_)
 clear hK K
 try simp only [xap]
 refine xrd 9 rfl (fun K hK => ?_)
 go_simp
 go_wp2_with (refine (h3.out _ _ h.out).mono ?_; rintro r Y2 ⟨rfl, e1⟩; replace hB := Hz.mk (hB.out.trans (h.out.bl e1).2); replace h := Hz.mk (h.out.bl e1).1; clear e1 hHeld)
 refine hK.out _ _ ⟨(h.out.there (boxOb kb #[.int .u8 op, .int .i64 A, .int .i64 B_, .int .i64 C_, .int .i64 (k : Int)]) (.head _)).2.1 0, (h.out.there (boxOb kb #[.int .u8 op, .int .i64 A, .int .i64 B_, .int .i64 C_, .int .i64 (k : Int)]) (.head _)).2.1 1, (h.out.there (boxOb kb #[.int .u8 op, .int .i64 A, .int .i64 B_, .int .i64 C_, .int .i64 (k : Int)]) (.head _)).2.1 2⟩ (fun hHeld => ?_)
 clear hK K
 try simp only [xap]
 refine xrd 10 rfl (fun K hK => ?_)
 go_simp
 go_wp2_with (refine (hX.out _).mono ?_; rintro r Y3 ⟨rfl, e1⟩; replace hB := Hz.mk (hB.out.trans (h.out.bl e1).2); replace h := Hz.mk (h.out.bl e1).1; clear e1 hHeld)
 refine hK.out _ _ ⟨(h.out.there (boxOb kb #[.int .u8 op, .int .i64 A, .int .i64 B_, .int .i64 C_, .int .i64 (k : Int)]) (.head _)).2.1 0, (h.out.there (boxOb kb #[.int .u8 op, .int .i64 A, .int .i64 B_, .int .i64 C_, .int .i64 (k : Int)]) (.head _)).2.1 1, (h.out.there (boxOb kb #[.int .u8 op, .int .i64 A, .int .i64 B_, .int .i64 C_, .int .i64 (k : Int)]) (.head _)).2.1 2⟩ (fun hHeld => ?_)
 clear hK K
 try simp only [xap]
 refine xdn ?_ _
 clear hHeld
 have ⟨_, p0, _⟩ := (h.out.there (boxOb kb #[.int .u8 op, .int .i64 A, .int .i64 B_, .int .i64 C_, .int .i64 (k : Int)]) (.head _))
 obtain ⟨_, c6, _, _, _, fr⟩ := h.out.cell
 have hlt := h.out.alt
 have hq := Hz.mk (h.out.setPc k)
 go_wp2_with fail
 first | go_end0 | ((try simp only [Exit.inBlock, Exit.then]); refine bodyPost_ret (results_none rfl _ _ _) rfl ?_)
 exact ⟨rfl, hq.out.1.drop, hB.out.trans hq.out.2⟩
theorem branch_no (B : Nat) (W0 : World) (a : Nat) (P : PImg) (s : Ms) (l : List Ob) (op : Int) (A B_ C_ : Nat) (k : Nat) (h : MIn B W0 a P s l) (hA : A < 16) (hB_ : B_ < 16) (hp : s.at_.pc < 1000000000) (hop : op = 21 ∨ op = 22 ∨ op = 23 ∨ op = 24) (hg : (s.at_.regs A).g = false) (hg2 : (s.at_.regs B_).g = false) (hb : brF op (s.at_.regs A).n (s.at_.regs B_).n = false) :
   Calls Tryz.prog 101 #[.pointer (some ⟨a, 0, none⟩), insA op A B_ C_ k] W0 fun x w' => Dv B W0 a P s l (braM s op A B_ k) x w' := by
 have er : braM s op A B_ k = .ok s.next := by unfold braM; rw [hg, hg2, hb]; rfl
 rw [er]
 clear er
 have h2 := Hz.mk (h.new #[.int .u8 op, .int .i64 A, .int .i64 B_, .int .i64 C_, .int .i64 (k : Int)] 56)
 have h1 := Hz.mk (fun X l' (q : MIn B X a P s l') => number_okB a A (s.at_.regs A) X (q.rg A hA) hg)
 have h3 := Hz.mk (fun X l' (q : MIn B X a P s l') => number_okB a B_ (s.at_.regs B_) X (q.rg B_ hB_) hg2)
 have hX := Hz.mk (fun X => branches_any op (s.at_.regs A).n (s.at_.regs B_).n X hop)
 rw [hb] at hX
 have hNx := Hz.mk (fun X l' (q : MIn B X a P s l') => next_any B a P _ l' X q hp)
 simp only [Dv]
 clear h
 unfold insA at *
 go_enter Tryz.func101, Tryz.ntmps101
 go_upto_region 1 with fail
 refine wp_world (fun W => MIn B W a P s (boxOb W0.heap.size #[.int .u8 op, .int .i64 A, .int .i64 B_, .int .i64 C_, .int .i64 (k : Int)] :: l) ∧ Below B W0 W) h2.out ?_
 clear h2
 rintro W ⟨h, hB⟩
 generalize W0.heap.size = kb at *
 replace hB := Hz.mk (hB.trans (h.bl (Bl.refl W).drew).2)
 replace h := Hz.mk (h.bl (Bl.refl W).drew).1
 refine wp_region_held_drew (S := (fun X => X.cell? ⟨kb, 0, none⟩ = some (.int .u8 op) ∧ X.cell? ⟨kb, 1, none⟩ = some (.int .i64 A) ∧ X.cell? ⟨kb, 2, none⟩ = some (.int .i64 B_))) (by kernel_rfl) (⟨(h.out.there (boxOb kb #[.int .u8 op, .int .i64 A, .int .i64 B_, .int .i64 C_, .int .i64 (k : Int)]) (.head _)).2.1 0, (h.out.there (boxOb kb #[.int .u8 op, .int .i64 A, .int .i64 B_, .int .i64 C_, .int .i64 (k : Int)]) (.head _)).2.1 1, (h.out.there (boxOb kb #[.int .u8 op, .int .i64 A, .int .i64 B_, .int .i64 C_, .int .i64 (k : Int)]) (.head _)).2.1 2⟩) (fun hHeld => ?_)
 generalize W.drew = X0 at *
 refine xso 0 ?_ rfl ?_ (xso 1 ?_ rfl ?_ (xso 2 ?_ rfl ?_ (xso 3 ?_ rfl ?_ (xso 4 ?_ rfl ?_ (xso 6 ?_ rfl ?_ (xso 7 ?_ rfl ?_ (xso 8 ?_ rfl ?_ ?_)))))))
 iterate 8 (rotate_left; focus ((try simp only [xap]); intro w hSw; (try dsimp only at hSw); go_simp; first | done | with_reducible rfl))
 try simp only [xap]
 refine xrd 5 rfl (fun K hK => ?_)
 go_simp
 go_wp2_with (refine (h1.out _ _ h.out).mono ?_; rintro r Y1 ⟨rfl, e1⟩; replace hB := Hz.mk (hB.out.trans (h.out.bl e1).2); replace h := Hz.mk (h.out.bl e1).1; clear e1 hHeld)
 refine hK.out _ _ ⟨(h.out.there (boxOb kb #[.int .u8 op, .int .i64 A, .int .i64 B_, .int .i64 C_, .int .i64 (k : Int)]) (.head _)).2.1 0, (h.out.there (boxOb kb #[.int .u8 op, .int .i64 A, .int .i64 B_, .int .i64 C_, .int .i64 (k : Int)]) (.head _)).2.1 1, (h.out.there (boxOb kb #[.int .u8 op, .int .i64 A, .int .i64 B_, .int .i64 C_, .int .i64 (k : Int)]) (.head _)).2.1 2⟩ (fun hHeld => ?_)
 clear hK K
 try simp only [xap]
 refine xrd 9 rfl (fun K hK => ?_)
 go_simp
 go_wp2_with (refine (h3.out _ _ h.out).mono ?_; rintro r Y2 ⟨rfl, e1⟩; replace hB := Hz.mk (hB.out.trans (h.out.bl e1).2); replace h := Hz.mk (h.out.bl e1).1; clear e1 hHeld)
 refine hK.out _ _ ⟨(h.out.there (boxOb kb #[.int .u8 op, .int .i64 A, .int .i64 B_, .int .i64 C_, .int .i64 (k : Int)]) (.head _)).2.1 0, (h.out.there (boxOb kb #[.int .u8 op, .int .i64 A, .int .i64 B_, .int .i64 C_, .int .i64 (k : Int)]) (.head _)).2.1 1, (h.out.there (boxOb kb #[.int .u8 op, .int .i64 A, .int .i64 B_, .int .i64 C_, .int .i64 (k : Int)]) (.head _)).2.1 2⟩ (fun hHeld => ?_)
 clear hK K
 try simp only [xap]
 refine xrd 10 rfl (fun K hK => ?_)
 go_simp
 go_wp2_with (refine (hX.out _).mono ?_; rintro r Y3 ⟨rfl, e1⟩; replace hB := Hz.mk (hB.out.trans (h.out.bl e1).2); replace h := Hz.mk (h.out.bl e1).1; clear e1 hHeld)
 refine hK.out _ _ ⟨(h.out.there (boxOb kb #[.int .u8 op, .int .i64 A, .int .i64 B_, .int .i64 C_, .int .i64 (k : Int)]) (.head _)).2.1 0, (h.out.there (boxOb kb #[.int .u8 op, .int .i64 A, .int .i64 B_, .int .i64 C_, .int .i64 (k : Int)]) (.head _)).2.1 1, (h.out.there (boxOb kb #[.int .u8 op, .int .i64 A, .int .i64 B_, .int .i64 C_, .int .i64 (k : Int)]) (.head _)).2.1 2⟩ (fun hHeld => ?_)
 clear hK K
 try simp only [xap]
 refine xdn ?_ _
 clear hHeld
 go_wp2_with fail
 refine (hNx.out _ _ h.out).mono ?_
 rintro r Y5 ⟨rfl, h5, hB5⟩
 replace hB := Hz.mk (hB.out.trans hB5)
 replace h := Hz.mk h5
 clear h5 hB5
 go_wp2_with fail
 first | go_end0 | ((try simp only [Exit.inBlock, Exit.then]); refine bodyPost_ret (results_none rfl _ _ _) rfl ?_)
 exact ⟨rfl, h.out.drop, hB.out⟩
theorem branch_any (B : Nat) (W0 : World) (a : Nat) (P : PImg) (s : Ms) (l : List Ob) (op : Int) (A B_ C_ : Nat) (k : Nat) (h : MIn B W0 a P s l) (hA : A < 16) (hB_ : B_ < 16) (hp : s.at_.pc < 1000000000) (hop : op = 21 ∨ op = 22 ∨ op = 23 ∨ op = 24) :
   Calls Tryz.prog 101 #[.pointer (some ⟨a, 0, none⟩), insA op A B_ C_ k] W0 fun x w' => Dv B W0 a P s l (braM s op A B_ k) x w' := by
 cases hg : (s.at_.regs A).g with
 | true => exact branch_a B W0 a P s l op A B_ C_ k h hA hB_ hp hop hg
 | false =>
   cases hg2 : (s.at_.regs B_).g with
   | true => exact branch_b B W0 a P s l op A B_ C_ k h hA hB_ hp hop hg hg2
   | false =>
     cases hb : brF op (s.at_.regs A).n (s.at_.regs B_).n with
     | true => exact branch_yes B W0 a P s l op A B_ C_ k h hA hB_ hp hop hg hg2 hb
     | false => exact branch_no B W0 a P s l op A B_ C_ k h hA hB_ hp hop hg hg2 hb
end C
end Go.Proofs.YthmlkcglglcljaaGreatDoor
