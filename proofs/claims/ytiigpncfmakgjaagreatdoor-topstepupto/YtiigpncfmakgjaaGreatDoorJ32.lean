import Derived.Test.YtiigpncfmakgjaaGreatDoorJ31
namespace Go.Proofs.YtiigpncfmakgjaaGreatDoor
set_option maxRecDepth 100000
set_option maxHeartbeats 40000000
namespace T
open Go.RowKit

theorem inMemory_ok (w : World) : Calls Tryz.prog 123 #[.int .i64 0] w fun x w' => x = .returned (.tuple #[]) ∧ w' = w := by
 go_enter Tryz.func123, Tryz.ntmps123
 go_wp2_with fail
 go_end0
 exact ⟨rfl, rfl⟩
end T
end Go.Proofs.YtiigpncfmakgjaaGreatDoor


namespace Go.Proofs.YtiigpncfmakgjaaGreatDoor
set_option maxRecDepth 100000
set_option maxHeartbeats 40000000
namespace C
open Go.RowKit
open T (Sep Ob Kp Mf TgIn boxOb Fm Tc Ed Vl Cp Bx tgOb mRow updV flt accessF ldE ldV stB stT integer_any)

theorem inMem_ok (w : World) : Calls Tryz.prog 123 #[.int .i64 0] w fun x w' => x = .returned (.tuple #[]) ∧ w' = w := T.inMemory_ok w
theorem inMem_bad (e : Int) (w : World) (h : e ≠ 0) : Calls Tryz.prog 123 #[.int .i64 e] w fun x w' => x = pan (flt 5) ∧ w' = w := by
 have h' : (e != 0) = true := by simpa using h
 have hF := fail_any 5
 unfold pan at hF ⊢
 go_enter Tryz.func123, Tryz.ntmps123
 go_wp2_with (refine (hF _).mono ?_; rintro x w1 ⟨rfl, rfl⟩)
 exact ⟨rfl, rfl, rfl⟩
theorem plcR_nat {m sz p : Int} {v : Vl} {n : Int} (h : plcR m sz p v = .ok n) : n = ((n.toNat : Nat) : Int) ∧ n.toNat < 18446744073709551616 := by
 unfold plcR at h
 split at h
 · split at h
   · injection h with h
     rw [← h, IntKind.wrap_u64]
     omega
   · cases h
 · cases h
def intV (n : Nat) : Vl := ⟨false, n, Cp.zero⟩
def loadM (s : Ms) (A B_ : Nat) (m : Int) (sz : Nat) : Except Ed Ms := match plcR m sz 1 (s.at_.regs B_) with
 | .error e => .error e
 | .ok n => if ldE n.toNat sz = 0 then .ok ((Ms.put { s with tou := s.tou ++ [⟨false, n.toNat, sz⟩] } A (intV (ldV s.b n.toNat sz))).next) else .error (flt 5)
def storeM (s : Ms) (A B_ : Nat) (m : Int) (sz : Nat) : Except Ed Ms := if (s.at_.regs A).g then .error (flt 2) else match plcR m sz 2 (s.at_.regs B_) with
 | .error e => .error e
 | .ok n => if ldE n.toNat sz = 0 then .ok (Ms.next { s with tou := s.tou ++ [⟨true, n.toNat, sz⟩], b := stB s.b n.toNat sz (s.at_.regs A).n, t := stT s.t n.toNat sz }) else .error (flt 5)
theorem store_bad {b : Nat → UInt8} {t : Nat → Option Cp} {ad sz n : Nat} (h : ldE ad sz ≠ 0) : stB b ad sz n = b ∧ stT t ad sz = t := by
 unfold ldE at h
 unfold stB stT
 split at h
 · exact absurd rfl h
 · rename_i q
   rw [if_neg q, if_neg q]
   exact ⟨rfl, rfl⟩
theorem load_any (B : Nat) (W0 : World) (a : Nat) (P : PImg) (s : Ms) (l : List Ob) (op : Int) (A B_ C_ : Nat) (m : Int) (sz : Nat) (h : MIn B W0 a P s l) (hA : A < 16) (hB_ : B_ < 16) (hp : s.at_.pc < 1000000000) (hl : s.tou.length ≤ 1000000) (hsz : sz = 1 ∨ sz = 8) :
   Calls Tryz.prog 96 #[.pointer (some ⟨a, 0, none⟩), insA op A B_ C_ m, .int .u64 sz] W0 fun x w' => Dv B W0 a P s l (loadM s A B_ m sz) x w' := by
 have h2 := Hz.mk (h.new #[.int .u8 op, .int .i64 A, .int .i64 B_, .int .i64 C_, .int .i64 m] 64)
 have hP := Hz.mk (fun X l' (q : MIn B X a P s l') => place_any a op A B_ C_ m sz 1 (s.at_.regs B_) X (q.rg B_ hB_))
 have hsz2 : sz < 18446744073709551616 := by omega
 unfold loadM
 cases hq : plcR m sz 1 (s.at_.regs B_) with
 | error e =>
   rw [hq] at hP
   unfold insA at *
   simp only [UnV, pan] at hP
   simp only [Dv, pan]
   clear h hq hsz hsz2 hp hl
   go_enter Tryz.func96, Tryz.ntmps96
   go_upto_region 1 with fail
   refine wp_world (fun W => MIn B W a P s (boxOb W0.heap.size #[.int .u8 op, .int .i64 A, .int .i64 B_, .int .i64 C_, .int .i64 m] :: l) ∧ Below B W0 W) h2.out ?_
   clear h2
   rintro W ⟨h, hB⟩
   generalize W0.heap.size = kb at *
   have ⟨_, p0, _⟩ := h.there (boxOb kb #[.int .u8 op, .int .i64 A, .int .i64 B_, .int .i64 C_, .int .i64 m]) (.head _)
   replace h := Hz.mk h
   replace hB := Hz.mk hB
   go_wp2_with (refine (hP.out _ _ h.out).mono ?_; rintro r X1 ⟨rfl, e1⟩)
   exact ⟨rfl, rfl, (h.out.bl e1).1.drop, hB.out.trans (h.out.bl e1).2⟩
 | ok n =>
   rw [hq] at hP
   obtain ⟨hn1, hn2⟩ := plcR_nat hq
   clear hq
   simp only [UnV] at hP
   rw [hn1] at hP
   simp only
   generalize n.toNat = ad at *
   clear hn1
   have hL := Hz.mk (fun X S km (q : TgIn S X km s.b s.t) => T.tgLoad_any S km ad sz s.b s.t X q hn2 hsz2)
   have hLy := Hz.mk (fun X (q : MIn B X a P { s with tou := s.tou ++ [⟨false, ad, sz⟩] } (boxOb W0.heap.size #[.int .u8 op, .int .i64 A, .int .i64 B_, .int .i64 C_, .int .i64 m] :: l)) => lay_any B a A (intV (ldV s.b ad sz)) P _ _ X q hA hp)
   have hNt := Hz.mk (fun X l' (q : MIn B X a P s l') => note_any B X a P s l' ⟨false, ad, sz⟩ q hl)
   simp only at hNt
   have hI : Hz (∀ X, Calls Tryz.prog 48 #[.int .u64 (ldV s.b ad sz)] X fun x w' => x = .returned (.agg #[.bool false, .int .u64 (ldV s.b ad sz), .int .u64 0, .int .u64 0, .int .u64 0, .int .u8 0, .int .i64 0]) ∧ Bl X w') := Hz.mk (fun X => (integer_any _ X).mono (by rintro x w' ⟨rfl, rfl⟩; exact ⟨rfl, (Bl.refl _).alloc _⟩))
   unfold insA at *
   rw [show (intV (ldV s.b ad sz)).agg = .agg #[.bool false, .int .u64 (ldV s.b ad sz), .int .u64 0, .int .u64 0, .int .u64 0, .int .u8 0, .int .i64 0] from rfl] at hLy
   clear h hsz hsz2 hp hl hn2 hA hB_
   by_cases he : ldE ad sz = 0
   · rw [if_pos he]
     rw [he] at hL
     have hM := Hz.mk inMem_ok
     simp only [Dv]
     go_enter Tryz.func96, Tryz.ntmps96
     go_upto_region 1 with fail
     refine wp_world (fun W => MIn B W a P s (boxOb W0.heap.size #[.int .u8 op, .int .i64 A, .int .i64 B_, .int .i64 C_, .int .i64 m] :: l) ∧ Below B W0 W) h2.out ?_
     clear h2
     rintro W ⟨h, hB⟩
     generalize W0.heap.size = kb at *
     have ⟨_, p0, _⟩ := h.there (boxOb kb #[.int .u8 op, .int .i64 A, .int .i64 B_, .int .i64 C_, .int .i64 m]) (.head _)
     replace h := Hz.mk h
     replace hB := Hz.mk hB
     go_wp2_with fail
     refine (hP.out _ _ h.out).mono ?_
     rintro r X1 ⟨rfl, e1⟩
     replace hB := Hz.mk (hB.out.trans (h.out.bl e1).2)
     replace h := Hz.mk (h.out.bl e1).1
     clear e1
     obtain ⟨km, SM, c4, hTg, hMm⟩ := h.out.mem
     replace hMm := Hz.mk hMm
     replace hTg := Hz.mk hTg
     clear p0
     go_wp2_with fail
     refine (hL.out _ _ _ hTg.out).mono ?_
     rintro r X2 ⟨rfl, e1⟩
     clear hTg hMm c4
     replace hB := Hz.mk (hB.out.trans (h.out.bl e1).2)
     replace h := Hz.mk (h.out.bl e1).1
     clear e1
     go_wp2_with fail
     refine (hM.out _).mono ?_
     rintro r X3 ⟨rfl, rfl⟩
     go_wp2_with fail
     refine (hNt.out _ _ h.out).mono ?_
     rintro r Y4 ⟨rfl, h4, hB4⟩
     replace hB := Hz.mk (hB.out.trans hB4)
     replace h := Hz.mk h4
     clear h4 hB4 hNt hP hL hM
     go_upto_region 5 with fail
     replace hB := Hz.mk (hB.out.trans (h.out.bl (Bl.refl Y4).drew).2)
     replace h := Hz.mk (h.out.bl (Bl.refl Y4).drew).1
     refine wp_region_held_drew (S := (fun X => X.cell? ⟨kb, 1, none⟩ = some (.int .i64 A))) (by kernel_rfl) ((h.out.there (boxOb kb #[.int .u8 op, .int .i64 A, .int .i64 B_, .int .i64 C_, .int .i64 m]) (.head _)).2.1 1) (fun hHeld => ?_)
     generalize Y4.drew = Y4d at *
     refine xso 0 ?_ rfl ?_ (xso 1 ?_ rfl ?_ (xso 2 ?_ rfl ?_ (xso 3 ?_ rfl ?_ ?_)))
     iterate 4 (rotate_left; focus ((try simp only [xap]); intro w hSw; (try dsimp only at hSw); go_simp; first | done | with_reducible rfl))
     try simp only [xap]
     refine xrd 4 rfl (fun K hK => ?_)
     go_simp
     go_wp2_with (refine (hI.out _).mono ?_; rintro r Y5 ⟨rfl, e1⟩; replace hB := Hz.mk (hB.out.trans (h.out.bl e1).2); replace h := Hz.mk (h.out.bl e1).1; clear e1 hHeld)
     refine hK.out _ _ ((h.out.there (boxOb kb #[.int .u8 op, .int .i64 A, .int .i64 B_, .int .i64 C_, .int .i64 m]) (.head _)).2.1 1) (fun hHeld => ?_)
     clear hK K
     try simp only [xap]
     refine xrd 5 rfl (fun K hK => ?_)
     go_simp
     go_wp2_with (refine (hLy.out _ h.out).mono ?_; rintro r Y6 ⟨rfl, h6, hB6⟩; replace hB := Hz.mk (hB.out.trans hB6); replace h := Hz.mk h6; clear h6 hB6 hHeld)
     refine hK.out _ _ ((h.out.there (boxOb kb #[.int .u8 op, .int .i64 A, .int .i64 B_, .int .i64 C_, .int .i64 m]) (.head _)).2.1 1) (fun hHeld => ?_)
     clear hK K
     try simp only [xap]
     refine xdn ?_ _
     clear hHeld
     go_wp2_with fail
     go_end0
     exact ⟨rfl, h.out.drop, hB.out⟩
   · rw [if_neg he]
     have hM := Hz.mk (fun X => inMem_bad _ X he)
     simp only [Dv, pan] at hM ⊢
     go_enter Tryz.func96, Tryz.ntmps96
     go_upto_region 1 with fail
     refine wp_world (fun W => MIn B W a P s (boxOb W0.heap.size #[.int .u8 op, .int .i64 A, .int .i64 B_, .int .i64 C_, .int .i64 m] :: l) ∧ Below B W0 W) h2.out ?_
     clear h2
     rintro W ⟨h, hB⟩
     generalize W0.heap.size = kb at *
     have ⟨_, p0, _⟩ := h.there (boxOb kb #[.int .u8 op, .int .i64 A, .int .i64 B_, .int .i64 C_, .int .i64 m]) (.head _)
     replace h := Hz.mk h
     replace hB := Hz.mk hB
     go_wp2_with fail
     refine (hP.out _ _ h.out).mono ?_
     rintro r X1 ⟨rfl, e1⟩
     replace hB := Hz.mk (hB.out.trans (h.out.bl e1).2)
     replace h := Hz.mk (h.out.bl e1).1
     clear e1
     obtain ⟨km, SM, c4, hTg, hMm⟩ := h.out.mem
     replace hMm := Hz.mk hMm
     replace hTg := Hz.mk hTg
     clear p0
     go_wp2_with fail
     refine (hL.out _ _ _ hTg.out).mono ?_
     rintro r X2 ⟨rfl, e1⟩
     clear hTg hMm c4
     replace hB := Hz.mk (hB.out.trans (h.out.bl e1).2)
     replace h := Hz.mk (h.out.bl e1).1
     clear e1
     go_wp2_with (refine (hM.out _).mono ?_; rintro r X3 ⟨rfl, rfl⟩)
     exact ⟨rfl, rfl, h.out.drop, hB.out⟩
end C
end Go.Proofs.YtiigpncfmakgjaaGreatDoor


namespace Go.Proofs.YtiigpncfmakgjaaGreatDoor
set_option maxRecDepth 100000
set_option maxHeartbeats 40000000
namespace C
open Go.RowKit
open T (Sep Ob Kp Mf TgIn boxOb Fm Tc Ed Vl Cp Bx tgOb mRow updV flt accessF ldE ldV stB stT integer_any)

theorem store_any (B : Nat) (W0 : World) (a : Nat) (P : PImg) (s : Ms) (l : List Ob) (op : Int) (A B_ C_ : Nat) (m : Int) (sz : Nat) (h : MIn B W0 a P s l) (hA : A < 16) (hB_ : B_ < 16) (hp : s.at_.pc < 1000000000) (hl : s.tou.length ≤ 1000000) (hsz : sz = 1 ∨ sz = 8) :
   Calls Tryz.prog 97 #[.pointer (some ⟨a, 0, none⟩), insA op A B_ C_ m, .int .u64 sz] W0 fun x w' => Dv B W0 a P s l (storeM s A B_ m sz) x w' := by
 have h2 := Hz.mk (h.new #[.int .u8 op, .int .i64 A, .int .i64 B_, .int .i64 C_, .int .i64 m] 64)
 have hsz2 : sz < 18446744073709551616 := by omega
 unfold storeM
 cases hg : (s.at_.regs A).g with
 | true =>
   rw [if_pos rfl]
   have hN := Hz.mk (fun X l' (q : MIn B X a P s l') => number_badB a A (s.at_.regs A) X (q.rg A hA) hg)
   unfold insA at *
   simp only [pan] at hN
   simp only [Dv, pan]
   clear h hg hsz hsz2 hp hl
   go_enter Tryz.func97, Tryz.ntmps97
   go_upto_region 1 with fail
   refine wp_world (fun W => MIn B W a P s (boxOb W0.heap.size #[.int .u8 op, .int .i64 A, .int .i64 B_, .int .i64 C_, .int .i64 m] :: l) ∧ Below B W0 W) h2.out ?_
   clear h2
   rintro W ⟨h, hB⟩
   generalize W0.heap.size = kb at *
   have ⟨_, p0, _⟩ := h.there (boxOb kb #[.int .u8 op, .int .i64 A, .int .i64 B_, .int .i64 C_, .int .i64 m]) (.head _)
   replace h := Hz.mk h
   replace hB := Hz.mk hB
   go_wp2_with (refine (hN.out _ _ h.out).mono ?_; rintro r X1 ⟨rfl, e1⟩)
   exact ⟨rfl, rfl, (h.out.bl e1).1.drop, hB.out.trans (h.out.bl e1).2⟩
 | false =>
 rw [if_neg (by simp)]
 have hN := Hz.mk (fun X l' (q : MIn B X a P s l') => number_okB a A (s.at_.regs A) X (q.rg A hA) hg)
 have hP := Hz.mk (fun X l' (q : MIn B X a P s l') => place_any a op A B_ C_ m sz 2 (s.at_.regs B_) X (q.rg B_ hB_))
 cases hq : plcR m sz 2 (s.at_.regs B_) with
 | error e =>
   rw [hq] at hP
   unfold insA at *
   simp only [UnV, pan] at hP
   simp only [Dv, pan]
   clear h hq hsz hsz2 hp hl hg
   go_enter Tryz.func97, Tryz.ntmps97
   go_upto_region 1 with fail
   refine wp_world (fun W => MIn B W a P s (boxOb W0.heap.size #[.int .u8 op, .int .i64 A, .int .i64 B_, .int .i64 C_, .int .i64 m] :: l) ∧ Below B W0 W) h2.out ?_
   clear h2
   rintro W ⟨h, hB⟩
   generalize W0.heap.size = kb at *
   have ⟨_, p0, _⟩ := h.there (boxOb kb #[.int .u8 op, .int .i64 A, .int .i64 B_, .int .i64 C_, .int .i64 m]) (.head _)
   replace h := Hz.mk h
   replace hB := Hz.mk hB
   go_wp2_with fail
   refine (hN.out _ _ h.out).mono ?_
   rintro r X1 ⟨rfl, e1⟩
   replace hB := Hz.mk (hB.out.trans (h.out.bl e1).2)
   replace h := Hz.mk (h.out.bl e1).1
   clear e1
   clear p0
   have ⟨_, p0, _⟩ := h.out.there (boxOb kb #[.int .u8 op, .int .i64 A, .int .i64 B_, .int .i64 C_, .int .i64 m]) (.head _)
   go_wp2_with (refine (hP.out _ _ h.out).mono ?_; rintro r X2 ⟨rfl, e2⟩)
   exact ⟨rfl, rfl, (h.out.bl e2).1.drop, hB.out.trans (h.out.bl e2).2⟩
 | ok n =>
   rw [hq] at hP
   obtain ⟨hn1, hn2⟩ := plcR_nat hq
   clear hq
   simp only [UnV] at hP
   rw [hn1] at hP
   simp only
   generalize n.toNat = ad at *
   clear hn1
   have hL := Hz.mk (fun X S km (q : TgIn S X km s.b s.t) => T.tgStore_any S km ad sz (s.at_.regs A).n s.b s.t X q hn2 hsz2)
   have hNt := Hz.mk (fun X l' (q : MIn B X a P { s with b := stB s.b ad sz (s.at_.regs A).n, t := stT s.t ad sz } l') => note_any B X a P _ l' ⟨true, ad, sz⟩ q hl)
   have hNx := Hz.mk (fun X l' (q : MIn B X a P { s with tou := s.tou ++ [⟨true, ad, sz⟩], b := stB s.b ad sz (s.at_.regs A).n, t := stT s.t ad sz } l') => next_any B a P _ l' X q hp)
   simp only at hNt
   unfold insA at *
   by_cases he : ldE ad sz = 0
   · rw [if_pos he]
     rw [he] at hL
     have hM := Hz.mk inMem_ok
     simp only [Dv]
     clear h hsz hsz2 hp hl hn2 hA hB_ hg he
     go_enter Tryz.func97, Tryz.ntmps97
     go_upto_region 1 with fail
     refine wp_world (fun W => MIn B W a P s (boxOb W0.heap.size #[.int .u8 op, .int .i64 A, .int .i64 B_, .int .i64 C_, .int .i64 m] :: l) ∧ Below B W0 W) h2.out ?_
     clear h2
     rintro W ⟨h, hB⟩
     generalize W0.heap.size = kb at *
     have ⟨_, p0, _⟩ := h.there (boxOb kb #[.int .u8 op, .int .i64 A, .int .i64 B_, .int .i64 C_, .int .i64 m]) (.head _)
     replace h := Hz.mk h
     replace hB := Hz.mk hB
     go_wp2_with fail
     refine (hN.out _ _ h.out).mono ?_
     rintro r X1 ⟨rfl, e1⟩
     replace hB := Hz.mk (hB.out.trans (h.out.bl e1).2)
     replace h := Hz.mk (h.out.bl e1).1
     clear e1
     clear p0
     have ⟨_, p0, _⟩ := h.out.there (boxOb kb #[.int .u8 op, .int .i64 A, .int .i64 B_, .int .i64 C_, .int .i64 m]) (.head _)
     go_wp2_with fail
     refine (hP.out _ _ h.out).mono ?_
     rintro r X2 ⟨rfl, e1⟩
     replace hB := Hz.mk (hB.out.trans (h.out.bl e1).2)
     replace h := Hz.mk (h.out.bl e1).1
     clear e1
     obtain ⟨km, SM, c4, hTg, hMm⟩ := h.out.mem
     replace hMm := Hz.mk hMm
     replace hTg := Hz.mk hTg
     clear p0
     go_wp2_with fail
     refine (hL.out _ _ _ hTg.out).mono ?_
     rintro r X3 ⟨rfl, SM2, hT2, hm2⟩
     obtain ⟨h3, hB3⟩ := hMm.out _ _ _ _ hT2 hm2
     replace hB := Hz.mk (hB.out.trans hB3)
     replace h := Hz.mk h3
     clear hTg hMm c4 h3 hB3 hT2 hm2 hL hP hN
     go_wp2_with fail
     refine (hM.out _).mono ?_
     rintro r X4 ⟨rfl, rfl⟩
     go_wp2_with fail
     refine (hNt.out _ _ h.out).mono ?_
     rintro r Y4 ⟨rfl, h4, hB4⟩
     replace hB := Hz.mk (hB.out.trans hB4)
     replace h := Hz.mk h4
     clear h4 hB4 hNt hM
     go_wp2_with fail
     refine (hNx.out _ _ h.out).mono ?_
     rintro r Y5 ⟨rfl, h5, hB5⟩
     replace hB := Hz.mk (hB.out.trans hB5)
     replace h := Hz.mk h5
     clear h5 hB5
     go_wp2_with fail
     go_end0
     exact ⟨rfl, h.out.drop, hB.out⟩
   · rw [if_neg he]
     have hM := Hz.mk (fun X => inMem_bad _ X he)
     have hsb := Hz.mk (store_bad (b := s.b) (t := s.t) (n := (s.at_.regs A).n) he)
     simp only [Dv, pan] at hM ⊢
     clear h hsz hsz2 hp hl hn2 hA hB_ hg he hNt hNx
     go_enter Tryz.func97, Tryz.ntmps97
     go_upto_region 1 with fail
     refine wp_world (fun W => MIn B W a P s (boxOb W0.heap.size #[.int .u8 op, .int .i64 A, .int .i64 B_, .int .i64 C_, .int .i64 m] :: l) ∧ Below B W0 W) h2.out ?_
     clear h2
     rintro W ⟨h, hB⟩
     generalize W0.heap.size = kb at *
     have ⟨_, p0, _⟩ := h.there (boxOb kb #[.int .u8 op, .int .i64 A, .int .i64 B_, .int .i64 C_, .int .i64 m]) (.head _)
     replace h := Hz.mk h
     replace hB := Hz.mk hB
     go_wp2_with fail
     refine (hN.out _ _ h.out).mono ?_
     rintro r X1 ⟨rfl, e1⟩
     replace hB := Hz.mk (hB.out.trans (h.out.bl e1).2)
     replace h := Hz.mk (h.out.bl e1).1
     clear e1
     clear p0
     have ⟨_, p0, _⟩ := h.out.there (boxOb kb #[.int .u8 op, .int .i64 A, .int .i64 B_, .int .i64 C_, .int .i64 m]) (.head _)
     go_wp2_with fail
     refine (hP.out _ _ h.out).mono ?_
     rintro r X2 ⟨rfl, e1⟩
     replace hB := Hz.mk (hB.out.trans (h.out.bl e1).2)
     replace h := Hz.mk (h.out.bl e1).1
     clear e1
     obtain ⟨km, SM, c4, hTg, hMm⟩ := h.out.mem
     replace hMm := Hz.mk hMm
     replace hTg := Hz.mk hTg
     clear p0
     go_wp2_with fail
     refine (hL.out _ _ _ hTg.out).mono ?_
     rintro r X3 ⟨rfl, SM2, hT2, hm2⟩
     rw [hsb.out.1, hsb.out.2] at hT2
     obtain ⟨h3, hB3⟩ := hMm.out _ _ _ _ hT2 hm2
     replace hB := Hz.mk (hB.out.trans hB3)
     replace h := Hz.mk h3
     clear hTg hMm c4 h3 hB3 hT2 hm2 hL hP hN hsb
     go_wp2_with (refine (hM.out _).mono ?_; rintro r X4 ⟨rfl, rfl⟩)
     exact ⟨rfl, rfl, h.out.drop, hB.out⟩
end C
end Go.Proofs.YtiigpncfmakgjaaGreatDoor


namespace Go.Proofs.YtiigpncfmakgjaaGreatDoor
set_option maxRecDepth 100000
set_option maxHeartbeats 40000000
namespace C
open Go.RowKit
open T (Sep Ob Kp Mf TgIn boxOb Fm Tc Ed Vl Cp Bx tgOb mRow mRow_idx mRow_reg updV flt accessF ldE ldV stB stT lcE lcV scB scT)

def granR (m p : Int) (v : Vl) : Except Ed Int := match plcR m 16 p v with
 | .error e => .error e
 | .ok n => if Int.tmod n 16 = 0 then .ok n else .error (flt 7)
theorem granR_nat {m p : Int} {v : Vl} {n : Int} (h : granR m p v = .ok n) : n = ((n.toNat : Nat) : Int) ∧ n.toNat < 18446744073709551616 := by
 unfold granR at h
 cases hq : plcR m 16 p v with
 | error e => rw [hq] at h; cases h
 | ok k =>
   rw [hq] at h
   simp only at h
   split at h
   · injection h with h
     rw [← h]
     exact plcR_nat hq
   · cases h
theorem granule_any (a : Nat) (op : Int) (A B C : Nat) (m p : Int) (v : Vl) (w : World) (hv : RgAt w a B v) :
   Calls Tryz.prog 126 #[.pointer (some ⟨a, 0, none⟩), insA op A B C m, .int .u8 p] w fun x w' => x = UnV (granR m p v) ∧ Bl w w' := by
 have hP := Hz.mk (fun X (g : Bl w X) => place_any a op A B C m 16 p v X (hv.bl g))
 unfold granR
 generalize plcR m 16 p v = q at *
 unfold insA at *
 clear hv
 cases q with
 | error e =>
   simp only [UnV, pan] at hP ⊢
   have A0 : At (w.alloc (.cells #[.int .u8 op, .int .i64 A, .int .i64 B, .int .i64 C, .int .i64 m] 64)) w.heap.size #[.int .u8 op, .int .i64 A, .int .i64 B, .int .i64 C, .int .i64 m] := At.new w #[.int .u8 op, .int .i64 A, .int .i64 B, .int .i64 C, .int .i64 m] 64
   have g0 : Bl w (w.alloc (.cells #[.int .u8 op, .int .i64 A, .int .i64 B, .int .i64 C, .int .i64 m] 64)) := (Bl.refl w).alloc _
   replace A0 := Hz.mk A0
   replace g0 := Hz.mk g0
   go_enter Tryz.func126, Tryz.ntmps126
   go_upto_region 1 with fail
   refine wp_world (fun W => At W w.heap.size #[.int .u8 op, .int .i64 A, .int .i64 B, .int .i64 C, .int .i64 m] ∧ Bl w W) ⟨A0.out, g0.out⟩ ?_
   clear A0 g0
   rintro W ⟨A0, g0⟩
   have ⟨_, p0, _⟩ := A0
   replace A0 := Hz.mk A0
   replace g0 := Hz.mk g0
   go_wp2_with (refine (hP.out _ g0.out).mono ?_; rintro r X1 ⟨rfl, e1⟩)
   exact ⟨rfl, rfl, g0.out.trans e1⟩
 | ok n =>
   simp only [UnV] at hP
   simp only
   by_cases hz : Int.tmod n 16 = 0
   · rw [if_pos hz]
     have hz2 : (Int.tmod n 16 != 0) = false := by simpa using hz
     simp only [UnV]
     replace hz := Hz.mk hz
     have A0 : At (w.alloc (.cells #[.int .u8 op, .int .i64 A, .int .i64 B, .int .i64 C, .int .i64 m] 64)) w.heap.size #[.int .u8 op, .int .i64 A, .int .i64 B, .int .i64 C, .int .i64 m] := At.new w #[.int .u8 op, .int .i64 A, .int .i64 B, .int .i64 C, .int .i64 m] 64
     have g0 : Bl w (w.alloc (.cells #[.int .u8 op, .int .i64 A, .int .i64 B, .int .i64 C, .int .i64 m] 64)) := (Bl.refl w).alloc _
     replace A0 := Hz.mk A0
     replace g0 := Hz.mk g0
     go_enter Tryz.func126, Tryz.ntmps126
     go_upto_region 1 with fail
     refine wp_world (fun W => At W w.heap.size #[.int .u8 op, .int .i64 A, .int .i64 B, .int .i64 C, .int .i64 m] ∧ Bl w W) ⟨A0.out, g0.out⟩ ?_
     clear A0 g0
     rintro W ⟨A0, g0⟩
     have ⟨_, p0, _⟩ := A0
     replace A0 := Hz.mk A0
     replace g0 := Hz.mk g0
     go_wp2_with fail
     refine (hP.out _ g0.out).mono ?_
     rintro r X1 ⟨rfl, e1⟩
     replace g0 := Hz.mk (g0.out.trans e1)
     clear e1 p0 A0 hP
     go_wp2_with fail
     go_ret
     exact ⟨rfl, g0.out⟩
   · rw [if_neg hz]
     have hz2 : (Int.tmod n 16 != 0) = true := by simpa using hz
     have hF := Hz.mk (fail_any 7)
     simp only [UnV, pan] at hF ⊢
     replace hz := Hz.mk hz
     have A0 : At (w.alloc (.cells #[.int .u8 op, .int .i64 A, .int .i64 B, .int .i64 C, .int .i64 m] 64)) w.heap.size #[.int .u8 op, .int .i64 A, .int .i64 B, .int .i64 C, .int .i64 m] := At.new w #[.int .u8 op, .int .i64 A, .int .i64 B, .int .i64 C, .int .i64 m] 64
     have g0 : Bl w (w.alloc (.cells #[.int .u8 op, .int .i64 A, .int .i64 B, .int .i64 C, .int .i64 m] 64)) := (Bl.refl w).alloc _
     replace A0 := Hz.mk A0
     replace g0 := Hz.mk g0
     go_enter Tryz.func126, Tryz.ntmps126
     go_upto_region 1 with fail
     refine wp_world (fun W => At W w.heap.size #[.int .u8 op, .int .i64 A, .int .i64 B, .int .i64 C, .int .i64 m] ∧ Bl w W) ⟨A0.out, g0.out⟩ ?_
     clear A0 g0
     rintro W ⟨A0, g0⟩
     have ⟨_, p0, _⟩ := A0
     replace A0 := Hz.mk A0
     replace g0 := Hz.mk g0
     go_wp2_with fail
     refine (hP.out _ g0.out).mono ?_
     rintro r X1 ⟨rfl, e1⟩
     replace g0 := Hz.mk (g0.out.trans e1)
     clear e1 p0 A0 hP
     go_wp2_with (refine (hF.out _).mono ?_; rintro r X2 ⟨rfl, rfl⟩)
     exact ⟨rfl, rfl, g0.out⟩
def ldcM (s : Ms) (A B_ : Nat) (m : Int) : Except Ed Ms := match granR m 4 (s.at_.regs B_) with
 | .error e => .error e
 | .ok n => if lcE n.toNat = 0 then .ok ((Ms.put { s with tou := s.tou ++ [⟨false, n.toNat, 16⟩] } A (lcV s.b s.t n.toNat)).next) else .error (flt 5)
theorem loadCap_any (B : Nat) (W0 : World) (a : Nat) (P : PImg) (s : Ms) (l : List Ob) (op : Int) (A B_ C_ : Nat) (m : Int) (h : MIn B W0 a P s l) (hA : A < 16) (hB_ : B_ < 16) (hp : s.at_.pc < 1000000000) (hl : s.tou.length ≤ 1000000) :
   Calls Tryz.prog 98 #[.pointer (some ⟨a, 0, none⟩), insA op A B_ C_ m] W0 fun x w' => Dv B W0 a P s l (ldcM s A B_ m) x w' := by
 have h2 := Hz.mk (h.new #[.int .u8 op, .int .i64 A, .int .i64 B_, .int .i64 C_, .int .i64 m] 64)
 have hP := Hz.mk (fun X l' (q : MIn B X a P s l') => granule_any a op A B_ C_ m 4 (s.at_.regs B_) X (q.rg B_ hB_))
 unfold ldcM
 cases hq : granR m 4 (s.at_.regs B_) with
 | error e =>
   rw [hq] at hP
   unfold insA at *
   simp only [UnV, pan] at hP
   simp only [Dv, pan]
   clear h hq hp hl
   go_enter Tryz.func98, Tryz.ntmps98
   go_upto_region 1 with fail
   refine wp_world (fun W => MIn B W a P s (boxOb W0.heap.size #[.int .u8 op, .int .i64 A, .int .i64 B_, .int .i64 C_, .int .i64 m] :: l) ∧ Below B W0 W) h2.out ?_
   clear h2
   rintro W ⟨h, hB⟩
   generalize W0.heap.size = kb at *
   have ⟨_, p0, _⟩ := h.there (boxOb kb #[.int .u8 op, .int .i64 A, .int .i64 B_, .int .i64 C_, .int .i64 m]) (.head _)
   replace h := Hz.mk h
   replace hB := Hz.mk hB
   go_wp2_with (refine (hP.out _ _ h.out).mono ?_; rintro r X1 ⟨rfl, e1⟩)
   exact ⟨rfl, rfl, (h.out.bl e1).1.drop, hB.out.trans (h.out.bl e1).2⟩
 | ok n =>
   rw [hq] at hP
   obtain ⟨hn1, hn2⟩ := granR_nat hq
   clear hq
   simp only [UnV] at hP
   rw [hn1] at hP
   simp only
   generalize n.toNat = ad at *
   clear hn1
   have hL := Hz.mk (fun X S km (q : TgIn S X km s.b s.t) => T.tgLoadCap_any S km ad s.b s.t X q hn2)
   have hLy := Hz.mk (fun X l' (q : MIn B X a P { s with tou := s.tou ++ [⟨false, ad, 16⟩] } l') => lay_any B a A (lcV s.b s.t ad) P _ _ X q hA hp)
   have hNt := Hz.mk (fun X l' (q : MIn B X a P s l') => note_any B X a P s l' ⟨false, ad, 16⟩ q hl)
   simp only at hNt
   unfold insA at *
   clear h hp hl hn2 hA hB_
   generalize lcV s.b s.t ad = u at *
   simp only [Vl.agg] at hL hLy
   by_cases he : lcE ad = 0
   · rw [if_pos he]
     rw [he] at hL
     have hM := Hz.mk inMem_ok
     simp only [Dv]
     go_enter Tryz.func98, Tryz.ntmps98
     go_upto_region 1 with fail
     refine wp_world (fun W => MIn B W a P s (boxOb W0.heap.size #[.int .u8 op, .int .i64 A, .int .i64 B_, .int .i64 C_, .int .i64 m] :: l) ∧ Below B W0 W) h2.out ?_
     clear h2
     rintro W ⟨h, hB⟩
     generalize W0.heap.size = kb at *
     have ⟨_, p0, _⟩ := h.there (boxOb kb #[.int .u8 op, .int .i64 A, .int .i64 B_, .int .i64 C_, .int .i64 m]) (.head _)
     replace h := Hz.mk h
     replace hB := Hz.mk hB
     go_wp2_with fail
     refine (hP.out _ _ h.out).mono ?_
     rintro r X1 ⟨rfl, e1⟩
     replace hB := Hz.mk (hB.out.trans (h.out.bl e1).2)
     replace h := Hz.mk (h.out.bl e1).1
     clear e1
     obtain ⟨km, SM, c4, hTg, hMm⟩ := h.out.mem
     replace hTg := Hz.mk hTg
     clear p0 hMm
     go_wp2_with fail
     refine (hL.out _ _ _ hTg.out).mono ?_
     rintro r X2 ⟨rfl, e1⟩
     clear hTg c4
     replace hB := Hz.mk (hB.out.trans (h.out.bl e1).2)
     replace h := Hz.mk (h.out.bl e1).1
     clear e1
     have h5 := h.out.new #[.bool u.g, .int .u64 u.n, .int .u64 u.c.b, .int .u64 u.c.e, .int .u64 u.c.c, .int .u8 u.c.p, .int .i64 u.c.s] 37
     replace h5 := Hz.mk h5
     go_upto_region 3 with fail
     refine wp_world (fun X => MIn B X a P s (boxOb X2.heap.size #[.bool u.g, .int .u64 u.n, .int .u64 u.c.b, .int .u64 u.c.e, .int .u64 u.c.c, .int .u8 u.c.p, .int .i64 u.c.s] :: boxOb kb #[.int .u8 op, .int .i64 A, .int .i64 B_, .int .i64 C_, .int .i64 m] :: l) ∧ Below B W0 X) ⟨h5.out.1, hB.out.trans h5.out.2⟩ ?_
     clear h5 h hB
     rintro X3 ⟨h, hB⟩
     generalize X2.heap.size = k5 at *
     replace h := Hz.mk h
     replace hB := Hz.mk hB
     go_wp2_with fail
     refine (hM.out _).mono ?_
     rintro r X4 ⟨rfl, rfl⟩
     go_wp2_with fail
     refine (hNt.out _ _ h.out).mono ?_
     rintro r Y4 ⟨rfl, h4, hB4⟩
     replace hB := Hz.mk (hB.out.trans hB4)
     replace h := Hz.mk h4
     clear h4 hB4 hNt hP hL hM
     have ⟨_, p5, _⟩ := h.out.there (boxOb k5 #[.bool u.g, .int .u64 u.n, .int .u64 u.c.b, .int .u64 u.c.e, .int .u64 u.c.c, .int .u8 u.c.p, .int .i64 u.c.s]) (.head _)
     have ⟨_, p0, _⟩ := h.out.there (boxOb kb #[.int .u8 op, .int .i64 A, .int .i64 B_, .int .i64 C_, .int .i64 m]) (.tail _ (.head _))
     go_wp2_with fail
     refine (hLy.out _ _ h.out).mono ?_
     rintro r Y5 ⟨rfl, h5, hB5⟩
     replace hB := Hz.mk (hB.out.trans hB5)
     replace h := Hz.mk h5
     clear h5 hB5 p0 p5
     go_wp2_with fail
     go_end0
     exact ⟨rfl, h.out.drop.drop, hB.out⟩
   · rw [if_neg he]
     have hM := Hz.mk (fun X => inMem_bad _ X he)
     simp only [Dv, pan] at hM ⊢
     go_enter Tryz.func98, Tryz.ntmps98
     go_upto_region 1 with fail
     refine wp_world (fun W => MIn B W a P s (boxOb W0.heap.size #[.int .u8 op, .int .i64 A, .int .i64 B_, .int .i64 C_, .int .i64 m] :: l) ∧ Below B W0 W) h2.out ?_
     clear h2
     rintro W ⟨h, hB⟩
     generalize W0.heap.size = kb at *
     have ⟨_, p0, _⟩ := h.there (boxOb kb #[.int .u8 op, .int .i64 A, .int .i64 B_, .int .i64 C_, .int .i64 m]) (.head _)
     replace h := Hz.mk h
     replace hB := Hz.mk hB
     go_wp2_with fail
     refine (hP.out _ _ h.out).mono ?_
     rintro r X1 ⟨rfl, e1⟩
     replace hB := Hz.mk (hB.out.trans (h.out.bl e1).2)
     replace h := Hz.mk (h.out.bl e1).1
     clear e1
     obtain ⟨km, SM, c4, hTg, hMm⟩ := h.out.mem
     replace hTg := Hz.mk hTg
     clear p0 hMm
     go_wp2_with fail
     refine (hL.out _ _ _ hTg.out).mono ?_
     rintro r X2 ⟨rfl, e1⟩
     clear hTg c4
     replace hB := Hz.mk (hB.out.trans (h.out.bl e1).2)
     replace h := Hz.mk (h.out.bl e1).1
     clear e1
     have h5 := Hz.mk (h.out.new #[.bool u.g, .int .u64 u.n, .int .u64 u.c.b, .int .u64 u.c.e, .int .u64 u.c.c, .int .u8 u.c.p, .int .i64 u.c.s] 37)
     go_wp2_with (refine (hM.out _).mono ?_; rintro r X3 ⟨rfl, rfl⟩)
     exact ⟨rfl, rfl, h5.out.1.drop.drop, hB.out.trans h5.out.2⟩
end C
end Go.Proofs.YtiigpncfmakgjaaGreatDoor
