import Derived.Test.YtiigpncfmakgjaaGreatDoorJ44
import Derived.Test.YtiigpncfmakgjaaGreatDoorJ45
import Derived.Deep.DeepCutAuto
import Derived.Test.YtiigpncfmakgjaaGreatDoorJ42
namespace Go.Proofs.YtiigpncfmakgjaaGreatDoor
set_option maxRecDepth 100000
set_option maxHeartbeats 40000000
namespace C
open Go.RowKit
open T (Sep Ob Kp Mf TgIn boxOb Fm Tc Ed Vl Cp Bx tgOb mRow updV flt ofI hasB holdsB accessF regRow regRow_at regRow_len Vl.row_len)

theorem around_any (a b : Cp) (w : World) : Calls Tryz.prog 22 #[.agg #[.int .u64 a.b, .int .u64 a.e, .int .u64 a.c, .int .u8 a.p, .int .i64 a.s], .agg #[.int .u64 b.b, .int .u64 b.e, .int .u64 b.c, .int .u8 b.p, .int .i64 b.s]] w fun x w' => x = .returned (.bool (wiB a b)) ∧ Bl w w' := by
 have hU := Hz.mk (fun W => (T.under_any a.b a.e 0 a.p b.s b.b b.e 0 b.p b.s W).mono (R' := fun x w' => x = .returned (.bool (wiB a b)) ∧ Bl W w') (by rintro x w' ⟨rfl, rfl⟩; exact ⟨by unfold wiB T.underB; simp; rfl, ((Bl.refl W).alloc _).alloc _⟩))
 go_enter Tryz.func22, Tryz.ntmps22
 go_upto_region 1 with fail
 refine wp_world (fun W => At W w.heap.size #[.int .u64 a.b, .int .u64 a.e, .int .u64 a.c, .int .u8 a.p, .int .i64 a.s] ∧ At W (w.heap.size + 1) #[.int .u64 b.b, .int .u64 b.e, .int .u64 b.c, .int .u8 b.p, .int .i64 b.s] ∧ Bl w W) ⟨(At.new w _ _).alloc _, At.next w _ _ _, ((Bl.refl w).alloc _).alloc _⟩ ?_
 rintro W ⟨A0, A1, g0⟩
 obtain ⟨k0, hk0⟩ : ∃ k0, w.heap.size = k0 := ⟨_, rfl⟩
 obtain ⟨k1, hk1⟩ : ∃ k1, w.heap.size + 1 = k1 := ⟨_, rfl⟩
 rw [hk0] at A0
 rw [hk1] at A1
 rw [hk1, hk0]
 have n1 : k0 ≠ k1 := by omega
 have n2 : k1 ≠ k0 := by omega
 have b0 : Hz (w.heap.size ≤ k0) := Hz.mk (by omega)
 have b1 : Hz (w.heap.size ≤ k1) := Hz.mk (by omega)
 clear hk0 hk1
 replace g0 := Hz.mk g0
 have l0 := A0.1
 have f0 := A0.2.2 2
 have c0 : W.cell? ⟨k0, 2, none⟩ = some (.int .u64 a.c) := A0.2.1 2
 have h2 := Hz.mk (show At (W.setCell ⟨k0, 2, none⟩ (.int .u64 0)) k0 #[.int .u64 a.b, .int .u64 a.e, .int .u64 0, .int .u8 a.p, .int .i64 a.s] ∧ At (W.setCell ⟨k0, 2, none⟩ (.int .u64 0)) k1 #[.int .u64 b.b, .int .u64 b.e, .int .u64 b.c, .int .u8 b.p, .int .i64 b.s] ∧ Bl w (W.setCell ⟨k0, 2, none⟩ (.int .u64 0)) from ⟨A0.set 2 _ (by simp), A1.set_other _ n1, Below.setCell (p := ⟨k0, 2, none⟩) g0.out b0.out _⟩)
 clear A0 A1 g0
 go_upto_region 2 with fail
 refine wp_world (fun W => At W k0 #[.int .u64 a.b, .int .u64 a.e, .int .u64 0, .int .u8 a.p, .int .i64 a.s] ∧ At W k1 #[.int .u64 b.b, .int .u64 b.e, .int .u64 b.c, .int .u8 b.p, .int .i64 b.s] ∧ Bl w W) h2.out ?_
 clear h2 l0 f0 c0
 rintro W2 ⟨A0, A1, g0⟩
 replace g0 := Hz.mk g0
 have l0 := A1.1
 have f0 := A1.2.2 2
 have c0 : W2.cell? ⟨k1, 2, none⟩ = some (.int .u64 b.c) := A1.2.1 2
 have h2 := Hz.mk (show At (W2.setCell ⟨k1, 2, none⟩ (.int .u64 0)) k0 #[.int .u64 a.b, .int .u64 a.e, .int .u64 0, .int .u8 a.p, .int .i64 a.s] ∧ At (W2.setCell ⟨k1, 2, none⟩ (.int .u64 0)) k1 #[.int .u64 b.b, .int .u64 b.e, .int .u64 0, .int .u8 b.p, .int .i64 b.s] ∧ Bl w (W2.setCell ⟨k1, 2, none⟩ (.int .u64 0)) from ⟨A0.set_other _ n2, A1.set 2 _ (by simp), Below.setCell (p := ⟨k1, 2, none⟩) g0.out b1.out _⟩)
 clear A0 A1 g0
 go_upto_region 3 with fail
 refine wp_world (fun W => At W k0 #[.int .u64 a.b, .int .u64 a.e, .int .u64 0, .int .u8 a.p, .int .i64 a.s] ∧ At W k1 #[.int .u64 b.b, .int .u64 b.e, .int .u64 0, .int .u8 b.p, .int .i64 b.s] ∧ Bl w W) h2.out ?_
 clear h2 l0 f0 c0
 rintro W3 ⟨A0, A1, g0⟩
 replace g0 := Hz.mk g0
 have l0 := A0.1
 have f0 := A0.2.2 4
 have c0 : W3.cell? ⟨k0, 4, none⟩ = some (.int .i64 a.s) := A0.2.1 4
 have l1 := A1.1
 have c1 : W3.cell? ⟨k1, 4, none⟩ = some (.int .i64 b.s) := A1.2.1 4
 have h2 := Hz.mk (show At (W3.setCell ⟨k0, 4, none⟩ (.int .i64 b.s)) k0 #[.int .u64 a.b, .int .u64 a.e, .int .u64 0, .int .u8 a.p, .int .i64 b.s] ∧ At (W3.setCell ⟨k0, 4, none⟩ (.int .i64 b.s)) k1 #[.int .u64 b.b, .int .u64 b.e, .int .u64 0, .int .u8 b.p, .int .i64 b.s] ∧ Bl w (W3.setCell ⟨k0, 4, none⟩ (.int .i64 b.s)) from ⟨A0.set 4 _ (by simp), A1.set_other _ n1, Below.setCell (p := ⟨k0, 4, none⟩) g0.out b0.out _⟩)
 clear A0 A1 g0
 go_upto_region 4 with fail
 refine wp_world (fun W => At W k0 #[.int .u64 a.b, .int .u64 a.e, .int .u64 0, .int .u8 a.p, .int .i64 b.s] ∧ At W k1 #[.int .u64 b.b, .int .u64 b.e, .int .u64 0, .int .u8 b.p, .int .i64 b.s] ∧ Bl w W) h2.out ?_
 clear h2 l0 f0 c0 l1 c1
 rintro W4 ⟨A0, A1, g0⟩
 replace g0 := Hz.mk g0
 have ⟨l0, p0, _⟩ := A0
 have ⟨l1, p1, _⟩ := A1
 clear A0 A1
 go_wp2_with fail
 refine (hU.out _).mono ?_
 rintro r W5 ⟨rfl, e1⟩
 replace g0 := Hz.mk (Bl.trans g0.out e1)
 clear l0 p0 l1 p1 e1 hU
 go_wp2_with fail
 go_ret
 exact ⟨rfl, g0.out⟩
theorem pick_any (c : Int) (n : Nat) (hn : 0 < n) (hc : -9223372036854775808 ≤ c ∧ c < 9223372036854775808) : ∃ g : Nat, g < n ∧ ∀ W, Calls Tryz.prog 17 #[.int .i64 c, .int .i64 n] W fun x w' => x = .returned (.int .i64 g) ∧ w' = W := by
 have hz : ((n : Int) == 0) = false := beq_false_of_ne (by omega)
 by_cases h : c < 0
 · obtain ⟨d, hd⟩ : ∃ d : Nat, -(c + 1) = d := ⟨(-(c + 1)).toNat, by omega⟩
   have w1 : wrap64 (c + 1) = c + 1 := by unfold wrap64; omega
   have w2 : wrap64 (-(c + 1)) = (d : Int) := by unfold wrap64; omega
   have w3 : IntKind.i64.wrap (-(c + 1)) = (d : Int) := by rw [IntKind.wrap_i64]; omega
   have hr : Int.tmod (d : Int) (n : Int) = ((d % n : Nat) : Int) := rfl
   refine ⟨d % n, Nat.mod_lt _ hn, fun W => ?_⟩
   generalize d % n = g at *
   replace hd := Hz.mk hd
   go_enter Tryz.func17, Tryz.ntmps17
   go_wp2_with fail
   go_ret
   exact ⟨rfl, rfl⟩
 · obtain ⟨d, hd⟩ : ∃ d : Nat, c = d := ⟨c.toNat, by omega⟩
   subst hd
   have hr : Int.tmod (d : Int) (n : Int) = ((d % n : Nat) : Int) := rfl
   refine ⟨d % n, Nat.mod_lt _ hn, fun W => ?_⟩
   generalize d % n = g at *
   go_enter Tryz.func17, Tryz.ntmps17
   go_wp2_with fail
   go_ret
   exact ⟨rfl, rfl⟩
theorem there_top (ra ca ga : Option Addr) (nr rc nc cc ng gc : Nat) (dep : Int) (g p : Nat) (hg : g < ng) (w : World) : Calls Tryz.prog 9 #[.agg #[.slice ra nr rc, .slice ca nc cc, .slice ga ng gc, .int .i64 dep], .int .i64 g, .int .i64 p] w fun x w' => x = .returned (.bool true) ∧ Bl w w' := by
 have h1 : (g : Int) < ng := by omega
 have h2 : (0 : Int) ≤ g := by omega
 have h3 : (0 : Int) ≤ p := by omega
 go_enter Tryz.func9, Tryz.ntmps9
 go_wp2_with fail
 go_ret
 exact ⟨rfl, (Bl.refl w).alloc _⟩
structure HdA (w : World) (c k : Cp) (r : Nat → Vl) (k0 k1 k2 : Nat) (W : World) : Prop where
 c : At W k0 #[.int .u64 c.b, .int .u64 c.e, .int .u64 c.c, .int .u8 c.p, .int .i64 c.s]
 r : At W k1 (rgR r).toArray
 k : At W k2 #[.int .u64 k.b, .int .u64 k.e, .int .u64 k.c, .int .u8 k.p, .int .i64 k.s]
 b : Bl w W
theorem HdA.gr {w : World} {c k : Cp} {r : Nat → Vl} {k0 k1 k2 : Nat} {W X : World} (h : HdA w c k r k0 k1 k2 W) (g : Bl W X) : HdA w c k r k0 k1 k2 X := ⟨Bl.at_ g h.c, Bl.at_ g h.r, Bl.at_ g h.k, h.b.trans g⟩
def NotY (c k : Cp) (r : Nat → Vl) (i : Nat) : Prop := wiB c k = false ∧ ∀ j, j < i → (r j).g = true → wiB c (r j).c = false
theorem noty_end {c k : Cp} {r : Nat → Vl} (h : Had r k c) (n : NotY c k r 16) : False := by
 rcases h with h | ⟨i, h1, h2, h3⟩
 · rw [n.1] at h; cases h
 · rw [n.2 i h1 h2] at h3; cases h3
theorem noty_next {c k : Cp} {r : Nat → Vl} {i : Nat} (n : NotY c k r i) (h : (r i).g = true → wiB c (r i).c = false) : NotY c k r (i + 1) :=
 ⟨n.1, fun j hj hg => by
   by_cases e : j = i
   · subst e; exact h hg
   · exact n.2 j (by omega) hg⟩
theorem had_any (c k : Cp) (r : Nat → Vl) (w : World) (hH : Had r k c) : Calls Tryz.prog 12 #[.agg #[.int .u64 c.b, .int .u64 c.e, .int .u64 c.c, .int .u8 c.p, .int .i64 c.s], .agg (rgR r).toArray, .agg #[.int .u64 k.b, .int .u64 k.e, .int .u64 k.c, .int .u8 k.p, .int .i64 k.s]] w fun x w' => x = .returned (.bool true) ∧ Bl w w' := by
 have hA := Hz.mk (fun d W => around_any c d W)
 replace hH := Hz.mk hH
 go_enter Tryz.func12, Tryz.ntmps12
 go_upto_region 1 with fail
 refine wp_world (fun W => ∃ k0 k1 k2, k0 = w.heap.size ∧ k1 = w.heap.size + 1 ∧ k2 = w.heap.size + 1 + 1 ∧ At W k0 #[.int .u64 c.b, .int .u64 c.e, .int .u64 c.c, .int .u8 c.p, .int .i64 c.s] ∧ At W k1 (rgR r).toArray ∧ At W k2 #[.int .u64 k.b, .int .u64 k.e, .int .u64 k.c, .int .u8 k.p, .int .i64 k.s] ∧ Bl w W) ⟨_, _, _, rfl, rfl, rfl, cl_at3 w _ _ _ _ _ _⟩ ?_
 rintro W ⟨k0, k1, k2, q0, q1, q2, a0, a1, a2, gW⟩
 rw [← q2, ← q1, ← q0]
 clear q0 q1 q2
 have h0 : HdA w c k r k0 k1 k2 W := ⟨a0, a1, a2, gW⟩
 have ⟨l0, p0, _⟩ := a0
 have ⟨l2, p2, _⟩ := a2
 replace h0 := Hz.mk h0
 clear a0 a1 a2 gW
 go_wp2_with fail
 refine (hA.out _ _).mono ?_
 rintro x W2 ⟨rfl, e1⟩
 replace h0 := Hz.mk (h0.out.gr e1)
 clear l0 p0 l2 p2 e1
 obtain ⟨b0, hb0⟩ : ∃ b0, wiB c k = b0 := ⟨_, rfl⟩
 rw [hb0]
 replace hb0 := Hz.mk hb0
 go_upto_region 3 with fail
 go_loopw [7, 8] (fun o x wr => ∃ (i : Nat) (b : Bool), o = .bool b ∧ x = .int .i64 i ∧ i ≤ 16 ∧ HdA w c k r k0 k1 k2 wr ∧ Hz (b = false → NotY c k r i)) (fun _ x _ => 16 - (intOf x).toNat)
 case atStart => exact ⟨0, b0, rfl, rfl, by omega, h0.out, Hz.mk (fun e => ⟨by rw [hb0.out, e], fun j hj => by omega⟩)⟩
 case round =>
   clear h0 hb0
   obtain ⟨i, b, rfl, rfl, hi, h, hn⟩ := hrel
   replace h := Hz.mk h
   cases b with
   | true =>
     by_cases h16 : i < 16
     · have i16 : (i : Int) < 16 := by omega
       have gF := Hz.mk h.out.b
       go_wp2_with fail
       go_ret
       exact ⟨rfl, gF.out⟩
     · have i16 : ¬ (i : Int) < 16 := by omega
       have gF := Hz.mk h.out.b
       go_wp2_with fail
       go_ret
       exact ⟨rfl, gF.out⟩
   | false =>
     have hn' := hn.out rfl
     have h16 : i < 16 := by
       by_cases e : i < 16
       · exact e
       · obtain rfl : i = 16 := by omega
         exact (noty_end hH.out hn').elim
     have i16 : (i : Int) < 16 := by omega
     have lr := h.out.r.1
     obtain ⟨v, hv⟩ : ∃ v, r i = v := ⟨_, rfl⟩
     have c0 : wr.cell? ⟨k1, i * 7, none⟩ = some (.bool v.g) := (h.out.r.2.1 _).trans (by rw [List.getElem?_toArray, show i * 7 = i * 7 + 0 from rfl, rgR_at r i 0 h16 (by omega), hv]; rfl)
     replace hn' := Hz.mk hn'
     clear hn
     cases hg : v.g with
     | false =>
       rw [hg] at c0
       have hx : Hz (NotY c k r (i + 1)) := Hz.mk (noty_next hn'.out (fun q => by rw [hv, hg] at q; cases q))
       replace hv := Hz.mk hv
       go_wp2_with fail
       exact ⟨⟨i + 1, false, rfl, by go_num, by omega, h.out, Hz.mk (fun _ => hx.out)⟩, by simp [intOf]; omega⟩
     | true =>
       rw [hg] at c0
       have hx : Hz (wiB c v.c = false → NotY c k r (i + 1)) := Hz.mk (fun e => noty_next hn'.out (fun _ => by rw [hv]; exact e))
       have KS : Hz (∀ X, Bl wr X → (X.cell? ⟨k0, 0, none⟩ = some (.int .u64 c.b) ∧ X.cell? ⟨k0, 1, none⟩ = some (.int .u64 c.e) ∧ X.cell? ⟨k0, 2, none⟩ = some (.int .u64 c.c) ∧ X.cell? ⟨k0, 3, none⟩ = some (.int .u8 c.p) ∧ X.cell? ⟨k0, 4, none⟩ = some (.int .i64 c.s)) ∧ X.rangeAt k1 (i * 7 + 2) [.int .u64 v.c.b, .int .u64 v.c.e, .int .u64 v.c.c, .int .u8 v.c.p, .int .i64 v.c.s]) := Hz.mk (fun X q => by
         have a := (h.out.gr q)
         refine ⟨⟨a.c.2.1 0, a.c.2.1 1, a.c.2.1 2, a.c.2.1 3, a.c.2.1 4⟩, fun j u z => ?_⟩
         have hj : j < 5 := (List.getElem?_eq_some_iff.1 z).1
         rw [a.r.2.1, List.getElem?_toArray, show i * 7 + 2 + j = i * 7 + (2 + j) by omega, rgR_at r i (2 + j) h16 (by omega), hv]
         rw [show v.row[2 + j]? = [Value.int .u64 v.c.b, .int .u64 v.c.e, .int .u64 v.c.c, .int .u8 v.c.p, .int .i64 v.c.s][j]? from by
           match j, hj with
           | 0, _ => rfl
           | 1, _ => rfl
           | 2, _ => rfl
           | 3, _ => rfl
           | 4, _ => rfl]
         exact z)
       have gD := Hz.mk ((Bl.refl wr).drew)
       replace hv := Hz.mk hv
       go_upto_region 6 with fail
       clear c0 lr
       refine wp_region_held_drew (S := (fun X => (X.cell? ⟨k0, 0, none⟩ = some (.int .u64 c.b) ∧ X.cell? ⟨k0, 1, none⟩ = some (.int .u64 c.e) ∧ X.cell? ⟨k0, 2, none⟩ = some (.int .u64 c.c) ∧ X.cell? ⟨k0, 3, none⟩ = some (.int .u8 c.p) ∧ X.cell? ⟨k0, 4, none⟩ = some (.int .i64 c.s)) ∧ X.rangeAt k1 (i * 7 + 2) [.int .u64 v.c.b, .int .u64 v.c.e, .int .u64 v.c.c, .int .u8 v.c.p, .int .i64 v.c.s])) (by kernel_rfl) (KS.out _ gD.out) (fun hHeld => ?_)
       refine xso 0 ?_ rfl ?_ (xso 1 ?_ rfl ?_ (xso 2 ?_ rfl ?_ (xso 3 ?_ rfl ?_ ?_)))
       iterate 4 (rotate_left; focus ((try simp only [xap]); intro w hSw; (try dsimp only at hSw); go_simp; first | done | with_reducible rfl))
       try simp only [xap]
       refine xtk 4 rfl (yieldsIf_load_mid (by rfl) _ _ rfl _ _ rfl _ _ (fun _ h => h.2) Tryz.underlying35 rfl (by kernel_rfl)) ?_
       try simp only [xap]
       refine xrd 5 rfl (fun K hK => ?_)
       go_simp
       clear hHeld
       refine (hA.out _ _).mono ?_
       rintro r X2 ⟨rfl, e1⟩
       refine hK.out _ _ (KS.out _ (gD.out.trans e1)) (fun hHeld => ?_)
       clear hK K
       try simp only [xap]
       refine xso 6 ?_ rfl ?_ ?_
       rotate_left
       · intro w hSw; (try dsimp only at hSw); go_simp; first | done | with_reducible rfl
       try simp only [xap]
       refine xdn ?_ _
       clear hHeld KS
       have gE := Hz.mk (gD.out.trans e1)
       clear e1 gD
       obtain ⟨b2, hb2⟩ : ∃ b2, wiB c v.c = b2 := ⟨_, rfl⟩
       rw [hb2] at hx ⊢
       replace hb2 := Hz.mk hb2
       go_wp2_with fail
       exact ⟨⟨i + 1, b2, rfl, by go_num, by omega, h.out.gr gE.out, Hz.mk (fun e => hx.out e)⟩, by simp [intOf]; omega⟩
structure CvA (w : World) (r : Nat → Vl) (t : Tc) (k0 k1 : Nat) (W : World) : Prop where
 r : At W k0 (rgR r).toArray
 t : At W k1 #[.bool t.store, .int .u64 t.addr, .int .u64 t.size]
 b : Bl w W
theorem CvA.gr {w : World} {r : Nat → Vl} {t : Tc} {k0 k1 : Nat} {W X : World} (h : CvA w r t k0 k1 W) (g : Bl W X) : CvA w r t k0 k1 X := ⟨Bl.at_ g h.r, Bl.at_ g h.t, h.b.trans g⟩
theorem covered_any (r : Nat → Vl) (t : Tc) (w : World) (hC : Cov r t) (hv : ∀ j, VOk (r j)) : Calls Tryz.prog 11 #[.agg (rgR r).toArray, .agg #[.bool t.store, .int .u64 t.addr, .int .u64 t.size]] w fun x w' => x = .returned (.bool true) ∧ Bl w w' := by
 obtain ⟨wi, hw, hg, hs, hb, he, hp⟩ := hC
 have hov := (hv wi).c
 have hwr : IntKind.u64.wrap ((t.addr : Int) + (t.size : Int)) ≤ (r wi).c.e := by have h1 := hov.e.2; rw [IntKind.wrap_u64]; omega
 replace hp := Hz.mk hp
 replace he := Hz.mk he
 replace hv := Hz.mk hv
 replace hov := Hz.mk hov
 replace hg := Hz.mk hg
 replace hs := Hz.mk hs
 replace hb := Hz.mk hb
 replace hwr := Hz.mk hwr
 go_enter Tryz.func11, Tryz.ntmps11
 go_upto_region 1 with fail
 refine wp_world (fun W => ∃ k0 k1, k0 = w.heap.size ∧ k1 = w.heap.size + 1 ∧ CvA w r t k0 k1 W) ⟨_, _, rfl, rfl, (At.new w _ _).alloc _, At.next w _ _ _, ((Bl.refl w).alloc _).alloc _⟩ ?_
 rintro W ⟨k0, k1, q0, q1, h0⟩
 rw [← q1, ← q0]
 clear q0 q1
 replace h0 := Hz.mk h0
 go_wp2_with fail
 go_loopw [5] (fun x wr => ∃ i : Nat, x = .int .i64 i ∧ i ≤ wi ∧ CvA w r t k0 k1 wr) (fun x _ => 16 - (intOf x).toNat)
 case atStart => exact ⟨0, rfl, by omega, h0.out⟩
 case round =>
   clear h0
   obtain ⟨i, rfl, hi, h⟩ := hrel
   have h16 : i < 16 := by omega
   have i16 : (i : Int) < 16 := by omega
   obtain ⟨v, hrv⟩ : ∃ v, r i = v := ⟨_, rfl⟩
   have hcell : ∀ j, j < 7 → wr.cell? ⟨k0, i * 7 + j, none⟩ = v.row[j]? := fun j hj => by
     rw [h.r.2.1, List.getElem?_toArray, rgR_at r i j h16 hj, hrv]
   have lr := h.r.1
   have c2 : wr.cell? ⟨k0, i * 7 + 2, none⟩ = some (.int .u64 v.c.b) := hcell 2 (by omega)
   have c3 : wr.cell? ⟨k0, i * 7 + 2 + 1, none⟩ = some (.int .u64 v.c.e) := hcell 3 (by omega)
   have c4 : wr.cell? ⟨k0, i * 7 + 2 + 2, none⟩ = some (.int .u64 v.c.c) := hcell 4 (by omega)
   have c5 : wr.cell? ⟨k0, i * 7 + 2 + 3, none⟩ = some (.int .u8 v.c.p) := hcell 5 (by omega)
   have c6 : wr.cell? ⟨k0, i * 7 + 2 + 4, none⟩ = some (.int .i64 v.c.s) := hcell 6 (by omega)
   have h2 := Hz.mk (show At (wr.alloc (.cells #[.int .u64 v.c.b, .int .u64 v.c.e, .int .u64 v.c.c, .int .u8 v.c.p, .int .i64 v.c.s] 35)) wr.heap.size #[.int .u64 v.c.b, .int .u64 v.c.e, .int .u64 v.c.c, .int .u8 v.c.p, .int .i64 v.c.s] ∧ CvA w r t k0 k1 (wr.alloc (.cells #[.int .u64 v.c.b, .int .u64 v.c.e, .int .u64 v.c.c, .int .u8 v.c.p, .int .i64 v.c.s] 35)) from ⟨At.new wr _ _, h.gr ((Bl.refl wr).alloc _)⟩)
   clear hcell h
   replace hrv := Hz.mk hrv
   go_upto_region 5 with fail
   refine wp_world (fun W => At W wr.heap.size #[.int .u64 v.c.b, .int .u64 v.c.e, .int .u64 v.c.c, .int .u8 v.c.p, .int .i64 v.c.s] ∧ CvA w r t k0 k1 W) h2.out ?_
   clear h2 c2 c3 c4 c5 c6 lr
   rintro X ⟨a2, h⟩
   generalize wr.heap.size = k2 at *
   have ⟨l2, p2, _⟩ := a2
   clear a2
   have l0 := h.r.1
   have l1 := h.t.1
   have c0 : X.cell? ⟨k0, i * 7, none⟩ = some (.bool v.g) := (h.r.2.1 _).trans (by rw [List.getElem?_toArray, show i * 7 = i * 7 + 0 from rfl, rgR_at r i 0 h16 (by omega), hrv.out]; rfl)
   have t0 : X.cell? ⟨k1, 0, none⟩ = some (.bool t.store) := h.t.2.1 0
   have t1 : X.cell? ⟨k1, 1, none⟩ = some (.int .u64 t.addr) := h.t.2.1 1
   have t2 : X.cell? ⟨k1, 2, none⟩ = some (.int .u64 t.size) := h.t.2.1 2
   have p0 : X.cell? ⟨k2, 0, none⟩ = some (.int .u64 v.c.b) := p2 0
   have p1 : X.cell? ⟨k2, 1, none⟩ = some (.int .u64 v.c.e) := p2 1
   have p3 : X.cell? ⟨k2, 3, none⟩ = some (.int .u8 v.c.p) := p2 3
   have p4 : X.cell? ⟨k2, 4, none⟩ = some (.int .i64 v.c.s) := p2 4
   clear p2
   replace h := Hz.mk h
   go_cut [43] (fun o wx => (∃ b : Bool, o = .bool b ∧ Hz (i = wi → b = false)) ∧ X = wx)
   case first =>
     cases hgv : v.g with
     | false =>
       rw [hgv] at c0
       replace hgv := Hz.mk hgv
       go_wp2_with fail
       go_meet
       exact ⟨⟨true, rfl, Hz.mk (fun e => by subst e; have := hg.out; rw [hrv.out, hgv.out] at this; cases this)⟩, rfl⟩
     | true =>
       rw [hgv] at c0
       replace hgv := Hz.mk hgv
       by_cases s0 : v.c.s = 0
       · rw [s0] at p4
         by_cases b0 : (t.addr : Int) < v.c.b
         · have bq0 := Hz.mk b0
           go_wp2_with fail
           go_meet
           exact ⟨⟨true, rfl, Hz.mk (fun e => by subst e; have h9 := hb.out; rw [hrv.out] at h9; have h8 := bq0.out; omega)⟩, rfl⟩
         · by_cases e0 : v.c.e < IntKind.u64.wrap ((t.addr : Int) + (t.size : Int))
           · have eq0_ := Hz.mk e0
             go_wp2_with fail
             go_meet
             exact ⟨⟨true, rfl, Hz.mk (fun e => by subst e; have h9 := hwr.out; rw [hrv.out] at h9; have h8 := eq0_.out; omega)⟩, rfl⟩
           · skip
             go_wp2_with fail
             go_meet
             exact ⟨⟨false, rfl, Hz.mk (fun e => rfl)⟩, rfl⟩
       · have s1 : (v.c.s != 0) = true := by simpa using s0
         have sq0 := Hz.mk s0
         go_wp2_with fail
         go_meet
         exact ⟨⟨true, rfl, Hz.mk (fun e => by subst e; have h9 := hs.out; rw [hrv.out] at h9; exact absurd h9 sq0.out)⟩, rfl⟩
   case rest =>
     obtain ⟨⟨b, hb2, hbw⟩, hwx⟩ := hcut
     subst hwx
     subst hb2
     cases b with
     | true =>
       have hne : i + 1 ≤ wi := by
         have : i ≠ wi := fun e => by have := hbw.out e; cases this
         omega
       clear hbw c0 t0 t1 t2 p0 p1 p3 p4 l0 l1 l2
       go_wp2_with fail
       exact ⟨⟨i + 1, by go_num, hne, h.out⟩, by simp [intOf]; omega⟩
     | false =>
       clear hbw
       obtain ⟨b1, q1⟩ : ∃ b1, (bits .and .u8 v.c.p 1 != 0) = b1 := ⟨_, rfl⟩
       obtain ⟨b2, q2⟩ : ∃ b2, (bits .and .u8 v.c.p 2 != 0) = b2 := ⟨_, rfl⟩
       obtain ⟨b4, q4⟩ : ∃ b4, (bits .and .u8 v.c.p 4 != 0) = b4 := ⟨_, rfl⟩
       obtain ⟨b8, q8⟩ : ∃ b8, (bits .and .u8 v.c.p 8 != 0) = b8 := ⟨_, rfl⟩
       have hpm : Hz (i = wi → ∀ q : Int, (q = 1 ∨ q = 2 ∨ q = 4 ∨ q = 8) → hasB v.c.p q = true → (bits .and .u8 v.c.p q != 0) = true) := Hz.mk (fun e q hq hq2 => by
         have h9 := (hv.out i).c.p
         rw [hrv.out] at h9
         have := perm_of hq h9.1 h9.2 hq2
         simp [bne, this])
       have hpw : Hz (i = wi → hasB v.c.p (if t.store then (if t.size = 16 then 8 else 2) else (if t.size = 16 then 4 else 1)) = true) := Hz.mk (fun e => by subst e; have := hp.out; rwa [hrv.out] at this)
       go_upto_if 54 with fail
       go_cut [7, 8] (fun l s wx => (∃ bl bs : Bool, l = .bool bl ∧ s = .bool bs ∧ Hz (i = wi → (if t.store then bs else bl) = true)) ∧ X = wx)
       case first =>
         by_cases z16 : t.size = 16
         · have z : ((t.size : Int) == 16) = true := by rw [z16]; rfl
           have hx : Hz (i = wi → (if t.store then b8 else b4) = true) := Hz.mk (fun e => by
             have h9 := hpw.out e
             have h8 := hpm.out e
             cases hst : t.store
             · rw [hst, if_neg (by decide), if_pos z16] at h9; rw [if_neg (by decide), ← q4]; exact h8 4 (by decide) h9
             · rw [hst, if_pos rfl, if_pos z16] at h9; rw [if_pos rfl, ← q8]; exact h8 8 (by decide) h9)
           replace z16 := Hz.mk z16
           go_wp2_with fail
           go_meet
           exact ⟨⟨b4, b8, rfl, rfl, hx⟩, rfl⟩
         · have z : ((t.size : Int) == 16) = false := by simp; omega
           have hx : Hz (i = wi → (if t.store then b2 else b1) = true) := Hz.mk (fun e => by
             have h9 := hpw.out e
             have h8 := hpm.out e
             cases hst : t.store
             · rw [hst, if_neg (by decide), if_neg z16] at h9; rw [if_neg (by decide), ← q1]; exact h8 1 (by decide) h9
             · rw [hst, if_pos rfl, if_neg z16] at h9; rw [if_pos rfl, ← q2]; exact h8 2 (by decide) h9)
           replace z16 := Hz.mk z16
           go_wp2_with fail
           go_meet
           exact ⟨⟨b1, b2, rfl, rfl, hx⟩, rfl⟩
       case rest =>
         obtain ⟨⟨bl, bs, hl, hs2, hx⟩, hwx⟩ := hcut
         subst hwx
         subst hl hs2
         clear q1 q2 q4 q8 hpm hpw
         have gF := Hz.mk h.out.b
         rcases Bool.eq_false_or_eq_true t.store with hst | hst
         · rw [hst] at t0 hx
           replace hst := Hz.mk hst
           cases bs with
           | true =>
             go_wp2_with fail
             go_ret
             exact ⟨rfl, gF.out⟩
           | false =>
             have hne : i + 1 ≤ wi := by
               have : i ≠ wi := fun e => by have := hx.out e; cases this
               omega
             clear hx
             go_wp2_with fail
             exact ⟨⟨i + 1, by go_num, hne, h.out⟩, by simp [intOf]; omega⟩
         · rw [hst] at t0 hx
           replace hst := Hz.mk hst
           cases bl with
           | true =>
             go_wp2_with fail
             go_ret
             exact ⟨rfl, gF.out⟩
           | false =>
             have hne : i + 1 ≤ wi := by
               have : i ≠ wi := fun e => by have := hx.out e; cases this
               omega
             clear hx
             go_wp2_with fail
             exact ⟨⟨i + 1, by go_num, hne, h.out⟩, by simp [intOf]; omega⟩
end C
end Go.Proofs.YtiigpncfmakgjaaGreatDoor


namespace Go.Proofs.YtiigpncfmakgjaaGreatDoor
set_option maxRecDepth 100000
set_option maxHeartbeats 40000000
namespace C
open Go.RowKit
open T (Sep Ob Kp Mf TgIn boxOb Fm Tc Ed Vl Cp Bx tgOb mRow updV flt)

theorem num_own {w : World} {lo n lc : Nat} {la : Option Addr} {L : List Nat} (hl : L.length = n) (h : w.ownsRow lo 32 1 (.slice la n lc) n (L.map uN)) : NumIn w la L := by
 obtain ⟨va, c, e, h2⟩ := own_numn hl h
 injection e with e1
 subst e1
 exact h2
theorem tbeg_wrong (m : PImg) (gate : Int) (A I : List Nat) (ra ca ga aa ia : Option Addr) (rc cc gc ac ic : Nat) (w : World) (ht : TabIn w) (hm : ImgIn w.heap.size w ra ca ga m) (hr : m.Rng) (hno : m.right ≠ 0) : Calls Tryz.prog 5 #[.agg #[.slice ra m.regs.length rc, .slice ca m.comps.length cc, .slice ga m.gates.length gc, .int .i64 m.depth], .int .i64 gate, .slice aa A.length ac, .slice ia I.length ic] w fun x w' => x = .returned (.tuple #[.pointer none, .int .i64 0, .slice none 0 0]) ∧ Bl w w' := by
 have hRt := Hz.mk (fun X (q : Gr w X) => imgRight_any m ra ca ga rc cc gc X (ht.gr q) ((hm.below q.below).mono q.below.size) hr)
 have h0 : (m.right != 0) = true := by simpa using hno
 generalize m.right = e at *
 clear hm hr ht hno
 go_enter Tryz.func5, Tryz.ntmps5
 go_wp2_with fail
 refine (hRt.out _ ((Gr.refl w).alloc _)).mono ?_
 rintro x W1 ⟨rfl, e1⟩
 have g1 := Hz.mk ((Gr.refl w).alloc (.cells #[.slice ra m.regs.length rc, .slice ca m.comps.length cc, .slice ga m.gates.length gc, .int .i64 m.depth] 26) |>.trans e1).below
 clear e1 hRt
 go_wp2_with fail
 refine bodyPost_ret (v := .tuple #[.pointer none, .int .i64 0, .slice none 0 0]) (by simp [results, Tryz.results5, go_sem]) rfl ⟨rfl, g1.out⟩
theorem tbeg_shut (m : PImg) (gate : Int) (g : Nat) (A I : List Nat) (ra ca ga aa ia : Option Addr) (rc cc gc ac ic : Nat) (w : World) (ht : TabIn w) (hm : ImgIn w.heap.size w ra ca ga m) (hr : m.Rng) (hA : NumIn w aa A) (hrt : m.right = 0) (hgl : g < m.gates.length) (hPk : ∀ W, Calls Tryz.prog 17 #[.int .i64 gate, .int .i64 m.gates.length] W fun x w' => x = .returned (.int .i64 g) ∧ w' = W) (hent : isEnt m g = false) : Calls Tryz.prog 5 #[.agg #[.slice ra m.regs.length rc, .slice ca m.comps.length cc, .slice ga m.gates.length gc, .int .i64 m.depth], .int .i64 gate, .slice aa A.length ac, .slice ia I.length ic] w fun x w' => x = .returned (.tuple #[.pointer none, .int .i64 0, .slice none 0 0]) ∧ Bl w w' := by
 have hRt := Hz.mk (fun X (q : Gr w X) => imgRight_any m ra ca ga rc cc gc X (ht.gr q) ((hm.below q.below).mono q.below.size) hr)
 have hth := Hz.mk (th_of m hrt hr)
 have hz : ((m.gates.length : Int) == 0) = false := beq_false_of_ne (by have := hth.out.ne; omega)
 have h7 : m.gates[g].args.length ≤ 7 := (hth.out.gates _ (List.getElem_mem hgl)).2.2.1
 have hln := entN_len A m.gates[g].args.length
 have hNw := Hz.mk (fun X (q : Bl w X) aa ac (hn : NumIn X aa (entN A m.gates[g].args.length)) => new_no70 m g (entN A m.gates[g].args.length) I ra ca ga aa ia rc cc gc ac ic X (TabIn.bl ht q) ((hm.below q).mono q.size) hr hrt hent)
 rw [hln] at hNw
 rw [hrt] at hRt
 obtain ⟨gb, goff, xa, xc, ya, yc, rfl, _, hgb0, _, _, e2, _, _, _⟩ := hm.gates g hgl
 replace e2 : w.cell? ⟨gb, goff + g * 4 + 2, none⟩ = some (.slice xa m.gates[g].args.length xc) := e2
 have hgi : (g : Int) < (m.gates.length : Int) := Int.ofNat_lt.2 hgl
 generalize m.gates[g].args.length = n at *
 have hA0 := Hz.mk hA
 replace hln := Hz.mk hln
 replace hPk := Hz.mk hPk
 clear hm hr ht hA hrt hth
 go_enter Tryz.func5, Tryz.ntmps5
 go_wp2_with fail
 refine (hRt.out _ ((Gr.refl w).alloc _)).mono ?_
 rintro x W ⟨rfl, e1⟩
 have hQ := Bl.at_ (Bl.gr e1) (At.new w #[.slice ra m.regs.length rc, .slice ca m.comps.length cc, .slice (some ⟨gb, goff, none⟩) m.gates.length gc, .int .i64 m.depth] 26)
 have G := Hz.mk (((Gr.refl w).alloc (.cells #[.slice ra m.regs.length rc, .slice ca m.comps.length cc, .slice (some ⟨gb, goff, none⟩) m.gates.length gc, .int .i64 m.depth] 26)).trans e1).below
 obtain ⟨kp, hkp⟩ : ∃ kp, w.heap.size = kp := ⟨_, rfl⟩
 rw [hkp] at hQ ⊢
 replace hkp := Hz.mk hkp
 have hks : kp < W.heap.size := hQ.1
 have d1 : W.cell? ⟨kp, 2, none⟩ = some (.slice (some ⟨gb, goff, none⟩) m.gates.length gc) := hQ.2.1 2
 have d5 : W.cell? ⟨gb, goff + g * 4 + 2, none⟩ = some (.slice xa n xc) := (G.out.cell (p := ⟨gb, _, none⟩) hgb0).trans e2
 have hgb : gb < W.heap.size := Nat.lt_of_lt_of_le hgb0 G.out.size
 replace hA0 := Hz.mk (hA0.out.bl G.out)
 replace hQ := Hz.mk hQ
 clear e2 hgb0 e1 hRt
 go_wp2_with fail
 refine (hPk.out _).mono ?_
 rintro x W0 ⟨rfl, hW0⟩
 replace hW0 := hW0.symm
 subst hW0
 have hks' := Hz.mk hks
 go_upto_region 7 with fail
 replace d1 := Hz.mk d1
 replace d5 := Hz.mk d5
 clear hks hPk
 go_loopw [13, 14] (fun v x wr => ∃ (la : Option Addr) (lc j : Nat), v = .slice la j lc ∧ x = .int .i64 j ∧ j ≤ n ∧ Hz (wr.ownsRow W.heap.size 32 1 (.slice la j lc) j ((entN A j).map uN)) ∧ Hz (Below W.heap.size W wr)) (fun _ x _ => n - (intOf x).toNat)
 case atStart => exact ⟨none, 0, 0, rfl, rfl, Nat.zero_le _, Hz.mk (World.ownsRow_nil _ _ _ _), Hz.mk (Below.refl _ _)⟩
 case round =>
   obtain ⟨la, lc, j, rfl, rfl, hj, hown, hB⟩ := hrel
   have e1 := (T.cell_of_block (hB.out.block kp hks'.out) 2).trans d1.out
   have e5 := (T.cell_of_block (hB.out.block gb hgb) _).trans d5.out
   by_cases hlt : j < n
   · have q1 : (j : Int) < (n : Int) := by omega
     have hwr : IntKind.u64.wrap (j : Int) = (j : Int) := by rw [IntKind.wrap_u64]; omega
     by_cases hja : j < A.length
     · have hji : (j : Int) < (A.length : Int) := Int.ofNat_lt.2 hja
       obtain ⟨ab, ao, rfl, hab, hac⟩ := hA0.out j hja
       have e7 := (T.cell_of_block (hB.out.block ab hab) _).trans hac
       have hvl : Hz (A.getD j j = A[j]) := Hz.mk (by simp [hja])
       go_upto_region 12 with fail
       clear e7 hwr
       refine wp_region_lit ?_
       iterate 3 (refine wpList_plain rfl (fun K hK => ?_); go_simp; with_reducible refine hK _ _ ?_; clear hK K; (try simp only [xap]))
       have hX : At (wr.alloc (.cells #[.int .u64 ((A[j]'hja : Nat) : Int)] 32)) wr.heap.size #[.int .u64 ((A[j]'hja : Nat) : Int)] := At.new wr _ _
       have ho2 : (wr.alloc (.cells #[.int .u64 ((A[j]'hja : Nat) : Int)] 32)).ownsRow W.heap.size 32 1 (.slice la j lc) j ((entN A j).map uN) := hown.out.alloc _
       have hB2 : Hz (Below W.heap.size W (wr.alloc (.cells #[.int .u64 ((A[j]'hja : Nat) : Int)] 32))) := Hz.mk (hB.out.alloc hB.out.size _)
       generalize hVV : wr.alloc (.cells #[.int .u64 ((A[j]'hja : Nat) : Int)] 32) = V at *
       clear hVV
       generalize wr.heap.size = kX at *
       refine wpList_plain rfl (fun K hK => ?_)
       refine wp_append_z _ _ 27 32 (.int .u64 0) 1 8 rfl Tryz.underlying27 (by kernel_rfl) (by kernel_rfl) (by decide) (by decide) W.heap.size (.slice la j lc) j ((entN A j).map uN) [.int .u64 ((A[j]'hja : Nat) : Int)] (by rfl) ho2 kX (by rfl) hX rfl (by simp [Value.oneCell']) (by omega) hB2.out.size ?_
       intro g9 cap w9 k1 k2 k3
       have hB3 : Hz (Below W.heap.size W w9) := Hz.mk (hB2.out.trans ⟨k2.os, k2.tape, k2.output, k2.size, fun k hk => k2.block k (Nat.lt_of_lt_of_le hk hB2.out.size) (fun e => by have := (ho2.lt k e.symm).1; omega)⟩)
       have k4 : Hz (w9.ownsRow W.heap.size 32 1 (.slice (some ⟨g9, 0, none⟩) (j + 1) cap) (j + 1) ((entN A (j + 1)).map uN)) := Hz.mk (by rw [entN_succ, List.map_append, hvl.out]; exact k1)
       clear k1 k2 k3 ho2 hX hB2 hB hown e1 e5
       refine hK _ _ ?_
       clear hK K
       try simp only [xap]
       go_wp2_with fail
       refine ⟨⟨_, _, j + 1, rfl, ?_, hlt, k4, hB3⟩, ?_⟩
       · go_num
       · simp [intOf]; omega
     · have hji : ¬ (j : Int) < (A.length : Int) := fun q => hja (Int.ofNat_lt.1 q)
       have hvl : Hz (A.getD j j = j) := Hz.mk (by simp [hja])
       go_upto_region 12 with fail
       clear hwr
       refine wp_region_lit ?_
       iterate 3 (refine wpList_plain rfl (fun K hK => ?_); go_simp; with_reducible refine hK _ _ ?_; clear hK K; (try simp only [xap]))
       have hX : At (wr.alloc (.cells #[.int .u64 (j : Int)] 32)) wr.heap.size #[.int .u64 (j : Int)] := At.new wr _ _
       have ho2 : (wr.alloc (.cells #[.int .u64 (j : Int)] 32)).ownsRow W.heap.size 32 1 (.slice la j lc) j ((entN A j).map uN) := hown.out.alloc _
       have hB2 : Hz (Below W.heap.size W (wr.alloc (.cells #[.int .u64 (j : Int)] 32))) := Hz.mk (hB.out.alloc hB.out.size _)
       generalize hVV : wr.alloc (.cells #[.int .u64 (j : Int)] 32) = V at *
       clear hVV
       generalize wr.heap.size = kX at *
       refine wpList_plain rfl (fun K hK => ?_)
       refine wp_append_z _ _ 27 32 (.int .u64 0) 1 8 rfl Tryz.underlying27 (by kernel_rfl) (by kernel_rfl) (by decide) (by decide) W.heap.size (.slice la j lc) j ((entN A j).map uN) [.int .u64 (j : Int)] (by rfl) ho2 kX (by rfl) hX rfl (by simp [Value.oneCell']) (by omega) hB2.out.size ?_
       intro g9 cap w9 k1 k2 k3
       have hB3 : Hz (Below W.heap.size W w9) := Hz.mk (hB2.out.trans ⟨k2.os, k2.tape, k2.output, k2.size, fun k hk => k2.block k (Nat.lt_of_lt_of_le hk hB2.out.size) (fun e => by have := (ho2.lt k e.symm).1; omega)⟩)
       have k4 : Hz (w9.ownsRow W.heap.size 32 1 (.slice (some ⟨g9, 0, none⟩) (j + 1) cap) (j + 1) ((entN A (j + 1)).map uN)) := Hz.mk (by rw [entN_succ, List.map_append, hvl.out]; exact k1)
       clear k1 k2 k3 ho2 hX hB2 hB hown e1 e5
       refine hK _ _ ?_
       clear hK K
       try simp only [xap]
       go_wp2_with fail
       refine ⟨⟨_, _, j + 1, rfl, ?_, hlt, k4, hB3⟩, ?_⟩
       · go_num
       · simp [intOf]; omega
   · obtain rfl : j = n := by omega
     have q1 : ¬ (j : Int) < (j : Int) := by omega
     have hnum := Hz.mk (num_own hln.out hown.out)
     have gW := Hz.mk (Bl.trans G.out hB.out)
     have hQ1 := Bl.at_ hB.out hQ.out
     have ⟨l1, p1, _⟩ := hQ1
     clear hQ1
     go_wp2_with fail
     refine (hNw.out _ gW.out _ _ hnum.out).mono ?_
     rintro x W5 ⟨rfl, e5⟩
     have gF := Hz.mk (Bl.trans gW.out e5)
     go_wp2_with fail
     refine bodyPost_ret (v := .tuple #[.pointer none, .int .i64 0, .slice none 0 0]) (by simp [results, Tryz.results5, go_sem]) rfl ⟨rfl, gF.out⟩
theorem tbeg_ok (m : PImg) (gate : Int) (g : Nat) (A I : List Nat) (ra ca ga aa ia : Option Addr) (rc cc gc ac ic : Nat) (w : World) (ht : TabIn w) (hm : ImgIn w.heap.size w ra ca ga m) (hr : m.Rng) (hA : NumIn w aa A) (hI : InS w ia I ic) (hil : I.length ≤ 2000000) (hrt : m.right = 0) (hgl : g < m.gates.length) (hPk : ∀ W, Calls Tryz.prog 17 #[.int .i64 gate, .int .i64 m.gates.length] W fun x w' => x = .returned (.int .i64 g) ∧ w' = W) (hent : isEnt m g = true) : Calls Tryz.prog 5 #[.agg #[.slice ra m.regs.length rc, .slice ca m.comps.length cc, .slice ga m.gates.length gc, .int .i64 m.depth], .int .i64 gate, .slice aa A.length ac, .slice ia I.length ic] w fun x w' => ∃ a B v, x = .returned (.tuple #[.pointer (some ⟨a, 0, none⟩), .int .i64 g, v]) ∧ MIn B w' a (bare m) (start m g (entN A m.gates[g].args.length) I) [] ∧ w.heap.size ≤ B ∧ Bl w w' := by
 have hRt := Hz.mk (fun X (q : Gr w X) => imgRight_any m ra ca ga rc cc gc X (ht.gr q) ((hm.below q.below).mono q.below.size) hr)
 have hth := Hz.mk (th_of m hrt hr)
 have hz : ((m.gates.length : Int) == 0) = false := beq_false_of_ne (by have := hth.out.ne; omega)
 have h7 : m.gates[g].args.length ≤ 7 := (hth.out.gates _ (List.getElem_mem hgl)).2.2.1
 have hln := entN_len A m.gates[g].args.length
 have hNw := Hz.mk (fun X (q : Bl w X) aa ac (hn : NumIn X aa (entN A m.gates[g].args.length)) => new_ok m g (entN A m.gates[g].args.length) I ra ca ga aa ia rc cc gc ac ic X (TabIn.bl ht q) ((hm.below q).mono q.size) hr hrt hent (eq_len hgl A) hn (hI.bl q) hil)
 rw [hln] at hNw
 rw [hrt] at hRt
 obtain ⟨gb, goff, xa, xc, ya, yc, rfl, _, hgb0, _, _, e2, _, _, _⟩ := hm.gates g hgl
 replace e2 : w.cell? ⟨gb, goff + g * 4 + 2, none⟩ = some (.slice xa m.gates[g].args.length xc) := e2
 have hgi : (g : Int) < (m.gates.length : Int) := Int.ofNat_lt.2 hgl
 generalize m.gates[g].args.length = n at *
 have hA0 := Hz.mk hA
 replace hln := Hz.mk hln
 replace hPk := Hz.mk hPk
 clear hm hr ht hA hrt hI hil hth
 go_enter Tryz.func5, Tryz.ntmps5
 go_wp2_with fail
 refine (hRt.out _ ((Gr.refl w).alloc _)).mono ?_
 rintro x W ⟨rfl, e1⟩
 have hQ := Bl.at_ (Bl.gr e1) (At.new w #[.slice ra m.regs.length rc, .slice ca m.comps.length cc, .slice (some ⟨gb, goff, none⟩) m.gates.length gc, .int .i64 m.depth] 26)
 have G := Hz.mk (((Gr.refl w).alloc (.cells #[.slice ra m.regs.length rc, .slice ca m.comps.length cc, .slice (some ⟨gb, goff, none⟩) m.gates.length gc, .int .i64 m.depth] 26)).trans e1).below
 obtain ⟨kp, hkp⟩ : ∃ kp, w.heap.size = kp := ⟨_, rfl⟩
 rw [hkp] at hQ ⊢
 replace hkp := Hz.mk hkp
 have hks : kp < W.heap.size := hQ.1
 have d1 : W.cell? ⟨kp, 2, none⟩ = some (.slice (some ⟨gb, goff, none⟩) m.gates.length gc) := hQ.2.1 2
 have d5 : W.cell? ⟨gb, goff + g * 4 + 2, none⟩ = some (.slice xa n xc) := (G.out.cell (p := ⟨gb, _, none⟩) hgb0).trans e2
 have hgb : gb < W.heap.size := Nat.lt_of_lt_of_le hgb0 G.out.size
 replace hA0 := Hz.mk (hA0.out.bl G.out)
 replace hQ := Hz.mk hQ
 clear e2 hgb0 e1 hRt
 go_wp2_with fail
 refine (hPk.out _).mono ?_
 rintro x W0 ⟨rfl, hW0⟩
 replace hW0 := hW0.symm
 subst hW0
 have hks' := Hz.mk hks
 go_upto_region 7 with fail
 replace d1 := Hz.mk d1
 replace d5 := Hz.mk d5
 clear hks hPk
 go_loopw [13, 14] (fun v x wr => ∃ (la : Option Addr) (lc j : Nat), v = .slice la j lc ∧ x = .int .i64 j ∧ j ≤ n ∧ Hz (wr.ownsRow W.heap.size 32 1 (.slice la j lc) j ((entN A j).map uN)) ∧ Hz (Below W.heap.size W wr)) (fun _ x _ => n - (intOf x).toNat)
 case atStart => exact ⟨none, 0, 0, rfl, rfl, Nat.zero_le _, Hz.mk (World.ownsRow_nil _ _ _ _), Hz.mk (Below.refl _ _)⟩
 case round =>
   obtain ⟨la, lc, j, rfl, rfl, hj, hown, hB⟩ := hrel
   have e1 := (T.cell_of_block (hB.out.block kp hks'.out) 2).trans d1.out
   have e5 := (T.cell_of_block (hB.out.block gb hgb) _).trans d5.out
   by_cases hlt : j < n
   · have q1 : (j : Int) < (n : Int) := by omega
     have hwr : IntKind.u64.wrap (j : Int) = (j : Int) := by rw [IntKind.wrap_u64]; omega
     by_cases hja : j < A.length
     · have hji : (j : Int) < (A.length : Int) := Int.ofNat_lt.2 hja
       obtain ⟨ab, ao, rfl, hab, hac⟩ := hA0.out j hja
       have e7 := (T.cell_of_block (hB.out.block ab hab) _).trans hac
       have hvl : Hz (A.getD j j = A[j]) := Hz.mk (by simp [hja])
       go_upto_region 12 with fail
       clear e7 hwr
       refine wp_region_lit ?_
       iterate 3 (refine wpList_plain rfl (fun K hK => ?_); go_simp; with_reducible refine hK _ _ ?_; clear hK K; (try simp only [xap]))
       have hX : At (wr.alloc (.cells #[.int .u64 ((A[j]'hja : Nat) : Int)] 32)) wr.heap.size #[.int .u64 ((A[j]'hja : Nat) : Int)] := At.new wr _ _
       have ho2 : (wr.alloc (.cells #[.int .u64 ((A[j]'hja : Nat) : Int)] 32)).ownsRow W.heap.size 32 1 (.slice la j lc) j ((entN A j).map uN) := hown.out.alloc _
       have hB2 : Hz (Below W.heap.size W (wr.alloc (.cells #[.int .u64 ((A[j]'hja : Nat) : Int)] 32))) := Hz.mk (hB.out.alloc hB.out.size _)
       generalize hVV : wr.alloc (.cells #[.int .u64 ((A[j]'hja : Nat) : Int)] 32) = V at *
       clear hVV
       generalize wr.heap.size = kX at *
       refine wpList_plain rfl (fun K hK => ?_)
       refine wp_append_z _ _ 27 32 (.int .u64 0) 1 8 rfl Tryz.underlying27 (by kernel_rfl) (by kernel_rfl) (by decide) (by decide) W.heap.size (.slice la j lc) j ((entN A j).map uN) [.int .u64 ((A[j]'hja : Nat) : Int)] (by rfl) ho2 kX (by rfl) hX rfl (by simp [Value.oneCell']) (by omega) hB2.out.size ?_
       intro g9 cap w9 k1 k2 k3
       have hB3 : Hz (Below W.heap.size W w9) := Hz.mk (hB2.out.trans ⟨k2.os, k2.tape, k2.output, k2.size, fun k hk => k2.block k (Nat.lt_of_lt_of_le hk hB2.out.size) (fun e => by have := (ho2.lt k e.symm).1; omega)⟩)
       have k4 : Hz (w9.ownsRow W.heap.size 32 1 (.slice (some ⟨g9, 0, none⟩) (j + 1) cap) (j + 1) ((entN A (j + 1)).map uN)) := Hz.mk (by rw [entN_succ, List.map_append, hvl.out]; exact k1)
       clear k1 k2 k3 ho2 hX hB2 hB hown e1 e5
       refine hK _ _ ?_
       clear hK K
       try simp only [xap]
       go_wp2_with fail
       refine ⟨⟨_, _, j + 1, rfl, ?_, hlt, k4, hB3⟩, ?_⟩
       · go_num
       · simp [intOf]; omega
     · have hji : ¬ (j : Int) < (A.length : Int) := fun q => hja (Int.ofNat_lt.1 q)
       have hvl : Hz (A.getD j j = j) := Hz.mk (by simp [hja])
       go_upto_region 12 with fail
       clear hwr
       refine wp_region_lit ?_
       iterate 3 (refine wpList_plain rfl (fun K hK => ?_); go_simp; with_reducible refine hK _ _ ?_; clear hK K; (try simp only [xap]))
       have hX : At (wr.alloc (.cells #[.int .u64 (j : Int)] 32)) wr.heap.size #[.int .u64 (j : Int)] := At.new wr _ _
       have ho2 : (wr.alloc (.cells #[.int .u64 (j : Int)] 32)).ownsRow W.heap.size 32 1 (.slice la j lc) j ((entN A j).map uN) := hown.out.alloc _
       have hB2 : Hz (Below W.heap.size W (wr.alloc (.cells #[.int .u64 (j : Int)] 32))) := Hz.mk (hB.out.alloc hB.out.size _)
       generalize hVV : wr.alloc (.cells #[.int .u64 (j : Int)] 32) = V at *
       clear hVV
       generalize wr.heap.size = kX at *
       refine wpList_plain rfl (fun K hK => ?_)
       refine wp_append_z _ _ 27 32 (.int .u64 0) 1 8 rfl Tryz.underlying27 (by kernel_rfl) (by kernel_rfl) (by decide) (by decide) W.heap.size (.slice la j lc) j ((entN A j).map uN) [.int .u64 (j : Int)] (by rfl) ho2 kX (by rfl) hX rfl (by simp [Value.oneCell']) (by omega) hB2.out.size ?_
       intro g9 cap w9 k1 k2 k3
       have hB3 : Hz (Below W.heap.size W w9) := Hz.mk (hB2.out.trans ⟨k2.os, k2.tape, k2.output, k2.size, fun k hk => k2.block k (Nat.lt_of_lt_of_le hk hB2.out.size) (fun e => by have := (ho2.lt k e.symm).1; omega)⟩)
       have k4 : Hz (w9.ownsRow W.heap.size 32 1 (.slice (some ⟨g9, 0, none⟩) (j + 1) cap) (j + 1) ((entN A (j + 1)).map uN)) := Hz.mk (by rw [entN_succ, List.map_append, hvl.out]; exact k1)
       clear k1 k2 k3 ho2 hX hB2 hB hown e1 e5
       refine hK _ _ ?_
       clear hK K
       try simp only [xap]
       go_wp2_with fail
       refine ⟨⟨_, _, j + 1, rfl, ?_, hlt, k4, hB3⟩, ?_⟩
       · go_num
       · simp [intOf]; omega
   · obtain rfl : j = n := by omega
     have q1 : ¬ (j : Int) < (j : Int) := by omega
     have hnum := Hz.mk (num_own hln.out hown.out)
     have gW := Hz.mk (Bl.trans G.out hB.out)
     have hQ1 := Bl.at_ hB.out hQ.out
     have ⟨l1, p1, _⟩ := hQ1
     clear hQ1
     go_wp2_with fail
     refine (hNw.out _ gW.out _ _ hnum.out).mono ?_
     rintro x W5 ⟨a, rfl, hM, e5⟩
     have hsz := Hz.mk gW.out.size
     have gF := Hz.mk (Bl.trans gW.out e5)
     replace hM := Hz.mk hM
     go_wp2_with fail
     refine bodyPost_ret (v := .tuple #[.pointer (some ⟨a, 0, none⟩), .int .i64 g, .slice la j lc]) (by simp [results, Tryz.results5, go_sem]) rfl ⟨a, _, _, rfl, hM.out, hsz.out, gF.out⟩

def syCode : List Ins := [⟨1, 1, 0, 0, 5⟩, ⟨62, 1, 8, 0, 0⟩, ⟨60, 2, 8, 0, 0⟩, ⟨27, 2, 0, 0, 0⟩]
def syP : PImg := ⟨[⟨0, 16, [], []⟩], [⟨[⟨8, 0, 16, 0, 3, 0⟩], syCode⟩], [⟨0, 0, [], []⟩], 1⟩
def sy20 : Array Value := #[.int .u8 1, .int .i64 1, .int .i64 0, .int .i64 0, .int .i64 5, .int .u8 62, .int .i64 1, .int .i64 8, .int .i64 0, .int .i64 0, .int .u8 60, .int .i64 2, .int .i64 8, .int .i64 0, .int .i64 0, .int .u8 27, .int .i64 2, .int .i64 0, .int .i64 0, .int .i64 0]
theorem sy_lin {W : World} {b : Nat} (h : At W b sy20) : LIn W.heap.size W (some ⟨b, 0, none⟩) syCode := fun i hi => by
 have hi' : i < 4 := hi
 refine ⟨b, 0, rfl, h.1, h.1, ?_⟩
 match i, hi' with
 | 0, _ => exact ⟨h.2.1 0, h.2.1 1, h.2.1 2, h.2.1 3, h.2.1 4⟩
 | 1, _ => exact ⟨h.2.1 5, h.2.1 6, h.2.1 7, h.2.1 8, h.2.1 9⟩
 | 2, _ => exact ⟨h.2.1 10, h.2.1 11, h.2.1 12, h.2.1 13, h.2.1 14⟩
 | 3, _ => exact ⟨h.2.1 15, h.2.1 16, h.2.1 17, h.2.1 18, h.2.1 19⟩
theorem sy_right : syP.right = 0 := by kernel_rfl
theorem sy_ent : isEnt syP 0 = true := by kernel_rfl
theorem sy_tl : tl (runM (bare syP) 10 (start syP 0 [] [])) = [.int .i64 1, .int .u64 5, .int .i64 0, .int .i64 0, .int .i64 3] := by kernel_rfl
theorem sy_tou : (runM (bare syP) 10 (start syP 0 [] [])).tou = [⟨true, 0, 1⟩, ⟨false, 0, 1⟩] := by kernel_rfl
theorem sy_rng : syP.Rng := by
 refine ⟨⟨by decide, fun r hr => ?_⟩, ⟨by decide, fun c hc => ?_⟩, ⟨by decide, fun g hg => ?_⟩, by decide, by decide⟩
 · obtain rfl := List.mem_singleton.1 hr
   exact ⟨⟨by decide, by decide⟩, ⟨by decide, by decide⟩, by decide, by decide, fun k hk => by cases hk⟩
 · obtain rfl := List.mem_singleton.1 hc
   refine ⟨by decide, by decide, fun k hk => ?_, fun k hk => ?_⟩
   · simp [syCode] at hk
     rcases hk with rfl | rfl | rfl | rfl <;> decide
   · obtain rfl := List.mem_singleton.1 hk
     exact ⟨⟨by decide, by decide⟩, ⟨by decide, by decide⟩, ⟨by decide, by decide⟩, ⟨by decide, by decide⟩, ⟨by decide, by decide⟩, by decide, by decide⟩
 · obtain rfl := List.mem_singleton.1 hg
   exact ⟨⟨by decide, by decide⟩, ⟨by decide, by decide⟩, by decide, by decide, fun k hk => (by cases hk), fun k hk => by cases hk⟩
theorem at7 (w : World) (A B C D E G H : Array Value) (ta tb tc td te tg th : TypeId) (W : World) (hW : W = (((((((w.alloc (.cells A ta)).alloc (.cells B tb)).alloc (.cells C tc)).alloc (.cells D td)).alloc (.cells E te)).alloc (.cells G tg)).alloc (.cells H th))) :
   At W (w.heap.size + 1 + 1) C ∧ At W (w.heap.size + 1 + 1 + 1) D ∧ At W (w.heap.size + 1 + 1 + 1 + 1) E ∧ At W (w.heap.size + 1 + 1 + 1 + 1 + 1) G ∧ At W (w.heap.size + 1 + 1 + 1 + 1 + 1 + 1) H ∧ Bl w W := by
 subst hW
 have h3 := At.new ((w.alloc (.cells A ta)).alloc (.cells B tb)) C tc
 have h4 := At.new (((w.alloc (.cells A ta)).alloc (.cells B tb)).alloc (.cells C tc)) D td
 have h5 := At.new ((((w.alloc (.cells A ta)).alloc (.cells B tb)).alloc (.cells C tc)).alloc (.cells D td)) E te
 have h6 := At.new (((((w.alloc (.cells A ta)).alloc (.cells B tb)).alloc (.cells C tc)).alloc (.cells D td)).alloc (.cells E te)) G tg
 have h7 := At.new ((((((w.alloc (.cells A ta)).alloc (.cells B tb)).alloc (.cells C tc)).alloc (.cells D td)).alloc (.cells E te)).alloc (.cells G tg)) H th
 simp only [World.size_alloc] at h3 h4 h5 h6 h7
 exact ⟨(((h3.alloc _).alloc _).alloc _).alloc _, ((h4.alloc _).alloc _).alloc _, (h5.alloc _).alloc _, h6.alloc _, h7, (((((((Bl.refl w).alloc _).alloc _).alloc _).alloc _).alloc _).alloc _).alloc _⟩
theorem img_sy {W : World} {k1 k2 k3 k4 b c : Nat} (h1 : At W k1 #[.int .u64 0, .int .u64 16, .string (str []), .slice none 0 0]) (h2 : At W k2 #[.int .i64 8, .int .u64 0, .int .u64 16, .int .u64 0, .int .u8 3, .int .i64 0]) (h3 : At W k3 #[.slice (some ⟨k2, 0, none⟩) 1 1, .slice (some ⟨b, 0, none⟩) 4 c]) (h4 : At W k4 #[.int .i64 0, .int .i64 0, .slice none 0 0, .slice none 0 0]) (h5 : LIn W.heap.size W (some ⟨b, 0, none⟩) syCode) :
   ImgIn W.heap.size W (some ⟨k1, 0, none⟩) (some ⟨k3, 0, none⟩) (some ⟨k4, 0, none⟩) syP := by
 refine ⟨fun i hi => ?_, fun i hi => ?_, fun i hi => ?_⟩
 · have hi' : i < 1 := hi
   obtain rfl : i = 0 := by omega
   exact ⟨k1, 0, none, 0, rfl, h1.1, h1.1, h1.2.1 0, h1.2.1 1, h1.2.1 2, h1.2.1 3, FIn.nil _ _ _ _ _⟩
 · have hi' : i < 1 := hi
   obtain rfl : i = 0 := by omega
   refine ⟨k3, 0, some ⟨k2, 0, none⟩, 1, some ⟨b, 0, none⟩, c, rfl, h3.1, h3.1, h3.2.1 0, h3.2.1 1, fun j hj => ?_, h5⟩
   have hj' : j < 1 := hj
   obtain rfl : j = 0 := by omega
   refine ⟨k2, 0, rfl, h2.1, h2.1, fun o ho => ?_⟩
   rw [show 0 + 0 * 6 + o = o by omega, h2.2.1 o]
   match o, ho with
   | 0, _ => rfl
   | 1, _ => rfl
   | 2, _ => rfl
   | 3, _ => rfl
   | 4, _ => rfl
   | 5, _ => rfl
 · have hi' : i < 1 := hi
   obtain rfl : i = 0 := by omega
   exact ⟨k4, 0, none, 0, none, 0, rfl, h4.1, h4.1, h4.2.1 0, h4.2.1 1, h4.2.1 2, h4.2.1 3, FIn.nil _ _ _ _ _, FIn.nil _ _ _ _ _⟩
theorem small_any (w : World) : Calls Tryz.prog 14 #[] w fun x w' => ∃ k1 k3 k4, x = .returned (.agg #[.slice (some ⟨k1, 0, none⟩) 1 1, .slice (some ⟨k3, 0, none⟩) 1 1, .slice (some ⟨k4, 0, none⟩) 1 1, .int .i64 1]) ∧ ImgIn w'.heap.size w' (some ⟨k1, 0, none⟩) (some ⟨k3, 0, none⟩) (some ⟨k4, 0, none⟩) syP ∧ Bl w w' := by
 go_enter Tryz.func14, Tryz.ntmps14
 go_wp2_with fail
 refine bodyPost_ret (v := .agg #[.slice (some ⟨w.heap.size + 1 + 1 + 1, 0, none⟩) 1 1, .slice (some ⟨w.heap.size + 1 + 1 + 1 + 1 + 1, 0, none⟩) 1 1, .slice (some ⟨w.heap.size + 1 + 1 + 1 + 1 + 1 + 1, 0, none⟩) 1 1, .int .i64 1]) (by simp [results, Tryz.results14, go_sem]) rfl ?_
 generalize hW : World.alloc _ _ = W
 obtain ⟨hC, hD, hE, hG, hH, hB⟩ := at7 w _ _ _ _ _ _ _ _ _ _ _ _ _ _ W hW.symm
 exact ⟨_, _, _, rfl, img_sy hD hE hG hH (sy_lin hC), hB⟩
theorem walks_any (w : World) (ht : TabIn w) : Calls Tryz.prog 4 #[] w fun x w' => x = .returned (.bool true) ∧ Bl w w' := by
 have hSm := Hz.mk (small_any w)
 have hN := Hz.mk (fun k1 k3 k4 X (q : Bl w X) (h : ImgIn X.heap.size X (some ⟨k1, 0, none⟩) (some ⟨k3, 0, none⟩) (some ⟨k4, 0, none⟩) syP) => new_ok syP 0 [] [] (some ⟨k1, 0, none⟩) (some ⟨k3, 0, none⟩) (some ⟨k4, 0, none⟩) none none 1 1 1 0 0 X (TabIn.bl ht q) h sy_rng sy_right sy_ent rfl (fun i hi => absurd hi (Nat.not_lt_zero i)) (.inl ⟨rfl, rfl, rfl⟩) (Nat.zero_le _))
 have hR := Hz.mk (fun B Y a l' (q : MIn B Y a (bare syP) (start syP 0 [] []) l') => run_any B Y a (bare syP) (start syP 0 [] []) l' 0 10 (pok_of syP sy_right sy_rng) q (start_ok sy_right sy_rng (by decide) (fun x hx => by cases hx) (fun x hx => by cases hx) (Nat.zero_le _)) (by decide))
 have e1 := sy_tl
 have e2 := sy_tou
 generalize runM (bare syP) 10 (start syP 0 [] []) = s9 at *
 rw [e1] at hR
 replace e1 := Hz.mk e1
 have hTo := Hz.mk (fun B Y a l' (q : MIn B Y a (bare syP) s9 l') => tou_any B a (bare syP) s9 l' Y q (by rw [e2]; decide))
 rw [e2] at hTo
 replace e2 := Hz.mk e2
 clear ht
 go_enter Tryz.func4, Tryz.ntmps4
 go_wp2_with fail
 refine hSm.out.mono ?_
 rintro r W2 ⟨k1, k3, k4, rfl, hImg, g2⟩
 have hNew := Hz.mk (hN.out k1 k3 k4 W2 g2 hImg)
 have gw := Hz.mk g2
 clear hImg g2 hSm hN
 go_wp2_with fail
 refine hNew.out.mono ?_
 rintro r W3 ⟨a, rfl, hM, hB3⟩
 have hwB := gw.out.size
 replace gw := Hz.mk (gw.out.trans hB3)
 replace hM := Hz.mk hM
 clear hNew hB3
 generalize W2.heap.size = B at *
 go_wp2_with fail
 refine (hR.out _ _ _ _ hM.out).mono ?_
 rintro r W4 ⟨rfl, h4, hB4⟩
 have g4 : Hz (Bl w W4) := Hz.mk (Below.trans gw.out (Below.mono hB4 hwB))
 replace h4 := Hz.mk h4
 clear hB4 hM hR gw
 have hT4 := Hz.mk (hTo.out _ _ _ _ (h4.out.gr ((Bl.refl W4).alloc (.cells #[.int .i64 1, .int .u64 5, .int .i64 0, .int .i64 0, .int .i64 3] 47))))
 clear hTo
 go_wp2_with fail
 refine hT4.out.mono ?_
 rintro r W6 ⟨v, rfl, hown, hB6⟩
 have a6 := Bl.at_ hB6 (At.new W4 #[.int .i64 1, .int .u64 5, .int .i64 0, .int .i64 0, .int .i64 3] 47)
 have ⟨_, p6, _⟩ := a6
 replace g4 := Hz.mk ((g4.out.alloc (.cells #[.int .i64 1, .int .u64 5, .int .i64 0, .int .i64 0, .int .i64 3] 47)).trans hB6)
 obtain ⟨va, c, rfl, hE⟩ := own_two (L := [⟨true, 0, 1⟩, ⟨false, 0, 1⟩]) hown
 obtain ⟨b, off, rfl, hb, h0⟩ := hE 0 (by decide)
 have t0 : W6.cell? ⟨b, off, none⟩ = some (.bool true) := h0 0 _ rfl
 have t1 : W6.cell? ⟨b, off + 1, none⟩ = some (.int .u64 0) := h0 1 _ rfl
 have t2 : W6.cell? ⟨b, off + 2, none⟩ = some (.int .u64 1) := h0 2 _ rfl
 replace a6 := Hz.mk a6
 clear hE h0 hown hB6 hT4 h4
 go_wp2_with fail
 go_ret
 exact ⟨rfl, g4.out⟩
end C
end Go.Proofs.YtiigpncfmakgjaaGreatDoor


namespace Go.Proofs.YtiigpncfmakgjaaGreatDoor
namespace C
open Go.RowKit
open T (Sep Ob Kp Mf TgIn boxOb Fm Tc Ed Vl Cp Bx tgOb mRow)

section
variable {P : PImg} {n : Nat} {s s' : Ms} {e : Ed}
end
theorem step_oc (P : PImg) (hP : POk P) (s : Ms) (c : Nat) (hs : Okm P c s) (hn : c + 1 ≤ 1000000) (t : Ms) (ht : stepsM P 1 s = t) (B : Nat) (W : World) (a : Nat) (l : List Ob) (h : MIn B W a P s l) :
   Calls Tryz.prog 8 #[.pointer (some ⟨a, 0, none⟩)] W fun x w' => x = .returned (.agg #[.int .i64 t.over.e, .int .u64 t.over.v, .int .i64 t.over.f, .int .i64 t.at_.gate, .int .i64 t.at_.pc]) ∧ MIn B w' a P t l ∧ Below B W w' := by
 rw [← ht]
 exact step_any B W a P s l c hP h hs hn
end C
end Go.Proofs.YtiigpncfmakgjaaGreatDoor


namespace Go.Proofs.YtiigpncfmakgjaaGreatDoor
namespace C
open Go.RowKit
open T (Sep Ob Kp Mf TgIn boxOb Fm Tc Ed Vl Cp Bx tgOb mRow)

section
variable {B B' : Nat} {W W' : World} {a b : Nat} {P P' : PImg} {s s' t : Ms} {l : List Ob} {q : Pt}
end
theorem own_cells {w : World} {lo e k n : Nat} {v : Value} {xs : List Value} (h : w.ownsRow lo e k v n xs) (h0 : 0 < n) : ∃ g cap, v = .slice (some ⟨g, 0, none⟩) n cap ∧ g < w.heap.size ∧ ∀ j u, xs[j]? = some u → w.cell? ⟨g, j, none⟩ = some u := by
 have hlt := h.lt
 rcases h.2 with ⟨_, h9⟩ | ⟨g, cap, cur, rfl, hb, hg, hc1, hc2, hc3, hc4⟩
 · omega
 · refine ⟨g, cap, rfl, (hlt g rfl).2, fun j u q => ?_⟩
   have hj : j < n * k := by have := (List.getElem?_eq_some_iff.1 q).1; rwa [h.1] at this
   rw [← hc4, List.getElem?_take_of_lt hj] at q
   have : w.cell? ⟨g, j, none⟩ = cur[j]? := by simp [World.cell?, hg]
   rw [this, ← q]
   simp
theorem own_tin {w : World} {lo n : Nat} {v : Value} {L : List Tc} (h : w.ownsRow lo 61 3 v n (L.flatMap Tc.row)) (hn : n = L.length) : ∃ a c, v = .slice a L.length c ∧ T.EIn 3 Tc.row w a L := by
 obtain ⟨a, c, e⟩ := own_slZ h
 subst hn
 refine ⟨a, c, e, fun i hi => ?_⟩
 obtain ⟨g, cap, e2, hg, hc⟩ := own_cells h (by omega)
 rw [e] at e2
 injection e2 with e3
 refine ⟨g, 0, e3, hg, fun j u hj => ?_⟩
 rw [Nat.zero_add]
 refine hc _ _ ?_
 have hj3 : j < 3 := by
   have := (List.getElem?_eq_some_iff.1 hj).1
   exact this
 rw [flat_at' (k := 3) (fun _ => rfl) L i hi j hj3]
 exact hj
theorem tcs_any (B : Nat) (W : World) (a : Nat) (P : PImg) (s : Ms) (l : List Ob) (h : MIn B W a P s l) (hl : s.tou.length ≤ 1000000) :
   Calls Tryz.prog 7 #[.pointer (some ⟨a, 0, none⟩)] W fun x w' => ∃ va c, x = .returned (.slice va s.tou.length c) ∧ T.EIn 3 Tc.row w' va s.tou ∧ Bl W w' := by
 refine (tou_any B a P s l W h hl).mono ?_
 rintro x w' ⟨v, rfl, h1, h2⟩
 obtain ⟨va, c, rfl, h3⟩ := own_tin h1 rfl
 exact ⟨va, c, rfl, h3, h2⟩
end C
end Go.Proofs.YtiigpncfmakgjaaGreatDoor
