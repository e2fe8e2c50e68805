import Derived.Test.YtdlcphinjnnhcaaGreatDoorJ19
import Derived.Test.YtdlcphinjnnhcaaGreatDoorJ14
namespace Go.Proofs.YtdlcphinjnnhcaaGreatDoor
set_option maxRecDepth 100000
set_option maxHeartbeats 40000000
namespace Bd
open Go.RowKit
open T (Kp)
open F (IOwn own_slice own_nin boolA boolA_at boolA_put boolA_congr Sw Ws folB folB_lt rchB wE setB cnt_setB cnt_le aN cnt cnt_congr make_bools at_below take_snoc own_kp)

theorem rep_put (n e : Nat) : (Array.replicate n (Value.bool false)).setIfInBounds e (.bool true) = boolA n (wE [(e : Int)] (-1)) := by
 apply Array.ext
 · simp [boolA]
 · intro i h1 h2
   simp only [boolA, List.getElem_toArray, List.getElem_map, List.getElem_range]
   by_cases q : e = i
   · subst q
     simp [wE]
   · rw [Array.getElem_setIfInBounds_ne (by simpa using h1) q]
     have : ¬ (i : Int) = e := by omega
     simp [wE, this]
theorem reachedD_any (L : List Ins) (cc : Nat) (ca : Option Addr) (en : Nat) (w : World) (hL : LIn w.heap.size w ca L) (hn : L.length < 2000000) (he : en < L.length) :
   Calls Tryz.prog 46 #[.slice ca L.length cc, .int .i64 en] w fun e w' => ∃ g, e = .returned (.slice (some ⟨g, 0, none⟩) L.length L.length) ∧ w.heap.size ≤ g ∧ At w' g (boolA L.length (rchB L [(en : Int)] (-1))) ∧ Below w.heap.size w w' := by
 have hm := make_bools L.length (by omega)
 have hX := fun (p : Nat) W (q : Below w.heap.size w W) (hp : p < L.length) => nextD_any L ca cc p W ((hL.below q).mono q.size) hp hn
 have he1 : (en : Int) < L.length := by omega
 replace hL := Hz.mk hL
 replace hX := Hz.mk hX
 go_enter Tryz.func46, Tryz.ntmps46
 go_upto_region 3 with fail
 refine wp_world (fun W => At W w.heap.size (boolA L.length (wE [(en : Int)] (-1))) ∧ Below w.heap.size w W) ⟨by rw [← rep_put L.length en]; exact At.new w _ _, by (repeat (first | assumption | with_reducible exact Below.refl _ _ | with_reducible refine Below.alloc ?_ (by simp <;> omega) _ | with_reducible refine Below.setCell ?_ (by simp <;> omega) _ | with_reducible refine Below.drew ?_))⟩ ?_
 intro W0 h0
 replace h0 := Hz.mk h0
 have hW0 : Hz (At W0 w.heap.size (boolA L.length (wE [(en : Int)] (-1))) ∧ Ws L [(en : Int)] (-1) (wE [(en : Int)] (-1)) true ∧ Below w.heap.size w W0) := Hz.mk ⟨h0.out.1, Ws.start L [(en : Int)] (-1), h0.out.2⟩
 clear h0 hm
 generalize hE : [(en : Int)] = E at *
 generalize hout : (-1 : Int) = out at *
 have hneg : ∀ q : Nat, (q : Int) ≠ out := fun q => by omega
 replace hneg := Hz.mk hneg
 have hEo := Hz.mk (And.intro hE hout)
 clear hE hout he1 he
 go_upto_region 4 with fail
 go_loopw [6] (fun b wr => ∃ (a : Bool) (s : Nat → Bool), b = .bool a ∧ Hz (At wr w.heap.size (boolA L.length s) ∧ Ws L E out s a ∧ Below w.heap.size w wr)) (fun b wr => 2 * (L.length - cnt L.length (setB wr w.heap.size)) + aN b)
 case atStart => exact ⟨true, _, rfl, hW0⟩
 case round =>
   clear hW0
   obtain ⟨a, s0, rfl, ⟨i1, i2, i3⟩⟩ := hrel
   cases a with
   | false =>
     have hfin : Hz (At wr w.heap.size (boolA L.length (rchB L E out))) := Hz.mk (by rw [boolA_congr (g := s0) (fun z hz => (i2.done z hz).symm)]; exact i1)
     replace i1 := Hz.mk i1
     replace i2 := Hz.mk i2
     replace i3 := Hz.mk i3
     go_wp2_with fail
     go_ret
     exact ⟨_, rfl, Nat.le_refl _, by rw [hEo.out.1, hEo.out.2]; exact hfin.out, i3.out⟩
   | true =>
     have hS0 : Hz (At wr w.heap.size (boolA L.length s0) ∧ Sw L E out s0 s0 false 0 [] ∧ Below w.heap.size w wr) := Hz.mk ⟨i1, Sw.start i2.snd, i3⟩
     have hm0 := cnt_setB i1
     replace i1 := Hz.mk i1
     replace i2 := Hz.mk i2
     replace i3 := Hz.mk i3
     go_wp2_with fail
     rename World => wp
     go_loopw [6, 7] (fun b x wr => ∃ (a : Bool) (s : Nat → Bool) (p : Nat), b = .bool a ∧ x = .int .i64 p ∧ p ≤ L.length ∧ Hz (At wr w.heap.size (boolA L.length s) ∧ Sw L E out s0 s a p [] ∧ Below w.heap.size w wr)) (fun _ x _ => L.length - (intOf x).toNat)
     case atStart => exact ⟨false, s0, 0, rfl, rfl, by omega, hS0⟩
     case round =>
       clear hS0
       obtain ⟨a, s, p, rfl, rfl, hp, ⟨k1, k2, k3⟩⟩ := hrel
       by_cases hpl : p < L.length
       · have hp1 : (p : Int) < L.length := by omega
         have zp := boolA_at k1 p hpl
         cases hsp : s p with
         | false =>
           rw [hsp] at zp
           have hnew : Hz (At wr w.heap.size (boolA L.length s) ∧ Sw L E out s0 s a (p + 1) [] ∧ Below w.heap.size w wr) := Hz.mk ⟨k1, k2.skip hpl hsp, k3⟩
           replace k1 := Hz.mk k1
           replace k2 := Hz.mk k2
           replace k3 := Hz.mk k3
           go_wp2_with fail
           go_roundw
           all_goals first | exact ⟨a, s, p + 1, rfl, by simp, by omega, hnew⟩ | (simp only [intOf]; omega)
         | true =>
           rw [hsp] at zp
           have hXp := Hz.mk (hX.out p wr k3 hpl)
           have hyq : Hz (∀ y ∈ nxD L p, ∃ q : Nat, y = q ∧ folB L p q = true) := Hz.mk (fun y hy => (mem_nxD hpl y).1 hy)
           have hNl : (nxD L p).length ≤ L.length + 2 := nxD_len L p
           have hnx := Hz.mk (fun (s : Nat → Bool) (a : Bool) (h : Sw L E out s0 s a p (nxD L p)) => sw_nextD h hpl)
           generalize nxD L p = N at *
           have hbC : w.heap.size < wr.heap.size := k1.1
           replace k1 := Hz.mk k1
           replace k2 := Hz.mk k2
           replace k3 := Hz.mk k3
           go_wp2_with (go_at_call 61; refine hXp.out.mono ?_; rintro z w6 ⟨v', rfl, n1, n2⟩; obtain ⟨na, nc, rfl⟩ := own_slice n1; replace n1 := Hz.mk n1; replace n2 := Hz.mk n2)
           generalize hbc : wr.heap.size = bC at *
           have hD0 : Hz (At w6 w.heap.size (boolA L.length s) ∧ Sw L E out s0 s a p (N.take 0) ∧ s p = true ∧ IOwn w6 bC (.slice na N.length nc) N ∧ Below w.heap.size w w6) := Hz.mk ⟨at_below k1.out n2.out hbC, k2.out, hsp, n1.out, k3.out.trans (n2.out.mono (Nat.le_of_lt hbC))⟩
           clear n1 n2 zp k1 k2 hsp
           try go_wp2_with fail
           go_loopw [6, 9] (fun b x wr => ∃ (a : Bool) (s : Nat → Bool) (k : Nat), b = .bool a ∧ x = .int .i64 k ∧ k ≤ N.length ∧ Hz (At wr w.heap.size (boolA L.length s) ∧ Sw L E out s0 s a p (N.take k) ∧ s p = true ∧ IOwn wr bC (.slice na N.length nc) N ∧ Below w.heap.size w wr)) (fun _ x _ => N.length - (intOf x).toNat)
           case atStart => exact ⟨a, s, 0, rfl, rfl, by omega, hD0⟩
           case round =>
             clear hD0
             obtain ⟨a, s, k, rfl, rfl, hk, ⟨m1, m2, m3, m4, m5⟩⟩ := hrel
             by_cases hkl : k < N.length
             · obtain ⟨b', off, ena, hb0', hb1, hck⟩ := own_nin m4 k hkl
               have ki1 : (k : Int) < N.length := by omega
               obtain ⟨q, eyq, hfq⟩ := hyq.out N[k] (List.getElem_mem hkl)
               have htk := take_snoc N k hkl
               rw [eyq] at hck htk
               have hql := folB_lt hfq
               have hqi : (q : Int) < L.length := by omega
               have zq := boolA_at m1 q hql
               cases ena
               cases hsq : s q with
               | true =>
                 rw [hsq] at zq
                 have hnew : Hz (At wr w.heap.size (boolA L.length s) ∧ Sw L E out s0 s a p (N.take (k + 1)) ∧ s p = true ∧ IOwn wr bC (.slice (some ⟨b', off, none⟩) N.length nc) N ∧ Below w.heap.size w wr) := Hz.mk ⟨m1, by rw [htk]; exact m2.keep (fun _ => by simpa using hsq), m3, m4, m5⟩
                 replace m1 := Hz.mk m1
                 replace m2 := Hz.mk m2
                 replace m3 := Hz.mk m3
                 replace m4 := Hz.mk m4
                 replace m5 := Hz.mk m5
                 replace htk := Hz.mk htk
                 replace eyq := Hz.mk eyq
                 replace hfq := Hz.mk hfq
                 go_wp2_with fail
                 go_roundw
                 all_goals first | exact ⟨a, s, k + 1, rfl, by simp, by omega, hnew⟩ | (simp only [intOf]; omega)
               | false =>
                 rw [hsq] at zq
                 have hfy := m1.2.2
                 have hgy := m1.1
                 have hnew : Hz (At (wr.setCell ⟨w.heap.size, q, none⟩ (.bool true)) w.heap.size (boolA L.length (fun z => if z = q then true else s z)) ∧ Sw L E out s0 (fun z => if z = q then true else s z) true p (N.take (k + 1)) ∧ (fun z => if z = q then true else s z) p = true ∧ IOwn (wr.setCell ⟨w.heap.size, q, none⟩ (.bool true)) bC (.slice (some ⟨b', off, none⟩) N.length nc) N ∧ Below w.heap.size w (wr.setCell ⟨w.heap.size, q, none⟩ (.bool true))) := Hz.mk ⟨boolA_put m1 q true hql (fun z _ => rfl), m2.put hpl m3 hfq (hneg.out q) hsq (fun z _ => rfl) _, by show (if p = q then true else s p) = true; rw [m3]; simp, own_kp m4 (Kp.set (S := fun b => b = w.heap.size) wr _ _ rfl) (fun b hb e => by have := (World.ownsRow.lt m4 b hb).1; omega), m5.setCell (Nat.le_refl _) _⟩
                 replace m1 := Hz.mk m1
                 replace m2 := Hz.mk m2
                 replace m3 := Hz.mk m3
                 replace m4 := Hz.mk m4
                 replace m5 := Hz.mk m5
                 replace htk := Hz.mk htk
                 replace eyq := Hz.mk eyq
                 replace hfq := Hz.mk hfq
                 go_wp2_with fail
                 go_roundw
                 all_goals first | exact ⟨true, _, k + 1, rfl, by simp, by omega, hnew⟩ | (simp only [intOf]; omega)
             · have ki1 : ¬ (k : Int) < N.length := by omega
               rw [List.take_of_length_le (by omega)] at m2
               have hnew : Hz (At wr w.heap.size (boolA L.length s) ∧ Sw L E out s0 s a (p + 1) [] ∧ Below w.heap.size w wr) := Hz.mk ⟨m1, hnx.out s a m2, m5⟩
               replace m1 := Hz.mk m1
               replace m2 := Hz.mk m2
               replace m3 := Hz.mk m3
               replace m4 := Hz.mk m4
               replace m5 := Hz.mk m5
               go_wp2_with fail
               go_roundw
               all_goals first | exact ⟨a, s, p + 1, rfl, by simp, by omega, hnew⟩ | (simp only [intOf]; omega)
       · have hp1 : ¬ (p : Int) < L.length := by omega
         have ep : p = L.length := by omega
         subst ep
         have hnew : Hz (At wr w.heap.size (boolA L.length s) ∧ Ws L E out s a ∧ Below w.heap.size w wr) := Hz.mk ⟨k1, i2.out.sweep k2, k3⟩
         have hm1 := cnt_setB k1
         have hm2 := cnt_le L.length s
         have hm3 : a = true → cnt L.length s0 + 1 ≤ cnt L.length s := k2.on
         have hm4 : a = false → cnt L.length s = cnt L.length s0 := fun e => cnt_congr L.length (k2.off e)
         have hme : 2 * (L.length - cnt L.length (setB wr w.heap.size)) + aN (.bool a) < 2 * (L.length - cnt L.length (setB wp w.heap.size)) + aN (.bool true) := by
           rw [hm1, hm0]
           cases a with
           | true => have := hm3 rfl; simp only [aN]; omega
           | false => have := hm4 rfl; simp only [aN]; omega
         replace k1 := Hz.mk k1
         replace k2 := Hz.mk k2
         replace k3 := Hz.mk k3
         replace hme := Hz.mk hme
         replace hm3 := Hz.mk hm3
         replace hm4 := Hz.mk hm4
         go_wp2_with fail
         go_roundw
         all_goals first | exact ⟨a, s, rfl, hnew⟩ | exact hme.out
end Bd
end Go.Proofs.YtdlcphinjnnhcaaGreatDoor


namespace Go.Proofs.YtdlcphinjnnhcaaGreatDoor
set_option maxRecDepth 100000
set_option maxHeartbeats 40000000
namespace Bd
open Go.RowKit
open F (boolA boolA_put boolA_new boolA_congr rchB make_bools)

theorem codeD_any (B : Nat) (m : PImg) (ra ca ga : Option Addr) (rc cc gc : Nat) (g k : Nat) (hg : g < m.gates.length) (hk : k < m.comps.length) (hc : m.gates[g].c = k) (w : World) (hm : ImgIn B w ra ca ga m) (hB : B ≤ w.heap.size) :
   Calls Tryz.prog 45 #[imA m ra rc ca cc ga gc, .int .i64 g] w fun e w' => ∃ ka kc, e = .returned (.slice ka m.comps[k].code.length kc) ∧ LIn B w' ka m.comps[k].code ∧ Below w.heap.size w w' := by
 obtain ⟨b, off, xa, xc, ya, yc, rfl, h1, h2, c0, c1, -⟩ := hm.gates g hg
 obtain ⟨b2, off2, ra2, rc2, ka, kc, rfl, h3, h4, d0, d1, hr, hl⟩ := hm.comps k hk
 rw [hc] at c0
 have i1 : (g : Int) < (m.gates.length : Int) := by omega
 have i2 : (k : Int) < (m.comps.length : Int) := by omega
 have hl' := Hz.mk hl
 clear hl hm hc c1 d0 hr
 unfold imA
 generalize m.comps[k].code = L at *
 go_enter Tryz.func45, Tryz.ntmps45
 go_wp2_with fail
 go_quiet (fail)
 all_goals
   go_wp2_with fail
   go_ret
   refine ⟨ka, kc, rfl, hl'.out.below (Below.mono ?_ hB), ?_⟩ <;> exact Below.trans (Below.alloc (Below.refl _ _) (Nat.le_refl _) _) ((drewNb _ _).mono (by simp))
noncomputable def calK (L : List Ins) (e : Int) (j h : Nat) : Bool := decide (h ∈ ((List.range j).filter (calB L e)).map (imF L))
theorem calK_step (L : List Ins) (e : Int) (j h : Nat) : calK L e (j + 1) h = if calB L e j = true then (if h = imF L j then true else calK L e j h) else calK L e j h := by
 unfold calK
 rw [calB_step]
 cases hb : calB L e j with
 | false => simp
 | true =>
   simp only [if_true, List.mem_append, List.mem_singleton]
   by_cases q : h = imF L j
   · simp [q]
   · simp [q]
theorem callsD_any (m : PImg) (ra ca ga : Option Addr) (rc cc gc : Nat) (g : Nat) (hg : g < m.gates.length) (hok : BOk m) (w : World) (hm : ImgIn w.heap.size w ra ca ga m) :
   Calls Tryz.prog 30 #[imA m ra rc ca cc ga gc, .int .i64 g] w fun e w' => ∃ gb, e = .returned (.slice (some ⟨gb, 0, none⟩) m.gates.length m.gates.length) ∧ w.heap.size ≤ gb ∧ At w' gb (boolA m.gates.length (fun h => decide (h ∈ nxG m g))) ∧ Below w.heap.size w w' := by
 obtain ⟨k, hk, hc, he0, he1⟩ := hok.gates g hg
 obtain ⟨hn, hco⟩ := hok.code k hk
 have hgl := hok.gl
 have hC := Hz.mk (fun W (q : Below w.heap.size w W) => codeD_any w.heap.size m ra ca ga rc cc gc g k hg hk hc W (hm.below q) q.size)
 obtain ⟨b, off, xa, xc, ya, yc, rfl, h1, h2, c0, c1, -⟩ := hm.gates g hg
 have i1 : (g : Int) < (m.gates.length : Int) := by omega
 rw [nxG_of hg hk hc]
 clear hm hc c0
 unfold imA at *
 generalize m.comps[k].code = L at *
 generalize m.gates[g].e = e0 at *
 obtain ⟨en, rfl⟩ : ∃ en : Nat, e0 = (en : Int) := ⟨e0.toNat, by omega⟩
 have he2 : en < L.length := by omega
 have hR := Hz.mk (fun W cc2 ka (q : LIn W.heap.size W ka L) => reachedD_any L cc2 ka en W q (by omega) he2)
 have hall : Hz (∀ h, decide (h ∈ calL L (en : Int)) = calK L en L.length h) := Hz.mk (fun h => rfl)
 have hmk := make_bools m.gates.length (by omega)
 replace hok := Hz.mk hco
 clear hco
 go_enter Tryz.func30, Tryz.ntmps30
 go_upto_region 1 with fail
 refine wp_world (fun W => At W w.heap.size #[.slice ra m.regs.length rc, .slice ca m.comps.length cc, .slice (some ⟨b, off, none⟩) m.gates.length gc, .int .i64 m.depth] ∧ Below w.heap.size w W) ⟨At.new w _ _, (Below.refl _ _).alloc (Nat.le_refl _) _⟩ ?_
 rintro W0 ⟨A0, hB0⟩
 have k2 : W0.cell? ⟨w.heap.size, 2, none⟩ = some (.slice (some ⟨b, off, none⟩) m.gates.length gc) := A0.2.1 2
 replace A0 := Hz.mk A0
 have hs0 := hB0.size
 replace hB0 := Hz.mk hB0
 go_upto_region 2 with fail
 refine wp_world (fun W => At W w.heap.size #[.slice ra m.regs.length rc, .slice ca m.comps.length cc, .slice (some ⟨b, off, none⟩) m.gates.length gc, .int .i64 m.depth] ∧ At W W0.heap.size (boolA m.gates.length (calK L en 0)) ∧ Below W0.heap.size W0 W) ⟨at_past A0.out (bl_alloc _ _), by rw [boolA_congr (g := fun _ => false) (fun z _ => by simp [calK])]; exact boolA_new W0 m.gates.length 4, bl_alloc _ _⟩ ?_
 rintro W ⟨A1, AL, hB1⟩
 clear k2
 have k0 : W.cell? ⟨w.heap.size, 0, none⟩ = some (.slice ra m.regs.length rc) := A1.2.1 0
 have k1 : W.cell? ⟨w.heap.size, 1, none⟩ = some (.slice ca m.comps.length cc) := A1.2.1 1
 have k2 : W.cell? ⟨w.heap.size, 2, none⟩ = some (.slice (some ⟨b, off, none⟩) m.gates.length gc) := A1.2.1 2
 have k3 : W.cell? ⟨w.heap.size, 3, none⟩ = some (.int .i64 m.depth) := A1.2.1 3
 have hl0 : w.heap.size ≤ W0.heap.size := hs0
 have hll := AL.1
 have hB := Hz.mk (hB0.out.trans (hB1.mono hs0))
 generalize W0.heap.size = lb at *
 replace A0 := Hz.mk A1
 clear A1 hB1 hB0 hmk hs0
 have hBs := hB.out.size
 replace AL := Hz.mk AL
 go_upto_region 3 with (go_at_call 45; refine (hC.out _ hB.out).mono ?_; rintro r W1 ⟨ka, kc, rfl, l1, hB1⟩; replace l1 := Hz.mk l1; replace hB1 := Hz.mk hB1)
 clear k0 k1 k2 k3
 have A1 := at_past A0.out hB1.out
 have k2 : W1.cell? ⟨w.heap.size, 2, none⟩ = some (.slice (some ⟨b, off, none⟩) m.gates.length gc) := A1.2.1 2
 have hB2 : Below w.heap.size w W1 := hB.out.trans (hB1.out.mono hB.out.size)
 have g1 : W1.cell? ⟨b, off + g * 4 + 1, none⟩ = some (.int .i64 en) := (hB2.cell (p := ⟨b, _, none⟩) h1).trans c1
 have g2 : b < W1.heap.size := Nat.lt_of_lt_of_le h2 hB2.size
 have AL1 := Hz.mk (at_past AL.out hB1.out)
 have l1' := Hz.mk (l1.out.mono hB2.size)
 have hB2s := hB2.size
 have hs1 := hB1.out.size
 replace hB2 := Hz.mk hB2
 clear A0 hB hB1 A1 c1 hC AL
 go_upto_region 4 with (go_at_call 46; refine (hR.out _ kc ka l1'.out).mono ?_; rintro r W2 ⟨gb, rfl, hgb, aB, hB3⟩; replace aB := Hz.mk aB; replace hB3 := Hz.mk hB3)
 have hB4 : Below w.heap.size w W2 := hB2.out.trans (hB3.out.mono hB2s)
 have l2 : LIn w.heap.size W2 ka L := l1.out.below (hB3.out.mono hB2s)
 have AL2 := at_past AL1.out hB3.out
 have ltb := aB.out.1
 have hne : lb ≠ gb := by omega
 have st : Hz (At W2 lb (boolA m.gates.length (calK L en 0)) ∧ At W2 gb (boolA L.length (rchB L [(en : Int)] (-1))) ∧ LIn w.heap.size W2 ka L ∧ Below w.heap.size w W2) := Hz.mk ⟨AL2, aB.out, l2, hB4⟩
 clear AL1 k2 g1 g2 hB2 l1' l1 hB3 hgb hR hB4 l2 AL2 ltb aB
 generalize hG : m.gates.length = G at *
 replace hG := Hz.mk hG
 go_upto_region 5 with fail
 go_loopw [8] (fun iv wr => ∃ j : Nat, iv = .int .i64 j ∧ j ≤ L.length ∧ Hz (At wr lb (boolA G (calK L en j)) ∧ At wr gb (boolA L.length (rchB L [(en : Int)] (-1))) ∧ LIn w.heap.size wr ka L ∧ Below w.heap.size w wr)) (fun iv _ => L.length - (intOf iv).toNat)
 case atStart => exact ⟨0, rfl, by omega, st⟩
 case round =>
   clear st
   obtain ⟨j, rfl, hj, ⟨hA, hR, hl, hB⟩⟩ := hrel
   by_cases hlt : j < L.length
   · have hi1 : (j : Int) < L.length := by omega
     have hzb := bool_at hR j hlt
     obtain ⟨bb, oo, rfl, hbw, hbb, five⟩ := hl j hlt
     have f0 := five.1
     have f4 := five.2.2.2.2
     have heg : L[j]? = some L[j] := List.getElem?_eq_getElem hlt
     have hst := calK_step L en j
     clear five
     cases hr : rchB L [(en : Int)] (-1) j with
     | false =>
       have hcb : calB L en j = false := by unfold calB; rw [hr]; rfl
       rw [hr] at hzb
       have hnew : Hz (At wr lb (boolA G (calK L en (j + 1))) ∧ At wr gb (boolA L.length (rchB L [(en : Int)] (-1))) ∧ LIn w.heap.size wr (some ⟨bb, oo, none⟩) L ∧ Below w.heap.size w wr) := Hz.mk ⟨by rw [boolA_congr (g := calK L en j) (fun z _ => by rw [hst, hcb]; rfl)]; exact hA, hR, hl, hB⟩
       generalize L[j] = ins at *
       replace hst := Hz.mk hst
       replace heg := Hz.mk heg
       replace hcb := Hz.mk hcb
       replace hr := Hz.mk hr
       replace hA := Hz.mk hA
       replace hR := Hz.mk hR
       replace hl := Hz.mk hl
       replace hB := Hz.mk hB
       go_wp2_with fail
       go_roundw
       all_goals first | exact ⟨j + 1, by simp, by omega, hnew⟩ | (simp only [intOf]; omega)
     | true =>
       rw [hr] at hzb
       by_cases ho : L[j].op = 31
       · have hcb : calB L en j = true := by unfold calB; rw [hr, heg]; show (true && L[j].op == 31) = true; rw [ho]; rfl
         have him : imF L j = L[j].m.toNat := by unfold imF; rw [heg]
         have hcl := hok.out L[j] (List.getElem_mem hlt) ho
         have hmm : L[j].m = (L[j].m.toNat : Int) := by omega
         have hmG : L[j].m.toNat < G := by have := hG.out; omega
         rw [ho] at f0
         rw [hmm] at f4
         rw [him] at hst
         generalize L[j].m.toNat = mm at *
         have hmi : (mm : Int) < G := by omega
         have hzm := bool_at hA mm hmG
         have hfy := hA.2.2
         have hgy := hA.1
         have hnew : Hz (At (wr.setCell ⟨lb, mm, none⟩ (.bool true)) lb (boolA G (calK L en (j + 1))) ∧ At (wr.setCell ⟨lb, mm, none⟩ (.bool true)) gb (boolA L.length (rchB L [(en : Int)] (-1))) ∧ LIn w.heap.size (wr.setCell ⟨lb, mm, none⟩ (.bool true)) (some ⟨bb, oo, none⟩) L ∧ Below w.heap.size w (wr.setCell ⟨lb, mm, none⟩ (.bool true))) := Hz.mk ⟨boolA_put hA mm true hmG (fun z _ => by rw [hst, hcb, if_pos rfl]), hR.other (by omega) mm [.bool true], hl.below ((Below.refl _ _).setCell hl0 _), hB.setCell hl0 _⟩
         clear hmm hcl him
         generalize L[j] = ins at *
         replace hst := Hz.mk hst
         replace heg := Hz.mk heg
         replace hcb := Hz.mk hcb
         replace hr := Hz.mk hr
         replace hA := Hz.mk hA
         replace hR := Hz.mk hR
         replace hl := Hz.mk hl
         replace hB := Hz.mk hB
         go_wp2_with fail
         go_roundw
         all_goals first | exact ⟨j + 1, by simp, by omega, hnew⟩ | (simp only [intOf]; omega)
       · have hcb : calB L en j = false := by unfold calB; rw [hr, heg]; show (true && L[j].op == 31) = false; simpa using ho
         have e1 : (L[j].op == 31) = false := by simpa using ho
         have hnew : Hz (At wr lb (boolA G (calK L en (j + 1))) ∧ At wr gb (boolA L.length (rchB L [(en : Int)] (-1))) ∧ LIn w.heap.size wr (some ⟨bb, oo, none⟩) L ∧ Below w.heap.size w wr) := Hz.mk ⟨by rw [boolA_congr (g := calK L en j) (fun z _ => by rw [hst, hcb]; rfl)]; exact hA, hR, hl, hB⟩
         generalize L[j] = ins at *
         replace hst := Hz.mk hst
         replace heg := Hz.mk heg
         replace hcb := Hz.mk hcb
         replace hr := Hz.mk hr
         replace hA := Hz.mk hA
         replace hR := Hz.mk hR
         replace hl := Hz.mk hl
         replace hB := Hz.mk hB
         go_wp2_with fail
         go_roundw
         all_goals first | exact ⟨j + 1, by simp, by omega, hnew⟩ | (simp only [intOf]; omega)
   · have hi1 : ¬ (j : Int) < L.length := by omega
     have ej : j = L.length := by omega
     subst ej
     have hfin : Hz (At wr lb (boolA G (fun h => decide (h ∈ calL L (en : Int))))) := Hz.mk (by rw [boolA_congr (g := calK L en L.length) (fun z _ => hall.out z)]; exact hA)
     replace hA := Hz.mk hA
     replace hR := Hz.mk hR
     replace hl := Hz.mk hl
     replace hB := Hz.mk hB
     go_wp2_with fail
     go_ret
     exact ⟨lb, by rw [hG.out]; rfl, hl0, by rw [hG.out]; exact hfin.out, hB.out⟩
end Bd
end Go.Proofs.YtdlcphinjnnhcaaGreatDoor


namespace Go.Proofs.YtdlcphinjnnhcaaGreatDoor
set_option maxRecDepth 100000
set_option maxHeartbeats 40000000
namespace Bd
open Go.RowKit
open F (IOwn own_slice cnt cnt_congr cnt_le aN)

theorem Ir.congr {K : IntKind} {w : World} {kr n : Nat} {F F' : Nat → Int} (h : Ir K w kr n F) (e : ∀ q, q < n → F q = F' q) : Ir K w kr n F' := ⟨h.lt, h.fr, fun q hq => by rw [← e q hq]; exact h.c q hq⟩
def irB (w : World) (kr : Nat) (q : Nat) : Bool := match w.cell? ⟨kr, q, none⟩ with | some (.int _ v) => decide (0 ≤ v) | _ => false
theorem cnt_irB {w : World} {kr n : Nat} {F : Nat → Int} {K : IntKind} (h : Ir K w kr n F) : cnt n (irB w kr) = cnt n (fun q => decide (0 ≤ F q)) :=
 cnt_congr n (fun q hq => by unfold irB; rw [h.c q hq])
theorem rep_snoc (i : Nat) : List.replicate (i + 1) (-1 : Int) = List.replicate i (-1) ++ [-1] := by rw [List.replicate_succ']
theorem own_some {w : World} {lo : Nat} {v : Value} {L : List Int} (h : IOwn w lo v L) (h0 : L ≠ []) : ∃ g cap, v = .slice (some ⟨g, 0, none⟩) L.length cap ∧ lo ≤ g := by
 rcases h.2 with h2 | ⟨g', cap', cur, hv, hbg, hg, rest⟩
 · exact absurd (List.length_eq_zero_iff.1 h2.2) h0
 · exact ⟨g', cap', hv, hbg⟩
theorem rep_ne : ∀ n, 0 < n → List.replicate n (-1 : Int) ≠ []
 | 0, h => by omega
 | n + 1, _ => by simp [List.replicate_succ]
theorem depthsD_any (m : PImg) (ra ca ga : Option Addr) (rc cc gc : Nat) (h0 : 0 < m.gates.length) (hok : BOk m) (w : World) (hm : ImgIn w.heap.size w ra ca ga m) :
   Calls Tryz.prog 23 #[imA m ra rc ca cc ga gc] w fun e w' => ∃ kr cap, e = .returned (.slice (some ⟨kr, 0, none⟩) m.gates.length cap) ∧ w.heap.size ≤ kr ∧ Ir .i64 w' kr m.gates.length (dpV m) ∧ Below w.heap.size w w' := by
 have hC := Hz.mk (fun W g (q : Below w.heap.size w W) (hg : g < m.gates.length) => callsD_any m ra ca ga rc cc gc g hg hok W ((hm.below q).mono q.size))
 have hgl := hok.gl
 have hfind := Hz.mk (fun l0 l a g (h : Dw m l0 l a g) c hg hc => h.find hok hg (c := c) hc)
 have hval := Hz.mk (fun l0 l a g (h : Dw m l0 l a g) => h.val hok.gl)
 have hover := Hz.mk (fun l0 l a (h : Dw m l0 l a m.gates.length) => h.over hok)
 have hdone := Hz.mk (fun l (h : Dq m l false) => h.done hok)
 have hnin := Hz.mk (fun g (hg : g < m.gates.length) x (hx : x ∈ nxG m g) => List.mem_range.1 (nxG_in hok g (List.mem_range.2 hg) x hx))
 unfold imA at *
 clear hm hok
 go_enter Tryz.func23, Tryz.ntmps23
 go_upto_region 1 with fail
 refine wp_world (fun W => At W w.heap.size #[.slice ra m.regs.length rc, .slice ca m.comps.length cc, .slice ga m.gates.length gc, .int .i64 m.depth] ∧ Below w.heap.size w W) ⟨At.new w _ _, (Below.refl _ _).alloc (Nat.le_refl _) _⟩ ?_
 rintro W ⟨A0, hB⟩
 have hWs := hB.size
 have hlw := A0.1
 have KS : ∀ X, Below W.heap.size W X → X.cell? ⟨w.heap.size, 0, none⟩ = some (.slice ra m.regs.length rc) ∧ X.cell? ⟨w.heap.size, 1, none⟩ = some (.slice ca m.comps.length cc) ∧ X.cell? ⟨w.heap.size, 2, none⟩ = some (.slice ga m.gates.length gc) ∧ X.cell? ⟨w.heap.size, 3, none⟩ = some (.int .i64 m.depth) := fun X q => by
   have a := (at_past A0 q).2.1
   exact ⟨a 0, a 1, a 2, a 3⟩
 have BS := Hz.mk (fun X (q : Below W.heap.size W X) => hB.trans (q.mono hWs))
 replace KS := Hz.mk KS
 clear A0 hB
 go_upto_region 3 with fail
 go_loopw [3, 4] (fun v x wr => ∃ i : Nat, x = .int .i64 i ∧ i ≤ m.gates.length ∧ Hz (IOwn wr W.heap.size v (List.replicate i (-1)) ∧ Below W.heap.size W wr)) (fun _ x _ => m.gates.length - (intOf x).toNat)
 case atStart => exact ⟨0, rfl, by omega, Hz.mk ⟨own_nilD _ _, Below.refl _ _⟩⟩
 case round =>
   obtain ⟨i, rfl, hi, ⟨h1, h2⟩⟩ := hrel
   obtain ⟨-, -, k2, -⟩ := KS.out wr h2
   by_cases hlt : i < m.gates.length
   · have hi1 : (i : Int) < m.gates.length := by omega
     have hs := rep_snoc i
     have hl : (List.replicate i (-1 : Int)).length = i := by simp
     obtain ⟨va, vc, rfl⟩ := own_slice h1
     rw [hl] at h1 ⊢
     generalize List.replicate i (-1 : Int) = l at *
     have hsz := h2.size
     have hrow := fun X (q : Below wr.heap.size wr X) => (show IOwn X W.heap.size (.slice va i vc) l from own_below h1 q)
     have hlk := fun k r => (World.ownsRow.lt h1 k r).1
     replace hrow := Hz.mk hrow
     replace h1 := Hz.mk h1
     replace h2 := Hz.mk h2
     replace hs := Hz.mk hs
     replace hlk := Hz.mk hlk
     go_wp2_with (first | (at_builtin; refine F.wpList_append_int rfl (.tmp 17) (.tmp 18) rfl W.heap.size (.slice va i vc) l (-1 : Int) rfl (hrow.out _ (bl_alloc _ _)) wr.heap.size rfl (At.new _ _ _) (by omega) (by simp; omega) ?_))
     intro g cap w2 g1 g2 g3 g4
     have hnw : Hz (IOwn w2 W.heap.size (.slice (some ⟨g, 0, none⟩) (i + 1) cap) (List.replicate (i + 1) (-1)) ∧ Below W.heap.size W w2) := Hz.mk ⟨by rw [hs.out]; exact g1, (h2.out.trans ((bl_alloc _ _).mono hsz)).trans (Below.of_grown g2 (by simp; omega) (fun k r => hlk.out k r))⟩
     replace g1 := Hz.mk g1
     replace g2 := Hz.mk g2
     clear k2
     go_wp2_with fail
     go_roundw
     all_goals first | exact ⟨i + 1, by simp, by omega, hnw⟩ | (simp only [intOf]; omega)
   · have hi1 : ¬ (i : Int) < m.gates.length := by omega
     have ei : i = m.gates.length := by omega
     subst ei
     obtain ⟨kr, cap, hv, hlo⟩ := own_some h1 (rep_ne _ h0)
     rw [List.length_replicate] at hv
     subst hv
     have hI : Ir .i64 wr kr m.gates.length (fun _ => -1) := by
       have h3 : IOwn wr W.heap.size (.slice (some ⟨kr, 0, none⟩) (List.replicate m.gates.length (-1 : Int)).length cap) (List.replicate m.gates.length (-1)) := by rw [List.length_replicate]; exact h1
       have := Ir.of_own h3
       rw [List.length_replicate] at this
       exact this.congr (fun q hq => by rw [List.getD_eq_getElem?_getD, List.getElem?_replicate, if_pos hq]; rfl)
     have hst : Hz (Ir .i64 wr kr m.gates.length (fun _ => -1) ∧ Dq m (fun _ => -1) true ∧ Below W.heap.size W wr) := Hz.mk ⟨hI, Dq.start m, h2⟩
     clear h1 h2 hI
     go_upto_region 7 with fail
     clear k2
     rename World => wo
     go_loopw [5] (fun b wr => ∃ (a : Bool) (l : Nat → Int), b = .bool a ∧ Hz (Ir .i64 wr kr m.gates.length l ∧ Dq m l a ∧ Below W.heap.size W wr)) (fun b wr => 2 * (m.gates.length - cnt m.gates.length (irB wr kr)) + aN b)
     case atStart => exact ⟨true, _, rfl, hst⟩
     case round =>
       clear hst
       obtain ⟨a, l0, rfl, ⟨j1, j2, j3⟩⟩ := hrel
       cases a with
       | false =>
         have hfin : Hz (Ir .i64 wr kr m.gates.length (dpV m)) := Hz.mk (j1.congr (fun q hq => hdone.out l0 j2 q hq))
         replace j1 := Hz.mk j1
         replace j2 := Hz.mk j2
         replace j3 := Hz.mk j3
         go_wp2_with fail
         go_ret
         exact ⟨_, _, rfl, Nat.le_trans hWs hlo, hfin.out, BS.out _ j3.out⟩
       | true =>
         have hS0 : Hz (Ir .i64 wr kr m.gates.length l0 ∧ Dw m l0 l0 false 0 ∧ Below W.heap.size W wr) := Hz.mk ⟨j1, Dw.start j2.snd, j3⟩
         have hm0 := cnt_irB j1
         replace j1 := Hz.mk j1
         replace j2 := Hz.mk j2
         replace j3 := Hz.mk j3
         go_upto_region 10 with fail
         rename World => wp
         go_loopw [5, 6] (fun b x wr => ∃ (a : Bool) (l : Nat → Int) (g : Nat), b = .bool a ∧ x = .int .i64 g ∧ g ≤ m.gates.length ∧ Hz (Ir .i64 wr kr m.gates.length l ∧ Dw m l0 l a g ∧ Below W.heap.size W wr)) (fun _ x _ => m.gates.length - (intOf x).toNat)
         case atStart => exact ⟨false, l0, 0, rfl, rfl, by omega, hS0⟩
         case round =>
           clear hS0
           obtain ⟨a, l, g, rfl, rfl, hg, ⟨n1, n2, n3⟩⟩ := hrel
           obtain ⟨k0, k1, k2, k3⟩ := KS.out wr n3
           by_cases hgl2 : g < m.gates.length
           · have hg1 : (g : Int) < m.gates.length := by omega
             have hCg := Hz.mk (hC.out wr g (BS.out wr n3) hgl2)
             have hfd := Hz.mk (hfind.out l0 l a g n2 (fun h => decide (h ∈ nxG m g)) hgl2 (fun x _ => by simp))
             have hvl := hval.out l0 l a g n2
             have hrs := n3.size
             have hkl := n1.lt
             replace n1 := Hz.mk n1
             replace n2 := Hz.mk n2
             replace n3 := Hz.mk n3
             go_upto_region 13 with (go_at_call 30; refine hCg.out.mono ?_; rintro r w1 ⟨gb, rfl, hgb, aB, hb1⟩; replace aB := Hz.mk aB; replace hb1 := Hz.mk hb1)
             clear k0 k1 k2 k3 hCg
             have p1 := Hz.mk (n1.out.below hb1.out)
             have p3 := Hz.mk (n3.out.trans (hb1.out.mono hrs))
             have hin := Hz.mk (fun x hx => hnin.out g hgl2 x hx)
             clear n1 n3 hb1
             generalize hcF : (fun h => decide (h ∈ nxG m g)) = c at *
             replace hcF := Hz.mk hcF
             go_upto_region 15 with fail
             rename World => w1
             go_loopw [8, 9] (fun d x wx => ∃ h : Nat, d = .int .i64 (dnD c l h) ∧ x = .int .i64 h ∧ h ≤ m.gates.length ∧ w1 = wx) (fun _ x _ => m.gates.length - (intOf x).toNat)
             case atStart => exact ⟨0, rfl, rfl, by omega, rfl⟩
             case round =>
               obtain ⟨h, rfl, rfl, hh, hwx⟩ := hrel
               subst hwx
               by_cases hhl : h < m.gates.length
               · have hh1 : (h : Int) < m.gates.length := by omega
                 have zc := bool_at aB.out h hhl
                 have zl := p1.out.c h hhl
                 have hzg := aB.out.1
                 have hzk := p1.out.lt
                 have hv := hvl h hhl
                 have hd0 := dnD_lo c l h
                 have hd1 := dnD_hi (c := c) (l := l) (b := 16) (by omega) h (fun x hx => by have := hvl x (by omega); omega)
                 have hs : dnD c l (h + 1) = if c h = true then (if l h < 0 then -1 else if 0 ≤ dnD c l h ∧ dnD c l h < l h + 1 then l h + 1 else dnD c l h) else dnD c l h := rfl
                 have w1w : wrap64 (l h + 1) = l h + 1 := by unfold wrap64; omega
                 have w1x : IntKind.i64.wrap (l h + 1) = l h + 1 := by rw [IntKind.wrap_i64]; omega
                 cases hc : c h with
                 | false =>
                   rw [hc] at zc hs
                   have hs2 := Hz.mk (show dnD c l (h + 1) = dnD c l h from by rw [hs]; rw [if_neg Bool.false_ne_true])
                   clear hs
                   generalize hdd : dnD c l h = d at *
                   generalize hlh : l h = lh at *
                   replace hdd := Hz.mk hdd
                   replace hlh := Hz.mk hlh
                   replace hvl := Hz.mk hvl
                   replace hc := Hz.mk hc
                   replace hd0 := Hz.mk hd0
                   replace hd1 := Hz.mk hd1
                   replace hv := Hz.mk hv
                   go_wp2_with fail
                   go_roundw
                   all_goals first | exact ⟨h + 1, by rw [hs2.out], by first | rfl | simp, by omega, by trivial⟩ | (simp only [intOf]; omega)
                 | true =>
                   rw [hc] at zc hs
                   by_cases q1 : l h < 0
                   · have q1' : ¬ 0 ≤ l h := by omega
                     have hs2 := Hz.mk (show dnD c l (h + 1) = -1 from by rw [hs]; rw [if_pos rfl, if_pos q1])
                     clear hs
                     generalize hdd : dnD c l h = d at *
                     generalize hlh : l h = lh at *
                     replace hdd := Hz.mk hdd
                     replace hlh := Hz.mk hlh
                     replace hvl := Hz.mk hvl
                     replace hc := Hz.mk hc
                     replace hd0 := Hz.mk hd0
                     replace hd1 := Hz.mk hd1
                     replace hv := Hz.mk hv
                     go_wp2_with fail
                     go_roundw
                     all_goals first | exact ⟨h + 1, by rw [hs2.out], by first | rfl | simp, by omega, by trivial⟩ | (simp only [intOf]; omega)
                   · have q1' : 0 ≤ l h := by omega
                     by_cases q2 : 0 ≤ dnD c l h
                     · by_cases q3 : dnD c l h < l h + 1
                       · skip
                         have hs2 := Hz.mk (show dnD c l (h + 1) = l h + 1 from by rw [hs]; rw [if_pos rfl, if_neg q1, if_pos ⟨q2, q3⟩])
                         clear hs
                         generalize hdd : dnD c l h = d at *
                         generalize hlh : l h = lh at *
                         replace hdd := Hz.mk hdd
                         replace hlh := Hz.mk hlh
                         replace hvl := Hz.mk hvl
                         replace hc := Hz.mk hc
                         replace hd0 := Hz.mk hd0
                         replace hd1 := Hz.mk hd1
                         replace hv := Hz.mk hv
                         go_wp2_with fail
                         go_roundw
                         all_goals first | exact ⟨h + 1, by rw [hs2.out], by first | rfl | simp, by omega, by trivial⟩ | (simp only [intOf]; omega)
                       · have q3' : l h + 1 ≤ dnD c l h := by omega
                         have hs2 := Hz.mk (show dnD c l (h + 1) = dnD c l h from by rw [hs]; rw [if_pos rfl, if_neg q1, if_neg (fun q => q3 q.2)])
                         clear hs
                         generalize hdd : dnD c l h = d at *
                         generalize hlh : l h = lh at *
                         replace hdd := Hz.mk hdd
                         replace hlh := Hz.mk hlh
                         replace hvl := Hz.mk hvl
                         replace hc := Hz.mk hc
                         replace hd0 := Hz.mk hd0
                         replace hd1 := Hz.mk hd1
                         replace hv := Hz.mk hv
                         go_wp2_with fail
                         go_roundw
                         all_goals first | exact ⟨h + 1, by rw [hs2.out], by first | rfl | simp, by omega, by trivial⟩ | (simp only [intOf]; omega)
                     · have q2' : dnD c l h < 0 := by omega
                       have hs2 := Hz.mk (show dnD c l (h + 1) = dnD c l h from by rw [hs]; rw [if_pos rfl, if_neg q1, if_neg (fun q => q2 q.1)])
                       clear hs
                       generalize hdd : dnD c l h = d at *
                       generalize hlh : l h = lh at *
                       replace hdd := Hz.mk hdd
                       replace hlh := Hz.mk hlh
                       replace hvl := Hz.mk hvl
                       replace hc := Hz.mk hc
                       replace hd0 := Hz.mk hd0
                       replace hd1 := Hz.mk hd1
                       replace hv := Hz.mk hv
                       go_wp2_with fail
                       go_roundw
                       all_goals first | exact ⟨h + 1, by rw [hs2.out], by first | rfl | simp, by omega, by trivial⟩ | (simp only [intOf]; omega)
               · have hh1 : ¬ (h : Int) < m.gates.length := by omega
                 have eh : h = m.gates.length := by omega
                 subst eh
                 have hgz := p1.out.c g hgl2
                 have hkl2 := p1.out.lt
                 have hkf := p1.out.fr g
                 have hvg := hvl g hgl2
                 have hd1 := dnD_hi (c := c) (l := l) (b := 16) (by omega) m.gates.length (fun x hx => by have := hvl x (by omega); omega)
                 have hd0 := dnD_lo c l m.gates.length
                 have hsk := fun (h : 0 ≤ l g ∨ ∃ x ∈ nxG m g, x < m.gates.length ∧ l x < 0) => n2.out.skip hgl2 h
                 have hpt := fun (q : l g < 0) {d : Int} (hd : 0 ≤ d) he => n2.out.put hgl2 q (d := d) hd he
                 by_cases q1 : 0 ≤ dnD c l m.gates.length
                 · have he : ev (nxG m) dpF (List.range m.gates.length) g = some (dnD c l m.gates.length) := by
                     rcases hfd.out with ⟨e, _⟩ | ⟨_, e⟩
                     · omega
                     · exact e
                   by_cases q2 : l g < 0
                   · have hnew : Hz (Ir .i64 (w1.setCell ⟨kr, g, none⟩ (.int .i64 (dnD c l m.gates.length))) kr m.gates.length (fun q => if q = g then dnD c l m.gates.length else l q) ∧ Dw m l0 (fun q => if q = g then dnD c l m.gates.length else l q) true (g + 1) ∧ Below W.heap.size W (w1.setCell ⟨kr, g, none⟩ (.int .i64 (dnD c l m.gates.length)))) := Hz.mk ⟨p1.out.put hgl2 _, hpt q2 q1 he, p3.out.setCell hlo _⟩
                     clear hsk hpt he
                     generalize dnD c l m.gates.length = d at *
                     generalize l g = lg at *
                     replace hvl := Hz.mk hvl
                     replace hvg := Hz.mk hvg
                     replace hd0 := Hz.mk hd0
                     replace hd1 := Hz.mk hd1
                     go_wp2_with fail
                     go_roundw
                     all_goals first | exact ⟨true, _, g + 1, rfl, by first | rfl | simp, by omega, hnew⟩ | (simp only [intOf]; omega)
                   · have q2' : 0 ≤ l g := by omega
                     have hnew : Hz (Ir .i64 w1 kr m.gates.length l ∧ Dw m l0 l a (g + 1) ∧ Below W.heap.size W w1) := Hz.mk ⟨p1.out, hsk (.inl q2'), p3.out⟩
                     clear hsk hpt he
                     generalize dnD c l m.gates.length = d at *
                     generalize hlg : l g = lg at *
                     replace hlg := Hz.mk hlg
                     replace hvl := Hz.mk hvl
                     replace hvg := Hz.mk hvg
                     replace hd0 := Hz.mk hd0
                     replace hd1 := Hz.mk hd1
                     go_wp2_with fail
                     go_roundw
                     all_goals first | exact ⟨a, l, g + 1, rfl, by first | rfl | simp, by omega, hnew⟩ | (simp only [intOf]; omega)
                 · have hnew : Hz (Ir .i64 w1 kr m.gates.length l ∧ Dw m l0 l a (g + 1) ∧ Below W.heap.size W w1) := Hz.mk ⟨p1.out, hsk (by
                     rcases hfd.out with ⟨_, x, e1, e2⟩ | ⟨e, _⟩
                     · exact .inr ⟨x, e1, hin.out x e1, e2⟩
                     · exact absurd e q1), p3.out⟩
                   clear hsk hpt
                   have q1' : dnD c l m.gates.length < 0 := by omega
                   generalize dnD c l m.gates.length = d at *
                   generalize hlg : l g = lg at *
                   replace hlg := Hz.mk hlg
                   replace hvl := Hz.mk hvl
                   replace hvg := Hz.mk hvg
                   replace hd0 := Hz.mk hd0
                   replace hd1 := Hz.mk hd1
                   go_wp2_with fail
                   go_roundw
                   all_goals first | exact ⟨a, l, g + 1, rfl, by first | rfl | simp, by omega, hnew⟩ | (simp only [intOf]; omega)
           · have hg1 : ¬ (g : Int) < m.gates.length := by omega
             have eg : g = m.gates.length := by omega
             subst eg
             have hnew : Hz (Ir .i64 wr kr m.gates.length l ∧ Dq m l a ∧ Below W.heap.size W wr) := Hz.mk ⟨n1, hover.out l0 l a n2, n3⟩
             have hm1 := cnt_irB n1
             have hm3 : a = true → cnt m.gates.length (fun q => decide (0 ≤ l0 q)) + 1 ≤ cnt m.gates.length (fun q => decide (0 ≤ l q)) := n2.on
             have hm4 : a = false → cnt m.gates.length (fun q => decide (0 ≤ l q)) = cnt m.gates.length (fun q => decide (0 ≤ l0 q)) := fun e => cnt_congr m.gates.length (fun q hq => by rw [n2.off e q hq])
             have hm2 := cnt_le m.gates.length (fun q => decide (0 ≤ l q))
             have hme : 2 * (m.gates.length - cnt m.gates.length (irB wr kr)) + aN (.bool a) < 2 * (m.gates.length - cnt m.gates.length (irB wp kr)) + aN (.bool true) := by
               rw [hm1, hm0]
               cases a with
               | true => have := hm3 rfl; simp only [aN]; omega
               | false => have := hm4 rfl; simp only [aN]; omega
             replace n1 := Hz.mk n1
             replace n2 := Hz.mk n2
             replace n3 := Hz.mk n3
             replace hme := Hz.mk hme
             replace hm3 := Hz.mk hm3
             replace hm4 := Hz.mk hm4
             go_wp2_with fail
             go_roundw
             all_goals first | exact ⟨a, l, rfl, hnew⟩ | exact hme.out
end Bd
end Go.Proofs.YtdlcphinjnnhcaaGreatDoor


namespace Go.Proofs.YtdlcphinjnnhcaaGreatDoor
set_option maxRecDepth 100000
set_option maxHeartbeats 40000000
namespace Bd
open Go.RowKit
open T (Kp)
open F (thB nxtI folB IOwn own_slice own_nin)

structure CTurn (B : Nat) (N : List Nat) (lo : Nat) (v : Value) (n : Nat) (L : List Ins) (ka : Option Addr) (kc kt kr ko k0 : Nat) (im : Array Value) (F : Nat → Option Cst) (c : Int) (wr : World) : Prop where
 v : IOwn wr lo v (N.map (fun q : Nat => (q : Int)))
 r : Cr wr kr n F
 o : At wr ko #[.bool true, .int .u64 0, .int .u64 c, .int .u64 0]
 t : At wr kt #[.slice ka L.length kc, .slice (some ⟨kr, 0, none⟩) n n]
 i : At wr k0 im
 z : At wr (k0 + 1) #[.bool false, .int .u64 0, .int .u64 0, .int .u64 0]
 l : LIn B wr ka L
 s : wr.heap.size ≥ lo
theorem CTurn.kp {B : Nat} {N : List Nat} {lo : Nat} {v : Value} {n : Nat} {L : List Ins} {ka : Option Addr} {kc kt kr ko k0 : Nat} {im : Array Value} {F : Nat → Option Cst} {c : Int} {wr w2 : World} {S : Nat → Prop} (h : CTurn B N lo v n L ka kc kt kr ko k0 im F c wr) (hk : Kp S wr w2) (hB : B ≤ wr.heap.size) (h0 : ∀ k, S k → B ≤ k ∧ k < lo ∧ k ≠ kr ∧ k ≠ ko ∧ k ≠ kt ∧ k ≠ k0 ∧ k ≠ k0 + 1) : CTurn B N lo v n L ka kc kt kr ko k0 im F c w2 :=
 ⟨own_kp' h.v hk (fun g hg q => by have := (h.v.lt g hg).1; have := (h0 g q).2.1; omega), h.r.keep hk (fun q => (h0 _ q).2.2.1 rfl), at_keep h.o hk (fun q => (h0 _ q).2.2.2.1 rfl), at_keep h.t hk (fun q => (h0 _ q).2.2.2.2.1 rfl), at_keep h.i hk (fun q => (h0 _ q).2.2.2.2.2.1 rfl), at_keep h.z hk (fun q => (h0 _ q).2.2.2.2.2.2 rfl), h.l.below (hk.below hB (fun k q => (h0 k q).1)), Nat.le_trans h.s hk.size⟩
theorem rowF_nil (N : List Nat) : rowF N [] = fun _ => none := by unfold rowF; cases N <;> rfl
theorem aft_above {ε : Type} {p : Pl} {enc : Option ε → Value} {nx : Nat → List Nat} {f : Nat → List ε → Option ε} {U : List Nat} {S S' : Nat → Prop} {M M0 : Nat → Option (Option ε)} {nn n0 : Nat} {w wr w2 : World} (h0 : Rem p enc w n0 M0) (h : Aft p enc nx f U S M nn w wr) (hk : Kp S' wr w2) (hS : ∀ k, S' k → w.heap.size ≤ k) : Aft p enc nx f U S M nn w w2 := by
 obtain ⟨M', nn', r1, r2, r3, r4, r5⟩ := h
 exact ⟨M', nn', r1.above h0 hk hS, r2, r3, r4, r5.trans hk (fun k q => .inr (hS k q))⟩
theorem cut_r {X Y : Prop} (h : T.Hid X → Y) (x : X) : Y := h ⟨x⟩
theorem costOf_any (B km : Nat) (m : PImg) (ra : Option Addr) (rc : Nat) (ca : Option Addr) (cc : Nat) (ga : Option Addr) (gc : Nat) (hok : BOk m) (p : Pl) (hp : p.qf = 40) (hbB : B ≤ p.b) (hkm : km ≠ p.b) (d : Nat)
   (hask : AskC (IEnv B km m ra rc ca cc ga gc) p encc tupc (nxG m) (ctF m) (List.range m.gates.length) d)
   (w : World) (n : Nat) (S : Nat → Prop) (M : Nat → Option (Option Cst)) (nn : Nat) (hE : IEnv B km m ra rc ca cc ga gc w) (hR : Rem p encc w nn M) (hS : Memo (nxG m) (ctF m) (List.range m.gates.length) (fun x => S x ∨ x = n) M) (hA : ∀ q, S q → Anc (nxG m) (ctF m) q n) (hn : n ∈ List.range m.gates.length) (hl : left (List.range m.gates.length) M ≤ d) (hb : nn + 2 * left (List.range m.gates.length) M ≤ 1000000) :
   Calls Tryz.prog 29 #[imA m ra rc ca cc ga gc, .int .i64 n, p.qv] w fun r w' => r = .returned (tupc (ev (nxG m) (ctF m) (List.range m.gates.length) n)) ∧ Aft p encc (nxG m) (ctF m) (List.range m.gates.length) (fun x => S x ∨ x = n) M nn w w' := by
 have hU := nxG_in hok
 have hqv : p.qv = .func (.func 40) #[] #[.pointer (some ⟨p.kA, 0, none⟩), .pointer (some ⟨p.kF, 0, none⟩), .pointer (some ⟨p.kQ, 0, none⟩)] := by unfold Pl.qv pv; rw [hp]
 rw [hqv]
 have hn2 := List.mem_range.1 hn
 obtain ⟨k, hk, hgc, hgr⟩ := hok.gates n hn2
 obtain ⟨hcl, hco⟩ := hok.code k hk
 have hgl16 := hok.gl
 have hCo := Hz.mk (fun W (q : Below w.heap.size w W) => codeOf_any B m ra ca ga rc cc gc n k hn2 hk hgc W (hE.m.below (q.mono hE.le)) (Nat.le_trans hE.le q.size))
 have hNx := Hz.mk (fun W (q : Below w.heap.size w W) => calledBy_any m ra ca ga rc cc gc n k hn2 hk hgc (by omega) hco W (((hE.m.mono hE.le).below q).mono q.size))
 have hNl : (nxG m n).length ≤ 2000 := by
   rw [nxG_of hn2 hk hgc]
   have := calL_len m.comps[k].code m.gates[n].e
   omega
 rw [← nxG_of hn2 hk hgc] at hNx
 have hq := Hz.mk (fun W (e : IEnv B km m ra rc ca cc ga gc W) (M' : Nat → Option (Option Cst)) (nn' : Nat) (h1 : Rem p encc W nn' M') (h2 : Memo (nxG m) (ctF m) (List.range m.gates.length) (fun x => S x ∨ x = n) M') (h3 : More M M') (h4 : nn' + 2 * left (List.range m.gates.length) M' ≤ nn + 2 * left (List.range m.gates.length) M) (c : Nat) (hc : c ∈ nxG m n) => hask W c (fun x => S x ∨ x = n) M' nn' e h1 h2 (fun q hq => by
   rcases hq with hq | hq
   · exact (hA q hq).trans (anc_child hc)
   · subst hq; exact anc_child hc) (hU n hn c hc) (Nat.le_trans (left_more h3) hl) (by omega))
 rw [hp] at hq
 unfold pv at hq
 have evd : ∀ vs : List Cst, (nxG m n).map (ev (nxG m) (ctF m) (List.range m.gates.length)) = vs.map some → ev (nxG m) (ctF m) (List.range m.gates.length) n = ctF m n vs := fun vs h => ev_known hU hn h
 have evn : ∀ c, c ∈ nxG m n → ev (nxG m) (ctF m) (List.range m.gates.length) c = none → ev (nxG m) (ctF m) (List.range m.gates.length) n = none := fun c hc h => ev_none hU hn hc h
 have hstart : Aft p encc (nxG m) (ctF m) (List.range m.gates.length) (fun x => S x ∨ x = n) M nn w w := ⟨M, nn, hR, hS, More.refl M, Nat.le_refl _, Kp.refl _ _⟩
 have hEk := Hz.mk (fun W (q : Kp (fun k => k = p.b) w W) => hE.keep q hbB hkm)
 have hpb := hR.m.lt
 obtain ⟨bg, offg, xa, xc, ya, yc, hga, hbg1, hbg2, _, hge, -⟩ := hE.m.gates n hn2
 subst hga
 have hin : (n : Int) < (m.gates.length : Int) := by omega
 have hgin : ∀ c ∈ nxG m n, c < m.gates.length := fun c hc => List.mem_range.1 (hU n hn c hc)
 rw [← gcode_of hn2 hk hgc] at hCo hco hcl hgr
 rw [← gent_of hn2] at hge hgr
 have hle := Hz.mk hE.le
 have hct := Hz.mk (fun vs => (show ctF m n vs = match sumS (gcode m n) (stF (gcode m n) (sF (rowF (nxG m n) vs))) (gent m n).toNat with
   | none => none
   | some s => if 1099511627776 < s then none else some ⟨s, mcL vs, (sumS (gcode m n) (inF (gcode m n) (iF (rowF (nxG m n) vs))) (gent m n).toNat).getD 0⟩ from rfl))
 replace hE := Hz.mk hE
 replace hS := Hz.mk hS
 replace hR := Hz.mk hR
 replace hA := Hz.mk hA
 replace hU := Hz.mk hU
 replace hn := Hz.mk hn
 replace hstart := Hz.mk hstart
 replace evd := Hz.mk evd
 replace evn := Hz.mk evn
 replace hco := Hz.mk hco
 replace hgin := Hz.mk hgin
 clear hask hqv hb hl hgc hk hok
 generalize hN : nxG m n = N at *
 generalize hev : ev (nxG m) (ctF m) (List.range m.gates.length) = evv at *
 generalize List.range m.gates.length = U at *
 generalize gcode m n = L at *
 generalize gent m n = e0 at *
 unfold imA at *
 go_enter Tryz.func29, Tryz.ntmps29
 go_upto_region 1 with fail
 refine wp_world (fun W => At W w.heap.size #[.slice ra m.regs.length rc, .slice ca m.comps.length cc, .slice (some ⟨bg, offg, none⟩) m.gates.length gc, .int .i64 m.depth] ∧ At W (w.heap.size + 1) #[.bool false, .int .u64 0, .int .u64 0, .int .u64 0] ∧ Below w.heap.size w W) ⟨(At.new w _ _).alloc _, by simpa using At.new (w.alloc (.cells #[.slice ra m.regs.length rc, .slice ca m.comps.length cc, .slice (some ⟨bg, offg, none⟩) m.gates.length gc, .int .i64 m.depth] 26)) #[.bool false, .int .u64 0, .int .u64 0, .int .u64 0] 36, ((Below.refl _ _).alloc (Nat.le_refl _) _).alloc (by simp) _⟩ ?_
 rintro W ⟨A0, A1, hB⟩
 have hWs := hB.size
 have KS : ∀ X, Below W.heap.size W X → X.cell? ⟨w.heap.size, 0, none⟩ = some (.slice ra m.regs.length rc) ∧ X.cell? ⟨w.heap.size, 1, none⟩ = some (.slice ca m.comps.length cc) ∧ X.cell? ⟨w.heap.size, 2, none⟩ = some (.slice (some ⟨bg, offg, none⟩) m.gates.length gc) ∧ X.cell? ⟨w.heap.size, 3, none⟩ = some (.int .i64 m.depth) := fun X q => by
   have a := (at_keep A0 (Kp.of_below (S := fun _ => False) q) id).2.1
   exact ⟨a 0, a 1, a 2, a 3⟩
 replace A0 := Hz.mk A0
 replace A1 := Hz.mk A1
 replace hB := Hz.mk hB
 replace KS := Hz.mk KS
 have hBW : B ≤ W.heap.size := Nat.le_trans hle.out hWs
 have hmk := make_costs m.gates.length (by omega)
 apply cut_r
 · intro key
   go_region_held3 (fun X => X.cell? ⟨w.heap.size, 0, none⟩ = some (.slice ra m.regs.length rc) ∧ X.cell? ⟨w.heap.size, 1, none⟩ = some (.slice ca m.comps.length cc) ∧ X.cell? ⟨w.heap.size, 2, none⟩ = some (.slice (some ⟨bg, offg, none⟩) m.gates.length gc) ∧ X.cell? ⟨w.heap.size, 3, none⟩ = some (.int .i64 m.depth)) ((refine KS.out _ ?_; (repeat (first | with_reducible assumption | with_reducible exact Below.refl _ _ | with_reducible refine Below.alloc ?_ (by first | omega | (simp <;> omega)) _ | with_reducible refine Below.setCell ?_ (by first | omega | (simp <;> omega)) _ | with_reducible refine Below.drew ?_)))) (first | (go_at_call 41; refine (hCo.out _ (hB.out.trans (Below.mono (by (repeat (first | with_reducible assumption | with_reducible exact Below.refl _ _ | with_reducible refine Below.alloc ?_ (by first | omega | (simp <;> omega)) _ | with_reducible refine Below.setCell ?_ (by first | omega | (simp <;> omega)) _ | with_reducible refine Below.drew ?_))) hWs))).mono ?_; rintro y w1 ⟨ka, kc, rfl, q0, q1⟩; have Q1 : Below W.heap.size W w1 := Below.trans (by (repeat (first | with_reducible assumption | with_reducible exact Below.refl _ _ | with_reducible refine Below.alloc ?_ (by first | omega | (simp <;> omega)) _ | with_reducible refine Below.setCell ?_ (by first | omega | (simp <;> omega)) _ | with_reducible refine Below.drew ?_))) (q1.mono (by simp <;> omega)); have Q1s := Q1.size; (first | (have tA := at_keep (at_keep (At.new (W.alloc (.cells (madeCells #[Value.bool false, Value.int IntKind.u64 0, Value.int IntKind.u64 0, Value.int IntKind.u64 0] (m.gates.length * 4)) 36)) #[.slice none 0 0, .slice none 0 0] 105) (Kp.of_below (S := fun _ => False) (Below.refl _ _).drew) id) (Kp.of_below (S := fun _ => False) q1) id; have t0 : w1.cell? ⟨W.heap.size + 1, 0, none⟩ = some (.slice none 0 0) := (by simpa using tA.2.1 0); have t1 : w1.cell? ⟨W.heap.size + 1, 1, none⟩ = some (.slice none 0 0) := (by simpa using tA.2.1 1); have t2 : ∀ o, w1.frozen? ⟨W.heap.size + 1, o, none⟩ = false := (by simpa using tA.2.2); have t3 : W.heap.size + 1 < w1.heap.size := (by simpa using tA.1)) | (have tA := at_keep (at_keep (At.new W #[.slice none 0 0, .slice none 0 0] 105) (Kp.of_below (S := fun _ => False) (Below.refl _ _).drew) id) (Kp.of_below (S := fun _ => False) q1) id; have t0 : w1.cell? ⟨W.heap.size, 0, none⟩ = some (.slice none 0 0) := (by simpa using tA.2.1 0); have t1 : w1.cell? ⟨W.heap.size, 1, none⟩ = some (.slice none 0 0) := (by simpa using tA.2.1 1); have t2 : ∀ o, w1.frozen? ⟨W.heap.size, o, none⟩ = false := (by simpa using tA.2.2); have t3 : W.heap.size < w1.heap.size := (by simpa using tA.1)) | (have tA := at_keep (at_keep (At.new W #[.slice none 0 0, .slice none 0 0] 105) (Kp.of_below (S := fun _ => False) ((Below.refl _ _).alloc (Nat.le_refl _) _).drew) id) (Kp.of_below (S := fun _ => False) q1) id; have t0 : w1.cell? ⟨W.heap.size, 0, none⟩ = some (.slice none 0 0) := (by simpa using tA.2.1 0); have t1 : w1.cell? ⟨W.heap.size, 1, none⟩ = some (.slice none 0 0) := (by simpa using tA.2.1 1); have t2 : ∀ o, w1.frozen? ⟨W.heap.size, o, none⟩ = false := (by simpa using tA.2.2); have t3 : W.heap.size < w1.heap.size := (by simpa using tA.1)) | skip)))
   all_goals
     have hB1 : B ≤ w1.heap.size := Nat.le_trans hBW Q1s
   · have R := reg1 (n := m.gates.length) (kc := kc) hB1 q0 Q1
     clear hB1 q0 q1 Q1 Q1s
     rename_i hhe
     clear hhe
     generalize w1.heap.size + 1 = kt at R ⊢
     generalize w1.heap.size = kr at R ⊢
     revert R
     generalize ((w1.alloc (.cells (madeCells #[Value.bool false, .int .u64 0, .int .u64 0, .int .u64 0] (m.gates.length * 4)) 36)).alloc (.cells #[.slice ka L.length kc, .slice (some ⟨kr, 0, none⟩) m.gates.length m.gates.length] 105)) = Y
     revert Y kt kr ka kc
     exact key.out
   · exact key.out _ _ _ _ _ (reg2 hB1 q0 Q1)
   · exact key.out _ _ _ _ _ (reg3 hB1 q0 Q1 (by have := q1.size; simp at this; omega) q1)
   · exact key.out _ _ _ _ _ (reg4 hB1 q0 Q1 hBW q1)
   · exact key.out _ _ _ _ _ (reg5 hB1 q0 Q1 hBW q1)
   · exact key.out _ _ _ _ _ (reg6 hB1 q0 Q1 hBW q1)
 intro ka kc kt kr Y R
 have hYs := R.b.size
 have hA0 := at_past A0.out R.b
 have hA1 := at_past A1.out R.b
 have hbY : Below w.heap.size w Y := hB.out.trans (R.b.mono hWs)
 have t0 := R.t0
 have r0 := R.r0
 have tlt := R.t.1
 have rlt := R.r.lt
 have rne := R.ne
 replace R := Hz.mk R
 replace hA0 := Hz.mk hA0
 replace hA1 := Hz.mk hA1
 replace hbY := Hz.mk hbY
 have hW1 := A1.out.1
 clear A0 A1 KS hmk hCo hB
 go_upto_region 3 with fail
 refine wp_world (fun Z => At Z Y.heap.size #[.bool true, .int .u64 0, .int .u64 0, .int .u64 0] ∧ Below Y.heap.size Y Z) ⟨At.new Y _ _, (Below.refl _ _).alloc (Nat.le_refl _) _⟩ ?_
 rintro Z ⟨aO, hZ⟩
 have hZs := hZ.size
 have olt := aO.1
 have a0 := (at_past hA0.out hZ).2.1
 have k0 : Z.cell? ⟨w.heap.size, 0, none⟩ = some (.slice ra m.regs.length rc) := a0 0
 have k1 : Z.cell? ⟨w.heap.size, 1, none⟩ = some (.slice ca m.comps.length cc) := a0 1
 have k2 : Z.cell? ⟨w.heap.size, 2, none⟩ = some (.slice (some ⟨bg, offg, none⟩) m.gates.length gc) := a0 2
 have k3 : Z.cell? ⟨w.heap.size, 3, none⟩ = some (.int .i64 m.depth) := a0 3
 have hbZ : Below w.heap.size w Z := hbY.out.trans (hZ.mono (Nat.le_trans hWs hYs))
 replace aO := Hz.mk aO
 replace hZ := Hz.mk hZ
 replace hbZ := Hz.mk hbZ
 clear a0
 go_upto_region 4 with (go_at_call 36; refine (hNx.out _ hbZ.out).mono ?_; rintro r W1 ⟨v, rfl, y1, y2⟩; obtain ⟨va, vc, rfl⟩ := own_slice y1; rw [List.length_map] at y1; replace y1 := Hz.mk y1; replace y2 := Hz.mk y2)
 clear k0 k1 k2 k3
 have hb1 : Below w.heap.size w W1 := hbZ.out.trans (y2.out.mono (Nat.le_trans hWs (Nat.le_trans hYs hZs)))
 have st0 : CTurn B N Z.heap.size (.slice va N.length vc) m.gates.length L ka kc kt kr Y.heap.size w.heap.size #[.slice ra m.regs.length rc, .slice ca m.comps.length cc, .slice (some ⟨bg, offg, none⟩) m.gates.length gc, .int .i64 m.depth] (fun _ => none) 0 W1 :=
   ⟨y1.out, (R.out.r.past hZ.out).past y2.out, at_past aO.out y2.out, at_past (at_past R.out.t hZ.out) y2.out, at_past (at_past hA0.out hZ.out) y2.out, at_past (at_past hA1.out hZ.out) y2.out, (R.out.l.below (hZ.out.mono (by omega))).below (y2.out.mono (by omega)), y2.out.size⟩
 generalize Z.heap.size = lo at *
 generalize Y.heap.size = ko at *
 replace st0 := Hz.mk st0
 replace hb1 := Hz.mk hb1
 have hlo : p.b < lo := by omega
 have hlk : kt < lo ∧ kr < lo ∧ ko < lo ∧ w.heap.size + 1 < lo := by have := hA1.out.1; omega
 clear hZ hbZ aO R hA0 hA1 hbY y1 y2 olt
 go_loopw [30] (fun iv wr => ∃ (j : Nat) (vs : List Cst), iv = .int .i64 j ∧ j ≤ N.length ∧ Hz (vs.length = j ∧ (N.take j).map (ev (nxG m) (ctF m) U) = vs.map some ∧ Aft p encc (nxG m) (ctF m) U (fun x => S x ∨ x = n) M nn w wr ∧ CTurn B N lo (.slice va N.length vc) m.gates.length L ka kc kt kr ko w.heap.size #[.slice ra m.regs.length rc, .slice ca m.comps.length cc, .slice (some ⟨bg, offg, none⟩) m.gates.length gc, .int .i64 m.depth] (rowF N vs) (mcL vs) wr)) (fun iv _ => N.length - (intOf iv).toNat)
 case atStart => exact ⟨0, [], rfl, by omega, Hz.mk ⟨rfl, rfl, aft_below hstart.out hb1.out, by rw [rowF_nil]; exact st0.out⟩⟩
 case round =>
   obtain ⟨j, vs, rfl, hj, hk⟩ := hrel
   obtain ⟨rfl, hev0, haft, hcn⟩ := hk.out
   clear hk
   by_cases hlt : vs.length < N.length
   · obtain ⟨b, off, ena, _, hb2, hc⟩ := own_nin hcn.v vs.length (by rw [List.length_map]; exact hlt)
     subst ena
     rw [List.getElem_map] at hc
     have hi1 : (vs.length : Int) < N.length := by omega
     obtain ⟨M', nn', r1, r2, r3, r4, r5⟩ := haft
     have hEr := hEk.out wr r5
     have hmem : N[vs.length] ∈ N := List.getElem_mem hlt
     have hcall := hq.out wr hEr M' nn' r1 r2 r3 r4 N[vs.length] hmem
     have hnx : ∀ x, evv N[vs.length] = some x → (N.take (vs.length + 1)).map (ev (nxG m) (ctF m) U) = (vs ++ [x]).map some := fun x hx => by
       rw [← hev] at hx
       rw [List.take_succ_eq_append_getElem hlt, List.map_append, hev0, List.map_append]
       simp [hx]
     have hrw := fun x => rowF_snoc N vs x hlt
     have hn2 := fun w2 (g : Aft p encc (nxG m) (ctF m) U (fun x => S x ∨ x = n) M' nn' wr w2) => (show Aft p encc (nxG m) (ctF m) U (fun x => S x ∨ x = n) M nn w w2 ∧ Kp (fun k => k = p.b) wr w2 by
       obtain ⟨M2, n2, g1, g2, g3, g4, g5⟩ := g
       exact ⟨⟨M2, n2, g1, g2, r3.trans g3, by omega, r5.trans g5 (fun k q => .inl q)⟩, g5⟩)
     have hev2 : ev (nxG m) (ctF m) U N[vs.length] = evv N[vs.length] := by rw [hev]
     (try rw [hev2] at hcall)
     have hno := evn.out N[vs.length] hmem
     have hcN := hgin.out N[vs.length] hmem
     have hwr := r5.size
     have hcs : (N[vs.length] : Int) < (m.gates.length : Int) := by omega
     clear hev2 hmem r1 r2 r5 hev0
     generalize N[vs.length] = c at *
     replace hnx := Hz.mk hnx
     replace hrw := Hz.mk hrw
     replace hn2 := Hz.mk hn2
     replace hcn := Hz.mk hcn
     replace hEr := Hz.mk hEr
     replace r3 := Hz.mk r3
     replace r4 := Hz.mk r4
     have hij : IntKind.i64.wrap ((vs.length : Int) + 1) = ((vs.length + 1 : Nat) : Int) := by rw [IntKind.wrap_i64]; omega
     have hij2 : wrap64 ((vs.length : Int) + 1) = ((vs.length + 1 : Nat) : Int) := by unfold wrap64; omega
     cases hcv : evv c with
     | none =>
       have hem := hno hcv
       rw [hcv] at hcall
       unfold tupc at hcall
       replace hno := Hz.mk hno
       replace hcall := Hz.mk hcall
       clear hij hij2
       go_upto_region 7 with (go_at_call 40; refine hcall.out.mono ?_; rintro r w2 ⟨rfl, g⟩; replace g := Hz.mk (hn2.out _ g))
       have hz2 := (hcn.out.kp g.out.2 (by omega) (fun k q => by omega)).z
       refine wp_world (fun W3 => Below w2.heap.size w2 W3) (by repeat (first | exact Below.refl _ _ | refine Below.alloc ?_ (by simp <;> omega) _ | refine Below.setCell ?_ (by simp <;> omega) _)) ?_
       intro W3 hB3
       have hz3 := at_past hz2 hB3
       have hf3 := aft_below g.out.1 hB3
       have ⟨zl, zp, zf⟩ := hz3
       have hfin := Hz.mk (At.setAll (cs := [Value.bool false, .int .u64 0, .int .u64 0, .int .u64 0]) hz3 [Value.bool false, .int .u64 0, .int .u64 0, .int .u64 0] rfl)
       have hkf := Hz.mk (kp_sets W3 (w.heap.size + 1) [Value.bool false, .int .u64 0, .int .u64 0, .int .u64 0] 0)
       replace hf3 := Hz.mk hf3
       clear hz2 hz3 hB3
       go_wp2_with fail
       have ⟨_, q4, _⟩ := hfin.out
       simp only [World.setCells] at q4
       refine bodyPost_ret (v := .tuple #[.agg #[.bool false, .int .u64 0, .int .u64 0, .int .u64 0], .bool false]) (by simp [results, Tryz.results29, go_sem, q4]) rfl ?_
       refine ⟨?_, aft_above hR.out hf3.out hkf.out (fun k q => by omega)⟩
       rw [hem]; rfl
     | some x =>
       rw [hcv] at hcall
       unfold tupc at hcall
       have hxn := hnx.out x hcv
       have hrx := hrw.out x
       replace hxn := Hz.mk hxn
       replace hrx := Hz.mk hrx
       replace hno := Hz.mk hno
       replace hcall := Hz.mk hcall
       replace hcv := Hz.mk hcv
       replace hij := Hz.mk hij
       replace hij2 := Hz.mk hij2
       go_upto_region 7 with (go_at_call 40; refine hcall.out.mono ?_; rintro r w2 ⟨rfl, g⟩; replace g := Hz.mk (hn2.out _ g))
       have st2 := hcn.out.kp g.out.2 (by omega) (fun k q => by omega)
       have hw2 := g.out.2.size
       have hs2 := st2.s
       refine wp_world (fun W3 => Below w2.heap.size w2 W3 ∧ At W3 w2.heap.size #[.bool true, .int .u64 x.s, .int .u64 x.c, .int .u64 x.i]) ⟨(by repeat (first | exact Below.refl _ _ | refine Below.alloc ?_ (by simp <;> omega) _ | refine Below.setCell ?_ (by simp <;> omega) _)), At.new w2 _ _⟩ ?_
       rintro W3 ⟨hB3, aC⟩
       have st3 := st2.kp (Kp.of_below (S := fun _ => False) hB3) (by omega) (fun k q => q.elim)
       have hf3 := aft_below g.out.1 hB3
       have hw3 := hB3.size
       generalize w2.heap.size = kx at *
       have T0 : W3.cell? ⟨kt, 0, none⟩ = some (.slice ka L.length kc) := st3.t.2.1 0
       have T1 : W3.cell? ⟨kt, 1, none⟩ = some (.slice (some ⟨kr, 0, none⟩) m.gates.length m.gates.length) := st3.t.2.1 1
       have C0 : W3.cell? ⟨kx, 0, none⟩ = some (.bool true) := aC.2.1 0
       have C1 : W3.cell? ⟨kx, 1, none⟩ = some (.int .u64 x.s) := aC.2.1 1
       have C2 : W3.cell? ⟨kx, 2, none⟩ = some (.int .u64 x.c) := aC.2.1 2
       have C3 : W3.cell? ⟨kx, 3, none⟩ = some (.int .u64 x.i) := aC.2.1 3
       have R0 : ∃ v, W3.cell? ⟨kr, c * 4, none⟩ = some v := ⟨_, (st3.r.c c hcN 0 (by omega)).trans (List.getElem?_eq_getElem (by rw [cs4_len]; omega))⟩
       have R1 : ∃ v, W3.cell? ⟨kr, c * 4 + 1, none⟩ = some v := ⟨_, (st3.r.c c hcN 1 (by omega)).trans (List.getElem?_eq_getElem (by rw [cs4_len]; omega))⟩
       have R2 : ∃ v, W3.cell? ⟨kr, c * 4 + 2, none⟩ = some v := ⟨_, (st3.r.c c hcN 2 (by omega)).trans (List.getElem?_eq_getElem (by rw [cs4_len]; omega))⟩
       have R3 : ∃ v, W3.cell? ⟨kr, c * 4 + 3, none⟩ = some v := ⟨_, (st3.r.c c hcN 3 (by omega)).trans (List.getElem?_eq_getElem (by rw [cs4_len]; omega))⟩
       obtain ⟨v0, R0⟩ := R0
       obtain ⟨v1, R1⟩ := R1
       obtain ⟨v2, R2⟩ := R2
       obtain ⟨v3, R3⟩ := R3
       have R2' : W3.cell? ⟨kr, c * 4 + 1 + 1, none⟩ = some v2 := R2
       have R3' : W3.cell? ⟨kr, c * 4 + 1 + 1 + 1, none⟩ = some v3 := R3
       have rfz := st3.r.fr
       have rlt3 := st3.r.lt
       have tlt3 := st3.t.1
       have hput := st3.r.put hcN (some x)
       rw [← hrx.out] at hput
       have hkr := kp_sets W3 kr (cs4 (some x)) (c * 4)
       replace st3 := Hz.mk st3
       replace hf3 := Hz.mk hf3
       replace aC := Hz.mk aC
       replace hput := Hz.mk hput
       replace hkr := Hz.mk hkr
       clear st2 hB3 g
       go_upto_region 10 with fail
       refine wp_world (fun W4 => Kp (fun k => k = kr) W3 W4 ∧ Cr W4 kr m.gates.length (rowF N (vs ++ [x]))) ⟨hkr.out, hput.out⟩ ?_
       rintro W4 ⟨hk4, hr4⟩
       have o4 := at_keep st3.out.o hk4 (by omega)
       have t4 := at_keep st3.out.t hk4 (by omega)
       have i4 := at_keep st3.out.i hk4 (by omega)
       have z4 := at_keep st3.out.z hk4 (by omega)
       have l4 := st3.out.l.below (hk4.below (by omega) (fun k q => by omega))
       have v4 := own_kp' st3.out.v hk4 (fun g hg q => by have := (st3.out.v.lt g hg).1; omega)
       have c4 := at_keep aC.out hk4 (by omega)
       have f4 := aft_above hR.out hf3.out hk4 (fun k q => by omega)
       have s4 := hk4.size
       have O2 : W4.cell? ⟨ko, 2, none⟩ = some (.int .u64 (mcL vs)) := o4.2.1 2
       have X2 : W4.cell? ⟨kx, 2, none⟩ = some (.int .u64 x.c) := c4.2.1 2
       have ofz := o4.2.2
       have olt := o4.1
       have hms := mcL_snoc vs x
       have hoset := Hz.mk (show At (W4.setCell ⟨ko, 2, none⟩ (.int .u64 (mcL (vs ++ [x])))) ko #[.bool true, .int .u64 0, .int .u64 (mcL (vs ++ [x])), .int .u64 0] by
         have := o4.set 2 (.int .u64 (mcL (vs ++ [x]))) (by simp)
         simpa using this)
       have hko := Hz.mk (Kp.set (S := fun q => q = ko) W4 ⟨ko, 2, none⟩ (.int .u64 (mcL (vs ++ [x]))) rfl)
       rw [hms] at hoset hko
       replace hms := Hz.mk hms
       replace t4 := Hz.mk t4
       replace i4 := Hz.mk i4
       replace z4 := Hz.mk z4
       replace l4 := Hz.mk l4
       replace v4 := Hz.mk v4
       replace f4 := Hz.mk f4
       replace hr4 := Hz.mk hr4
       replace o4 := Hz.mk o4
       clear T0 T1 C0 C1 C2 C3 R0 R1 R2 R3 R2' R3' rfz hput hkr hk4 c4 aC
       go_upto_region 11 with fail
       refine wp_world (fun W5 => Kp (fun k => k = ko) W4 W5 ∧ At W5 ko #[.bool true, .int .u64 0, .int .u64 (mcL (vs ++ [x])), .int .u64 0]) ⟨hko.out, by rw [hms.out]; exact hoset.out⟩ ?_
       rintro W5 ⟨hk5, o5⟩
       have fin : CTurn B N lo (.slice (some ⟨b, off, none⟩) N.length vc) m.gates.length L ka kc kt kr ko w.heap.size #[.slice ra m.regs.length rc, .slice ca m.comps.length cc, .slice (some ⟨bg, offg, none⟩) m.gates.length gc, .int .i64 m.depth] (rowF N (vs ++ [x])) (mcL (vs ++ [x])) W5 :=
         ⟨own_kp' v4.out hk5 (fun g hg q => by have := (v4.out.lt g hg).1; omega), hr4.out.keep hk5 (by omega), o5, at_keep t4.out hk5 (by omega), at_keep i4.out hk5 (by omega), at_keep z4.out hk5 (by omega), l4.out.below (hk5.below (by omega) (fun k q => by omega)), by have := hk5.size; omega⟩
       have f5 := aft_above hR.out f4.out hk5 (fun k q => by omega)
       replace fin := Hz.mk fin
       replace f5 := Hz.mk f5
       replace hk5 := Hz.mk hk5
       replace o5 := Hz.mk o5
       clear O2 X2
       replace hij := hij.out
       replace hij2 := hij2.out
       go_wp2_with fail
       clear hij hij2
       go_roundw
       case rel => exact ⟨vs.length + 1, vs ++ [x], by simp, by omega, Hz.mk ⟨by simp, hxn.out, f5.out, fin.out⟩⟩
       case measure => simp only [intOf]; omega
   · have hje : vs.length = N.length := by omega
     have hi2 : ¬ (vs.length : Int) < N.length := by omega
     have hi3 : (N.length : Int) ≤ vs.length := by omega
     have hres := evd.out vs (by rw [← hev0, hje, List.take_of_length_le (Nat.le_refl _), ← hev])
     rw [hct.out vs] at hres
     have hkw : Kp (fun k => k = p.b) w wr := by
       obtain ⟨_, _, _, _, _, _, q⟩ := haft
       exact q
     have hwr := hkw.size
     have G2 : wr.cell? ⟨w.heap.size, 2, none⟩ = some (.slice (some ⟨bg, offg, none⟩) m.gates.length gc) := hcn.i.2.1 2
     have hge' := ((hkw.below hle.out (fun k q => by omega)).cell (p := ⟨bg, offg + n * 4 + 1, none⟩) hbg1).trans hge
     have hbg3 : bg < wr.heap.size := by omega
     have T0 : wr.cell? ⟨kt, 0, none⟩ = some (.slice ka L.length kc) := hcn.t.2.1 0
     have T1 : wr.cell? ⟨kt, 1, none⟩ = some (.slice (some ⟨kr, 0, none⟩) m.gates.length m.gates.length) := hcn.t.2.1 1
     have hBwr : B ≤ wr.heap.size := by have := hle.out; omega
     obtain ⟨en, rfl⟩ : ∃ en : Nat, e0 = (en : Int) := ⟨e0.toNat, by omega⟩
     rw [Int.toNat_natCast] at hres
     have hMs := fun W (l : LIn W.heap.size W ka L) (q : Cr W kr m.gates.length (rowF N vs)) => most_steps L ka kc (some ⟨kr, 0, none⟩) m.gates.length m.gates.length (sF (rowF N vs)) (iF (rowF N vs)) en W l (q.costIn q.lt) hco.out (by omega) (by omega)
     have hMi := fun W (l : LIn W.heap.size W ka L) (q : Cr W kr m.gates.length (rowF N vs)) => most_inputs L ka kc (some ⟨kr, 0, none⟩) m.gates.length m.gates.length (sF (rowF N vs)) (iF (rowF N vs)) en W l (q.costIn q.lt) hco.out (by omega) (by omega)
     have hl0 := hcn.l.mono hBwr
     unfold tlA at hMs hMi
     generalize sumS L (stF L (sF (rowF N vs))) en = s1 at *
     generalize sumS L (inF L (iF (rowF N vs))) en = s2 at *
     have hlo4 := hcn.s
     replace hl0 := Hz.mk hl0
     replace hcn := Hz.mk hcn
     replace haft := Hz.mk haft
     replace hkw := Hz.mk hkw
     replace hMi := Hz.mk hMi
     clear hev0
     cases s1 with
     | none =>
       unfold tupu at hMs
       replace hMs := Hz.mk hMs
       replace hres := Hz.mk hres
       go_upto_region 14 with (go_at_call 42; refine (hMs.out _ hl0.out hcn.out.r).mono ?_; rintro r W2 ⟨rfl, g⟩; replace g := Hz.mk g)
       clear G2 T0 T1 hge'
       have hz2 := at_past hcn.out.z g.out
       have hf2 := aft_below haft.out g.out
       have ⟨zl, zp, zf⟩ := hz2
       have hfin := Hz.mk (At.setAll (cs := [Value.bool false, .int .u64 0, .int .u64 0, .int .u64 0]) hz2 [Value.bool false, .int .u64 0, .int .u64 0, .int .u64 0] rfl)
       have hkf := Hz.mk (kp_sets W2 (w.heap.size + 1) [Value.bool false, .int .u64 0, .int .u64 0, .int .u64 0] 0)
       replace hf2 := Hz.mk hf2
       clear hz2
       go_wp2_with fail
       have ⟨_, q4, _⟩ := hfin.out
       simp only [World.setCells] at q4
       refine bodyPost_ret (v := .tuple #[.agg #[.bool false, .int .u64 0, .int .u64 0, .int .u64 0], .bool false]) (by simp [results, Tryz.results29, go_sem, q4]) rfl ?_
       refine ⟨?_, aft_above hR.out hf2.out hkf.out (fun k q => by omega)⟩
       rw [hres.out]; rfl
     | some s =>
       unfold tupu at hMs
       replace hMs := Hz.mk hMs
       dsimp only at hres
       by_cases hbig : 1099511627776 < s
       · rw [if_pos hbig] at hres
         replace hres := Hz.mk hres
         go_upto_region 14 with (go_at_call 42; refine (hMs.out _ hl0.out hcn.out.r).mono ?_; rintro r W2 ⟨rfl, g⟩; replace g := Hz.mk g)
         clear G2 T0 T1 hge'
         have hz2 := at_past hcn.out.z g.out
         have hf2 := aft_below haft.out g.out
         have ⟨zl, zp, zf⟩ := hz2
         have hfin := Hz.mk (At.setAll (cs := [Value.bool false, .int .u64 0, .int .u64 0, .int .u64 0]) hz2 [Value.bool false, .int .u64 0, .int .u64 0, .int .u64 0] rfl)
         have hkf := Hz.mk (kp_sets W2 (w.heap.size + 1) [Value.bool false, .int .u64 0, .int .u64 0, .int .u64 0] 0)
         replace hf2 := Hz.mk hf2
         clear hz2
         go_wp2_with fail
         have ⟨_, q4, _⟩ := hfin.out
         simp only [World.setCells] at q4
         refine bodyPost_ret (v := .tuple #[.agg #[.bool false, .int .u64 0, .int .u64 0, .int .u64 0], .bool false]) (by simp [results, Tryz.results29, go_sem, q4]) rfl ?_
         refine ⟨?_, aft_above hR.out hf2.out hkf.out (fun k q => by omega)⟩
         rw [hres.out]; rfl
       · rw [if_neg hbig] at hres
         have hbig2 : s ≤ 1099511627776 := by omega
         replace hres := Hz.mk hres
         go_upto_region 14 with (go_at_call 42; refine (hMs.out _ hl0.out hcn.out.r).mono ?_; rintro r W2 ⟨rfl, g⟩; replace g := Hz.mk g)
         clear G2 T0 T1 hge'
         have o2 := at_past hcn.out.o g.out
         have t2 := at_past hcn.out.t g.out
         have z2 := at_past hcn.out.z g.out
         have r2 := hcn.out.r.past g.out
         have l2 := hcn.out.l.below (g.out.mono hBwr)
         have f2 := aft_below haft.out g.out
         have hw2 := g.out.size
         have O1 : W2.cell? ⟨ko, 1, none⟩ = some (.int .u64 0) := o2.2.1 1
         have ofz := o2.2.2
         have olt := o2.1
         have hoset := Hz.mk (show At (W2.setCell ⟨ko, 1, none⟩ (.int .u64 s)) ko #[.bool true, .int .u64 s, .int .u64 (mcL vs), .int .u64 0] by
           have := o2.set 1 (.int .u64 s) (by simp)
           simpa using this)
         have hko := Hz.mk (Kp.set (S := fun q => q = ko) W2 ⟨ko, 1, none⟩ (.int .u64 s) rfl)
         replace t2 := Hz.mk t2
         replace z2 := Hz.mk z2
         replace r2 := Hz.mk r2
         replace l2 := Hz.mk l2
         replace f2 := Hz.mk f2
         clear o2
         go_upto_region 17 with fail
         refine wp_world (fun W3 => Kp (fun k => k = ko) W2 W3 ∧ At W3 ko #[.bool true, .int .u64 s, .int .u64 (mcL vs), .int .u64 0]) ⟨hko.out, hoset.out⟩ ?_
         rintro W3 ⟨hk3, o3⟩
         have t3 := at_keep t2.out hk3 (by omega)
         have z3 := at_keep z2.out hk3 (by omega)
         have r3 := r2.out.keep hk3 (by omega)
         have l3 := l2.out.below (hk3.below (by omega) (fun k q => by omega))
         have f3 := aft_above hR.out f2.out hk3 (fun k q => by omega)
         have hw3 := hk3.size
         have T0 : W3.cell? ⟨kt, 0, none⟩ = some (.slice ka L.length kc) := t3.2.1 0
         have T1 : W3.cell? ⟨kt, 1, none⟩ = some (.slice (some ⟨kr, 0, none⟩) m.gates.length m.gates.length) := t3.2.1 1
         have hcl := hMi.out W3 (l3.mono (by omega)) r3
         replace o3 := Hz.mk o3
         replace z3 := Hz.mk z3
         replace f3 := Hz.mk f3
         clear O1 ofz olt hko hoset t3 r3 l3 hk3 t2 z2 r2 l2 f2
         cases s2 with
         | none =>
           unfold tupu at hcl
           replace hcl := Hz.mk hcl
           go_upto_region 18 with (go_at_call 42; refine hcl.out.mono ?_; rintro r W4 ⟨rfl, g4⟩; have O3 : W4.cell? ⟨ko, 3, none⟩ = some (.int .u64 0) := (at_past o3.out g4).2.1 3; have ofz4 := (at_past o3.out g4).2.2; have olt4 := (at_past o3.out g4).1; replace g4 := Hz.mk g4)
           have o4 := at_past o3.out g4.out
           have z4 := at_past z3.out g4.out
           have f4 := aft_below f3.out g4.out
           refine wp_world (fun W5 => Kp (fun k => k = ko) W4 W5 ∧ At W5 ko #[.bool true, .int .u64 s, .int .u64 (mcL vs), .int .u64 0]) ⟨Kp.set _ ⟨ko, 3, none⟩ _ rfl, by simpa using o4.set 3 (.int .u64 0) (by simp)⟩ ?_
           rintro W5 ⟨hk5, o5⟩
           have z5 := at_keep z4 hk5 (by omega)
           have f5 := aft_above hR.out f4 hk5 (fun k q => by omega)
           have P0 : W5.cell? ⟨ko, 0, none⟩ = some (.bool true) := o5.2.1 0
           have P1 : W5.cell? ⟨ko, 1, none⟩ = some (.int .u64 s) := o5.2.1 1
           have P2 : W5.cell? ⟨ko, 2, none⟩ = some (.int .u64 (mcL vs)) := o5.2.1 2
           have P3 : W5.cell? ⟨ko, 3, none⟩ = some (.int .u64 0) := o5.2.1 3
           have ⟨zl, zp, zf⟩ := z5
           have hfin := Hz.mk (At.setAll (cs := [Value.bool false, .int .u64 0, .int .u64 0, .int .u64 0]) z5 [Value.bool true, .int .u64 s, .int .u64 (mcL vs), .int .u64 0] rfl)
           have hkf := Hz.mk (kp_sets W5 (w.heap.size + 1) [Value.bool true, .int .u64 s, .int .u64 (mcL vs), .int .u64 0] 0)
           replace f5 := Hz.mk f5
           clear o4 z4 z5 f4 O3 ofz4 olt4 hk5 o5
           go_wp2_with fail
           have ⟨_, q4, _⟩ := hfin.out
           simp only [World.setCells] at q4
           refine bodyPost_ret (v := .tuple #[.agg #[.bool true, .int .u64 s, .int .u64 (mcL vs), .int .u64 0], .bool true]) (by simp [results, Tryz.results29, go_sem, q4]) rfl ?_
           refine ⟨?_, aft_above hR.out f5.out hkf.out (fun k q => by omega)⟩
           rw [hres.out]; rfl
         | some i =>
           unfold tupu at hcl
           replace hcl := Hz.mk hcl
           go_upto_region 18 with (go_at_call 42; refine hcl.out.mono ?_; rintro r W4 ⟨rfl, g4⟩; have O3 : W4.cell? ⟨ko, 3, none⟩ = some (.int .u64 0) := (at_past o3.out g4).2.1 3; have ofz4 := (at_past o3.out g4).2.2; have olt4 := (at_past o3.out g4).1; replace g4 := Hz.mk g4)
           have o4 := at_past o3.out g4.out
           have z4 := at_past z3.out g4.out
           have f4 := aft_below f3.out g4.out
           refine wp_world (fun W5 => Kp (fun k => k = ko) W4 W5 ∧ At W5 ko #[.bool true, .int .u64 s, .int .u64 (mcL vs), .int .u64 i]) ⟨Kp.set _ ⟨ko, 3, none⟩ _ rfl, by simpa using o4.set 3 (.int .u64 i) (by simp)⟩ ?_
           rintro W5 ⟨hk5, o5⟩
           have z5 := at_keep z4 hk5 (by omega)
           have f5 := aft_above hR.out f4 hk5 (fun k q => by omega)
           have P0 : W5.cell? ⟨ko, 0, none⟩ = some (.bool true) := o5.2.1 0
           have P1 : W5.cell? ⟨ko, 1, none⟩ = some (.int .u64 s) := o5.2.1 1
           have P2 : W5.cell? ⟨ko, 2, none⟩ = some (.int .u64 (mcL vs)) := o5.2.1 2
           have P3 : W5.cell? ⟨ko, 3, none⟩ = some (.int .u64 i) := o5.2.1 3
           have ⟨zl, zp, zf⟩ := z5
           have hfin := Hz.mk (At.setAll (cs := [Value.bool false, .int .u64 0, .int .u64 0, .int .u64 0]) z5 [Value.bool true, .int .u64 s, .int .u64 (mcL vs), .int .u64 i] rfl)
           have hkf := Hz.mk (kp_sets W5 (w.heap.size + 1) [Value.bool true, .int .u64 s, .int .u64 (mcL vs), .int .u64 i] 0)
           replace f5 := Hz.mk f5
           clear o4 z4 z5 f4 O3 ofz4 olt4 hk5 o5
           go_wp2_with fail
           have ⟨_, q4, _⟩ := hfin.out
           simp only [World.setCells] at q4
           refine bodyPost_ret (v := .tuple #[.agg #[.bool true, .int .u64 s, .int .u64 (mcL vs), .int .u64 i], .bool true]) (by simp [results, Tryz.results29, go_sem, q4]) rfl ?_
           refine ⟨?_, aft_above hR.out f5.out hkf.out (fun k q => by omega)⟩
           rw [hres.out]; rfl
end Bd
end Go.Proofs.YtdlcphinjnnhcaaGreatDoor
