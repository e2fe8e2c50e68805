import Derived.Test.YtdlcphinjnnhcaaGreatDoorK19
import Derived.Test.YtdlcphinjnnhcaaGreatDoorK14
namespace Go.Proofs.YtdlcphinjnnhcaaGreatDoor
set_option maxRecDepth 100000
set_option maxHeartbeats 40000000
namespace Bd
open Go.RowKit
open T (Kp)
open F (IOwn own_slice own_nin boolA boolA_at boolA_put boolA_congr Sw Ws folB folB_lt rchB wE setB cnt_setB cnt_le aN cnt cnt_congr make_bools at_below take_snoc own_kp)

theorem rep_put (n e : Nat) : (Array.replicate n (Value.bool false)).setIfInBounds e (.bool true) = boolA n (wE [(e : Int)] (-1)) := by
 apply Array.ext
 · simp [boolA]
 · intro i h1 h2
   simp only [boolA, List.getElem_toArray, List.getElem_map, List.getElem_range]
   by_cases q : e = i
   · subst q
     simp [wE]
   · rw [Array.getElem_setIfInBounds_ne (by simpa using h1) q]
     have : ¬ (i : Int) = e := by omega
     simp [wE, this]
theorem reachedD_any (L : List Ins) (cc : Nat) (ca : Option Addr) (en : Nat) (w : World) (hL : LIn w.heap.size w ca L) (hn : L.length < 2000000) (he : en < L.length) :
   Calls Tryz.prog 46 #[.slice ca L.length cc, .int .i64 en] w fun e w' => ∃ g, e = .returned (.slice (some ⟨g, 0, none⟩) L.length L.length) ∧ w.heap.size ≤ g ∧ At w' g (boolA L.length (rchB L [(en : Int)] (-1))) ∧ Below w.heap.size w w' := by
 have hm := make_bools L.length (by omega)
 have hX := fun (p : Nat) W (q : Below w.heap.size w W) (hp : p < L.length) => nextD_any L ca cc p W ((hL.below q).mono q.size) hp hn
 have he1 : (en : Int) < L.length := by omega
 replace hL := Hz.mk hL
 replace hX := Hz.mk hX
 go_enter Tryz.func46, Tryz.ntmps46
 go_upto_region 3 with fail
 refine wp_world (fun W => At W w.heap.size (boolA L.length (wE [(en : Int)] (-1))) ∧ Below w.heap.size w W) ⟨by rw [← rep_put L.length en]; exact At.new w _ _, by (repeat (first | assumption | with_reducible exact Below.refl _ _ | with_reducible refine Below.alloc ?_ (by simp <;> omega) _ | with_reducible refine Below.setCell ?_ (by simp <;> omega) _ | with_reducible refine Below.drew ?_))⟩ ?_
 intro W0 h0
 replace h0 := Hz.mk h0
 have hW0 : Hz (At W0 w.heap.size (boolA L.length (wE [(en : Int)] (-1))) ∧ Ws L [(en : Int)] (-1) (wE [(en : Int)] (-1)) true ∧ Below w.heap.size w W0) := Hz.mk ⟨h0.out.1, Ws.start L [(en : Int)] (-1), h0.out.2⟩
 clear h0 hm
 generalize hE : [(en : Int)] = E at *
 generalize hout : (-1 : Int) = out at *
 have hneg : ∀ q : Nat, (q : Int) ≠ out := fun q => by omega
 replace hneg := Hz.mk hneg
 have hEo := Hz.mk (And.intro hE hout)
 clear hE hout he1 he
 go_upto_region 4 with fail
 go_loopw [6] (fun b wr => ∃ (a : Bool) (s : Nat → Bool), b = .bool a ∧ Hz (At wr w.heap.size (boolA L.length s) ∧ Ws L E out s a ∧ Below w.heap.size w wr)) (fun b wr => 2 * (L.length - cnt L.length (setB wr w.heap.size)) + aN b)
 case atStart => exact ⟨true, _, rfl, hW0⟩
 case round =>
   clear hW0
   obtain ⟨a, s0, rfl, ⟨i1, i2, i3⟩⟩ := hrel
   cases a with
   | false =>
     have hfin : Hz (At wr w.heap.size (boolA L.length (rchB L E out))) := Hz.mk (by rw [boolA_congr (g := s0) (fun z hz => (i2.done z hz).symm)]; exact i1)
     replace i1 := Hz.mk i1
     replace i2 := Hz.mk i2
     replace i3 := Hz.mk i3
     go_wp2_with fail
     go_ret
     exact ⟨_, rfl, Nat.le_refl _, by rw [hEo.out.1, hEo.out.2]; exact hfin.out, i3.out⟩
   | true =>
     have hS0 : Hz (At wr w.heap.size (boolA L.length s0) ∧ Sw L E out s0 s0 false 0 [] ∧ Below w.heap.size w wr) := Hz.mk ⟨i1, Sw.start i2.snd, i3⟩
     have hm0 := cnt_setB i1
     replace i1 := Hz.mk i1
     replace i2 := Hz.mk i2
     replace i3 := Hz.mk i3
     go_wp2_with fail
     rename World => wp
     go_loopw [6, 7] (fun b x wr => ∃ (a : Bool) (s : Nat → Bool) (p : Nat), b = .bool a ∧ x = .int .i64 p ∧ p ≤ L.length ∧ Hz (At wr w.heap.size (boolA L.length s) ∧ Sw L E out s0 s a p [] ∧ Below w.heap.size w wr)) (fun _ x _ => L.length - (intOf x).toNat)
     case atStart => exact ⟨false, s0, 0, rfl, rfl, by omega, hS0⟩
     case round =>
       clear hS0
       obtain ⟨a, s, p, rfl, rfl, hp, ⟨k1, k2, k3⟩⟩ := hrel
       by_cases hpl : p < L.length
       · have hp1 : (p : Int) < L.length := by omega
         have zp := boolA_at k1 p hpl
         cases hsp : s p with
         | false =>
           rw [hsp] at zp
           have hnew : Hz (At wr w.heap.size (boolA L.length s) ∧ Sw L E out s0 s a (p + 1) [] ∧ Below w.heap.size w wr) := Hz.mk ⟨k1, k2.skip hpl hsp, k3⟩
           replace k1 := Hz.mk k1
           replace k2 := Hz.mk k2
           replace k3 := Hz.mk k3
           go_wp2_with fail
           go_roundw
           all_goals first | exact ⟨a, s, p + 1, rfl, by simp, by omega, hnew⟩ | (simp only [intOf]; omega)
         | true =>
           rw [hsp] at zp
           have hXp := Hz.mk (hX.out p wr k3 hpl)
           have hyq : Hz (∀ y ∈ nxD L p, ∃ q : Nat, y = q ∧ folB L p q = true) := Hz.mk (fun y hy => (mem_nxD hpl y).1 hy)
           have hNl : (nxD L p).length ≤ L.length + 2 := nxD_len L p
           have hnx := Hz.mk (fun (s : Nat → Bool) (a : Bool) (h : Sw L E out s0 s a p (nxD L p)) => sw_nextD h hpl)
           generalize nxD L p = N at *
           have hbC : w.heap.size < wr.heap.size := k1.1
           replace k1 := Hz.mk k1
           replace k2 := Hz.mk k2
           replace k3 := Hz.mk k3
           go_wp2_with (go_at_call 61; refine hXp.out.mono ?_; rintro z w6 ⟨v', rfl, n1, n2⟩; obtain ⟨na, nc, rfl⟩ := own_slice n1; replace n1 := Hz.mk n1; replace n2 := Hz.mk n2)
           generalize hbc : wr.heap.size = bC at *
           have hD0 : Hz (At w6 w.heap.size (boolA L.length s) ∧ Sw L E out s0 s a p (N.take 0) ∧ s p = true ∧ IOwn w6 bC (.slice na N.length nc) N ∧ Below w.heap.size w w6) := Hz.mk ⟨at_below k1.out n2.out hbC, k2.out, hsp, n1.out, k3.out.trans (n2.out.mono (Nat.le_of_lt hbC))⟩
           clear n1 n2 zp k1 k2 hsp
           try go_wp2_with fail
           go_loopw [6, 9] (fun b x wr => ∃ (a : Bool) (s : Nat → Bool) (k : Nat), b = .bool a ∧ x = .int .i64 k ∧ k ≤ N.length ∧ Hz (At wr w.heap.size (boolA L.length s) ∧ Sw L E out s0 s a p (N.take k) ∧ s p = true ∧ IOwn wr bC (.slice na N.length nc) N ∧ Below w.heap.size w wr)) (fun _ x _ => N.length - (intOf x).toNat)
           case atStart => exact ⟨a, s, 0, rfl, rfl, by omega, hD0⟩
           case round =>
             clear hD0
             obtain ⟨a, s, k, rfl, rfl, hk, ⟨m1, m2, m3, m4, m5⟩⟩ := hrel
             by_cases hkl : k < N.length
             · obtain ⟨b', off, ena, hb0', hb1, hck⟩ := own_nin m4 k hkl
               have ki1 : (k : Int) < N.length := by omega
               obtain ⟨q, eyq, hfq⟩ := hyq.out N[k] (List.getElem_mem hkl)
               have htk := take_snoc N k hkl
               rw [eyq] at hck htk
               have hql := folB_lt hfq
               have hqi : (q : Int) < L.length := by omega
               have zq := boolA_at m1 q hql
               cases ena
               cases hsq : s q with
               | true =>
                 rw [hsq] at zq
                 have hnew : Hz (At wr w.heap.size (boolA L.length s) ∧ Sw L E out s0 s a p (N.take (k + 1)) ∧ s p = true ∧ IOwn wr bC (.slice (some ⟨b', off, none⟩) N.length nc) N ∧ Below w.heap.size w wr) := Hz.mk ⟨m1, by rw [htk]; exact m2.keep (fun _ => by simpa using hsq), m3, m4, m5⟩
                 replace m1 := Hz.mk m1
                 replace m2 := Hz.mk m2
                 replace m3 := Hz.mk m3
                 replace m4 := Hz.mk m4
                 replace m5 := Hz.mk m5
                 replace htk := Hz.mk htk
                 replace eyq := Hz.mk eyq
                 replace hfq := Hz.mk hfq
                 go_wp2_with fail
                 go_roundw
                 all_goals first | exact ⟨a, s, k + 1, rfl, by simp, by omega, hnew⟩ | (simp only [intOf]; omega)
               | false =>
                 rw [hsq] at zq
                 have hfy := m1.2.2
                 have hgy := m1.1
                 have hnew : Hz (At (wr.setCell ⟨w.heap.size, q, none⟩ (.bool true)) w.heap.size (boolA L.length (fun z => if z = q then true else s z)) ∧ Sw L E out s0 (fun z => if z = q then true else s z) true p (N.take (k + 1)) ∧ (fun z => if z = q then true else s z) p = true ∧ IOwn (wr.setCell ⟨w.heap.size, q, none⟩ (.bool true)) bC (.slice (some ⟨b', off, none⟩) N.length nc) N ∧ Below w.heap.size w (wr.setCell ⟨w.heap.size, q, none⟩ (.bool true))) := Hz.mk ⟨boolA_put m1 q true hql (fun z _ => rfl), m2.put hpl m3 hfq (hneg.out q) hsq (fun z _ => rfl) _, by show (if p = q then true else s p) = true; rw [m3]; simp, own_kp m4 (Kp.set (S := fun b => b = w.heap.size) wr _ _ rfl) (fun b hb e => by have := (World.ownsRow.lt m4 b hb).1; omega), m5.setCell (Nat.le_refl _) _⟩
                 replace m1 := Hz.mk m1
                 replace m2 := Hz.mk m2
                 replace m3 := Hz.mk m3
                 replace m4 := Hz.mk m4
                 replace m5 := Hz.mk m5
                 replace htk := Hz.mk htk
                 replace eyq := Hz.mk eyq
                 replace hfq := Hz.mk hfq
                 go_wp2_with fail
                 go_roundw
                 all_goals first | exact ⟨true, _, k + 1, rfl, by simp, by omega, hnew⟩ | (simp only [intOf]; omega)
             · have ki1 : ¬ (k : Int) < N.length := by omega
               rw [List.take_of_length_le (by omega)] at m2
               have hnew : Hz (At wr w.heap.size (boolA L.length s) ∧ Sw L E out s0 s a (p + 1) [] ∧ Below w.heap.size w wr) := Hz.mk ⟨m1, hnx.out s a m2, m5⟩
               replace m1 := Hz.mk m1
               replace m2 := Hz.mk m2
               replace m3 := Hz.mk m3
               replace m4 := Hz.mk m4
               replace m5 := Hz.mk m5
               go_wp2_with fail
               go_roundw
               all_goals first | exact ⟨a, s, p + 1, rfl, by simp, by omega, hnew⟩ | (simp only [intOf]; omega)
       · have hp1 : ¬ (p : Int) < L.length := by omega
         have ep : p = L.length := by omega
         subst ep
         have hnew : Hz (At wr w.heap.size (boolA L.length s) ∧ Ws L E out s a ∧ Below w.heap.size w wr) := Hz.mk ⟨k1, i2.out.sweep k2, k3⟩
         have hm1 := cnt_setB k1
         have hm2 := cnt_le L.length s
         have hm3 : a = true → cnt L.length s0 + 1 ≤ cnt L.length s := k2.on
         have hm4 : a = false → cnt L.length s = cnt L.length s0 := fun e => cnt_congr L.length (k2.off e)
         have hme : 2 * (L.length - cnt L.length (setB wr w.heap.size)) + aN (.bool a) < 2 * (L.length - cnt L.length (setB wp w.heap.size)) + aN (.bool true) := by
           rw [hm1, hm0]
           cases a with
           | true => have := hm3 rfl; simp only [aN]; omega
           | false => have := hm4 rfl; simp only [aN]; omega
         replace k1 := Hz.mk k1
         replace k2 := Hz.mk k2
         replace k3 := Hz.mk k3
         replace hme := Hz.mk hme
         replace hm3 := Hz.mk hm3
         replace hm4 := Hz.mk hm4
         go_wp2_with fail
         go_roundw
         all_goals first | exact ⟨a, s, rfl, hnew⟩ | exact hme.out
end Bd
end Go.Proofs.YtdlcphinjnnhcaaGreatDoor


namespace Go.Proofs.YtdlcphinjnnhcaaGreatDoor
set_option maxRecDepth 100000
set_option maxHeartbeats 40000000
namespace Bd
open Go.RowKit
open F (boolA boolA_put boolA_new boolA_congr rchB make_bools)

theorem codeD_any (B : Nat) (m : PImg) (ra ca ga : Option Addr) (rc cc gc : Nat) (g k : Nat) (hg : g < m.gates.length) (hk : k < m.comps.length) (hc : m.gates[g].c = k) (w : World) (hm : ImgIn B w ra ca ga m) (hB : B ≤ w.heap.size) :
   Calls Tryz.prog 45 #[imA m ra rc ca cc ga gc, .int .i64 g] w fun e w' => ∃ ka kc, e = .returned (.slice ka m.comps[k].code.length kc) ∧ LIn B w' ka m.comps[k].code ∧ Below w.heap.size w w' := by
 obtain ⟨b, off, xa, xc, ya, yc, rfl, h1, h2, c0, c1, -⟩ := hm.gates g hg
 obtain ⟨b2, off2, ra2, rc2, ka, kc, rfl, h3, h4, d0, d1, hr, hl⟩ := hm.comps k hk
 rw [hc] at c0
 have i1 : (g : Int) < (m.gates.length : Int) := by omega
 have i2 : (k : Int) < (m.comps.length : Int) := by omega
 have hl' := Hz.mk hl
 clear hl hm hc c1 d0 hr
 unfold imA
 generalize m.comps[k].code = L at *
 go_enter Tryz.func45, Tryz.ntmps45
 go_wp2_with fail
 go_quiet (fail)
 all_goals
   go_wp2_with fail
   go_ret
   refine ⟨ka, kc, rfl, hl'.out.below (Below.mono ?_ hB), ?_⟩ <;> exact Below.trans (Below.alloc (Below.refl _ _) (Nat.le_refl _) _) ((drewNb _ _).mono (by simp))
noncomputable def calK (L : List Ins) (e : Int) (j h : Nat) : Bool := decide (h ∈ ((List.range j).filter (calB L e)).map (imF L))
theorem calK_step (L : List Ins) (e : Int) (j h : Nat) : calK L e (j + 1) h = if calB L e j = true then (if h = imF L j then true else calK L e j h) else calK L e j h := by
 unfold calK
 rw [calB_step]
 cases hb : calB L e j with
 | false => simp
 | true =>
   simp only [if_true, List.mem_append, List.mem_singleton]
   by_cases q : h = imF L j
   · simp [q]
   · simp [q]
theorem callsD_any (m : PImg) (ra ca ga : Option Addr) (rc cc gc : Nat) (g : Nat) (hg : g < m.gates.length) (hok : BOk m) (w : World) (hm : ImgIn w.heap.size w ra ca ga m) :
   Calls Tryz.prog 30 #[imA m ra rc ca cc ga gc, .int .i64 g] w fun e w' => ∃ gb, e = .returned (.slice (some ⟨gb, 0, none⟩) m.gates.length m.gates.length) ∧ w.heap.size ≤ gb ∧ At w' gb (boolA m.gates.length (fun h => decide (h ∈ nxG m g))) ∧ Below w.heap.size w w' := by
 obtain ⟨k, hk, hc, he0, he1⟩ := hok.gates g hg
 obtain ⟨hn, hco⟩ := hok.code k hk
 have hgl := hok.gl
 have hC := Hz.mk (fun W (q : Below w.heap.size w W) => codeD_any w.heap.size m ra ca ga rc cc gc g k hg hk hc W (hm.below q) q.size)
 obtain ⟨b, off, xa, xc, ya, yc, rfl, h1, h2, c0, c1, -⟩ := hm.gates g hg
 have i1 : (g : Int) < (m.gates.length : Int) := by omega
 rw [nxG_of hg hk hc]
 clear hm hc c0
 unfold imA at *
 generalize m.comps[k].code = L at *
 generalize m.gates[g].e = e0 at *
 obtain ⟨en, rfl⟩ : ∃ en : Nat, e0 = (en : Int) := ⟨e0.toNat, by omega⟩
 have he2 : en < L.length := by omega
 have hR := Hz.mk (fun W cc2 ka (q : LIn W.heap.size W ka L) => reachedD_any L cc2 ka en W q (by omega) he2)
 have hall : Hz (∀ h, decide (h ∈ calL L (en : Int)) = calK L en L.length h) := Hz.mk (fun h => rfl)
 have hmk := make_bools m.gates.length (by omega)
 replace hok := Hz.mk hco
 clear hco
 go_enter Tryz.func30, Tryz.ntmps30
 go_upto_region 1 with fail
 refine wp_world (fun W => At W w.heap.size #[.slice ra m.regs.length rc, .slice ca m.comps.length cc, .slice (some ⟨b, off, none⟩) m.gates.length gc, .int .i64 m.depth] ∧ Below w.heap.size w W) ⟨At.new w _ _, (Below.refl _ _).alloc (Nat.le_refl _) _⟩ ?_
 rintro W0 ⟨A0, hB0⟩
 have k2 : W0.cell? ⟨w.heap.size, 2, none⟩ = some (.slice (some ⟨b, off, none⟩) m.gates.length gc) := A0.2.1 2
 replace A0 := Hz.mk A0
 have hs0 := hB0.size
 replace hB0 := Hz.mk hB0
 go_upto_region 2 with fail
 refine wp_world (fun W => At W w.heap.size #[.slice ra m.regs.length rc, .slice ca m.comps.length cc, .slice (some ⟨b, off, none⟩) m.gates.length gc, .int .i64 m.depth] ∧ At W W0.heap.size (boolA m.gates.length (calK L en 0)) ∧ Below W0.heap.size W0 W) ⟨at_past A0.out (bl_alloc _ _), by rw [boolA_congr (g := fun _ => false) (fun z _ => by simp [calK])]; exact boolA_new W0 m.gates.length 4, bl_alloc _ _⟩ ?_
 rintro W ⟨A1, AL, hB1⟩
 clear k2
 have k0 : W.cell? ⟨w.heap.size, 0, none⟩ = some (.slice ra m.regs.length rc) := A1.2.1 0
 have k1 : W.cell? ⟨w.heap.size, 1, none⟩ = some (.slice ca m.comps.length cc) := A1.2.1 1
 have k2 : W.cell? ⟨w.heap.size, 2, none⟩ = some (.slice (some ⟨b, off, none⟩) m.gates.length gc) := A1.2.1 2
 have k3 : W.cell? ⟨w.heap.size, 3, none⟩ = some (.int .i64 m.depth) := A1.2.1 3
 have hl0 : w.heap.size ≤ W0.heap.size := hs0
 have hll := AL.1
 have hB := Hz.mk (hB0.out.trans (hB1.mono hs0))
 generalize W0.heap.size = lb at *
 replace A0 := Hz.mk A1
 clear A1 hB1 hB0 hmk hs0
 have hBs := hB.out.size
 replace AL := Hz.mk AL
 go_upto_region 3 with (go_at_call 45; refine (hC.out _ hB.out).mono ?_; rintro r W1 ⟨ka, kc, rfl, l1, hB1⟩; replace l1 := Hz.mk l1; replace hB1 := Hz.mk hB1)
 clear k0 k1 k2 k3
 have A1 := at_past A0.out hB1.out
 have k2 : W1.cell? ⟨w.heap.size, 2, none⟩ = some (.slice (some ⟨b, off, none⟩) m.gates.length gc) := A1.2.1 2
 have hB2 : Below w.heap.size w W1 := hB.out.trans (hB1.out.mono hB.out.size)
 have g1 : W1.cell? ⟨b, off + g * 4 + 1, none⟩ = some (.int .i64 en) := (hB2.cell (p := ⟨b, _, none⟩) h1).trans c1
 have g2 : b < W1.heap.size := Nat.lt_of_lt_of_le h2 hB2.size
 have AL1 := Hz.mk (at_past AL.out hB1.out)
 have l1' := Hz.mk (l1.out.mono hB2.size)
 have hB2s := hB2.size
 have hs1 := hB1.out.size
 replace hB2 := Hz.mk hB2
 clear A0 hB hB1 A1 c1 hC AL
 go_upto_region 4 with (go_at_call 46; refine (hR.out _ kc ka l1'.out).mono ?_; rintro r W2 ⟨gb, rfl, hgb, aB, hB3⟩; replace aB := Hz.mk aB; replace hB3 := Hz.mk hB3)
 have hB4 : Below w.heap.size w W2 := hB2.out.trans (hB3.out.mono hB2s)
 have l2 : LIn w.heap.size W2 ka L := l1.out.below (hB3.out.mono hB2s)
 have AL2 := at_past AL1.out hB3.out
 have ltb := aB.out.1
 have hne : lb ≠ gb := by omega
 have st : Hz (At W2 lb (boolA m.gates.length (calK L en 0)) ∧ At W2 gb (boolA L.length (rchB L [(en : Int)] (-1))) ∧ LIn w.heap.size W2 ka L ∧ Below w.heap.size w W2) := Hz.mk ⟨AL2, aB.out, l2, hB4⟩
 clear AL1 k2 g1 g2 hB2 l1' l1 hB3 hgb hR hB4 l2 AL2 ltb aB
 generalize hG : m.gates.length = G at *
 replace hG := Hz.mk hG
 go_upto_region 5 with fail
 go_loopw [8] (fun iv wr => ∃ j : Nat, iv = .int .i64 j ∧ j ≤ L.length ∧ Hz (At wr lb (boolA G (calK L en j)) ∧ At wr gb (boolA L.length (rchB L [(en : Int)] (-1))) ∧ LIn w.heap.size wr ka L ∧ Below w.heap.size w wr)) (fun iv _ => L.length - (intOf iv).toNat)
 case atStart => exact ⟨0, rfl, by omega, st⟩
 case round =>
   clear st
   obtain ⟨j, rfl, hj, ⟨hA, hR, hl, hB⟩⟩ := hrel
   by_cases hlt : j < L.length
   · have hi1 : (j : Int) < L.length := by omega
     have hzb := bool_at hR j hlt
     obtain ⟨bb, oo, rfl, hbw, hbb, five⟩ := hl j hlt
     have f0 := five.1
     have f4 := five.2.2.2.2
     have heg : L[j]? = some L[j] := List.getElem?_eq_getElem hlt
     have hst := calK_step L en j
     clear five
     cases hr : rchB L [(en : Int)] (-1) j with
     | false =>
       have hcb : calB L en j = false := by unfold calB; rw [hr]; rfl
       rw [hr] at hzb
       have hnew : Hz (At wr lb (boolA G (calK L en (j + 1))) ∧ At wr gb (boolA L.length (rchB L [(en : Int)] (-1))) ∧ LIn w.heap.size wr (some ⟨bb, oo, none⟩) L ∧ Below w.heap.size w wr) := Hz.mk ⟨by rw [boolA_congr (g := calK L en j) (fun z _ => by rw [hst, hcb]; rfl)]; exact hA, hR, hl, hB⟩
       generalize L[j] = ins at *
       replace hst := Hz.mk hst
       replace heg := Hz.mk heg
       replace hcb := Hz.mk hcb
       replace hr := Hz.mk hr
       replace hA := Hz.mk hA
       replace hR := Hz.mk hR
       replace hl := Hz.mk hl
       replace hB := Hz.mk hB
       go_wp2_with fail
       go_roundw
       all_goals first | exact ⟨j + 1, by simp, by omega, hnew⟩ | (simp only [intOf]; omega)
     | true =>
       rw [hr] at hzb
       by_cases ho : L[j].op = 31
       · have hcb : calB L en j = true := by unfold calB; rw [hr, heg]; show (true && L[j].op == 31) = true; rw [ho]; rfl
         have him : imF L j = L[j].m.toNat := by unfold imF; rw [heg]
         have hcl := hok.out L[j] (List.getElem_mem hlt) ho
         have hmm : L[j].m = (L[j].m.toNat : Int) := by omega
         have hmG : L[j].m.toNat < G := by have := hG.out; omega
         rw [ho] at f0
         rw [hmm] at f4
         rw [him] at hst
         generalize L[j].m.toNat = mm at *
         have hmi : (mm : Int) < G := by omega
         have hzm := bool_at hA mm hmG
         have hfy := hA.2.2
         have hgy := hA.1
         have hnew : Hz (At (wr.setCell ⟨lb, mm, none⟩ (.bool true)) lb (boolA G (calK L en (j + 1))) ∧ At (wr.setCell ⟨lb, mm, none⟩ (.bool true)) gb (boolA L.length (rchB L [(en : Int)] (-1))) ∧ LIn w.heap.size (wr.setCell ⟨lb, mm, none⟩ (.bool true)) (some ⟨bb, oo, none⟩) L ∧ Below w.heap.size w (wr.setCell ⟨lb, mm, none⟩ (.bool true))) := Hz.mk ⟨boolA_put hA mm true hmG (fun z _ => by rw [hst, hcb, if_pos rfl]), hR.other (by omega) mm [.bool true], hl.below ((Below.refl _ _).setCell hl0 _), hB.setCell hl0 _⟩
         clear hmm hcl him
         generalize L[j] = ins at *
         replace hst := Hz.mk hst
         replace heg := Hz.mk heg
         replace hcb := Hz.mk hcb
         replace hr := Hz.mk hr
         replace hA := Hz.mk hA
         replace hR := Hz.mk hR
         replace hl := Hz.mk hl
         replace hB := Hz.mk hB
         go_wp2_with fail
         go_roundw
         all_goals first | exact ⟨j + 1, by simp, by omega, hnew⟩ | (simp only [intOf]; omega)
       · have hcb : calB L en j = false := by unfold calB; rw [hr, heg]; show (true && L[j].op == 31) = false; simpa using ho
         have e1 : (L[j].op == 31) = false := by simpa using ho
         have hnew : Hz (At wr lb (boolA G (calK L en (j + 1))) ∧ At wr gb (boolA L.length (rchB L [(en : Int)] (-1))) ∧ LIn w.heap.size wr (some ⟨bb, oo, none⟩) L ∧ Below w.heap.size w wr) := Hz.mk ⟨by rw [boolA_congr (g := calK L en j) (fun z _ => by rw [hst, hcb]; rfl)]; exact hA, hR, hl, hB⟩
         generalize L[j] = ins at *
         replace hst := Hz.mk hst
         replace heg := Hz.mk heg
         replace hcb := Hz.mk hcb
         replace hr := Hz.mk hr
         replace hA := Hz.mk hA
         replace hR := Hz.mk hR
         replace hl := Hz.mk hl
         replace hB := Hz.mk hB
         go_wp2_with fail
         go_roundw
         all_goals first | exact ⟨j + 1, by simp, by omega, hnew⟩ | (simp only [intOf]; omega)
   · have hi1 : ¬ (j : Int) < L.length := by omega
     have ej : j = L.length := by omega
     subst ej
     have hfin : Hz (At wr lb (boolA G (fun h => decide (h ∈ calL L (en : Int))))) := Hz.mk (by rw [boolA_congr (g := calK L en L.length) (fun z _ => hall.out z)]; exact hA)
     replace hA := Hz.mk hA
     replace hR := Hz.mk hR
     replace hl := Hz.mk hl
     replace hB := Hz.mk hB
     go_wp2_with fail
     go_ret
     exact ⟨lb, by rw [hG.out]; rfl, hl0, by rw [hG.out]; exact hfin.out, hB.out⟩
end Bd
end Go.Proofs.YtdlcphinjnnhcaaGreatDoor


namespace Go.Proofs.YtdlcphinjnnhcaaGreatDoor
set_option maxRecDepth 100000
set_option maxHeartbeats 40000000
namespace Bd
open Go.RowKit
open F (IOwn own_slice cnt cnt_congr cnt_le aN)

theorem Ir.congr {K : IntKind} {w : World} {kr n : Nat} {F F' : Nat → Int} (h : Ir K w kr n F) (e : ∀ q, q < n → F q = F' q) : Ir K w kr n F' := ⟨h.lt, h.fr, fun q hq => by rw [← e q hq]; exact h.c q hq⟩
def irB (w : World) (kr : Nat) (q : Nat) : Bool := match w.cell? ⟨kr, q, none⟩ with | some (.int _ v) => decide (0 ≤ v) | _ => false
theorem cnt_irB {w : World} {kr n : Nat} {F : Nat → Int} {K : IntKind} (h : Ir K w kr n F) : cnt n (irB w kr) = cnt n (fun q => decide (0 ≤ F q)) :=
 cnt_congr n (fun q hq => by unfold irB; rw [h.c q hq])
theorem rep_snoc (i : Nat) : List.replicate (i + 1) (-1 : Int) = List.replicate i (-1) ++ [-1] := by rw [List.replicate_succ']
theorem own_some {w : World} {lo : Nat} {v : Value} {L : List Int} (h : IOwn w lo v L) (h0 : L ≠ []) : ∃ g cap, v = .slice (some ⟨g, 0, none⟩) L.length cap ∧ lo ≤ g := by
 rcases h.2 with h2 | ⟨g', cap', cur, hv, hbg, hg, rest⟩
 · exact absurd (List.length_eq_zero_iff.1 h2.2) h0
 · exact ⟨g', cap', hv, hbg⟩
theorem rep_ne : ∀ n, 0 < n → List.replicate n (-1 : Int) ≠ []
 | 0, h => by omega
 | n + 1, _ => by simp [List.replicate_succ]
theorem depthsD_any (m : PImg) (ra ca ga : Option Addr) (rc cc gc : Nat) (h0 : 0 < m.gates.length) (hok : BOk m) (w : World) (hm : ImgIn w.heap.size w ra ca ga m) :
   Calls Tryz.prog 23 #[imA m ra rc ca cc ga gc] w fun e w' => ∃ kr cap, e = .returned (.slice (some ⟨kr, 0, none⟩) m.gates.length cap) ∧ w.heap.size ≤ kr ∧ Ir .i64 w' kr m.gates.length (dpV m) ∧ Below w.heap.size w w' := by
 have hC := Hz.mk (fun W g (q : Below w.heap.size w W) (hg : g < m.gates.length) => callsD_any m ra ca ga rc cc gc g hg hok W ((hm.below q).mono q.size))
 have hgl := hok.gl
 have hfind := Hz.mk (fun l0 l a g (h : Dw m l0 l a g) c hg hc => h.find hok hg (c := c) hc)
 have hval := Hz.mk (fun l0 l a g (h : Dw m l0 l a g) => h.val hok.gl)
 have hover := Hz.mk (fun l0 l a (h : Dw m l0 l a m.gates.length) => h.over hok)
 have hdone := Hz.mk (fun l (h : Dq m l false) => h.done hok)
 have hnin := Hz.mk (fun g (hg : g < m.gates.length) x (hx : x ∈ nxG m g) => List.mem_range.1 (nxG_in hok g (List.mem_range.2 hg) x hx))
 unfold imA at *
 clear hm hok
 go_enter Tryz.func23, Tryz.ntmps23
 go_upto_region 1 with fail
 refine wp_world (fun W => At W w.heap.size #[.slice ra m.regs.length rc, .slice ca m.comps.length cc, .slice ga m.gates.length gc, .int .i64 m.depth] ∧ Below w.heap.size w W) ⟨At.new w _ _, (Below.refl _ _).alloc (Nat.le_refl _) _⟩ ?_
 rintro W ⟨A0, hB⟩
 have hWs := hB.size
 have hlw := A0.1
 have KS : ∀ X, Below W.heap.size W X → X.cell? ⟨w.heap.size, 0, none⟩ = some (.slice ra m.regs.length rc) ∧ X.cell? ⟨w.heap.size, 1, none⟩ = some (.slice ca m.comps.length cc) ∧ X.cell? ⟨w.heap.size, 2, none⟩ = some (.slice ga m.gates.length gc) ∧ X.cell? ⟨w.heap.size, 3, none⟩ = some (.int .i64 m.depth) := fun X q => by
   have a := (at_past A0 q).2.1
   exact ⟨a 0, a 1, a 2, a 3⟩
 have BS := Hz.mk (fun X (q : Below W.heap.size W X) => hB.trans (q.mono hWs))
 replace KS := Hz.mk KS
 clear A0 hB
 go_upto_region 3 with fail
 go_loopw [3, 4] (fun v x wr => ∃ i : Nat, x = .int .i64 i ∧ i ≤ m.gates.length ∧ Hz (IOwn wr W.heap.size v (List.replicate i (-1)) ∧ Below W.heap.size W wr)) (fun _ x _ => m.gates.length - (intOf x).toNat)
 case atStart => exact ⟨0, rfl, by omega, Hz.mk ⟨own_nilD _ _, Below.refl _ _⟩⟩
 case round =>
   obtain ⟨i, rfl, hi, ⟨h1, h2⟩⟩ := hrel
   obtain ⟨-, -, k2, -⟩ := KS.out wr h2
   by_cases hlt : i < m.gates.length
   · have hi1 : (i : Int) < m.gates.length := by omega
     have hs := rep_snoc i
     have hl : (List.replicate i (-1 : Int)).length = i := by simp
     obtain ⟨va, vc, rfl⟩ := own_slice h1
     rw [hl] at h1 ⊢
     generalize List.replicate i (-1 : Int) = l at *
     have hsz := h2.size
     have hrow := fun X (q : Below wr.heap.size wr X) => (show IOwn X W.heap.size (.slice va i vc) l from own_below h1 q)
     have hlk := fun k r => (World.ownsRow.lt h1 k r).1
     replace hrow := Hz.mk hrow
     replace h1 := Hz.mk h1
     replace h2 := Hz.mk h2
     replace hs := Hz.mk hs
     replace hlk := Hz.mk hlk
     go_wp2_with (first | (at_builtin; refine F.wpList_append_int rfl (.tmp 17) (.tmp 18) rfl W.heap.size (.slice va i vc) l (-1 : Int) rfl (hrow.out _ (bl_alloc _ _)) wr.heap.size rfl (At.new _ _ _) (by omega) (by simp; omega) ?_))
     intro g cap w2 g1 g2 g3 g4
     have hnw : Hz (IOwn w2 W.heap.size (.slice (some ⟨g, 0, none⟩) (i + 1) cap) (List.replicate (i + 1) (-1)) ∧ Below W.heap.size W w2) := Hz.mk ⟨by rw [hs.out]; exact g1, (h2.out.trans ((bl_alloc _ _).mono hsz)).trans (Below.of_grown g2 (by simp; omega) (fun k r => hlk.out k r))⟩
     replace g1 := Hz.mk g1
     replace g2 := Hz.mk g2
     clear k2
     go_wp2_with fail
     go_roundw
     all_goals first | exact ⟨i + 1, by simp, by omega, hnw⟩ | (simp only [intOf]; omega)
   · have hi1 : ¬ (i : Int) < m.gates.length := by omega
     have ei : i = m.gates.length := by omega
     subst ei
     obtain ⟨kr, cap, hv, hlo⟩ := own_some h1 (rep_ne _ h0)
     rw [List.length_replicate] at hv
     subst hv
     have hI : Ir .i64 wr kr m.gates.length (fun _ => -1) := by
       have h3 : IOwn wr W.heap.size (.slice (some ⟨kr, 0, none⟩) (List.replicate m.gates.length (-1 : Int)).length cap) (List.replicate m.gates.length (-1)) := by rw [List.length_replicate]; exact h1
       have := Ir.of_own h3
       rw [List.length_replicate] at this
       exact this.congr (fun q hq => by rw [List.getD_eq_getElem?_getD, List.getElem?_replicate, if_pos hq]; rfl)
     have hst : Hz (Ir .i64 wr kr m.gates.length (fun _ => -1) ∧ Dq m (fun _ => -1) true ∧ Below W.heap.size W wr) := Hz.mk ⟨hI, Dq.start m, h2⟩
     clear h1 h2 hI
     go_upto_region 7 with fail
     clear k2
     rename World => wo
     go_loopw [5] (fun b wr => ∃ (a : Bool) (l : Nat → Int), b = .bool a ∧ Hz (Ir .i64 wr kr m.gates.length l ∧ Dq m l a ∧ Below W.heap.size W wr)) (fun b wr => 2 * (m.gates.length - cnt m.gates.length (irB wr kr)) + aN b)
     case atStart => exact ⟨true, _, rfl, hst⟩
     case round =>
       clear hst
       obtain ⟨a, l0, rfl, ⟨j1, j2, j3⟩⟩ := hrel
       cases a with
       | false =>
         have hfin : Hz (Ir .i64 wr kr m.gates.length (dpV m)) := Hz.mk (j1.congr (fun q hq => hdone.out l0 j2 q hq))
         replace j1 := Hz.mk j1
         replace j2 := Hz.mk j2
         replace j3 := Hz.mk j3
         go_wp2_with fail
         go_ret
         exact ⟨_, _, rfl, Nat.le_trans hWs hlo, hfin.out, BS.out _ j3.out⟩
       | true =>
         have hS0 : Hz (Ir .i64 wr kr m.gates.length l0 ∧ Dw m l0 l0 false 0 ∧ Below W.heap.size W wr) := Hz.mk ⟨j1, Dw.start j2.snd, j3⟩
         have hm0 := cnt_irB j1
         replace j1 := Hz.mk j1
         replace j2 := Hz.mk j2
         replace j3 := Hz.mk j3
         go_upto_region 10 with fail
         rename World => wp
         go_loopw [5, 6] (fun b x wr => ∃ (a : Bool) (l : Nat → Int) (g : Nat), b = .bool a ∧ x = .int .i64 g ∧ g ≤ m.gates.length ∧ Hz (Ir .i64 wr kr m.gates.length l ∧ Dw m l0 l a g ∧ Below W.heap.size W wr)) (fun _ x _ => m.gates.length - (intOf x).toNat)
         case atStart => exact ⟨false, l0, 0, rfl, rfl, by omega, hS0⟩
         case round =>
           clear hS0
           obtain ⟨a, l, g, rfl, rfl, hg, ⟨n1, n2, n3⟩⟩ := hrel
           obtain ⟨k0, k1, k2, k3⟩ := KS.out wr n3
           by_cases hgl2 : g < m.gates.length
           · have hg1 : (g : Int) < m.gates.length := by omega
             have hCg := Hz.mk (hC.out wr g (BS.out wr n3) hgl2)
             have hfd := Hz.mk (hfind.out l0 l a g n2 (fun h => decide (h ∈ nxG m g)) hgl2 (fun x _ => by simp))
             have hvl := hval.out l0 l a g n2
             have hrs := n3.size
             have hkl := n1.lt
             replace n1 := Hz.mk n1
             replace n2 := Hz.mk n2
             replace n3 := Hz.mk n3
             go_upto_region 13 with (go_at_call 30; refine hCg.out.mono ?_; rintro r w1 ⟨gb, rfl, hgb, aB, hb1⟩; replace aB := Hz.mk aB; replace hb1 := Hz.mk hb1)
             clear k0 k1 k2 k3 hCg
             have p1 := Hz.mk (n1.out.below hb1.out)
             have p3 := Hz.mk (n3.out.trans (hb1.out.mono hrs))
             have hin := Hz.mk (fun x hx => hnin.out g hgl2 x hx)
             clear n1 n3 hb1
             generalize hcF : (fun h => decide (h ∈ nxG m g)) = c at *
             replace hcF := Hz.mk hcF
             go_upto_region 15 with fail
             rename World => w1
             go_loopw [8, 9] (fun d x wx => ∃ h : Nat, d = .int .i64 (dnD c l h) ∧ x = .int .i64 h ∧ h ≤ m.gates.length ∧ w1 = wx) (fun _ x _ => m.gates.length - (intOf x).toNat)
             case atStart => exact ⟨0, rfl, rfl, by omega, rfl⟩
             case round =>
               obtain ⟨h, rfl, rfl, hh, hwx⟩ := hrel
               subst hwx
               by_cases hhl : h < m.gates.length
               · have hh1 : (h : Int) < m.gates.length := by omega
                 have zc := bool_at aB.out h hhl
                 have zl := p1.out.c h hhl
                 have hzg := aB.out.1
                 have hzk := p1.out.lt
                 have hv := hvl h hhl
                 have hd0 := dnD_lo c l h
                 have hd1 := dnD_hi (c := c) (l := l) (b := 16) (by omega) h (fun x hx => by have := hvl x (by omega); omega)
                 have hs : dnD c l (h + 1) = if c h = true then (if l h < 0 then -1 else if 0 ≤ dnD c l h ∧ dnD c l h < l h + 1 then l h + 1 else dnD c l h) else dnD c l h := rfl
                 have w1w : wrap64 (l h + 1) = l h + 1 := by unfold wrap64; omega
                 have w1x : IntKind.i64.wrap (l h + 1) = l h + 1 := by rw [IntKind.wrap_i64]; omega
                 cases hc : c h with
                 | false =>
                   rw [hc] at zc hs
                   have hs2 := Hz.mk (show dnD c l (h + 1) = dnD c l h from by rw [hs]; rw [if_neg Bool.false_ne_true])
                   clear hs
                   generalize hdd : dnD c l h = d at *
                   generalize hlh : l h = lh at *
                   replace hdd := Hz.mk hdd
                   replace hlh := Hz.mk hlh
                   replace hvl := Hz.mk hvl
                   replace hc := Hz.mk hc
                   replace hd0 := Hz.mk hd0
                   replace hd1 := Hz.mk hd1
                   replace hv := Hz.mk hv
                   go_wp2_with fail
                   go_roundw
                   all_goals first | exact ⟨h + 1, by rw [hs2.out], by first | rfl | simp, by omega, by trivial⟩ | (simp only [intOf]; omega)
                 | true =>
                   rw [hc] at zc hs
                   by_cases q1 : l h < 0
                   · have q1' : ¬ 0 ≤ l h := by omega
                     have hs2 := Hz.mk (show dnD c l (h + 1) = -1 from by rw [hs]; rw [if_pos rfl, if_pos q1])
                     clear hs
                     generalize hdd : dnD c l h = d at *
                     generalize hlh : l h = lh at *
                     replace hdd := Hz.mk hdd
                     replace hlh := Hz.mk hlh
                     replace hvl := Hz.mk hvl
                     replace hc := Hz.mk hc
                     replace hd0 := Hz.mk hd0
                     replace hd1 := Hz.mk hd1
                     replace hv := Hz.mk hv
                     go_wp2_with fail
                     go_roundw
                     all_goals first | exact ⟨h + 1, by rw [hs2.out], by first | rfl | simp, by omega, by trivial⟩ | (simp only [intOf]; omega)
                   · have q1' : 0 ≤ l h := by omega
                     by_cases q2 : 0 ≤ dnD c l h
                     · by_cases q3 : dnD c l h < l h + 1
                       · skip
                         have hs2 := Hz.mk (show dnD c l (h + 1) = l h + 1 from by rw [hs]; rw [if_pos rfl, if_neg q1, if_pos ⟨q2, q3⟩])
                         clear hs
                         generalize hdd : dnD c l h = d at *
                         generalize hlh : l h = lh at *
                         replace hdd := Hz.mk hdd
                         replace hlh := Hz.mk hlh
                         replace hvl := Hz.mk hvl
                         replace hc := Hz.mk hc
                         replace hd0 := Hz.mk hd0
                         replace hd1 := Hz.mk hd1
                         replace hv := Hz.mk hv
                         go_wp2_with fail
                         go_roundw
                         all_goals first | exact ⟨h + 1, by rw [hs2.out], by first | rfl | simp, by omega, by trivial⟩ | (simp only [intOf]; omega)
                       · have q3' : l h + 1 ≤ dnD c l h := by omega
                         have hs2 := Hz.mk (show dnD c l (h + 1) = dnD c l h from by rw [hs]; rw [if_pos rfl, if_neg q1, if_neg (fun q => q3 q.2)])
                         clear hs
                         generalize hdd : dnD c l h = d at *
                         generalize hlh : l h = lh at *
                         replace hdd := Hz.mk hdd
                         replace hlh := Hz.mk hlh
                         replace hvl := Hz.mk hvl
                         replace hc := Hz.mk hc
                         replace hd0 := Hz.mk hd0
                         replace hd1 := Hz.mk hd1
                         replace hv := Hz.mk hv
                         go_wp2_with fail
                         go_roundw
                         all_goals first | exact ⟨h + 1, by rw [hs2.out], by first | rfl | simp, by omega, by trivial⟩ | (simp only [intOf]; omega)
                     · have q2' : dnD c l h < 0 := by omega
                       have hs2 := Hz.mk (show dnD c l (h + 1) = dnD c l h from by rw [hs]; rw [if_pos rfl, if_neg q1, if_neg (fun q => q2 q.1)])
                       clear hs
                       generalize hdd : dnD c l h = d at *
                       generalize hlh : l h = lh at *
                       replace hdd := Hz.mk hdd
                       replace hlh := Hz.mk hlh
                       replace hvl := Hz.mk hvl
                       replace hc := Hz.mk hc
                       replace hd0 := Hz.mk hd0
                       replace hd1 := Hz.mk hd1
                       replace hv := Hz.mk hv
                       go_wp2_with fail
                       go_roundw
                       all_goals first | exact ⟨h + 1, by rw [hs2.out], by first | rfl | simp, by omega, by trivial⟩ | (simp only [intOf]; omega)
               · have hh1 : ¬ (h : Int) < m.gates.length := by omega
                 have eh : h = m.gates.length := by omega
                 subst eh
                 have hgz := p1.out.c g hgl2
                 have hkl2 := p1.out.lt
                 have hkf := p1.out.fr g
                 have hvg := hvl g hgl2
                 have hd1 := dnD_hi (c := c) (l := l) (b := 16) (by omega) m.gates.length (fun x hx => by have := hvl x (by omega); omega)
                 have hd0 := dnD_lo c l m.gates.length
                 have hsk := fun (h : 0 ≤ l g ∨ ∃ x ∈ nxG m g, x < m.gates.length ∧ l x < 0) => n2.out.skip hgl2 h
                 have hpt := fun (q : l g < 0) {d : Int} (hd : 0 ≤ d) he => n2.out.put hgl2 q (d := d) hd he
                 by_cases q1 : 0 ≤ dnD c l m.gates.length
                 · have he : ev (nxG m) dpF (List.range m.gates.length) g = some (dnD c l m.gates.length) := by
                     rcases hfd.out with ⟨e, _⟩ | ⟨_, e⟩
                     · omega
                     · exact e
                   by_cases q2 : l g < 0
                   · have hnew : Hz (Ir .i64 (w1.setCell ⟨kr, g, none⟩ (.int .i64 (dnD c l m.gates.length))) kr m.gates.length (fun q => if q = g then dnD c l m.gates.length else l q) ∧ Dw m l0 (fun q => if q = g then dnD c l m.gates.length else l q) true (g + 1) ∧ Below W.heap.size W (w1.setCell ⟨kr, g, none⟩ (.int .i64 (dnD c l m.gates.length)))) := Hz.mk ⟨p1.out.put hgl2 _, hpt q2 q1 he, p3.out.setCell hlo _⟩
                     clear hsk hpt he
                     generalize dnD c l m.gates.length = d at *
                     generalize l g = lg at *
                     replace hvl := Hz.mk hvl
                     replace hvg := Hz.mk hvg
                     replace hd0 := Hz.mk hd0
                     replace hd1 := Hz.mk hd1
                     go_wp2_with fail
                     go_roundw
                     all_goals first | exact ⟨true, _, g + 1, rfl, by first | rfl | simp, by omega, hnew⟩ | (simp only [intOf]; omega)
                   · have q2' : 0 ≤ l g := by omega
                     have hnew : Hz (Ir .i64 w1 kr m.gates.length l ∧ Dw m l0 l a (g + 1) ∧ Below W.heap.size W w1) := Hz.mk ⟨p1.out, hsk (.inl q2'), p3.out⟩
                     clear hsk hpt he
                     generalize dnD c l m.gates.length = d at *
                     generalize hlg : l g = lg at *
                     replace hlg := Hz.mk hlg
                     replace hvl := Hz.mk hvl
                     replace hvg := Hz.mk hvg
                     replace hd0 := Hz.mk hd0
                     replace hd1 := Hz.mk hd1
                     go_wp2_with fail
                     go_roundw
                     all_goals first | exact ⟨a, l, g + 1, rfl, by first | rfl | simp, by omega, hnew⟩ | (simp only [intOf]; omega)
                 · have hnew : Hz (Ir .i64 w1 kr m.gates.length l ∧ Dw m l0 l a (g + 1) ∧ Below W.heap.size W w1) := Hz.mk ⟨p1.out, hsk (by
                     rcases hfd.out with ⟨_, x, e1, e2⟩ | ⟨e, _⟩
                     · exact .inr ⟨x, e1, hin.out x e1, e2⟩
                     · exact absurd e q1), p3.out⟩
                   clear hsk hpt
                   have q1' : dnD c l m.gates.length < 0 := by omega
                   generalize dnD c l m.gates.length = d at *
                   generalize hlg : l g = lg at *
                   replace hlg := Hz.mk hlg
                   replace hvl := Hz.mk hvl
                   replace hvg := Hz.mk hvg
                   replace hd0 := Hz.mk hd0
                   replace hd1 := Hz.mk hd1
                   go_wp2_with fail
                   go_roundw
                   all_goals first | exact ⟨a, l, g + 1, rfl, by first | rfl | simp, by omega, hnew⟩ | (simp only [intOf]; omega)
           · have hg1 : ¬ (g : Int) < m.gates.length := by omega
             have eg : g = m.gates.length := by omega
             subst eg
             have hnew : Hz (Ir .i64 wr kr m.gates.length l ∧ Dq m l a ∧ Below W.heap.size W wr) := Hz.mk ⟨n1, hover.out l0 l a n2, n3⟩
             have hm1 := cnt_irB n1
             have hm3 : a = true → cnt m.gates.length (fun q => decide (0 ≤ l0 q)) + 1 ≤ cnt m.gates.length (fun q => decide (0 ≤ l q)) := n2.on
             have hm4 : a = false → cnt m.gates.length (fun q => decide (0 ≤ l q)) = cnt m.gates.length (fun q => decide (0 ≤ l0 q)) := fun e => cnt_congr m.gates.length (fun q hq => by rw [n2.off e q hq])
             have hm2 := cnt_le m.gates.length (fun q => decide (0 ≤ l q))
             have hme : 2 * (m.gates.length - cnt m.gates.length (irB wr kr)) + aN (.bool a) < 2 * (m.gates.length - cnt m.gates.length (irB wp kr)) + aN (.bool true) := by
               rw [hm1, hm0]
               cases a with
               | true => have := hm3 rfl; simp only [aN]; omega
               | false => have := hm4 rfl; simp only [aN]; omega
             replace n1 := Hz.mk n1
             replace n2 := Hz.mk n2
             replace n3 := Hz.mk n3
             replace hme := Hz.mk hme
             replace hm3 := Hz.mk hm3
             replace hm4 := Hz.mk hm4
             go_wp2_with fail
             go_roundw
             all_goals first | exact ⟨a, l, rfl, hnew⟩ | exact hme.out
end Bd
end Go.Proofs.YtdlcphinjnnhcaaGreatDoor


namespace Go.Proofs.YtdlcphinjnnhcaaGreatDoor
namespace Bd
open Go.RowKit
open F (thB folB cnt Rch)

structure Gm (S : Int → Prop) (d : Int) : Prop where
 nn : 0 ≤ d
 up : ∀ x, S x → x ≤ d
 at_ : d = 0 ∨ S d
theorem Gm.le {S S' : Int → Prop} {d e : Int} (h : Gm S d) (g : Gm S' e) (hs : ∀ x, S x → x = 0 ∨ S' x) : d ≤ e := by
 rcases h.at_ with h0 | h0
 · rw [h0]; exact g.nn
 · rcases hs d h0 with q | q
   · rw [q]; exact g.nn
   · exact g.up d q
theorem gm_fold : ∀ (l : List Int), ∀ a, 0 ≤ a → Gm (fun x => x = a ∨ x ∈ l) (l.foldl max a) := by
 refine snoc_ind (P := fun l => ∀ a, 0 ≤ a → Gm (fun x => x = a ∨ x ∈ l) (l.foldl max a)) ?_ ?_
 · intro a ha
   refine ⟨ha, fun x hx => ?_, .inr (.inl rfl)⟩
   rcases hx with rfl | hx
   · exact Int.le_refl _
   · cases hx
 · intro l x ih a ha
   have h := ih a ha
   rw [List.foldl_append, List.foldl_cons, List.foldl_nil]
   refine ⟨by have := h.nn; omega, fun y hy => ?_, ?_⟩
   · rcases hy with hy | hy
     · have := h.up y (.inl hy); omega
     · rcases List.mem_append.1 hy with hy | hy
       · have := h.up y (.inr hy); omega
       · rw [List.mem_singleton] at hy; omega
   · by_cases q : l.foldl max a ≤ x
     · right; right; rw [Int.max_eq_right q]; simp
     · rw [Int.max_eq_left (by omega)]
       rcases h.at_ with h0 | h0 | h0
       · exact .inl h0
       · exact .inr (.inl h0)
       · exact .inr (.inr (by simp [h0]))
def tpD (v : Int) : Int := min v 1099511627777
theorem Gm.tp {S : Int → Prop} {d : Int} (h : Gm S d) : Gm (fun x => ∃ y, S y ∧ x = tpD y) (tpD d) := by
 refine ⟨by have := h.nn; unfold tpD; omega, fun x hx => ?_, ?_⟩
 · obtain ⟨y, hy, rfl⟩ := hx
   have := h.up y hy
   unfold tpD
   omega
 · rcases h.at_ with h0 | h0
   · left; rw [h0]; rfl
   · exact .inr ⟨d, h0, rfl⟩
def mostD (L : List Ins) (bh : Nat → Int) (ovr : Int) (pc : Nat) (N : List Int) : Int := (N.map fun y => bh y.toNat).foldl max (if ovB L pc = true then ovr else 0)
theorem mostD_snoc (L : List Ins) (bh : Nat → Int) (ovr : Int) (pc : Nat) (N : List Int) (y : Int) : mostD L bh ovr pc (N ++ [y]) = max (mostD L bh ovr pc N) (bh y.toNat) := by
 unfold mostD
 rw [List.map_append, List.foldl_append]
 rfl
theorem mostD_in {L : List Ins} {bh : Nat → Int} {ovr : Int} (ho : 0 ≤ ovr ∧ ovr ≤ 1099511627777) {pc : Nat} (N : List Int) (hb : ∀ y ∈ N, bh y.toNat ≤ 1099511627777) : 0 ≤ mostD L bh ovr pc N ∧ mostD L bh ovr pc N ≤ 1099511627777 := by
 have h0 : 0 ≤ (if ovB L pc = true then ovr else 0) := by split <;> omega
 have h := gm_fold (N.map fun y => bh y.toNat) _ h0
 refine ⟨h.nn, ?_⟩
 unfold mostD
 rcases h.at_ with q | q | q
 · rw [q]; omega
 · rw [q]; split <;> omega
 · obtain ⟨y, hy, e⟩ := List.mem_map.1 q
   rw [← e]
   exact hb y hy
theorem nxN_mem {L : List Ins} {pc : Nat} (hp : pc < L.length) (q : Nat) : q ∈ nxN L pc ↔ folB L pc q = true ∨ (ovB L pc = true ∧ q = L.length) := by
 have ht : thB L.length pc = true := by unfold thB; simp only [Bool.and_eq_true, decide_eq_true_eq]; omega
 unfold nxN
 rw [if_pos ht, List.mem_append, List.mem_filter, List.mem_range]
 constructor
 · rintro (⟨_, h⟩ | h)
   · exact .inl h
   · split at h
     · rename_i q1; exact .inr ⟨q1, by simpa using h⟩
     · cases h
 · rintro (h | ⟨h1, h2⟩)
   · exact .inl ⟨F.folB_lt h, h⟩
   · right; rw [if_pos h1, h2]; simp
theorem nxN_over (L : List Ins) : nxN L L.length = [] := by
 have ht : thB L.length (L.length : Nat) = false := by unfold thB; simp
 have ho : ovB L L.length = false := by unfold ovB; rw [decide_eq_false (by omega)]; rfl
 unfold nxN
 rw [ht, ho]
 rfl
section
variable {L : List Ins} {cF : Nat → Int} (hc : ∀ pc, 0 ≤ cF pc ∧ cF pc ≤ 1099511627777) (hl : L.length ≤ 400)
include hc hl
theorem sumS_le {pc : Nat} {v : Int} (h : sumS L cF pc = some v) : 0 ≤ v ∧ v ≤ 440904162738577 := by
 unfold sumS ev at h
 have := sum_get hc _ (by rw [List.length_range]; omega) pc v h
 rw [List.length_range] at this
 have : ((L.length + 1 : Nat) : Int) * 1099511627777 ≤ 401 * 1099511627777 := Int.mul_le_mul_of_nonneg_right (by omega) (by omega)
 omega
omit hl in
theorem sumS_over : sumS L cF L.length = some (cF L.length) := by
 unfold sumS
 have h := ev_known (f := wyS cF) (nx := nxN L) (U := List.range (L.length + 1)) (fun n _ c hc' => nxN_in L n c hc') (n := L.length) (vs := []) (List.mem_range.2 (by omega)) (by rw [nxN_over]; rfl)
 rw [h]
 have := hc L.length
 unfold wyS mxL
 rw [List.foldl_nil, Int.add_zero, wrapU _ (by omega)]
theorem sumS_find {bh : Nat → Int} {pc : Nat} (hp : pc < L.length) (hb : ∀ q, folB L pc q = true → ∃ v, sumS L cF q = some v ∧ bh q = tpD v) : ∃ v, sumS L cF pc = some v ∧ tpD (mostD L bh (cF L.length) pc (nxD L pc) + cF pc) = tpD v := by
 have hU : ∀ n ∈ List.range (L.length + 1), ∀ c ∈ nxN L n, c ∈ List.range (L.length + 1) := fun n _ c h => nxN_in L n c h
 have hv : ∀ q ∈ nxN L pc, ∃ v, sumS L cF q = some v := fun q hq => by
   rcases (nxN_mem hp q).1 hq with h | ⟨_, rfl⟩
   · obtain ⟨v, h1, _⟩ := hb q h; exact ⟨v, h1⟩
   · exact ⟨_, sumS_over hc⟩
 have hm : (nxN L pc).map (sumS L cF) = ((nxN L pc).map fun q => (sumS L cF q).getD 0).map some := by
   rw [List.map_map]
   refine List.map_congr_left fun q hq => ?_
   obtain ⟨v, h⟩ := hv q hq
   show sumS L cF q = some ((sumS L cF q).getD 0)
   rw [h]; rfl
 have h1 := ev_known (f := wyS cF) hU (n := pc) (List.mem_range.2 (by omega)) hm
 have hN := hm
 generalize ((nxN L pc).map fun q => (sumS L cF q).getD 0) = vs at *
 have hmem : ∀ x, x ∈ vs ↔ ∃ q ∈ nxN L pc, sumS L cF q = some x := fun x => ⟨fun h => (map_some hN).2 x h, fun ⟨q, h1, h2⟩ => by
   obtain ⟨y, h3, h4⟩ := (map_some hN).1 q h1
   rw [h2] at h4
   injection h4 with h4
   rw [h4]; exact h3⟩
 have hvb : ∀ x ∈ vs, 0 ≤ x ∧ x ≤ 440904162738577 := fun x hx => by
   obtain ⟨q, _, h2⟩ := (hmem x).1 hx
   exact sumS_le hc hl h2
 have g1 := gm_fold vs 0 (Int.le_refl _)
 have hmx : 0 ≤ mxL vs ∧ mxL vs ≤ 440904162738577 := by
   refine ⟨g1.nn, ?_⟩
   show vs.foldl max 0 ≤ _
   rcases g1.at_ with q | q | q
   · rw [q]; omega
   · rw [q]; omega
   · exact (hvb _ q).2
 have hcp := hc pc
 have ho := hc L.length
 refine ⟨cF pc + mxL vs, ?_, ?_⟩
 · unfold sumS
   rw [h1]
   unfold wyS
   rw [wrapU _ (by omega)]
 · have g2 := g1.tp
   have h0 : 0 ≤ (if ovB L pc = true then cF L.length else 0) := by split <;> omega
   have g3 := gm_fold ((nxD L pc).map fun y => bh y.toNat) _ h0
   have e : mostD L bh (cF L.length) pc (nxD L pc) = tpD (mxL vs) := by
     refine Int.le_antisymm (g3.le g2 fun x hx => ?_) (g2.le g3 fun x hx => ?_)
     · rcases hx with hx | hx
       · split at hx
         · rename_i q
           refine .inr ⟨cF L.length, .inr ((hmem _).2 ⟨L.length, (nxN_mem hp _).2 (.inr ⟨q, rfl⟩), sumS_over hc⟩), ?_⟩
           unfold tpD
           omega
         · exact .inl hx
       · obtain ⟨y, hy, e⟩ := List.mem_map.1 hx
         obtain ⟨q, rfl, hq⟩ := (mem_nxD hp y).1 hy
         obtain ⟨v, k1, k2⟩ := hb q hq
         refine .inr ⟨v, .inr ((hmem v).2 ⟨q, (nxN_mem hp q).2 (.inl hq), k1⟩), ?_⟩
         rw [← e, Int.toNat_natCast, k2]
     · obtain ⟨y, hy, rfl⟩ := hx
       rcases hy with rfl | hy
       · exact .inl rfl
       · obtain ⟨q, h2, h3⟩ := (hmem y).1 hy
         rcases (nxN_mem hp q).1 h2 with h | ⟨k1, rfl⟩
         · obtain ⟨v, k1, k2⟩ := hb q h
           rw [h3] at k1
           injection k1 with k1
           refine .inr (.inr (List.mem_map.2 ⟨(q : Int), (mem_nxD hp _).2 ⟨q, rfl, h⟩, ?_⟩))
           rw [Int.toNat_natCast, k2, k1]
         · rw [sumS_over hc] at h3
           injection h3 with h3
           refine .inr (.inl ?_)
           rw [if_pos k1, ← h3]
           unfold tpD
           omega
   rw [e]
   unfold tpD
   omega
end
structure Yw (L : List Ins) (cF dF : Nat → Int) (d0 dn : Nat → Bool) (st ip : Nat → Int) (a : Bool) (p : Nat) : Prop where
 val : ∀ q, q < L.length → dn q = true → ∃ v u, sumS L cF q = some v ∧ st q = tpD v ∧ sumS L dF q = some u ∧ ip q = tpD u
 mono : ∀ q, q < L.length → d0 q = true → dn q = true
 off : a = false → ∀ q, q < L.length → dn q = d0 q
 on : a = true → cnt L.length d0 + 1 ≤ cnt L.length dn
 clo : a = false → ∀ q, p ≤ q → q < L.length → (∀ c, folB L q c = true → d0 c = true) → dn q = true
section
variable {L : List Ins} {cF dF : Nat → Int} {d0 dn : Nat → Bool} {st ip : Nat → Int} {a : Bool} {p : Nat}
theorem Yw.start (h : ∀ q, q < L.length → dn q = true → ∃ v u, sumS L cF q = some v ∧ st q = tpD v ∧ sumS L dF q = some u ∧ ip q = tpD u) : Yw L cF dF dn dn st ip false L.length :=
 ⟨h, fun _ _ h => h, fun _ _ _ => rfl, fun h => (by cases h), fun _ q h1 h2 => (by omega)⟩
theorem Yw.skip (h : Yw L cF dF d0 dn st ip a (p + 1)) (hp : p < L.length) (hs : dn p = true ∨ ∃ q, folB L p q = true ∧ dn q = false) : Yw L cF dF d0 dn st ip a p := by
 refine ⟨h.val, h.mono, h.off, h.on, fun e q h1 h2 h3 => ?_⟩
 by_cases e2 : q = p
 · subst e2
   rcases hs with hs | ⟨x, hx, hd⟩
   · exact hs
   · have := h.mono x (F.folB_lt hx) (h3 x hx)
     rw [hd] at this
     cases this
 · exact h.clo e q (by omega) h2 h3
theorem Yw.put (h : Yw L cF dF d0 dn st ip a (p + 1)) (hp : p < L.length) (hd : dn p = false) {v u : Int} (hv : sumS L cF p = some v) (hu : sumS L dF p = some u) : Yw L cF dF d0 (fun q => if q = p then true else dn q) (fun q => if q = p then tpD v else st q) (fun q => if q = p then tpD u else ip q) true p := by
 refine ⟨fun q hq h1 => ?_, fun q hq h1 => ?_, fun e => (by cases e), fun _ => ?_, fun e => (by cases e)⟩
 · by_cases e : q = p
   · subst e
     exact ⟨v, u, hv, if_pos rfl, hu, if_pos rfl⟩
   · rw [if_neg e] at h1
     rw [if_neg e, if_neg e]
     exact h.val q hq h1
 · split
   · rfl
   · exact h.mono q hq h1
 · have h1 := F.cnt_mono L.length h.mono
   have h2 : cnt L.length (fun q => if q = p then true else dn q) = cnt L.length dn + 1 := by
     rw [← F.cnt_add L.length p dn hp hd]
     refine F.cnt_congr _ (fun q hq => ?_)
     unfold F.adS
     by_cases e : q = p
     · subst e; simp
     · have : ¬ (q : Int) = p := by omega
       simp [e, this]
   rw [h2]
   omega
end
structure Yq (L : List Ins) (cF dF : Nat → Int) (dn : Nat → Bool) (st ip : Nat → Int) (a : Bool) : Prop where
 val : ∀ q, q < L.length → dn q = true → ∃ v u, sumS L cF q = some v ∧ st q = tpD v ∧ sumS L dF q = some u ∧ ip q = tpD u
 clo : a = false → ∀ q, q < L.length → (∀ c, folB L q c = true → dn c = true) → dn q = true
section
variable {L : List Ins} {cF dF : Nat → Int} {d0 dn : Nat → Bool} {st ip : Nat → Int} {a : Bool} {p : Nat}
theorem Yw.over (h : Yw L cF dF d0 dn st ip a 0) : Yq L cF dF dn st ip a := by
 refine ⟨h.val, fun e q hq hc => h.clo e q (Nat.zero_le _) hq (fun c hf => ?_)⟩
 rw [← h.off e c (F.folB_lt hf)]
 exact hc c hf
theorem Yq.done (h : Yq L cF dF dn st ip false) {q : Nat} (hq : q < L.length) {v : Int} (hv : sumS L cF q = some v) : dn q = true := by
 have key : ∀ k q v, q < L.length → evF (nxN L) (wyS cF) k q = some v → dn q = true := by
   intro k
   induction k with
   | zero => intro q v _ h; cases h
   | succ k ih =>
     intro q v hq hv
     obtain ⟨vs, h1, h2⟩ := evF_get hv
     refine h.clo rfl q hq (fun c hc => ?_)
     obtain ⟨x, _, hx⟩ := (map_some h1).1 c ((nxN_mem hq c).2 (.inl hc))
     exact ih c x (F.folB_lt hc) hx
 exact key _ q v hq hv
end
theorem sum_congr {L : List Ins} {E : List Int} {cF cF' : Nat → Int} (h1 : ∀ q, Rch L E (-1) q → cF q = cF' q) (h2 : cF L.length = cF' L.length) : ∀ k q, (Rch L E (-1) q ∨ q = L.length) → evF (nxN L) (wyS cF) k q = evF (nxN L) (wyS cF') k q
 | 0, _, _ => rfl
 | k + 1, q, hq => by
   have ih : (nxN L q).map (evF (nxN L) (wyS cF) k) = (nxN L q).map (evF (nxN L) (wyS cF') k) := by
     refine List.map_congr_left fun c hc => sum_congr h1 h2 k c ?_
     rcases hq with hq | rfl
     · rcases (nxN_mem hq.lt c).1 hc with h | ⟨_, rfl⟩
       · exact .inl (Rch.step hq h (by omega))
       · exact .inr rfl
     · rw [nxN_over] at hc; cases hc
   have e : cF q = cF' q := by
     rcases hq with hq | rfl
     · exact h1 q hq
     · exact h2
   rw [evF, evF, ih]
   have : wyS cF q = wyS cF' q := by funext vs; unfold wyS; rw [e]
   rw [this]
theorem sumS_congr {L : List Ins} {E : List Int} {cF cF' : Nat → Int} (h1 : ∀ q, Rch L E (-1) q → cF q = cF' q) (h2 : cF L.length = cF' L.length) {q : Nat} (hq : Rch L E (-1) q) : sumS L cF q = sumS L cF' q := by
 unfold sumS ev
 exact sum_congr h1 h2 _ q (.inl hq)
end Bd
end Go.Proofs.YtdlcphinjnnhcaaGreatDoor
