import Derived.Test.YtdlcphinjnnhcaaGreatDoorK21
import Derived.Test.YtdlcphinjnnhcaaGreatDoorK14
import Derived.Laws.BitsAllLaws
import Derived.Test.YtdlcphinjnnhcaaGreatDoorK04
import Derived.Test.YtdlcphinjnnhcaaGreatDoorK03
import Derived.OneCell
import Derived.Lib.AppendStr
namespace Go.Proofs.YtdlcphinjnnhcaaGreatDoor
set_option maxRecDepth 100000
set_option maxHeartbeats 40000000
namespace Bd
open Go.RowKit
open T (Kp)

theorem findc_any (B km : Nat) (m : PImg) (ra : Option Addr) (rc : Nat) (ca : Option Addr) (cc : Nat) (ga : Option Addr) (gc : Nat) (hok : BOk m) (p : Pl) (hp : p.qf = 40) (hbB : B ≤ p.b) (hkm : km ≠ p.b) (d : Nat) :
   AskC (IEnv B km m ra rc ca cc ga gc) p encc tupc (nxG m) (ctF m) (List.range m.gates.length) d → FindC 28 #[pv km] (IEnv B km m ra rc ca cc ga gc) p encc tupc (nxG m) (ctF m) (List.range m.gates.length) d := by
 intro hask w n S M nn hE hR hS hA hm hl hb
 have hD := fun W (q : Below w.heap.size w W) => costOf_any B km m ra rc ca cc ga gc hok p hp hbB hkm d hask W n S M nn (hE.below q) (hR.below q) hS hA hm hl hb
 have hqv : p.qv = .func (.func 40) #[] #[.pointer (some ⟨p.kA, 0, none⟩), .pointer (some ⟨p.kF, 0, none⟩), .pointer (some ⟨p.kQ, 0, none⟩)] := by unfold Pl.qv pv; rw [hp]
 show Calls Tryz.prog 28 #[.int .i64 n, p.qv, .pointer (some ⟨km, 0, none⟩)] w _
 rw [hqv] at hD ⊢
 have KI : ∀ W, Below w.heap.size w W → W.cell? ⟨km, 0, none⟩ = some (.slice ra m.regs.length rc) ∧ W.cell? ⟨km, 1, none⟩ = some (.slice ca m.comps.length cc) ∧ W.cell? ⟨km, 2, none⟩ = some (.slice ga m.gates.length gc) ∧ W.cell? ⟨km, 3, none⟩ = some (.int .i64 m.depth) := fun W q => by
   have a := (hE.below q).i.2.1
   exact ⟨a 0, a 1, a 2, a 3⟩
 unfold imA at hD
 have hpb := hR.m.lt
 have hR0 := Hz.mk hR
 have hst : ∀ W, Below w.heap.size w W → Kp (fun k => k = p.b) w W := fun W q => Kp.of_below q
 clear hask hE hR hS hA hm hl hb hqv hok
 generalize ev (nxG m) (ctF m) (List.range m.gates.length) n = res at *
 generalize List.range m.gates.length = U at *
 replace hD := Hz.mk hD
 replace KI := Hz.mk KI
 replace hst := Hz.mk hst
 go_enter Tryz.func28, Tryz.ntmps28
 go_upto_region 1 with fail
 refine wp_world (fun W => At W w.heap.size #[.bool false, .int .u64 0, .int .u64 0, .int .u64 0] ∧ Below w.heap.size w W) ⟨At.new w _ _, (Below.refl _ _).alloc (Nat.le_refl _) _⟩ ?_
 rintro W ⟨A0, hB⟩
 obtain ⟨k0, k1, k2, k3⟩ := KI.out W hB
 have hcl := hD.out W hB
 have hne : w.heap.size ≠ p.b := by omega
 replace A0 := Hz.mk A0
 replace hB := Hz.mk hB
 cases res with
 | some v =>
   unfold tupc at hcl
   replace hcl := Hz.mk hcl
   go_wp2_with (go_at_call 29; refine hcl.out.mono ?_; rintro r W2 ⟨rfl, g⟩; have gk := (show Kp (fun k => k = p.b) W W2 by { obtain ⟨_, _, _, _, _, _, q⟩ := g; exact q }); have A2 := at_keep A0.out gk (by omega); have ⟨zl, zp, zf⟩ := A2; have hfin := Hz.mk (At.setAll (cs := [Value.bool false, .int .u64 0, .int .u64 0, .int .u64 0]) A2 [Value.bool true, .int .u64 v.s, .int .u64 v.c, .int .u64 v.i] rfl); have hkf := Hz.mk (kp_sets W2 w.heap.size [Value.bool true, .int .u64 v.s, .int .u64 v.c, .int .u64 v.i] 0); clear A2; replace g := Hz.mk g; replace gk := Hz.mk gk)
   have ⟨_, q4, _⟩ := hfin.out
   simp only [World.setCells] at q4
   refine bodyPost_ret (v := .tuple #[.agg #[.bool true, .int .u64 v.s, .int .u64 v.c, .int .u64 v.i], .bool true]) (by simp [results, Tryz.results28, go_sem, q4]) rfl ?_
   refine ⟨rfl, ?_⟩
   obtain ⟨M', nn', r1, r2, r3, r4, r5⟩ := g.out
   exact ⟨M', nn', r1.above hR0.out hkf.out (fun k q => by omega), r2, r3, r4, ((hst.out W hB.out).trans r5 (fun k q => .inl q)).trans hkf.out (fun k q => .inr (by omega))⟩
 | none =>
   unfold tupc at hcl
   replace hcl := Hz.mk hcl
   go_wp2_with (go_at_call 29; refine hcl.out.mono ?_; rintro r W2 ⟨rfl, g⟩; have gk := (show Kp (fun k => k = p.b) W W2 by { obtain ⟨_, _, _, _, _, _, q⟩ := g; exact q }); have A2 := at_keep A0.out gk (by omega); have ⟨zl, zp, zf⟩ := A2; have hfin := Hz.mk (At.setAll (cs := [Value.bool false, .int .u64 0, .int .u64 0, .int .u64 0]) A2 [Value.bool false, .int .u64 0, .int .u64 0, .int .u64 0] rfl); have hkf := Hz.mk (kp_sets W2 w.heap.size [Value.bool false, .int .u64 0, .int .u64 0, .int .u64 0] 0); clear A2; replace g := Hz.mk g; replace gk := Hz.mk gk)
   have ⟨_, q4, _⟩ := hfin.out
   simp only [World.setCells] at q4
   refine bodyPost_ret (v := .tuple #[.agg #[.bool false, .int .u64 0, .int .u64 0, .int .u64 0], .bool false]) (by simp [results, Tryz.results28, go_sem, q4]) rfl ?_
   refine ⟨rfl, ?_⟩
   obtain ⟨M', nn', r1, r2, r3, r4, r5⟩ := g.out
   exact ⟨M', nn', r1.above hR0.out hkf.out (fun k q => by omega), r2, r3, r4, ((hst.out W hB.out).trans r5 (fun k q => .inl q)).trans hkf.out (fun k q => .inr (by omega))⟩
def hgB (m : PImg) (g : Int) : Bool := decide (m.right = 0) && (decide (0 ≤ g) && decide (g < m.gates.length))
theorem hasGate_any (m : PImg) (ra ca ga : Option Addr) (rc cc gc : Nat) (g : Int) (w : World) (ht : TabIn w) (hm : ImgIn w.heap.size w ra ca ga m) (hr : m.Rng) :
   Calls Tryz.prog 18 #[imA m ra rc ca cc ga gc, .int .i64 g] w fun e w' => e = .returned (.bool (hgB m g)) ∧ Below w.heap.size w w' := by
 have hR := Hz.mk (fun W (q : Gr w W) => imgRight_any m ra ca ga rc cc gc W (ht.gr q) ((hm.below q.below).mono q.below.size) hr)
 unfold imA hgB
 clear hm hr ht
 generalize hq : m.right = e0 at *
 clear hq
 by_cases h0 : e0 = 0
 · subst h0
   by_cases h1 : 0 ≤ g
   · by_cases h2 : g < (m.gates.length : Int)
     · rw [decide_eq_true h1, decide_eq_true h2]
       go_enter Tryz.func18, Tryz.ntmps18
       go_wp2_with (go_at_call 34; refine (hR.out _ ((Gr.refl _).alloc _)).mono ?_; rintro r W1 ⟨rfl, g1⟩; have A1 := (At.new w #[.slice ra m.regs.length rc, .slice ca m.comps.length cc, .slice ga m.gates.length gc, .int .i64 m.depth] 26).gr g1; have a2 : W1.cell? ⟨w.heap.size, 2, none⟩ = some (.slice ga m.gates.length gc) := A1.2.1 2; replace g1 := Hz.mk g1; clear A1)
       go_ret
       exact ⟨rfl, (bl_alloc _ _).trans (g1.out.below.mono (by simp))⟩
     · rw [decide_eq_true h1]
       have h3 : (m.gates.length : Int) ≤ g := by omega
       go_enter Tryz.func18, Tryz.ntmps18
       go_wp2_with (go_at_call 34; refine (hR.out _ ((Gr.refl _).alloc _)).mono ?_; rintro r W1 ⟨rfl, g1⟩; have A1 := (At.new w #[.slice ra m.regs.length rc, .slice ca m.comps.length cc, .slice ga m.gates.length gc, .int .i64 m.depth] 26).gr g1; have a2 : W1.cell? ⟨w.heap.size, 2, none⟩ = some (.slice ga m.gates.length gc) := A1.2.1 2; replace g1 := Hz.mk g1; clear A1)
       go_ret
       exact ⟨by simp, (bl_alloc _ _).trans (g1.out.below.mono (by simp))⟩
   · rw [decide_eq_false h1]
     have h3 : g < 0 := by omega
     have h4 : decide ((0 : Int) ≤ g) = false := decide_eq_false h1
     go_enter Tryz.func18, Tryz.ntmps18
     go_wp2_with (go_at_call 34; refine (hR.out _ ((Gr.refl _).alloc _)).mono ?_; rintro r W1 ⟨rfl, g1⟩; have A1 := (At.new w #[.slice ra m.regs.length rc, .slice ca m.comps.length cc, .slice ga m.gates.length gc, .int .i64 m.depth] 26).gr g1; have a2 : W1.cell? ⟨w.heap.size, 2, none⟩ = some (.slice ga m.gates.length gc) := A1.2.1 2; replace g1 := Hz.mk g1; clear A1)
     go_ret
     exact ⟨rfl, (bl_alloc _ _).trans (g1.out.below.mono (by simp))⟩
 · have h3 : (e0 == 0) = false := by simpa using h0
   rw [decide_eq_false h0]
   go_enter Tryz.func18, Tryz.ntmps18
   go_wp2_with (go_at_call 34; refine (hR.out _ ((Gr.refl _).alloc _)).mono ?_; rintro r W1 ⟨rfl, g1⟩; have A1 := (At.new w #[.slice ra m.regs.length rc, .slice ca m.comps.length cc, .slice ga m.gates.length gc, .int .i64 m.depth] 26).gr g1; have a2 : W1.cell? ⟨w.heap.size, 2, none⟩ = some (.slice ga m.gates.length gc) := A1.2.1 2; replace g1 := Hz.mk g1; clear A1)
   go_ret
   exact ⟨rfl, (bl_alloc _ _).trans (g1.out.below.mono (by simp))⟩
theorem Deep_any (m : PImg) (ra ca ga : Option Addr) (rc cc gc : Nat) (g : Int) (w : World) (ht : TabIn w) (hm : ImgIn w.heap.size w ra ca ga m) (hr : m.Rng) :
   Calls Tryz.prog 7 #[imA m ra rc ca cc ga gc, .int .i64 g] w fun e w' => e = .returned (tupi (if hgB m g = true then ev (nxG m) dpF (List.range m.gates.length) g.toNat else none)) ∧ Below w.heap.size w w' := by
 have hH := Hz.mk (fun W (q : Below w.heap.size w W) (t : TabIn W) => hasGate_any m ra ca ga rc cc gc g W t ((hm.below q).mono q.size) hr)
 have hT := fun W (q : Below w.heap.size w W) => ht.below q ht.size
 cases hh : hgB m g with
 | false =>
   rw [if_neg Bool.false_ne_true]
   rw [hh] at hH
   unfold imA at *
   clear hm hr ht
   unfold tupi
   go_enter Tryz.func7, Tryz.ntmps7
   go_upto_region 1 with fail
   refine wp_world (fun W => At W w.heap.size #[.slice ra m.regs.length rc, .slice ca m.comps.length cc, .slice ga m.gates.length gc, .int .i64 m.depth] ∧ Below w.heap.size w W) ⟨At.new w _ _, bl_alloc _ _⟩ ?_
   rintro W ⟨A0, hB⟩
   have a0 := A0.2.1
   have k0 : W.cell? ⟨w.heap.size, 0, none⟩ = some (.slice ra m.regs.length rc) := a0 0
   have k1 : W.cell? ⟨w.heap.size, 1, none⟩ = some (.slice ca m.comps.length cc) := a0 1
   have k2 : W.cell? ⟨w.heap.size, 2, none⟩ = some (.slice ga m.gates.length gc) := a0 2
   have k3 : W.cell? ⟨w.heap.size, 3, none⟩ = some (.int .i64 m.depth) := a0 3
   have hcl := Hz.mk (hH.out W hB (hT W hB))
   replace hT := Hz.mk hT
   replace A0 := Hz.mk A0
   replace hB := Hz.mk hB
   clear a0
   go_wp2_with (go_at_call 18; refine hcl.out.mono ?_; rintro r W1 ⟨rfl, g1⟩; replace g1 := Hz.mk g1)
   refine bodyPost_ret (v := .tuple #[.int .i64 0, .bool false]) (by simp [results, Tryz.results7, go_sem]) rfl ?_
   exact ⟨rfl, hB.out.trans (g1.out.mono hB.out.size)⟩
 | true =>
   rw [if_pos rfl]
   rw [hh] at hH
   have hg0 : m.right = 0 ∧ 0 ≤ g ∧ g < m.gates.length := by simpa [hgB] using hh
   have hok := bok_of m hg0.1
   obtain ⟨gn, rfl⟩ : ∃ gn : Nat, g = (gn : Int) := ⟨g.toNat, by omega⟩
   rw [Int.toNat_natCast]
   have hgl := hok.gl
   have hask : ∀ (W W1 : World) (p : Pl), Below w.heap.size w W → At W w.heap.size #[.slice ra m.regs.length rc, .slice ca m.comps.length cc, .slice ga m.gates.length gc, .int .i64 m.depth] → p.qf = 35 → p.fv = .func (.func 20) #[] #[pv w.heap.size] → Rem p enci W1 0 (fun _ => none) → Below W.heap.size W W1 → W.heap.size ≤ p.b →
       Calls Tryz.prog 35 #[.int .i64 gn, .pointer (some ⟨p.kA, 0, none⟩), .pointer (some ⟨p.kF, 0, none⟩), .pointer (some ⟨p.kQ, 0, none⟩)] W1 fun r w' => r = .returned (tupi (ev (nxG m) dpF (List.range m.gates.length) gn)) ∧ Below w.heap.size w w' := by
     intro W W1 p hB aT hp hf hR hB1 hpb
     have n1 : w.heap.size ≠ p.b := by have := aT.1; omega
     have n3 : w.heap.size ≤ p.b := by have := hB.size; omega
     have h2 := hB.trans (hB1.mono hB.size)
     have hE1 : IEnv w.heap.size w.heap.size m ra rc ca cc ga gc W1 := ⟨at_past aT hB1, hm.below h2, h2.size⟩
     have hA := aski_any w.heap.size (IEnv w.heap.size w.heap.size m ra rc ca cc ga gc) p hp hf (fun X X' e q => e.keep q n3 n1) (nxG m) dpF (List.range m.gates.length) (fun x hx => by rw [List.mem_range] at hx; omega)
       (fun d => findi_any w.heap.size w.heap.size m ra rc ca cc ga gc hok p hp n3 n1 d) m.gates.length
     have h := hA W1 gn (fun _ => False) (fun _ => none) 0 hE1 hR (memo_none _ _ _) (fun _ h => h.elim) (List.mem_range.2 (by omega)) (by rw [left_all, List.length_range]; exact Nat.le_refl _) (by rw [left_all, List.length_range]; omega)
     rw [hp] at h
     refine h.mono ?_
     rintro r w' ⟨e1, M', nn', g1, g2, g3, g4, g5⟩
     exact ⟨e1, h2.trans (g5.below h2.size (fun k q => by omega))⟩
   have hmf : ∀ (fn : Fn) (first cap : Array Value) (w : World), (Instr.makeFunc fn first cap).run Tryz.prog w = .ok (.func fn first cap) w := fun _ _ _ _ => rfl
   have hRm := Hz.mk (fun W => remi_any w.heap.size W)
   generalize ev (nxG m) dpF (List.range m.gates.length) gn = res at *
   replace hask := Hz.mk hask
   unfold imA pv at *
   clear hm hr ht hok hg0 hgl hh
   go_enter Tryz.func7, Tryz.ntmps7
   go_upto_region 1 with fail
   refine wp_world (fun W => At W w.heap.size #[.slice ra m.regs.length rc, .slice ca m.comps.length cc, .slice ga m.gates.length gc, .int .i64 m.depth] ∧ Below w.heap.size w W) ⟨At.new w _ _, bl_alloc _ _⟩ ?_
   rintro W ⟨A0, hB⟩
   have a0 := A0.2.1
   have k0 : W.cell? ⟨w.heap.size, 0, none⟩ = some (.slice ra m.regs.length rc) := a0 0
   have k1 : W.cell? ⟨w.heap.size, 1, none⟩ = some (.slice ca m.comps.length cc) := a0 1
   have k2 : W.cell? ⟨w.heap.size, 2, none⟩ = some (.slice ga m.gates.length gc) := a0 2
   have k3 : W.cell? ⟨w.heap.size, 3, none⟩ = some (.int .i64 m.depth) := a0 3
   have hcl := Hz.mk (hH.out W hB (hT W hB))
   replace hT := Hz.mk hT
   replace A0 := Hz.mk A0
   replace hB := Hz.mk hB
   clear a0 hH
   go_upto_region 3 with (go_at_call 18; refine hcl.out.mono ?_; rintro r W1 ⟨rfl, g1⟩; replace g1 := Hz.mk g1)
   have A1 := Hz.mk (at_past A0.out g1.out)
   have hB1 := Hz.mk (hB.out.trans (g1.out.mono hB.out.size))
   clear k0 k1 k2 k3 hcl
   go_upto_region 4 with (go_at_call 19; refine (hRm.out _).mono ?_; rintro r W2 ⟨p, rfl, hp, hf, hR, hB2, hpb⟩; have hqv : p.qv = .func (.func 35) #[] #[.pointer (some ⟨p.kA, 0, none⟩), .pointer (some ⟨p.kF, 0, none⟩), .pointer (some ⟨p.kQ, 0, none⟩)] := (by unfold Pl.qv pv; rw [hp]); rw [hqv]; have hcl := Hz.mk (hask.out W1 W2 p hB1.out A1.out hp hf hR hB2 hpb); clear hqv hp hf hR hB2 hpb)
   cases res with
   | some v =>
     unfold tupi at hcl
     go_wp2_with (go_at_call 35; refine hcl.out.mono ?_; rintro r W3 ⟨rfl, g3⟩; replace g3 := Hz.mk g3)
     refine bodyPost_ret (v := .tuple #[.int .i64 v, .bool true]) (by simp [results, Tryz.results7, go_sem]) rfl ?_
     exact ⟨rfl, g3.out⟩
   | none =>
     unfold tupi at hcl
     go_wp2_with (go_at_call 35; refine hcl.out.mono ?_; rintro r W3 ⟨rfl, g3⟩; replace g3 := Hz.mk g3)
     refine bodyPost_ret (v := .tuple #[.int .i64 0, .bool false]) (by simp [results, Tryz.results7, go_sem]) rfl ?_
     exact ⟨rfl, g3.out⟩
end Bd
end Go.Proofs.YtdlcphinjnnhcaaGreatDoor


namespace Go.Proofs.YtdlcphinjnnhcaaGreatDoor
set_option maxRecDepth 100000
set_option maxHeartbeats 40000000
namespace Bd
open Go.RowKit
open T (Kp)

def gtV : Option Cst → Value
 | some v => .agg #[.bool true, .int .u64 v.s, .int .u64 v.c, .int .u64 v.i]
 | none => .agg #[.bool false, .int .u64 0, .int .u64 0, .int .u64 0]
theorem Gate_any (m : PImg) (ra ca ga : Option Addr) (rc cc gc : Nat) (g : Int) (w : World) (ht : TabIn w) (hm : ImgIn w.heap.size w ra ca ga m) (hr : m.Rng) :
   Calls Tryz.prog 11 #[imA m ra rc ca cc ga gc, .int .i64 g] w fun e w' => e = .returned (gtV (if hgB m g = true then ev (nxG m) (ctF m) (List.range m.gates.length) g.toNat else none)) ∧ Below w.heap.size w w' := by
 have hH := Hz.mk (fun W (q : Below w.heap.size w W) (t : TabIn W) => hasGate_any m ra ca ga rc cc gc g W t ((hm.below q).mono q.size) hr)
 have hT := fun W (q : Below w.heap.size w W) => ht.below q ht.size
 cases hh : hgB m g with
 | false =>
   rw [if_neg Bool.false_ne_true]
   rw [hh] at hH
   unfold imA at *
   clear hm hr ht
   unfold gtV
   go_enter Tryz.func11, Tryz.ntmps11
   go_upto_region 1 with fail
   refine wp_world (fun W => At W w.heap.size #[.slice ra m.regs.length rc, .slice ca m.comps.length cc, .slice ga m.gates.length gc, .int .i64 m.depth] ∧ At W (w.heap.size + 1) #[.bool false, .int .u64 0, .int .u64 0, .int .u64 0] ∧ Below w.heap.size w W) ⟨at_past (At.new w _ _) (bl_alloc _ _), At.next w _ _ _, (bl_alloc _ _).trans ((bl_alloc _ _).mono (by simp))⟩ ?_
   rintro W ⟨A0, B0, hB⟩
   have a0 := A0.2.1
   have k0 : W.cell? ⟨w.heap.size, 0, none⟩ = some (.slice ra m.regs.length rc) := a0 0
   have k1 : W.cell? ⟨w.heap.size, 1, none⟩ = some (.slice ca m.comps.length cc) := a0 1
   have k2 : W.cell? ⟨w.heap.size, 2, none⟩ = some (.slice ga m.gates.length gc) := a0 2
   have k3 : W.cell? ⟨w.heap.size, 3, none⟩ = some (.int .i64 m.depth) := a0 3
   have hcl := Hz.mk (hH.out W hB (hT W hB))
   replace hT := Hz.mk hT
   replace A0 := Hz.mk A0
   replace B0 := Hz.mk B0
   have hws := hB.size
   replace hB := Hz.mk hB
   clear a0
   go_wp2_with (go_at_call 18; refine hcl.out.mono ?_; rintro r W1 ⟨rfl, g1⟩; have A2 := at_past B0.out g1; have ⟨zl, zp, zf⟩ := A2; have hfin := Hz.mk (At.setAll (cs := [Value.bool false, .int .u64 0, .int .u64 0, .int .u64 0]) A2 [Value.bool false, .int .u64 0, .int .u64 0, .int .u64 0] rfl); have hkf := Hz.mk ((kp_sets W1 (w.heap.size + 1) [Value.bool false, .int .u64 0, .int .u64 0, .int .u64 0] 0).below (B := w.heap.size) (by have := g1.size; omega) (fun k q => by omega)); clear A2; replace g1 := Hz.mk g1)
   have ⟨_, q4, _⟩ := hfin.out
   simp only [World.setCells] at q4
   refine bodyPost_ret (v := .agg #[.bool false, .int .u64 0, .int .u64 0, .int .u64 0]) (by simp [results, Tryz.results11, go_sem, q4]) rfl ?_
   exact ⟨rfl, (hB.out.trans (g1.out.mono hB.out.size)).trans hkf.out⟩
 | true =>
   rw [if_pos rfl]
   rw [hh] at hH
   have hg0 : m.right = 0 ∧ 0 ≤ g ∧ g < m.gates.length := by simpa [hgB] using hh
   have hok := bok_of m hg0.1
   obtain ⟨gn, rfl⟩ : ∃ gn : Nat, g = (gn : Int) := ⟨g.toNat, by omega⟩
   rw [Int.toNat_natCast]
   have hgl := hok.gl
   have hask : ∀ (W W1 : World) (p : Pl), Below w.heap.size w W → At W w.heap.size #[.slice ra m.regs.length rc, .slice ca m.comps.length cc, .slice ga m.gates.length gc, .int .i64 m.depth] → At W (w.heap.size + 1) #[.bool false, .int .u64 0, .int .u64 0, .int .u64 0] → p.qf = 40 → p.fv = .func (.func 28) #[] #[pv w.heap.size] → Rem p encc W1 0 (fun _ => none) → Below W.heap.size W W1 → W.heap.size ≤ p.b →
       Calls Tryz.prog 40 #[.int .i64 gn, .pointer (some ⟨p.kA, 0, none⟩), .pointer (some ⟨p.kF, 0, none⟩), .pointer (some ⟨p.kQ, 0, none⟩)] W1 fun r w' => r = .returned (tupc (ev (nxG m) (ctF m) (List.range m.gates.length) gn)) ∧ Below w.heap.size w w' ∧ At w' (w.heap.size + 1) #[.bool false, .int .u64 0, .int .u64 0, .int .u64 0] := by
     intro W W1 p hB aT bT hp hf hR hB1 hpb
     have n1 : w.heap.size ≠ p.b := by have := aT.1; omega
     have n2 : w.heap.size + 1 ≠ p.b := by have := bT.1; omega
     have n3 : w.heap.size ≤ p.b := by have := hB.size; omega
     have h2 := hB.trans (hB1.mono hB.size)
     have hE1 : IEnv w.heap.size w.heap.size m ra rc ca cc ga gc W1 := ⟨at_past aT hB1, hm.below h2, h2.size⟩
     have hA := askc_any w.heap.size (IEnv w.heap.size w.heap.size m ra rc ca cc ga gc) p hp hf (fun X X' e q => e.keep q n3 n1) (nxG m) (ctF m) (List.range m.gates.length) (fun x hx => by rw [List.mem_range] at hx; omega)
       (fun d => findc_any w.heap.size w.heap.size m ra rc ca cc ga gc hok p hp n3 n1 d) m.gates.length
     have h := hA W1 gn (fun _ => False) (fun _ => none) 0 hE1 hR (memo_none _ _ _) (fun _ h => h.elim) (List.mem_range.2 (by omega)) (by rw [left_all, List.length_range]; exact Nat.le_refl _) (by rw [left_all, List.length_range]; omega)
     rw [hp] at h
     refine h.mono ?_
     rintro r w' ⟨e1, M', nn', g1, g2, g3, g4, g5⟩
     exact ⟨e1, h2.trans (g5.below h2.size (fun k q => by omega)), at_keep (at_past bT hB1) g5 n2⟩
   have hmf : ∀ (fn : Fn) (first cap : Array Value) (w : World), (Instr.makeFunc fn first cap).run Tryz.prog w = .ok (.func fn first cap) w := fun _ _ _ _ => rfl
   have hRm := Hz.mk (fun W => remc_any w.heap.size W)
   generalize ev (nxG m) (ctF m) (List.range m.gates.length) gn = res at *
   replace hask := Hz.mk hask
   unfold imA pv at *
   clear hm hr ht hok hg0 hgl hh
   go_enter Tryz.func11, Tryz.ntmps11
   go_upto_region 1 with fail
   refine wp_world (fun W => At W w.heap.size #[.slice ra m.regs.length rc, .slice ca m.comps.length cc, .slice ga m.gates.length gc, .int .i64 m.depth] ∧ At W (w.heap.size + 1) #[.bool false, .int .u64 0, .int .u64 0, .int .u64 0] ∧ Below w.heap.size w W) ⟨at_past (At.new w _ _) (bl_alloc _ _), At.next w _ _ _, (bl_alloc _ _).trans ((bl_alloc _ _).mono (by simp))⟩ ?_
   rintro W ⟨A0, B0, hB⟩
   have a0 := A0.2.1
   have k0 : W.cell? ⟨w.heap.size, 0, none⟩ = some (.slice ra m.regs.length rc) := a0 0
   have k1 : W.cell? ⟨w.heap.size, 1, none⟩ = some (.slice ca m.comps.length cc) := a0 1
   have k2 : W.cell? ⟨w.heap.size, 2, none⟩ = some (.slice ga m.gates.length gc) := a0 2
   have k3 : W.cell? ⟨w.heap.size, 3, none⟩ = some (.int .i64 m.depth) := a0 3
   have hcl := Hz.mk (hH.out W hB (hT W hB))
   replace hT := Hz.mk hT
   replace A0 := Hz.mk A0
   replace B0 := Hz.mk B0
   replace hB := Hz.mk hB
   clear a0 hH
   go_upto_region 3 with (go_at_call 18; refine hcl.out.mono ?_; rintro r W1 ⟨rfl, g1⟩; replace g1 := Hz.mk g1)
   have A1 := Hz.mk (at_past A0.out g1.out)
   have B1 := Hz.mk (at_past B0.out g1.out)
   have hB1 := Hz.mk (hB.out.trans (g1.out.mono hB.out.size))
   clear k0 k1 k2 k3 hcl
   go_upto_region 4 with (go_at_call 27; refine (hRm.out _).mono ?_; rintro r W2 ⟨p, rfl, hp, hf, hR, hB2, hpb⟩; have hqv : p.qv = .func (.func 40) #[] #[.pointer (some ⟨p.kA, 0, none⟩), .pointer (some ⟨p.kF, 0, none⟩), .pointer (some ⟨p.kQ, 0, none⟩)] := (by unfold Pl.qv pv; rw [hp]); rw [hqv]; have hcl := Hz.mk (hask.out W1 W2 p hB1.out A1.out B1.out hp hf hR hB2 hpb); clear hqv hp hf hR hB2 hpb)
   cases res with
   | some v =>
     unfold tupc at hcl
     go_upto_region 5 with (go_at_call 40; refine hcl.out.mono ?_; rintro r W3 ⟨rfl, g3, b3⟩; replace g3 := Hz.mk g3; replace b3 := Hz.mk b3)
     refine wp_world (fun X => Below W3.heap.size W3 X ∧ At X W3.heap.size #[.bool true, .int .u64 v.s, .int .u64 v.c, .int .u64 v.i]) ⟨(by repeat (first | exact Below.refl _ _ | refine Below.alloc ?_ (by simp <;> omega) _ | refine Below.setCell ?_ (by simp <;> omega) _)), At.new W3 _ _⟩ ?_
     rintro X ⟨hB3, r9⟩
     have A2 := at_past b3.out hB3
     have ⟨zl, zp, zf⟩ := A2
     have hw3 := g3.out.size
     have hw4 := hB3.size
     generalize W3.heap.size = k9 at *
     have P0 : X.cell? ⟨k9, 0, none⟩ = some (.bool true) := r9.2.1 0
     have P1 : X.cell? ⟨k9, 1, none⟩ = some (.int .u64 v.s) := r9.2.1 1
     have P2 : X.cell? ⟨k9, 2, none⟩ = some (.int .u64 v.c) := r9.2.1 2
     have P3 : X.cell? ⟨k9, 3, none⟩ = some (.int .u64 v.i) := r9.2.1 3
     have hfin := Hz.mk (At.setAll (cs := [Value.bool false, .int .u64 0, .int .u64 0, .int .u64 0]) A2 [Value.bool true, .int .u64 v.s, .int .u64 v.c, .int .u64 v.i] rfl)
     have hkf := Hz.mk ((kp_sets X (w.heap.size + 1) [Value.bool true, .int .u64 v.s, .int .u64 v.c, .int .u64 v.i] 0).below (B := w.heap.size) (by omega) (fun k q => by omega))
     have hBX := Hz.mk (g3.out.trans (hB3.mono hw3))
     clear A2 hB3 r9
     go_wp2_with fail
     have ⟨_, q4, _⟩ := hfin.out
     simp only [World.setCells] at q4
     refine bodyPost_ret (v := .agg #[.bool true, .int .u64 v.s, .int .u64 v.c, .int .u64 v.i]) (by simp [results, Tryz.results11, go_sem, q4]) rfl ?_
     exact ⟨rfl, hBX.out.trans hkf.out⟩
   | none =>
     unfold tupc at hcl
     go_upto_region 5 with (go_at_call 40; refine hcl.out.mono ?_; rintro r W3 ⟨rfl, g3, b3⟩; replace g3 := Hz.mk g3; replace b3 := Hz.mk b3)
     refine wp_world (fun X => Below W3.heap.size W3 X ∧ At X W3.heap.size #[.bool false, .int .u64 0, .int .u64 0, .int .u64 0]) ⟨(by repeat (first | exact Below.refl _ _ | refine Below.alloc ?_ (by simp <;> omega) _ | refine Below.setCell ?_ (by simp <;> omega) _)), At.new W3 _ _⟩ ?_
     rintro X ⟨hB3, r9⟩
     have A2 := at_past b3.out hB3
     have ⟨zl, zp, zf⟩ := A2
     have hw3 := g3.out.size
     have hw4 := hB3.size
     generalize W3.heap.size = k9 at *
     have P0 : X.cell? ⟨k9, 0, none⟩ = some (.bool false) := r9.2.1 0
     have P1 : X.cell? ⟨k9, 1, none⟩ = some (.int .u64 0) := r9.2.1 1
     have P2 : X.cell? ⟨k9, 2, none⟩ = some (.int .u64 0) := r9.2.1 2
     have P3 : X.cell? ⟨k9, 3, none⟩ = some (.int .u64 0) := r9.2.1 3
     have hfin := Hz.mk (At.setAll (cs := [Value.bool false, .int .u64 0, .int .u64 0, .int .u64 0]) A2 [Value.bool false, .int .u64 0, .int .u64 0, .int .u64 0] rfl)
     have hkf := Hz.mk ((kp_sets X (w.heap.size + 1) [Value.bool false, .int .u64 0, .int .u64 0, .int .u64 0] 0).below (B := w.heap.size) (by omega) (fun k q => by omega))
     have hBX := Hz.mk (g3.out.trans (hB3.mono hw3))
     clear A2 hB3 r9
     go_wp2_with fail
     have ⟨_, q4, _⟩ := hfin.out
     simp only [World.setCells] at q4
     refine bodyPost_ret (v := .agg #[.bool false, .int .u64 0, .int .u64 0, .int .u64 0]) (by simp [results, Tryz.results11, go_sem, q4]) rfl ?_
     exact ⟨rfl, hBX.out.trans hkf.out⟩
end Bd
end Go.Proofs.YtdlcphinjnnhcaaGreatDoor


namespace Go.Proofs.YtdlcphinjnnhcaaGreatDoor
set_option maxRecDepth 100000
set_option maxHeartbeats 40000000
open Go.RowKit

theorem cast_bit (a j : Nat) : ((a / 2 ^ j % 2 : Nat) : Int) = (a : Int) / 2 ^ j % 2 := by simp
theorem bit_cast (a j : Nat) : ((a : Int) / 2 ^ j % 2 = 1) ↔ a / 2 ^ j % 2 = 1 := by
 have := cast_bit a j
 omega
theorem pow_le7 (i : Nat) (h : i ≤ 7) : (2 : Int) ^ i ≤ 128 := by
 have : i = 0 ∨ i = 1 ∨ i = 2 ∨ i = 3 ∨ i = 4 ∨ i = 5 ∨ i = 6 ∨ i = 7 := by omega
 rcases this with rfl | rfl | rfl | rfl | rfl | rfl | rfl | rfl <;> decide
def HasUpto (p q : Int) (i : Nat) : Prop := ∀ j, j < i → q / 2 ^ j % 2 = 1 → p / 2 ^ j % 2 = 1

theorem andNot_iff (a b : Nat) (_ha : a < 256) (hb : b < 256) : a &&& (255 - b) = 0 ↔ ∀ j, j < 8 → a / 2 ^ j % 2 = 1 → b / 2 ^ j % 2 = 1 := by
 have hs : ∀ j, (255 - b).testBit j = (decide (j < 8) && !b.testBit j) := by
   intro j
   have := Nat.testBit_two_pow_sub_succ (x := b) (n := 8) (by simpa using hb) j
   simpa using this
 constructor
 · intro h j hj h1
   have ht : (a &&& (255 - b)).testBit j = false := by rw [h]; simp
   rw [Nat.testBit_and, hs] at ht
   simp only [Nat.testBit_eq_decide_div_mod_eq] at ht
   simpa [hj, h1] using ht
 · intro h
   apply Nat.eq_of_testBit_eq
   intro j
   rw [Nat.testBit_and, hs, Nat.zero_testBit]
   by_cases hj : j < 8
   · have := h j hj
     simp only [Nat.testBit_eq_decide_div_mod_eq]
     by_cases h1 : a / 2 ^ j % 2 = 1
     · simp [this h1]
     · simp [h1]
   · simp [hj]

theorem hasB_iff (p q : Int) (hp0 : 0 ≤ p) (hp1 : p < 256) (hq0 : 0 ≤ q) (hq1 : q < 256) : hasB p q = true ↔ HasUpto p q 8 := by
 obtain ⟨a, rfl⟩ := Int.eq_ofNat_of_zero_le hp0
 obtain ⟨b, rfl⟩ := Int.eq_ofNat_of_zero_le hq0
 unfold hasB HasUpto
 rw [u8_andNot_nat _ _ (by omega) (by omega)]
 have key := andNot_iff b a (by omega) (by omega)
 constructor
 · intro h j hj h1
   have h' : b &&& (255 - a) = 0 := by simpa using h
   exact (bit_cast a j).mpr (key.mp h' j hj ((bit_cast b j).mp h1))
 · intro h
   have : b &&& (255 - a) = 0 := key.mpr fun j hj h1 => (bit_cast a j).mp (h j hj ((bit_cast b j).mpr h1))
   simp [this]

theorem pow_small {i : Nat} {B : Int} (hi : i ≤ 8) (hB : B = 2 ^ i) (h : B ≤ 128) : i < 8 := by
 have : i ≠ 8 := by rintro rfl; subst hB; omega
 omega
theorem pow_great {i : Nat} {B : Int} (hi : i ≤ 8) (hB : B = 2 ^ i) (h : ¬ B ≤ 128) : i = 8 := by
 have : i < 9 := by omega
 rcases Nat.lt_or_ge i 8 with h8 | h8
 · exfalso
   have := pow_le7 i (by omega)
   omega
 · omega
theorem tmod2 {q B : Int} (h : 0 ≤ q) (hB : 1 ≤ B) : (q / B).tmod 2 = q / B % 2 := Int.tmod_eq_emod_of_nonneg (Int.ediv_nonneg h (by omega))
theorem has_no {p q B : Int} {i : Nat} (hp0 : 0 ≤ p) (hp1 : p < 256) (hq0 : 0 ≤ q) (hq1 : q < 256) (hi : i < 8) (hB : B = 2 ^ i) (h1 : 1 ≤ B) (c1 : (q / B).tmod 2 = 1) (c2 : ((p / B).tmod 2 == 0) = true) : false = hasB p q := by
 rw [tmod2 hq0 h1] at c1
 rw [tmod2 hp0 h1] at c2
 have c2' : p / B % 2 = 0 := by simpa using c2
 symm
 rw [Bool.eq_false_iff]
 intro h
 have := (hasB_iff p q hp0 hp1 hq0 hq1).mp h i hi (by rw [← hB]; exact c1)
 rw [← hB] at this
 omega
theorem has_yes {p q B : Int} {i : Nat} (hp0 : 0 ≤ p) (hB : B = 2 ^ i) (h1 : 1 ≤ B) (hu : HasUpto p q i) (c2 : ((p / B).tmod 2 == 0) = false) : HasUpto p q (i + 1) := by
 rw [tmod2 hp0 h1] at c2
 have c2' : ¬ p / B % 2 = 0 := by simpa using c2
 intro j hj h
 rcases Nat.lt_or_ge j i with hlt | hge
 · exact hu j hlt h
 · obtain rfl : j = i := by omega
   rw [← hB]; omega
theorem has_skip {p q B : Int} {i : Nat} (hq0 : 0 ≤ q) (hB : B = 2 ^ i) (h1 : 1 ≤ B) (hu : HasUpto p q i) (c1 : ¬ (q / B).tmod 2 = 1) : HasUpto p q (i + 1) := by
 rw [tmod2 hq0 h1] at c1
 intro j hj h
 rcases Nat.lt_or_ge j i with hlt | hge
 · exact hu j hlt h
 · obtain rfl : j = i := by omega
   rw [hB] at c1; exact absurd h c1
theorem pow_next {i : Nat} {B : Int} (hB : B = 2 ^ i) : 2 * B = 2 ^ (i + 1) := by rw [hB, Int.pow_succ]; omega
theorem refHas_any (p q : Int) (w : World) (hp0 : 0 ≤ p) (hp1 : p < 256) (hq0 : 0 ≤ q) (hq1 : q < 256) :
   Calls Tryz.prog 93 #[.int .i64 p, .int .i64 q] w fun x w' => x = .returned (.bool (hasB p q)) ∧ w = w' := by
 go_enter Tryz.func93, Tryz.ntmps93
 go_wp2
 go_loop [5] (fun t => ∃ (i : Nat) (B : Int), i ≤ 8 ∧ Hid (B = 2 ^ i) ∧ 1 ≤ B ∧ B ≤ 256 ∧ t = .int .i64 B ∧ HasUpto p q i) (fun t => (256 - intOf t).toNat)
 case atStart => exact ⟨0, 1, by omega, ⟨rfl⟩, by omega, by omega, rfl, fun j hj => by omega⟩
 case round =>
   obtain ⟨i, B, hi, hB, h1, h2, rfl, hu⟩ := hrel
   by_cases hlt : B ≤ 128
   · have hi8 := pow_small hi hB.out hlt
     go_wp2
     · go_ret
       exact ⟨ret_bool (has_no hp0 hp1 hq0 hq1 hi8 hB.out h1 ‹_› ‹_›), rfl⟩
     · refine ⟨⟨i + 1, 2 * B, by omega, ⟨pow_next hB.out⟩, by omega, by omega, rfl, has_yes hp0 hB.out h1 hu ‹_›⟩, ?_⟩
       simp [intOf]; omega
     · refine ⟨⟨i + 1, 2 * B, by omega, ⟨pow_next hB.out⟩, by omega, by omega, rfl, has_skip hq0 hB.out h1 hu ‹_›⟩, ?_⟩
       simp [intOf]; omega
   · have hi8 := pow_great hi hB.out hlt
     go_wp2
     go_ret
     refine ⟨ret_bool ?_, rfl⟩
     subst hi8
     exact ((hasB_iff p q hp0 hp1 hq0 hq1).mpr hu).symm
theorem refCapRight_any (b e c p s : Int) (w : World) (hp : B8 p) :
   Calls Tryz.prog 73 #[.agg #[.int .u64 b, .int .u64 e, .int .u64 c, .int .u8 p, .int .i64 s]] w fun x w' => x = .returned (.bool (rightB b e p s)) ∧ w.alloc (.cells #[.int .u64 b, .int .u64 e, .int .u64 c, .int .u8 p, .int .i64 s] 49) = w' := by
 have hh := fun W => refHas_any 127 p W (by omega) (by omega) hp.1 hp.2
 have hw : IntKind.i64.wrap p = p := by have := hp.1; have := hp.2; rw [IntKind.wrap_i64]; omega
 go_enter Tryz.func73, Tryz.ntmps73
 go_wp2_with (go_at_call 93; refine (hh _).mono ?_; rintro x w' ⟨rfl, rfl⟩)
 all_goals
   go_ret
   refine ⟨ret_bool ?_, rfl⟩
   first | (refine right_last ?_ ?_ ?_ ?_ <;> assumption) | (refine right_false ?_; rintro ⟨h1, h2, h3, h4, h5⟩; first | omega | contradiction)
theorem and16 {p : Int} (hp : B8 p) : (bits .and .u8 p 16 == 0) = (p / 16 % 2 == 0) := by
 have := all_bytes (fun n => (bits .and .u8 (n : Int) 16 == 0) == ((n : Int) / 16 % 2 == 0)) (by kernel_rfl) p hp.2
 have e : ((p.toNat : Nat) : Int) = p := Int.toNat_of_nonneg hp.1
 simp only [e] at this
 simpa using this
theorem refFit_any (b e c p s : Int) (w : World) (hp : B8 p) :
   Calls Tryz.prog 54 #[.agg #[.int .u64 b, .int .u64 e, .int .u64 c, .int .u8 p, .int .i64 s]] w fun x w' => x = .returned (.bool (dataB b e p s)) ∧ Gr w w' := by
 have h16 := and16 hp
 unfold dataB
 rw [h16]
 have hc := fun W => refCapRight_any b e c p s W hp
 have hp0 := hp.1
 have hp1 := hp.2
 generalize rightB b e p s = r at *
 clear h16
 cases r
 all_goals
   go_enter Tryz.func54, Tryz.ntmps54
   go_wp2_with (go_at_call 73; refine (hc _).mono ?_; rintro x w' ⟨rfl, rfl⟩)
   go_ret
   refine ⟨ret_bool (by simp), ?_⟩
   repeat (first | exact Gr.refl _ | refine Gr.alloc ?_ _)
theorem refCapOf_at (t : PTyp) (c : Int) (w : World) :
   Calls Tryz.prog 72 #[.agg #[.bool t.cap, .int .u64 t.b, .int .u64 t.e, .int .u64 t.lo, .int .u64 t.hi, .int .u8 t.p, .int .i64 t.s], .int .u64 c] w fun x w' => x = .returned (.agg #[.int .u64 t.b, .int .u64 t.e, .int .u64 c, .int .u8 t.p, .int .i64 t.s]) ∧ Gr w w' := by
 go_enter Tryz.func72, Tryz.ntmps72
 go_wp2
 all_goals
   simp [bodyPost, results, Tryz.results72, go_sem]
   repeat (first | exact Gr.refl _ | refine Gr.alloc ?_ _)
theorem refRightType_any (t : PTyp) (w : World) (hr : t.Rng) :
   Calls Tryz.prog 53 #[.agg #[.bool t.cap, .int .u64 t.b, .int .u64 t.e, .int .u64 t.lo, .int .u64 t.hi, .int .u8 t.p, .int .i64 t.s]] w fun x w' => x = .returned (.bool t.right) ∧ Gr w w' := by
 have hc := refCapOf_at t 0
 cases ht : t.cap with
 | false =>
   go_enter Tryz.func53, Tryz.ntmps53
   go_wp2
   all_goals
     go_ret
     refine ⟨ret_bool (by simp_all [PTyp.right]), ?_⟩
     (with_reducible repeat (first | exact Gr.refl _ | refine Gr.alloc ?_ _ | refine Gr.grow ?_ _ | refine Gr.drew ?_ | refine Gr.setCell ?_ _ _ _ (gr_size ?_)))
 | true =>
   rw [ht] at hc
   have hd := fun W => refFit_any t.b t.e 0 t.p t.s W hr.2.2.2.2.1
   have e : t.right = (dataB t.b t.e t.p t.s && decide (t.lo ≤ t.hi)) := by simp [PTyp.right, ht]
   rw [e]
   clear e ht hr
   generalize dataB t.b t.e t.p t.s = q at hd ⊢
   have L1 := grow_cell; have L2 := grow_frozen; have L3 := grow_set; have L4 := grow_lt; have L5 := glt1; have L6 := glt2; have L7 := glt3; have L8 := glt4; have L9 := glt5; have L10 := glt6; have L11 := lt1; have L12 := lt2; have L13 := lt3; have L14 := lt4; have L15 := lt5; have L16 := lt6; have L17 := lt7; have L18 := lt8
   cases q
   all_goals
     go_enter Tryz.func53, Tryz.ntmps53
     go_wp2_with (first | (go_at_call 72; refine (hc _).mono ?_; rintro x w' ⟨rfl, hG⟩; (repeat (replace hG := Gr.of_grow hG)); obtain ⟨l, rfl⟩ := hG) | (go_at_call 54; refine (hd _).mono ?_; rintro x w' ⟨rfl, hG⟩; (repeat (replace hG := Gr.of_grow hG)); obtain ⟨l, rfl⟩ := hG))
     go_ret
     refine ⟨ret_bool (by simp), ?_⟩
     (with_reducible repeat (first | exact Gr.refl _ | refine Gr.alloc ?_ _ | refine Gr.grow ?_ _ | refine Gr.drew ?_ | refine Gr.setCell ?_ _ _ _ (gr_size ?_)))
end Go.Proofs.YtdlcphinjnnhcaaGreatDoor


namespace Go.Proofs.YtdlcphinjnnhcaaGreatDoor
open Go.RowKit

theorem one_at {w : World} {k : Nat} {cs : Array Value} {t : TypeId} (h : w.heap[k]? = some (.cells cs t (0, 0))) : At w k cs := by
 refine ⟨(Array.getElem?_eq_some_iff.1 h).1, fun o => ?_, fun o => ?_⟩
 · simp only [World.cell?]; rw [h]; simp
 · simp only [World.frozen?]; rw [h]; simp
end Go.Proofs.YtdlcphinjnnhcaaGreatDoor
