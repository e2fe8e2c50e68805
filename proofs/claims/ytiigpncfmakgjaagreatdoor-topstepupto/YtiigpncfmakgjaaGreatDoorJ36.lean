import Derived.Test.YtiigpncfmakgjaaGreatDoorJ35
import Derived.Test.YtiigpncfmakgjaaGreatDoorJ18
import Derived.Test.YtiigpncfmakgjaaGreatDoorJ16
import Derived.Test.YtiigpncfmakgjaaGreatDoorJ15
import Derived.Test.YtiigpncfmakgjaaGreatDoorJ34
import Derived.Test.YtiigpncfmakgjaaGreatDoorJ21
namespace Go.Proofs.YtiigpncfmakgjaaGreatDoor
set_option maxRecDepth 100000
set_option maxHeartbeats 40000000
namespace C
open Go.RowKit
open T

theorem fetch_bad (B : Nat) (a : Nat) (P : PImg) (s : Ms) (l : List Ob) (k : Nat) (w : World) (h : MIn B w a P s l) (hg : s.at_.gate < P.gates.length) (hk : P.gates[s.at_.gate].c = k) (hkl : k < P.comps.length) (hp : P.comps[k].code.length ≤ s.at_.pc) :
   Calls Tryz.prog 35 #[.pointer (some ⟨a, 0, none⟩)] w fun x w' => x = pan (flt 8) ∧ Below w.heap.size w w' := by
 obtain ⟨b, off, cc, ka, kc, c1, hb, c2, hL⟩ := h.codeAt k hkl
 clear hL
 have c6 := h.cell.2.1
 have hlt := h.alt
 have hC := fun W (q : Below w.heap.size w W) => comp_any B a P s l W (h.gr q) hg
 rw [hk] at hC
 have KS : ∀ W, Below w.heap.size w W → W.cell? ⟨a, 1, none⟩ = some (.slice (some ⟨b, off, none⟩) P.comps.length cc) ∧ W.cell? ⟨b, off + k * 2 + 1, none⟩ = some (.slice ka P.comps[k].code.length kc) := fun W q => ⟨(q.cell (p := ⟨a, 1, none⟩) hlt).trans c1, (q.cell (p := ⟨b, _, none⟩) hb).trans c2⟩
 have p6 := fun W (q : Below w.heap.size w W) => (q.cell (p := ⟨a, 6, none⟩) hlt).trans c6
 have g1 : (k : Int) < P.comps.length := by omega
 have hF := Hid.mk (fail_any 8)
 generalize P.comps[k].code.length = n at *
 generalize s.at_.pc = pc at *
 generalize P.comps.length = nc at *
 unfold pan at hF ⊢
 replace h := Hid.mk h
 replace hC := Hid.mk hC
 replace KS := Hid.mk KS
 replace p6 := Hid.mk p6
 go_enter Tryz.func35, Tryz.ntmps35
 go_wp2_with fail
 go_region_held3 (fun W => W.cell? ⟨a, 1, none⟩ = some (.slice (some ⟨b, off, none⟩) nc cc) ∧ W.cell? ⟨b, off + k * 2 + 1, none⟩ = some (.slice ka n kc)) ((refine KS.out _ ?_; repeat (first | assumption | exact Below.refl _ _ | refine Below.alloc ?_ (by simp <;> omega) _ | refine Below.setCell ?_ (by simp <;> omega) _ | refine Below.drew ?_))) (first | (go_at_call 62; refine (hC.out _ (by repeat (first | assumption | exact Below.refl _ _ | refine Below.alloc ?_ (by simp <;> omega) _ | refine Below.setCell ?_ (by simp <;> omega) _ | refine Below.drew ?_))).mono ?_; rintro y w1 ⟨rfl, q1⟩; have Q1 : Below (w.heap.size + 1) (w.alloc (.cells #[.int .u8 0, .int .i64 0, .int .i64 0, .int .i64 0, .int .i64 0] 64)) w1 := Below.trans (by repeat (first | assumption | exact Below.refl _ _ | refine Below.alloc ?_ (by simp <;> omega) _ | refine Below.setCell ?_ (by simp <;> omega) _ | refine Below.drew ?_)) (q1.mono (by simp)); have Q2 : Below w.heap.size w w1 := ((Below.refl _ w).alloc (Nat.le_refl _) _).trans (Q1.mono (by omega))))
 all_goals
   have A1 := at_below (At.new w #[.int .u8 0, .int .i64 0, .int .i64 0, .int .i64 0, .int .i64 0] 64) Q1 (Nat.lt_succ_self _)
   have z0 : w1.cell? ⟨w.heap.size, 0, none⟩ = some (.int .u8 0) := A1.2.1 0
   have z1 : w1.cell? ⟨w.heap.size, 1, none⟩ = some (.int .i64 0) := A1.2.1 1
   have z2 : w1.cell? ⟨w.heap.size, 2, none⟩ = some (.int .i64 0) := A1.2.1 2
   have z3 : w1.cell? ⟨w.heap.size, 3, none⟩ = some (.int .i64 0) := A1.2.1 3
   have z4 : w1.cell? ⟨w.heap.size, 4, none⟩ = some (.int .i64 0) := A1.2.1 4
   have zf := A1.2.2
   have zl := A1.1
   have p6' := p6.out w1 Q2
   have lta : a < w1.heap.size := Nat.lt_of_lt_of_le hlt Q2.size
   have g3 : (n : Int) ≤ pc := by omega
   clear c1 c2 c6
   replace Q1 := Hid.mk Q1
   replace Q2 := Hid.mk Q2
   replace A1 := Hid.mk A1
   go_wp2_with (refine (hF.out _).mono ?_; rintro y w2 ⟨rfl, rfl⟩)
   exact ⟨rfl, rfl, Q2.out⟩
end C
end Go.Proofs.YtiigpncfmakgjaaGreatDoor


namespace Go.Proofs.YtiigpncfmakgjaaGreatDoor
set_option maxRecDepth 100000
set_option maxHeartbeats 40000000
open Go.RowKit

def codeBase (j : Nat) : Int := 1048576 + (j : Int) * 65536
theorem CodeCap_yes (m : PImg) (j : Nat) (e : Int) (ra ca ga : Option Addr) (rn rc cc gn gc : Nat) (w : World) (hc : CompIn w.heap.size w ca m.comps) (hj : j < m.comps.length) (hl : m.comps.length ≤ maxG) (he : 0 ≤ e ∧ e < m.comps[j].code.length) (hk : m.comps[j].code.length ≤ maxI) :
   Calls Tryz.prog 10 #[.agg #[.slice ra rn rc, .slice ca m.comps.length cc, .slice ga gn gc, .int .i64 m.depth], .int .i64 j, .int .i64 e] w fun x w' => x = .returned (.tuple #[.agg #[.int .u64 (codeBase j), .int .u64 (codeBase j + m.comps[j].code.length * 8), .int .u64 (codeBase j + e * 8), .int .u8 16, .int .i64 0], .bool true]) ∧ Gr w w' := by
 have hh : hasI m.comps j e = true := by
   unfold hasI
   rw [if_pos ⟨by omega, by omega, he.1⟩, Int.toNat_natCast, List.getElem?_eq_getElem hj]
   simpa using he.2
 have hq := fun W (h : CompIn W.heap.size W ca m.comps) => hasInst_any m j e ra ca ga rn rc cc gn gc W h
 rw [hh] at hq
 have hg : ∀ W, Gr w W → CompIn W.heap.size W ca m.comps := fun W h => (hc.below h.below).mono (gr_size h)
 obtain ⟨b, off, ra', rc', ka, kc, rfl, _, hb, _, c1, _, _⟩ := hc j hj
 clear hc hh
 generalize m.comps[j].code.length = k at *
 unfold maxG at hl
 unfold maxI at hk
 have jl : (j : Int) < m.comps.length := by omega
 have e1 : IntKind.u64.wrap (j : Int) = j := by rw [IntKind.wrap_u64]; omega
 have e2 : IntKind.u64.wrap ((j : Int) * 65536) = (j : Int) * 65536 := by rw [IntKind.wrap_u64]; omega
 have e3 : IntKind.u64.wrap (1048576 + (j : Int) * 65536) = codeBase j := by unfold codeBase; rw [IntKind.wrap_u64]; omega
 have e4 : IntKind.u64.wrap (k : Int) = k := by rw [IntKind.wrap_u64]; omega
 have e5 : IntKind.u64.wrap ((k : Int) * 8) = (k : Int) * 8 := by rw [IntKind.wrap_u64]; omega
 have e6 : IntKind.u64.wrap (codeBase j + (k : Int) * 8) = codeBase j + (k : Int) * 8 := by unfold codeBase; rw [IntKind.wrap_u64]; omega
 have e7 : IntKind.u64.wrap e = e := by rw [IntKind.wrap_u64]; omega
 have e8 : IntKind.u64.wrap (e * 8) = e * 8 := by rw [IntKind.wrap_u64]; omega
 have e9 : IntKind.u64.wrap (codeBase j + e * 8) = codeBase j + e * 8 := by unfold codeBase; rw [IntKind.wrap_u64]; omega
 generalize codeBase j = cb at *
 go_enter Tryz.func10, Tryz.ntmps10
 go_wp2_with fail
 have hG0 : Gr w ((w.alloc (.cells #[.slice ra rn rc, .slice (some ⟨b, off, none⟩) m.comps.length cc, .slice ga gn gc, .int .i64 m.depth] 26)).alloc (.cells #[.int .u64 0, .int .u64 0, .int .u64 0, .int .u8 0, .int .i64 0] 35)) := ((Gr.refl w).alloc _).alloc _
 have M : Box ((w.alloc (.cells #[.slice ra rn rc, .slice (some ⟨b, off, none⟩) m.comps.length cc, .slice ga gn gc, .int .i64 m.depth] 26)).alloc (.cells #[.int .u64 0, .int .u64 0, .int .u64 0, .int .u8 0, .int .i64 0] 35)) w.heap.size #[.slice ra rn rc, .slice (some ⟨b, off, none⟩) m.comps.length cc, .slice ga gn gc, .int .i64 m.depth] 26 := (Box.new w _ _).alloc _
 have X : Box ((w.alloc (.cells #[.slice ra rn rc, .slice (some ⟨b, off, none⟩) m.comps.length cc, .slice ga gn gc, .int .i64 m.depth] 26)).alloc (.cells #[.int .u64 0, .int .u64 0, .int .u64 0, .int .u8 0, .int .i64 0] 35)) (w.heap.size + 1) #[.int .u64 0, .int .u64 0, .int .u64 0, .int .u8 0, .int .i64 0] 35 := Box.next _ _ _ _
 refine (hq _ (hg _ hG0)).mono ?_
 rintro x w1 ⟨rfl, hG⟩
 replace M := M.gr hG
 replace X := X.gr hG
 replace hG := hG0.trans hG
 replace c1 := (hG.cell hb _).trans c1
 have ⟨z0, p0, f0⟩ := M.at
 have ⟨z1, p1, f1⟩ := X.at
 clear hq hg hG0
 replace M := Hid.mk M
 replace X := Hid.mk X
 replace hG := Hid.mk hG
 go_wp2_with fail
 have b4 := ((((X.out.set 0 (.int .u64 cb)).set 1 (.int .u64 (cb + k * 8))).set 2 (.int .u64 (cb + e * 8))).set 3 (.int .u8 16)).set 4 (.int .i64 0)
 have hG4 := ((((hG.out.setCell (w.heap.size + 1) 0 (.int .u64 cb) (by omega)).setCell (w.heap.size + 1) 1 (.int .u64 (cb + k * 8)) (by omega)).setCell (w.heap.size + 1) 2 (.int .u64 (cb + e * 8)) (by omega)).setCell (w.heap.size + 1) 3 (.int .u8 16) (by omega)).setCell (w.heap.size + 1) 4 (.int .i64 0) (by omega)
 have ⟨_, q4, _⟩ := b4.at
 clear z0 p0 f0 z1 p1 f1 X M hG b4 c1
 generalize ((((w1.setCell ⟨w.heap.size + 1, 0, none⟩ (.int .u64 cb)).setCell ⟨w.heap.size + 1, 1, none⟩ (.int .u64 (cb + k * 8))).setCell ⟨w.heap.size + 1, 2, none⟩ (.int .u64 (cb + e * 8))).setCell ⟨w.heap.size + 1, 3, none⟩ (.int .u8 16)).setCell ⟨w.heap.size + 1, 4, none⟩ (.int .i64 0) = W4 at *
 simp [bodyPost, results, Tryz.results10, go_sem, q4]
 exact hG4
end Go.Proofs.YtiigpncfmakgjaaGreatDoor


namespace Go.Proofs.YtiigpncfmakgjaaGreatDoor
set_option maxRecDepth 100000
set_option maxHeartbeats 40000000
open Go.RowKit

theorem atNew (w : World) (cs : Array Value) (t : TypeId) : At (w.alloc (.cells cs t)) w.heap.size cs := At.new w cs t
def fitsB (tag : Bool) (b e c p s : Int) (t : PTyp) : Bool := if t.cap then tag && (b == t.b && e == t.e && p == t.p && s == t.s) && inLH t.lo t.hi c else !tag
theorem Fits_eq (n b e c p s lo hi : Int) (w : World) :
   Calls Tryz.prog 133 #[.agg #[.bool true, .int .u64 n, .int .u64 b, .int .u64 e, .int .u64 c, .int .u8 p, .int .i64 s], .agg #[.bool true, .int .u64 b, .int .u64 e, .int .u64 lo, .int .u64 hi, .int .u8 p, .int .i64 s]] w fun x w' => x = .returned (.bool (inLH lo hi c)) ∧ Gr w w' := by
 have hc := CapOf_any ⟨true, b, e, lo, hi, p, s⟩ c
 have hp := pointsWithin_any ⟨true, b, e, lo, hi, p, s⟩ c
 simp only at hc hp
 generalize inLH lo hi c = q at hp ⊢
 cases q
 all_goals
   go_enter Tryz.func133, Tryz.ntmps133
   go_upto_region 3 with fail
   have ⟨z1, p1, _⟩ := ((atNew w #[.bool true, .int .u64 n, .int .u64 b, .int .u64 e, .int .u64 c, .int .u8 p, .int .i64 s] 37).alloc (.cells #[.bool true, .int .u64 b, .int .u64 e, .int .u64 lo, .int .u64 hi, .int .u8 p, .int .i64 s] 103))
   have ⟨z2, p2, _⟩ := At.next w (.cells #[.bool true, .int .u64 n, .int .u64 b, .int .u64 e, .int .u64 c, .int .u8 p, .int .i64 s] 37) #[.bool true, .int .u64 b, .int .u64 e, .int .u64 lo, .int .u64 hi, .int .u8 p, .int .i64 s] 103
   have KS : ∀ W, Gr ((w.alloc (.cells #[.bool true, .int .u64 n, .int .u64 b, .int .u64 e, .int .u64 c, .int .u8 p, .int .i64 s] 37)).alloc (.cells #[.bool true, .int .u64 b, .int .u64 e, .int .u64 lo, .int .u64 hi, .int .u8 p, .int .i64 s] 103)) W → W.cell? ⟨w.heap.size, 0, none⟩ = some (.bool true) ∧ W.cell? ⟨w.heap.size, 1, none⟩ = some (.int .u64 n) ∧ W.cell? ⟨w.heap.size, 2, none⟩ = some (.int .u64 b) ∧ W.cell? ⟨w.heap.size, 3, none⟩ = some (.int .u64 e) ∧ W.cell? ⟨w.heap.size, 4, none⟩ = some (.int .u64 c) ∧ W.cell? ⟨w.heap.size, 5, none⟩ = some (.int .u8 p) ∧ W.cell? ⟨w.heap.size, 6, none⟩ = some (.int .i64 s) ∧ W.cell? ⟨w.heap.size + 1, 0, none⟩ = some (.bool true) ∧ W.cell? ⟨w.heap.size + 1, 1, none⟩ = some (.int .u64 b) ∧ W.cell? ⟨w.heap.size + 1, 2, none⟩ = some (.int .u64 e) ∧ W.cell? ⟨w.heap.size + 1, 3, none⟩ = some (.int .u64 lo) ∧ W.cell? ⟨w.heap.size + 1, 4, none⟩ = some (.int .u64 hi) ∧ W.cell? ⟨w.heap.size + 1, 5, none⟩ = some (.int .u8 p) ∧ W.cell? ⟨w.heap.size + 1, 6, none⟩ = some (.int .i64 s) := fun W hG => ⟨(hG.cell z1 _).trans (p1 0), (hG.cell z1 _).trans (p1 1), (hG.cell z1 _).trans (p1 2), (hG.cell z1 _).trans (p1 3), (hG.cell z1 _).trans (p1 4), (hG.cell z1 _).trans (p1 5), (hG.cell z1 _).trans (p1 6), (hG.cell z2 _).trans (p2 0), (hG.cell z2 _).trans (p2 1), (hG.cell z2 _).trans (p2 2), (hG.cell z2 _).trans (p2 3), (hG.cell z2 _).trans (p2 4), (hG.cell z2 _).trans (p2 5), (hG.cell z2 _).trans (p2 6)⟩
   replace KS := Hid.mk KS
   clear z1 p1 z2 p2
   first | (go_region_held3 (fun W => W.cell? ⟨w.heap.size, 0, none⟩ = some (.bool true) ∧ W.cell? ⟨w.heap.size, 1, none⟩ = some (.int .u64 n) ∧ W.cell? ⟨w.heap.size, 2, none⟩ = some (.int .u64 b) ∧ W.cell? ⟨w.heap.size, 3, none⟩ = some (.int .u64 e) ∧ W.cell? ⟨w.heap.size, 4, none⟩ = some (.int .u64 c) ∧ W.cell? ⟨w.heap.size, 5, none⟩ = some (.int .u8 p) ∧ W.cell? ⟨w.heap.size, 6, none⟩ = some (.int .i64 s) ∧ W.cell? ⟨w.heap.size + 1, 0, none⟩ = some (.bool true) ∧ W.cell? ⟨w.heap.size + 1, 1, none⟩ = some (.int .u64 b) ∧ W.cell? ⟨w.heap.size + 1, 2, none⟩ = some (.int .u64 e) ∧ W.cell? ⟨w.heap.size + 1, 3, none⟩ = some (.int .u64 lo) ∧ W.cell? ⟨w.heap.size + 1, 4, none⟩ = some (.int .u64 hi) ∧ W.cell? ⟨w.heap.size + 1, 5, none⟩ = some (.int .u8 p) ∧ W.cell? ⟨w.heap.size + 1, 6, none⟩ = some (.int .i64 s)) ((refine KS.out _ ?_; (with_reducible repeat (first | exact Gr.refl _ | refine Gr.alloc ?_ _ | refine Gr.grow ?_ _ | refine Gr.drew ?_ | refine Gr.setCell ?_ _ _ _ (gr_size ?_))))) (first | (go_at_call 107; refine (hc _).mono ?_; rintro x w' ⟨rfl, hG⟩; (repeat (replace hG := Gr.of_grow hG)); obtain ⟨l, rfl⟩ := hG) | (go_at_call 78; refine (hp _).mono ?_; rintro x w' ⟨rfl, hG⟩; (repeat (replace hG := Gr.of_grow hG)); obtain ⟨l, rfl⟩ := hG))) | fail
   all_goals
     clear KS
     go_wp2_with fail
     go_ret
     refine ⟨ret_bool (by simp_all), ?_⟩
     (with_reducible repeat (first | exact Gr.refl _ | refine Gr.alloc ?_ _ | refine Gr.grow ?_ _ | refine Gr.drew ?_ | refine Gr.drewN ?_ _))
end Go.Proofs.YtiigpncfmakgjaaGreatDoor


namespace Go.Proofs.YtiigpncfmakgjaaGreatDoor
namespace C
open Go.RowKit
open T (Sep Ob Kp Mf TgIn boxOb Fm Tc Ed Vl Cp Bx tgOb mRow updV flt ofI accessF)

def zV : Vl := ⟨false, 0, Cp.zero⟩
def kOf (P : PImg) (g : Nat) : Nat := ((P.gates[g]?).map fun x => x.c.toNat).getD 0
def eOf (P : PImg) (g : Nat) : Nat := ((P.gates[g]?).map fun x => x.e.toNat).getD 0
def argsOf (P : PImg) (g : Nat) : List PTyp := ((P.gates[g]?).map PGate.args).getD []
def resOf (P : PImg) (g : Nat) : List PTyp := ((P.gates[g]?).map PGate.res).getD []
def codeOf (P : PImg) (k : Nat) : List Ins := ((P.comps[k]?).map PComp.code).getD []
def rootsOf (P : PImg) (k : Nat) : List PRoot := ((P.comps[k]?).map PComp.roots).getD []
def ccap (P : PImg) (k e : Nat) : Cp := ⟨codeBase k, codeBase k + (codeOf P k).length * 8, codeBase k + e * 8, 16, 0⟩
def accV (v : Vl) (off n q : Int) : Int := accessF v.c.b v.c.e v.c.c v.c.p v.c.s off n q
def offC (k : Nat) (c : Int) : Int := IntKind.u64.wrap (c - codeBase k)
def tgtR (P : PImg) (k : Nat) (v : Vl) : Except Ed Nat :=
 if v.g then (if accV v 0 8 16 = 0 then (if offC k v.c.c < (codeOf P k).length * 8 ∧ offC k v.c.c % 8 = 0 then .ok (offC k v.c.c / 8).toNat else .error (flt 8)) else .error (flt (accV v 0 8 16))) else .error (flt 1)
def vfit (v : Vl) (t : PTyp) : Bool := fitsB v.g v.c.b v.c.e v.c.c v.c.p v.c.s t
def fitN (r : Nat → Vl) (T : List PTyp) : Nat → Bool
 | 0 => true
 | n + 1 => fitN r T n && (match T[n]? with | some t => vfit (r (1 + n)) t | none => true)
theorem fitN_down {r : Nat → Vl} {T : List PTyp} {n : Nat} (m : Nat) (h : fitN r T n = false) : fitN r T (n + m) = false := by
 induction m with
 | zero => exact h
 | succ m ih => rw [← Nat.add_assoc, fitN, ih]; rfl
def ovF (r u : Nat → Vl) (n : Nat) : Nat → Vl := fun j => if 1 ≤ j ∧ j ≤ n then r j else u j
def rootV (k : PRoot) : Vl := ⟨true, 0, ⟨k.b, k.e, k.c, k.p, k.s⟩⟩
def putF (f : Fm) (r : Nat) (v : Vl) : Fm := { f with regs := updV f.regs r v }
def rootsJ (f : Fm) (L : List PRoot) : Nat → Fm
 | 0 => f
 | j + 1 => match L[j]? with | some k => putF (rootsJ f L j) k.r.toNat (rootV k) | none => rootsJ f L j
def entF (P : PImg) (g : Nat) (r : Nat → Vl) (n : Nat) : Fm := rootsJ ⟨g, eOf P g, ovF r (fun _ => zV) n⟩ (rootsOf P (kOf P g)) (rootsOf P (kOf P g)).length
def firstV (r : Nat → Vl) (n : Nat) : Int := if n = 0 then 0 else if (r 1).g then (r 1).c.c else (r 1).n
def callM (P : PImg) (s : Ms) (g : Nat) : Except Ed Ms :=
 if fitN s.at_.regs (argsOf P g) (argsOf P g).length then (if P.depth ≤ s.st.length then .error ⟨5, 0, 0⟩ else .ok { s with st := s.st ++ [s.next.at_], at_ := entF P g s.at_.regs (argsOf P g).length }) else .error (flt 9)
def backF (f : Fm) (r : Nat → Vl) (n : Nat) : Fm := { f with regs := ovF r f.regs n }
def retM (P : PImg) (s : Ms) : Except Ed Ms :=
 if fitN s.at_.regs (resOf P s.at_.gate) (resOf P s.at_.gate).length then (match s.st.getLast? with
   | none => .error ⟨1, firstV s.at_.regs (resOf P s.at_.gate).length, 0⟩
   | some f => .ok { s with st := s.st.dropLast, at_ := backF f s.at_.regs (resOf P s.at_.gate).length }) else .error (flt 9)
def goR (s : Ms) : Except Ed Nat → Except Ed Ms
 | .ok n => .ok (s.goTo n)
 | .error e => .error e
def inM (s : Ms) (A : Nat) : Except Ed Ms := match s.inp with
 | [] => .error ⟨6, 0, 0⟩
 | n :: L => .ok (Ms.next (Ms.put { s with inp := L } A (ofI n)))
def outM (s : Ms) (A : Nat) : Except Ed Ms := if (s.at_.regs A).g then .error (flt 2) else .ok (Ms.next { s with out := s.out ++ [((s.at_.regs A).n : Int)] })
def haltM (s : Ms) (A : Nat) : Except Ed Ms := if (s.at_.regs A).g then .error (flt 2) else .error ⟨1, (s.at_.regs A).n, 0⟩
def strM (P : PImg) (s : Ms) (op : Int) (A B : Nat) (m : Int) : Except Ed Ms :=
 if op = 20 then .ok (s.goTo m.toNat) else if op ≤ 24 then braM s op A B m.toNat
 else if op = 25 then .ok (s.put A (ofC (ccap P (kOf P s.at_.gate) m.toNat))).next
 else if op = 26 then goR s (tgtR P (kOf P s.at_.gate) (s.at_.regs A))
 else if op = 27 then haltM s A else if op = 28 then .error ⟨3, IntKind.u64.wrap m, 0⟩
 else if op = 29 then inM s A else if op = 30 then outM s A else if op = 31 then callM P s m.toNat else retM P s
def insM (P : PImg) (s : Ms) (op : Int) (A B C : Nat) (m : Int) : Except Ed Ms :=
 if op ≤ 13 then layM s A (recM s op B C m) else if op ≤ 32 then strM P s op A B m
 else if op ≤ 46 then layM s A (capV (derR op m (s.at_.regs B) (s.at_.regs C)))
 else if op ≤ 56 then layM s A (nmbV (askR op (s.at_.regs B) (s.at_.regs C)))
 else if op ≤ 65 then touM s op A B m else grdR op A C m s
def stepM (P : PImg) (s : Ms) : Except Ed Ms := match (codeOf P (kOf P s.at_.gate))[s.at_.pc]? with
 | none => .error (flt 8)
 | some i => insM P s i.op i.a.toNat i.b.toNat i.c.toNat i.m
def Ms.ended (s : Ms) (e : Ed) : Ms := { s with over := e }
def stepsM (P : PImg) : Nat → Ms → Ms
 | 0, s => s
 | n + 1, s => if s.over.e = 0 then (match stepM P s with | .ok s' => stepsM P n s' | .error e => s.ended e) else s
structure IOk (P : PImg) (k : Nat) (i : Ins) : Prop where
 op : (1 ≤ i.op ∧ i.op ≤ 13) ∨ (20 ≤ i.op ∧ i.op ≤ 32) ∨ (40 ≤ i.op ∧ i.op ≤ 46) ∨ (50 ≤ i.op ∧ i.op ≤ 56) ∨ (60 ≤ i.op ∧ i.op ≤ 65) ∨ (70 ≤ i.op ∧ i.op ≤ 75)
 ra : 0 ≤ i.a ∧ i.a < 16
 rb : 0 ≤ i.b ∧ i.b < 16
 rc : 0 ≤ i.c ∧ i.c < 256
 rc2 : i.op < 70 → i.c < 16
 rm : -2147483648 ≤ i.m ∧ i.m ≤ 2147483647
 tg : 20 ≤ i.op ∧ i.op ≤ 25 → 0 ≤ i.m ∧ i.m < (codeOf P k).length
 cl : i.op = 31 → 0 ≤ i.m ∧ i.m < P.gates.length
theorem fR_more (op a b c m : Int) (s : List UInt8) (hs : s ∈ shapes) (h : fR op s 0 a b c m = true) (h9 : 99 ∈ s → op = 28 ∨ 70 ≤ op) :
   (0 ≤ a ∧ a < 16) ∧ (0 ≤ b ∧ b < 16) ∧ (op < 70 → c < 16) ∧ (116 ∈ s ∨ 103 ∈ s → 0 ≤ m) := by
 simp only [shapes, List.mem_cons, List.not_mem_nil, or_false] at hs
 by_cases h28 : op = 28
 · subst h28
   rcases hs with rfl | rfl | rfl | rfl | rfl | rfl | rfl | rfl | rfl | rfl | rfl | rfl | rfl | rfl | rfl | rfl | rfl | rfl <;>
     (simp [fR, inE, hiE, loE] at h h9 ⊢; omega)
 · by_cases h70 : op = 70 ∨ op = 71
   · have e : ¬ (op ≠ 70 ∧ op ≠ 71) := by omega
     rcases hs with rfl | rfl | rfl | rfl | rfl | rfl | rfl | rfl | rfl | rfl | rfl | rfl | rfl | rfl | rfl | rfl | rfl | rfl <;>
       (simp [fR, inE, hiE, loE, h28, e] at h h9 ⊢; omega)
   · have e : ¬ op = 70 ∧ ¬ op = 71 := by omega
     rcases hs with rfl | rfl | rfl | rfl | rfl | rfl | rfl | rfl | rfl | rfl | rfl | rfl | rfl | rfl | rfl | rfl | rfl | rfl <;>
       (simp [fR, inE, hiE, loE, h28, e] at h h9 ⊢; omega)
def opsB (n : Nat) : Bool := (1 ≤ n && n ≤ 13) || (20 ≤ n && n ≤ 32) || (40 ≤ n && n ≤ 46) || (50 ≤ n && n ≤ 56) || (60 ≤ n && n ≤ 65) || (70 ≤ n && n ≤ 75)
def opB (n : Nat) : Bool := (nameOf n == []) || (opsB n && (!((shapeOf n).elem 99) || n == 28 || 70 ≤ n) && (!(20 ≤ n && n ≤ 25) || (shapeOf n).elem 116) && (!(n == 31) || (shapeOf n).elem 103))
theorem iok_of (P : PImg) (k : Nat) (i : Ins) (h0 : 0 ≤ i.op) (h1 : i.op < 256) (h : i.right = 0) (ht : tgtB i.op i.m (codeOf P k).length P.gates.length = true) : IOk P k i := by
 obtain ⟨ra, rb, rc, rm⟩ := right_ranges h1 h
 have hb := all_bytes opB (by kernel_rfl) i.op h1
 have hn : ((i.op.toNat : Nat) : Int) = i.op := Int.toNat_of_nonneg h0
 unfold Ins.right rightF at h
 unfold opB at hb
 rw [hn] at hb
 split at h
 · omega
 · rename_i hq
   unfold errOf at h
   split at h
   · rename_i hf
     have hq' : (nameOf i.op == []) = false := by simpa using hq
     rw [hq', Bool.false_or] at hb
     simp only [Bool.and_eq_true, Bool.or_eq_true, Bool.not_eq_true', decide_eq_true_eq, beq_iff_eq, opsB, Bool.and_eq_false_imp, List.elem_eq_mem, decide_eq_false_iff_not] at hb
     obtain ⟨⟨⟨b1, b2⟩, b3⟩, b4⟩ := hb
     have m1 := fR_more _ _ _ _ _ _ (shape_in _ h1) hf (fun q => by rcases b2 with (b2 | b2) | b2 <;> first | exact absurd q b2 | omega)
     obtain ⟨ma, mb, mc, mm⟩ := m1
     refine ⟨by omega, ma, mb, rc, mc, rm, fun q => ⟨mm (.inl ?_), ?_⟩, fun q => ⟨mm (.inr ?_), ?_⟩⟩
     · rcases b3 with b3 | b3
       · exact absurd (b3 (by omega)) (by omega)
       · exact b3
     · unfold tgtB at ht
       rw [if_pos q] at ht
       simpa using ht
     · rcases b4 with b4 | b4
       · exact absurd b4 (by simp; omega)
       · exact b4
     · unfold tgtB at ht
       rw [if_neg (by omega), if_pos q] at ht
       simpa using ht
   · omega
end C
end Go.Proofs.YtiigpncfmakgjaaGreatDoor
