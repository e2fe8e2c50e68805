import Derived.Test.YthmlkcglglcljaaGreatDoorJ33
import Derived.Test.YthmlkcglglcljaaGreatDoorJ28
import Derived.Test.YthmlkcglglcljaaGreatDoorJ16
import Derived.Test.YthmlkcglglcljaaGreatDoorJ14
import Derived.Test.YthmlkcglglcljaaGreatDoorJ12
import Derived.Test.YthmlkcglglcljaaGreatDoorJ13
namespace Go.Proofs.YthmlkcglglcljaaGreatDoor
set_option maxRecDepth 100000
set_option maxHeartbeats 40000000
namespace C
open Go.RowKit
open T

theorem MIn.gateAt {B : Nat} {w : World} {a : Nat} {P : PImg} {s : Ms} {l : List Ob} (h : MIn B w a P s l) (g : Nat) (hg : g < P.gates.length) : ∃ (b off gc : Nat), w.cell? ⟨a, 2, none⟩ = some (.slice (some ⟨b, off, none⟩) P.gates.length gc) ∧ b < w.heap.size ∧ w.cell? ⟨b, off + g * 4, none⟩ = some (.int .i64 P.gates[g].c) := by
 obtain ⟨q, hB, h2, _, _⟩ := h.parts
 obtain ⟨b, off, xa, xc, ya, yc, e1, e2, e3, e4, _⟩ := h2.gates g hg
 refine ⟨b, off, q.gc, hB.at_ 2 _ (by unfold rowOf; rw [mRow_idx, ← e1]; rfl), e3, e4⟩
theorem MIn.codeAt {B : Nat} {w : World} {a : Nat} {P : PImg} {s : Ms} {l : List Ob} (h : MIn B w a P s l) (k : Nat) (hk : k < P.comps.length) : ∃ (b off cc : Nat) (ka : Option Addr) (kc : Nat), w.cell? ⟨a, 1, none⟩ = some (.slice (some ⟨b, off, none⟩) P.comps.length cc) ∧ b < w.heap.size ∧ w.cell? ⟨b, off + k * 2 + 1, none⟩ = some (.slice ka P.comps[k].code.length kc) ∧ LIn w.heap.size w ka P.comps[k].code := by
 obtain ⟨q, hB, h2, _, _⟩ := h.parts
 obtain ⟨b, off, ra, rc, ka, kc, e1, e2, e3, e4, e5, e6, e7⟩ := h2.comps k hk
 refine ⟨b, off, q.cc, ka, kc, hB.at_ 1 _ (by unfold rowOf; rw [mRow_idx, ← e1]; rfl), e3, e5, e7⟩
theorem comp_any (B : Nat) (a : Nat) (P : PImg) (s : Ms) (l : List Ob) (w : World) (h : MIn B w a P s l) (hg : s.at_.gate < P.gates.length) :
   Calls Tryz.prog 78 #[.pointer (some ⟨a, 0, none⟩)] w fun x w' => x = .returned (.int .i64 P.gates[s.at_.gate].c) ∧ Below w.heap.size w w' := by
 obtain ⟨b, off, gc, c2, hb, c3⟩ := h.gateAt s.at_.gate hg
 have c5 := h.cell.1
 have hlt := h.alt
 have g1 : (s.at_.gate : Int) < P.gates.length := by omega
 generalize P.gates[s.at_.gate].c = q at *
 generalize s.at_.gate = g at *
 generalize P.gates.length = n at *
 replace h := Hid.mk h
 go_enter Tryz.func78, Tryz.ntmps78
 go_wp2_with fail
 go_quiet (fail)
 all_goals
   go_wp2_with fail
   go_ret
   exact ⟨rfl, drewN_below _ _⟩
theorem fetch_ok (B : Nat) (a : Nat) (P : PImg) (s : Ms) (l : List Ob) (k : Nat) (w : World) (h : MIn B w a P s l) (hg : s.at_.gate < P.gates.length) (hk : P.gates[s.at_.gate].c = k) (hkl : k < P.comps.length) (hp : s.at_.pc < P.comps[k].code.length) :
   Calls Tryz.prog 46 #[.pointer (some ⟨a, 0, none⟩)] w fun x w' => x = .returned P.comps[k].code[s.at_.pc].agg ∧ Below w.heap.size w w' := by
 obtain ⟨b, off, cc, ka, kc, c1, hb, c2, hL⟩ := h.codeAt k hkl
 obtain ⟨b2, off2, e2, _, lt2, hv⟩ := hL s.at_.pc hp
 have c6 := h.cell.2.1
 have hlt := h.alt
 have hC := fun W (q : Below w.heap.size w W) => comp_any B a P s l W (h.gr q) hg
 rw [hk] at hC
 have KS : ∀ W, Below w.heap.size w W → W.cell? ⟨a, 1, none⟩ = some (.slice (some ⟨b, off, none⟩) P.comps.length cc) ∧ W.cell? ⟨b, off + k * 2 + 1, none⟩ = some (.slice ka P.comps[k].code.length kc) := fun W q => ⟨(q.cell (p := ⟨a, 1, none⟩) hlt).trans c1, (q.cell (p := ⟨b, _, none⟩) hb).trans c2⟩
 have VS := fun W (q : Below w.heap.size w W) => hv.below q lt2
 have p6 := fun W (q : Below w.heap.size w W) => (q.cell (p := ⟨a, 6, none⟩) hlt).trans c6
 have g1 : (k : Int) < P.comps.length := by omega
 have g2 : (s.at_.pc : Int) < P.comps[k].code.length := by omega
 clear hL
 generalize P.comps[k].code[s.at_.pc] = x at *
 generalize P.comps[k].code.length = n at *
 generalize s.at_.pc = pc at *
 generalize P.comps.length = nc at *
 simp only [Ins.agg]
 subst e2
 replace h := Hid.mk h
 replace hv := Hid.mk hv
 replace hC := Hid.mk hC
 replace KS := Hid.mk KS
 replace VS := Hid.mk VS
 replace p6 := Hid.mk p6
 go_enter Tryz.func46, Tryz.ntmps46
 go_wp2_with fail
 go_region_held3 (fun W => W.cell? ⟨a, 1, none⟩ = some (.slice (some ⟨b, off, none⟩) nc cc) ∧ W.cell? ⟨b, off + k * 2 + 1, none⟩ = some (.slice (some ⟨b2, off2, none⟩) n kc)) ((refine KS.out _ ?_; repeat (first | assumption | exact Below.refl _ _ | refine Below.alloc ?_ (by simp <;> omega) _ | refine Below.setCell ?_ (by simp <;> omega) _ | refine Below.drew ?_))) (first | (go_at_call 78; refine (hC.out _ (by repeat (first | assumption | exact Below.refl _ _ | refine Below.alloc ?_ (by simp <;> omega) _ | refine Below.setCell ?_ (by simp <;> omega) _ | refine Below.drew ?_))).mono ?_; rintro y w1 ⟨rfl, q1⟩; have Q1 : Below (w.heap.size + 1) (w.alloc (.cells #[.int .u8 0, .int .i64 0, .int .i64 0, .int .i64 0, .int .i64 0] 56)) w1 := Below.trans (by repeat (first | assumption | exact Below.refl _ _ | refine Below.alloc ?_ (by simp <;> omega) _ | refine Below.setCell ?_ (by simp <;> omega) _ | refine Below.drew ?_)) (q1.mono (by simp)); have Q2 : Below w.heap.size w w1 := ((Below.refl _ w).alloc (Nat.le_refl _) _).trans (Q1.mono (by omega))))
 all_goals
   have A1 := at_below (At.new w #[.int .u8 0, .int .i64 0, .int .i64 0, .int .i64 0, .int .i64 0] 56) Q1 (Nat.lt_succ_self _)
   have z0 : w1.cell? ⟨w.heap.size, 0, none⟩ = some (.int .u8 0) := A1.2.1 0
   have z1 : w1.cell? ⟨w.heap.size, 1, none⟩ = some (.int .i64 0) := A1.2.1 1
   have z2 : w1.cell? ⟨w.heap.size, 2, none⟩ = some (.int .i64 0) := A1.2.1 2
   have z3 : w1.cell? ⟨w.heap.size, 3, none⟩ = some (.int .i64 0) := A1.2.1 3
   have z4 : w1.cell? ⟨w.heap.size, 4, none⟩ = some (.int .i64 0) := A1.2.1 4
   have zf := A1.2.2
   have zl := A1.1
   have p6' := p6.out w1 Q2
   obtain ⟨u0, u1, u2, u3, u4⟩ := VS.out w1 Q2
   have lta : a < w1.heap.size := Nat.lt_of_lt_of_le hlt Q2.size
   have ltb : b2 < w1.heap.size := Nat.lt_of_lt_of_le lt2 Q2.size
   have g3 : ¬ (n : Int) ≤ pc := by omega
   clear c1 c2 c6
   replace Q1 := Hid.mk Q1
   replace Q2 := Hid.mk Q2
   replace A1 := Hid.mk A1
   go_wp2_with fail
   simp [bodyPost, results, Tryz.results46, go_sem, z0, z1, z2, z3, z4]
   exact ((((Q2.out.setCell (Nat.le_refl _) _).setCell (Nat.le_refl _) _).setCell (Nat.le_refl _) _).setCell (Nat.le_refl _) _).setCell (Nat.le_refl _) _
end C
end Go.Proofs.YthmlkcglglcljaaGreatDoor


namespace Go.Proofs.YthmlkcglglcljaaGreatDoor
set_option maxRecDepth 100000
set_option maxHeartbeats 40000000
namespace C
open Go.RowKit
open T

theorem fetch_bad (B : Nat) (a : Nat) (P : PImg) (s : Ms) (l : List Ob) (k : Nat) (w : World) (h : MIn B w a P s l) (hg : s.at_.gate < P.gates.length) (hk : P.gates[s.at_.gate].c = k) (hkl : k < P.comps.length) (hp : P.comps[k].code.length ≤ s.at_.pc) :
   Calls Tryz.prog 46 #[.pointer (some ⟨a, 0, none⟩)] w fun x w' => x = pan (flt 8) ∧ Below w.heap.size w w' := by
 obtain ⟨b, off, cc, ka, kc, c1, hb, c2, hL⟩ := h.codeAt k hkl
 clear hL
 have c6 := h.cell.2.1
 have hlt := h.alt
 have hC := fun W (q : Below w.heap.size w W) => comp_any B a P s l W (h.gr q) hg
 rw [hk] at hC
 have KS : ∀ W, Below w.heap.size w W → W.cell? ⟨a, 1, none⟩ = some (.slice (some ⟨b, off, none⟩) P.comps.length cc) ∧ W.cell? ⟨b, off + k * 2 + 1, none⟩ = some (.slice ka P.comps[k].code.length kc) := fun W q => ⟨(q.cell (p := ⟨a, 1, none⟩) hlt).trans c1, (q.cell (p := ⟨b, _, none⟩) hb).trans c2⟩
 have p6 := fun W (q : Below w.heap.size w W) => (q.cell (p := ⟨a, 6, none⟩) hlt).trans c6
 have g1 : (k : Int) < P.comps.length := by omega
 have hF := Hid.mk (fail_any 8)
 generalize P.comps[k].code.length = n at *
 generalize s.at_.pc = pc at *
 generalize P.comps.length = nc at *
 unfold pan at hF ⊢
 replace h := Hid.mk h
 replace hC := Hid.mk hC
 replace KS := Hid.mk KS
 replace p6 := Hid.mk p6
 go_enter Tryz.func46, Tryz.ntmps46
 go_wp2_with fail
 go_region_held3 (fun W => W.cell? ⟨a, 1, none⟩ = some (.slice (some ⟨b, off, none⟩) nc cc) ∧ W.cell? ⟨b, off + k * 2 + 1, none⟩ = some (.slice ka n kc)) ((refine KS.out _ ?_; repeat (first | assumption | exact Below.refl _ _ | refine Below.alloc ?_ (by simp <;> omega) _ | refine Below.setCell ?_ (by simp <;> omega) _ | refine Below.drew ?_))) (first | (go_at_call 78; refine (hC.out _ (by repeat (first | assumption | exact Below.refl _ _ | refine Below.alloc ?_ (by simp <;> omega) _ | refine Below.setCell ?_ (by simp <;> omega) _ | refine Below.drew ?_))).mono ?_; rintro y w1 ⟨rfl, q1⟩; have Q1 : Below (w.heap.size + 1) (w.alloc (.cells #[.int .u8 0, .int .i64 0, .int .i64 0, .int .i64 0, .int .i64 0] 56)) w1 := Below.trans (by repeat (first | assumption | exact Below.refl _ _ | refine Below.alloc ?_ (by simp <;> omega) _ | refine Below.setCell ?_ (by simp <;> omega) _ | refine Below.drew ?_)) (q1.mono (by simp)); have Q2 : Below w.heap.size w w1 := ((Below.refl _ w).alloc (Nat.le_refl _) _).trans (Q1.mono (by omega))))
 all_goals
   have A1 := at_below (At.new w #[.int .u8 0, .int .i64 0, .int .i64 0, .int .i64 0, .int .i64 0] 56) Q1 (Nat.lt_succ_self _)
   have z0 : w1.cell? ⟨w.heap.size, 0, none⟩ = some (.int .u8 0) := A1.2.1 0
   have z1 : w1.cell? ⟨w.heap.size, 1, none⟩ = some (.int .i64 0) := A1.2.1 1
   have z2 : w1.cell? ⟨w.heap.size, 2, none⟩ = some (.int .i64 0) := A1.2.1 2
   have z3 : w1.cell? ⟨w.heap.size, 3, none⟩ = some (.int .i64 0) := A1.2.1 3
   have z4 : w1.cell? ⟨w.heap.size, 4, none⟩ = some (.int .i64 0) := A1.2.1 4
   have zf := A1.2.2
   have zl := A1.1
   have p6' := p6.out w1 Q2
   have lta : a < w1.heap.size := Nat.lt_of_lt_of_le hlt Q2.size
   have g3 : (n : Int) ≤ pc := by omega
   clear c1 c2 c6
   replace Q1 := Hid.mk Q1
   replace Q2 := Hid.mk Q2
   replace A1 := Hid.mk A1
   go_wp2_with (refine (hF.out _).mono ?_; rintro y w2 ⟨rfl, rfl⟩)
   exact ⟨rfl, rfl, Q2.out⟩
end C
end Go.Proofs.YthmlkcglglcljaaGreatDoor


namespace Go.Proofs.YthmlkcglglcljaaGreatDoor
set_option maxRecDepth 100000
set_option maxHeartbeats 40000000
open Go.RowKit

def codeBase (j : Nat) : Int := 1048576 + (j : Int) * 65536
theorem CodeCap_yes (m : PImg) (j : Nat) (e : Int) (ra ca ga : Option Addr) (rn rc cc gn gc : Nat) (w : World) (hc : CompIn w.heap.size w ca m.comps) (hj : j < m.comps.length) (hl : m.comps.length ≤ maxG) (he : 0 ≤ e ∧ e < m.comps[j].code.length) (hk : m.comps[j].code.length ≤ maxI) :
   Calls Tryz.prog 130 #[.agg #[.slice ra rn rc, .slice ca m.comps.length cc, .slice ga gn gc, .int .i64 m.depth], .int .i64 j, .int .i64 e] w fun x w' => x = .returned (.tuple #[.agg #[.int .u64 (codeBase j), .int .u64 (codeBase j + m.comps[j].code.length * 8), .int .u64 (codeBase j + e * 8), .int .u8 16, .int .i64 0], .bool true]) ∧ Gr w w' := by
 have hh : hasI m.comps j e = true := by
   unfold hasI
   rw [if_pos ⟨by omega, by omega, he.1⟩, Int.toNat_natCast, List.getElem?_eq_getElem hj]
   simpa using he.2
 have hq := fun W (h : CompIn W.heap.size W ca m.comps) => hasInst_any m j e ra ca ga rn rc cc gn gc W h
 rw [hh] at hq
 have hg : ∀ W, Gr w W → CompIn W.heap.size W ca m.comps := fun W h => (hc.below h.below).mono (gr_size h)
 obtain ⟨b, off, ra', rc', ka, kc, rfl, _, hb, _, c1, _, _⟩ := hc j hj
 clear hc hh
 generalize m.comps[j].code.length = k at *
 unfold maxG at hl
 unfold maxI at hk
 have jl : (j : Int) < m.comps.length := by omega
 have e1 : IntKind.u64.wrap (j : Int) = j := by rw [IntKind.wrap_u64]; omega
 have e2 : IntKind.u64.wrap ((j : Int) * 65536) = (j : Int) * 65536 := by rw [IntKind.wrap_u64]; omega
 have e3 : IntKind.u64.wrap (1048576 + (j : Int) * 65536) = codeBase j := by unfold codeBase; rw [IntKind.wrap_u64]; omega
 have e4 : IntKind.u64.wrap (k : Int) = k := by rw [IntKind.wrap_u64]; omega
 have e5 : IntKind.u64.wrap ((k : Int) * 8) = (k : Int) * 8 := by rw [IntKind.wrap_u64]; omega
 have e6 : IntKind.u64.wrap (codeBase j + (k : Int) * 8) = codeBase j + (k : Int) * 8 := by unfold codeBase; rw [IntKind.wrap_u64]; omega
 have e7 : IntKind.u64.wrap e = e := by rw [IntKind.wrap_u64]; omega
 have e8 : IntKind.u64.wrap (e * 8) = e * 8 := by rw [IntKind.wrap_u64]; omega
 have e9 : IntKind.u64.wrap (codeBase j + e * 8) = codeBase j + e * 8 := by unfold codeBase; rw [IntKind.wrap_u64]; omega
 generalize codeBase j = cb at *
 go_enter Tryz.func130, Tryz.ntmps130
 go_wp2_with fail
 have hG0 : Gr w ((w.alloc (.cells #[.slice ra rn rc, .slice (some ⟨b, off, none⟩) m.comps.length cc, .slice ga gn gc, .int .i64 m.depth] 26)).alloc (.cells #[.int .u64 0, .int .u64 0, .int .u64 0, .int .u8 0, .int .i64 0] 35)) := ((Gr.refl w).alloc _).alloc _
 have M : Box ((w.alloc (.cells #[.slice ra rn rc, .slice (some ⟨b, off, none⟩) m.comps.length cc, .slice ga gn gc, .int .i64 m.depth] 26)).alloc (.cells #[.int .u64 0, .int .u64 0, .int .u64 0, .int .u8 0, .int .i64 0] 35)) w.heap.size #[.slice ra rn rc, .slice (some ⟨b, off, none⟩) m.comps.length cc, .slice ga gn gc, .int .i64 m.depth] 26 := (Box.new w _ _).alloc _
 have X : Box ((w.alloc (.cells #[.slice ra rn rc, .slice (some ⟨b, off, none⟩) m.comps.length cc, .slice ga gn gc, .int .i64 m.depth] 26)).alloc (.cells #[.int .u64 0, .int .u64 0, .int .u64 0, .int .u8 0, .int .i64 0] 35)) (w.heap.size + 1) #[.int .u64 0, .int .u64 0, .int .u64 0, .int .u8 0, .int .i64 0] 35 := Box.next _ _ _ _
 refine (hq _ (hg _ hG0)).mono ?_
 rintro x w1 ⟨rfl, hG⟩
 replace M := M.gr hG
 replace X := X.gr hG
 replace hG := hG0.trans hG
 replace c1 := (hG.cell hb _).trans c1
 have ⟨z0, p0, f0⟩ := M.at
 have ⟨z1, p1, f1⟩ := X.at
 clear hq hg hG0
 replace M := Hid.mk M
 replace X := Hid.mk X
 replace hG := Hid.mk hG
 go_wp2_with fail
 have b4 := ((((X.out.set 0 (.int .u64 cb)).set 1 (.int .u64 (cb + k * 8))).set 2 (.int .u64 (cb + e * 8))).set 3 (.int .u8 16)).set 4 (.int .i64 0)
 have hG4 := ((((hG.out.setCell (w.heap.size + 1) 0 (.int .u64 cb) (by omega)).setCell (w.heap.size + 1) 1 (.int .u64 (cb + k * 8)) (by omega)).setCell (w.heap.size + 1) 2 (.int .u64 (cb + e * 8)) (by omega)).setCell (w.heap.size + 1) 3 (.int .u8 16) (by omega)).setCell (w.heap.size + 1) 4 (.int .i64 0) (by omega)
 have ⟨_, q4, _⟩ := b4.at
 clear z0 p0 f0 z1 p1 f1 X M hG b4 c1
 generalize ((((w1.setCell ⟨w.heap.size + 1, 0, none⟩ (.int .u64 cb)).setCell ⟨w.heap.size + 1, 1, none⟩ (.int .u64 (cb + k * 8))).setCell ⟨w.heap.size + 1, 2, none⟩ (.int .u64 (cb + e * 8))).setCell ⟨w.heap.size + 1, 3, none⟩ (.int .u8 16)).setCell ⟨w.heap.size + 1, 4, none⟩ (.int .i64 0) = W4 at *
 simp [bodyPost, results, Tryz.results130, go_sem, q4]
 exact hG4
end Go.Proofs.YthmlkcglglcljaaGreatDoor


namespace Go.Proofs.YthmlkcglglcljaaGreatDoor
set_option maxRecDepth 100000
set_option maxHeartbeats 40000000
open Go.RowKit

theorem atNew (w : World) (cs : Array Value) (t : TypeId) : At (w.alloc (.cells cs t)) w.heap.size cs := At.new w cs t
def fitsB (tag : Bool) (b e c p s : Int) (t : PTyp) : Bool := if t.cap then tag && (b == t.b && e == t.e && p == t.p && s == t.s) && inLH t.lo t.hi c else !tag
theorem Fits_eq (n b e c p s lo hi : Int) (w : World) :
   Calls Tryz.prog 11 #[.agg #[.bool true, .int .u64 n, .int .u64 b, .int .u64 e, .int .u64 c, .int .u8 p, .int .i64 s], .agg #[.bool true, .int .u64 b, .int .u64 e, .int .u64 lo, .int .u64 hi, .int .u8 p, .int .i64 s]] w fun x w' => x = .returned (.bool (inLH lo hi c)) ∧ Gr w w' := by
 have hc := CapOf_any ⟨true, b, e, lo, hi, p, s⟩ c
 have hp := pointsWithin_any ⟨true, b, e, lo, hi, p, s⟩ c
 simp only at hc hp
 generalize inLH lo hi c = q at hp ⊢
 cases q
 all_goals
   go_enter Tryz.func11, Tryz.ntmps11
   go_upto_region 3 with fail
   have ⟨z1, p1, _⟩ := ((atNew w #[.bool true, .int .u64 n, .int .u64 b, .int .u64 e, .int .u64 c, .int .u8 p, .int .i64 s] 37).alloc (.cells #[.bool true, .int .u64 b, .int .u64 e, .int .u64 lo, .int .u64 hi, .int .u8 p, .int .i64 s] 60))
   have ⟨z2, p2, _⟩ := At.next w (.cells #[.bool true, .int .u64 n, .int .u64 b, .int .u64 e, .int .u64 c, .int .u8 p, .int .i64 s] 37) #[.bool true, .int .u64 b, .int .u64 e, .int .u64 lo, .int .u64 hi, .int .u8 p, .int .i64 s] 60
   have KS : ∀ W, Gr ((w.alloc (.cells #[.bool true, .int .u64 n, .int .u64 b, .int .u64 e, .int .u64 c, .int .u8 p, .int .i64 s] 37)).alloc (.cells #[.bool true, .int .u64 b, .int .u64 e, .int .u64 lo, .int .u64 hi, .int .u8 p, .int .i64 s] 60)) W → W.cell? ⟨w.heap.size, 0, none⟩ = some (.bool true) ∧ W.cell? ⟨w.heap.size, 1, none⟩ = some (.int .u64 n) ∧ W.cell? ⟨w.heap.size, 2, none⟩ = some (.int .u64 b) ∧ W.cell? ⟨w.heap.size, 3, none⟩ = some (.int .u64 e) ∧ W.cell? ⟨w.heap.size, 4, none⟩ = some (.int .u64 c) ∧ W.cell? ⟨w.heap.size, 5, none⟩ = some (.int .u8 p) ∧ W.cell? ⟨w.heap.size, 6, none⟩ = some (.int .i64 s) ∧ W.cell? ⟨w.heap.size + 1, 0, none⟩ = some (.bool true) ∧ W.cell? ⟨w.heap.size + 1, 1, none⟩ = some (.int .u64 b) ∧ W.cell? ⟨w.heap.size + 1, 2, none⟩ = some (.int .u64 e) ∧ W.cell? ⟨w.heap.size + 1, 3, none⟩ = some (.int .u64 lo) ∧ W.cell? ⟨w.heap.size + 1, 4, none⟩ = some (.int .u64 hi) ∧ W.cell? ⟨w.heap.size + 1, 5, none⟩ = some (.int .u8 p) ∧ W.cell? ⟨w.heap.size + 1, 6, none⟩ = some (.int .i64 s) := fun W hG => ⟨(hG.cell z1 _).trans (p1 0), (hG.cell z1 _).trans (p1 1), (hG.cell z1 _).trans (p1 2), (hG.cell z1 _).trans (p1 3), (hG.cell z1 _).trans (p1 4), (hG.cell z1 _).trans (p1 5), (hG.cell z1 _).trans (p1 6), (hG.cell z2 _).trans (p2 0), (hG.cell z2 _).trans (p2 1), (hG.cell z2 _).trans (p2 2), (hG.cell z2 _).trans (p2 3), (hG.cell z2 _).trans (p2 4), (hG.cell z2 _).trans (p2 5), (hG.cell z2 _).trans (p2 6)⟩
   replace KS := Hid.mk KS
   clear z1 p1 z2 p2
   first | (go_region_held3 (fun W => W.cell? ⟨w.heap.size, 0, none⟩ = some (.bool true) ∧ W.cell? ⟨w.heap.size, 1, none⟩ = some (.int .u64 n) ∧ W.cell? ⟨w.heap.size, 2, none⟩ = some (.int .u64 b) ∧ W.cell? ⟨w.heap.size, 3, none⟩ = some (.int .u64 e) ∧ W.cell? ⟨w.heap.size, 4, none⟩ = some (.int .u64 c) ∧ W.cell? ⟨w.heap.size, 5, none⟩ = some (.int .u8 p) ∧ W.cell? ⟨w.heap.size, 6, none⟩ = some (.int .i64 s) ∧ W.cell? ⟨w.heap.size + 1, 0, none⟩ = some (.bool true) ∧ W.cell? ⟨w.heap.size + 1, 1, none⟩ = some (.int .u64 b) ∧ W.cell? ⟨w.heap.size + 1, 2, none⟩ = some (.int .u64 e) ∧ W.cell? ⟨w.heap.size + 1, 3, none⟩ = some (.int .u64 lo) ∧ W.cell? ⟨w.heap.size + 1, 4, none⟩ = some (.int .u64 hi) ∧ W.cell? ⟨w.heap.size + 1, 5, none⟩ = some (.int .u8 p) ∧ W.cell? ⟨w.heap.size + 1, 6, none⟩ = some (.int .i64 s)) ((refine KS.out _ ?_; (with_reducible repeat (first | exact Gr.refl _ | refine Gr.alloc ?_ _ | refine Gr.grow ?_ _ | refine Gr.drew ?_ | refine Gr.setCell ?_ _ _ _ (gr_size ?_))))) (first | (go_at_call 26; refine (hc _).mono ?_; rintro x w' ⟨rfl, hG⟩; (repeat (replace hG := Gr.of_grow hG)); obtain ⟨l, rfl⟩ := hG) | (go_at_call 27; refine (hp _).mono ?_; rintro x w' ⟨rfl, hG⟩; (repeat (replace hG := Gr.of_grow hG)); obtain ⟨l, rfl⟩ := hG))) | fail
   all_goals
     clear KS
     go_wp2_with fail
     go_ret
     refine ⟨ret_bool (by simp_all), ?_⟩
     (with_reducible repeat (first | exact Gr.refl _ | refine Gr.alloc ?_ _ | refine Gr.grow ?_ _ | refine Gr.drew ?_ | refine Gr.drewN ?_ _))
end Go.Proofs.YthmlkcglglcljaaGreatDoor
