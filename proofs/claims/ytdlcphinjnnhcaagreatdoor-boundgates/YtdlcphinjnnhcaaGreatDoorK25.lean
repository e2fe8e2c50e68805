import Derived.Test.YtdlcphinjnnhcaaGreatDoorK23
import Derived.Test.YtdlcphinjnnhcaaGreatDoorK22
import Derived.OrdersHeld
import Derived.Test.YtdlcphinjnnhcaaGreatDoorK06
namespace Go.Proofs.YtdlcphinjnnhcaaGreatDoor
open Go.RowKit

theorem Box.next (w : World) (o : Obj) (cs : Array Value) (t : TypeId) : Box ((w.alloc o).alloc (.cells cs t)) (w.heap.size + 1) cs t := by
 have := Box.new (w.alloc o) cs t
 rwa [World.size_alloc] at this
end Go.Proofs.YtdlcphinjnnhcaaGreatDoor


namespace Go.Proofs.YtdlcphinjnnhcaaGreatDoor
set_option maxRecDepth 100000
set_option maxHeartbeats 40000000
open Go.RowKit

def typE (a b : Bool) : Int := if (a && b) = true then 0 else 44
def gateE (C : List PComp) (g : PGate) : Int := if hasI C g.c g.e && decide (g.args.length ≤ 7) && decide (g.res.length ≤ 7) then typE (typesR g.args) (typesR g.res) else 47
theorem gatesR_E (C : List PComp) (g : PGate) (L : List PGate) : gatesR C (g :: L) = if gateE C g = 0 then gatesR C L else gateE C g := by
 rw [gatesR]
 unfold gateE typE
 split
 · split <;> simp
 · simp
theorem hasI_yes {C : List PComp} {c : Nat} {e : Int} (h : c < C.length) (he : 0 ≤ e) : hasI C c e = decide (e < C[c].code.length) := by
 unfold hasI
 rw [if_pos ⟨by omega, by omega, he⟩, Int.toNat_natCast, List.getElem?_eq_getElem h]
theorem gateE_no {C : List PComp} {gc ge : Int} {A R : List PTyp} (h : ¬ (hasI C gc ge = true ∧ A.length ≤ 7 ∧ R.length ≤ 7)) : gateE C ⟨gc, ge, A, R⟩ = 47 := by
 unfold gateE
 rw [if_neg]
 simp only [Bool.and_eq_true, decide_eq_true_eq]
 exact fun q => h ⟨q.1.1, q.1.2, q.2⟩
theorem refGate_any (gc ge : Int) (A R : List PTyp) (xa ya : Option Addr) (xc yc : Nat) (C : List PComp) (ra ca ga : Option Addr) (n1 rc cc n3 gcc : Nat) (dp : Int) (w : World) (hx : FIn 7 PTyp.vals w.heap.size w xa A) (hy : FIn 7 PTyp.vals w.heap.size w ya R) (hC : CompIn w.heap.size w ca C) (hr1 : ∀ t ∈ A, t.Rng) (hr2 : ∀ t ∈ R, t.Rng) (hla : A.length ≤ maxG) (hlr : R.length ≤ maxG) (hlc : C.length ≤ maxG) :
   Calls Tryz.prog 39 #[.agg #[.int .i64 gc, .int .i64 ge, .slice xa A.length xc, .slice ya R.length yc], .agg #[.slice ra n1 rc, .slice ca C.length cc, .slice ga n3 gcc, .int .i64 dp]] w fun x w' => x = .returned (.int .i64 (gateE C ⟨gc, ge, A, R⟩)) ∧ Gr w w' := by
 have l1 : (A.length : Int) ≤ 140737488355328 := by unfold maxG at hla; omega
 have l2 : (R.length : Int) ≤ 140737488355328 := by unfold maxG at hlr; omega
 have l3 : (C.length : Int) ≤ 140737488355328 := by unfold maxG at hlc; omega
 replace hx := Hid.mk hx
 replace hy := Hid.mk hy
 replace hr1 := Hid.mk hr1
 replace hr2 := Hid.mk hr2
 clear hla hlr hlc
 by_cases c1 : gc < 0
 · have hbad := Hid.mk (gateE_no (C := C) (gc := gc) (ge := ge) (A := A) (R := R) (fun q => by have := q.1; unfold hasI at this; rw [if_neg (by omega)] at this; cases this))
   clear hC

   have hGR : Gr w ((w.alloc (.cells #[.int .i64 gc, .int .i64 ge, .slice xa A.length xc, .slice ya R.length yc] 59)).alloc (.cells #[.slice ra n1 rc, .slice ca C.length cc, .slice ga n3 gcc, .int .i64 dp] 26)) := ((Gr.refl w).alloc _).alloc _
   have X : Box ((w.alloc (.cells #[.int .i64 gc, .int .i64 ge, .slice xa A.length xc, .slice ya R.length yc] 59)).alloc (.cells #[.slice ra n1 rc, .slice ca C.length cc, .slice ga n3 gcc, .int .i64 dp] 26)) w.heap.size #[.int .i64 gc, .int .i64 ge, .slice xa A.length xc, .slice ya R.length yc] 59 := (Box.new w _ _).alloc _
   have Y : Box ((w.alloc (.cells #[.int .i64 gc, .int .i64 ge, .slice xa A.length xc, .slice ya R.length yc] 59)).alloc (.cells #[.slice ra n1 rc, .slice ca C.length cc, .slice ga n3 gcc, .int .i64 dp] 26)) (w.heap.size + 1) #[.slice ra n1 rc, .slice ca C.length cc, .slice ga n3 gcc, .int .i64 dp] 26 := Box.next _ _ _ _
   replace hGR := Hid.mk hGR
   replace X := Hid.mk X
   replace Y := Hid.mk Y
   go_enter Tryz.func39, Tryz.ntmps39
   go_wp2_with fail
   generalize (w.alloc (.cells #[.int .i64 gc, .int .i64 ge, .slice xa A.length xc, .slice ya R.length yc] 59)).alloc (.cells #[.slice ra n1 rc, .slice ca C.length cc, .slice ga n3 gcc, .int .i64 dp] 26) = R0 at *
   have ⟨z0, p0, f0⟩ := X.out.at
   have ⟨z1, p1, f1⟩ := Y.out.at
   have KS : ∀ W, Gr R0 W → W.cell? ⟨w.heap.size, 0, none⟩ = some (.int .i64 gc) ∧ W.cell? ⟨w.heap.size, 1, none⟩ = some (.int .i64 ge) ∧ W.cell? ⟨w.heap.size, 2, none⟩ = some (.slice xa A.length xc) ∧ W.cell? ⟨w.heap.size, 3, none⟩ = some (.slice ya R.length yc) ∧ W.cell? ⟨w.heap.size + 1, 1, none⟩ = some (.slice ca C.length cc) := fun W hW => ⟨(hW.cell z0 0).trans (p0 0), (hW.cell z0 1).trans (p0 1), (hW.cell z0 2).trans (p0 2), (hW.cell z0 3).trans (p0 3), (hW.cell z1 1).trans (p1 1)⟩
   replace KS := Hid.mk KS
   have hG0 : Gr R0 R0.drew := (Gr.refl _).drew
   refine wp_region_held_drew (S := fun W => W.cell? ⟨w.heap.size, 0, none⟩ = some (.int .i64 gc) ∧ W.cell? ⟨w.heap.size, 1, none⟩ = some (.int .i64 ge) ∧ W.cell? ⟨w.heap.size, 2, none⟩ = some (.slice xa A.length xc) ∧ W.cell? ⟨w.heap.size, 3, none⟩ = some (.slice ya R.length yc) ∧ W.cell? ⟨w.heap.size + 1, 1, none⟩ = some (.slice ca C.length cc)) (by kernel_rfl) (KS.out _ hG0) (fun hHeld => ?_)
   refine xso 0 ?_ rfl ?_ (xso 1 ?_ rfl ?_ ?_)
   iterate 2 (rotate_left; focus ((try simp only [xap]); intro w hSw; (try dsimp only at hSw); go_simp; first | done | with_reducible rfl))
   try simp only [xap]
   refine xtk 2 (v := .bool true) rfl (Or.inl ⟨by rfl, ?_⟩) ?_
   · intro w hSw; (try dsimp only at hSw); first | (go_simp; done) | (go_simp; simp_all; done) | (go_simp; omega)
   try simp only [xap]
   refine xso 3 ?_ rfl ?_ ?_
   rotate_left
   · intro w hSw; (try dsimp only at hSw); go_simp; first | done | with_reducible rfl
   try simp only [xap]
   refine xtk 4 (v := undef) rfl (Or.inr ⟨by rfl, rfl⟩) ?_
   try simp only [xap]
   refine xtk 5 (v := undef) rfl (Or.inr ⟨by rfl, rfl⟩) ?_
   try simp only [xap]
   refine xtk 6 (v := undef) rfl (Or.inr ⟨by rfl, rfl⟩) ?_
   try simp only [xap]
   refine xtk 7 (v := undef) rfl (Or.inr ⟨by rfl, rfl⟩) ?_
   try simp only [xap]
   refine xtk 8 (v := undef) rfl (Or.inr ⟨by rfl, rfl⟩) ?_
   try simp only [xap]
   refine xtk 9 (v := undef) rfl (Or.inr ⟨by rfl, rfl⟩) ?_
   try simp only [xap]
   refine xso 10 ?_ rfl ?_ (xso 11 ?_ rfl ?_ ?_)
   iterate 2 (rotate_left; focus ((try simp only [xap]); intro w hSw; (try dsimp only at hSw); go_simp; first | done | with_reducible rfl))
   try simp only [xap]
   refine xtk 12 (v := undef) rfl (Or.inr ⟨by rfl, rfl⟩) ?_
   try simp only [xap]
   refine xtk 13 (v := undef) rfl (Or.inr ⟨by rfl, rfl⟩) ?_
   try simp only [xap]
   refine xtk 14 (v := undef) rfl (Or.inr ⟨by rfl, rfl⟩) ?_
   try simp only [xap]
   refine xso 15 ?_ rfl ?_ (xso 16 ?_ rfl ?_ ?_)
   iterate 2 (rotate_left; focus ((try simp only [xap]); intro w hSw; (try dsimp only at hSw); go_simp; first | done | with_reducible rfl))
   try simp only [xap]
   refine xtk 17 (v := undef) rfl (Or.inr ⟨by rfl, rfl⟩) ?_
   try simp only [xap]
   refine xtk 18 (v := undef) rfl (Or.inr ⟨by rfl, rfl⟩) ?_
   try simp only [xap]
   refine xtk 19 (v := undef) rfl (Or.inr ⟨by rfl, rfl⟩) ?_
   try simp only [xap]
   refine xtk 20 (v := undef) rfl (Or.inr ⟨by rfl, rfl⟩) ?_
   try simp only [xap]
   refine xtk 21 (v := undef) rfl (Or.inr ⟨by rfl, rfl⟩) ?_
   try simp only [xap]
   refine xtk 22 (v := undef) rfl (Or.inr ⟨by rfl, rfl⟩) ?_
   try simp only [xap]
   refine xtk 23 (v := undef) rfl (Or.inr ⟨by rfl, rfl⟩) ?_
   try simp only [xap]
   refine xtk 24 (v := undef) rfl (Or.inr ⟨by rfl, rfl⟩) ?_
   try simp only [xap]
   refine xtk 25 (v := undef) rfl (Or.inr ⟨by rfl, rfl⟩) ?_
   try simp only [xap]
   refine xtk 26 (v := undef) rfl (Or.inr ⟨by rfl, rfl⟩) ?_
   try simp only [xap]
   refine xtk 27 (v := undef) rfl (Or.inr ⟨by rfl, rfl⟩) ?_
   try simp only [xap]
   refine xso 28 ?_ rfl ?_ (xso 29 ?_ rfl ?_ ?_)
   iterate 2 (rotate_left; focus ((try simp only [xap]); intro w hSw; (try dsimp only at hSw); go_simp; first | done | with_reducible rfl))
   try simp only [xap]
   refine xtk 30 (v := undef) rfl (Or.inr ⟨by rfl, rfl⟩) ?_
   try simp only [xap]
   refine xtk 31 (v := undef) rfl (Or.inr ⟨by rfl, rfl⟩) ?_
   try simp only [xap]
   refine xtk 32 (v := undef) rfl (Or.inr ⟨by rfl, rfl⟩) ?_
   try simp only [xap]
   refine xtk 33 (v := undef) rfl (Or.inr ⟨by rfl, rfl⟩) ?_
   try simp only [xap]
   refine xso 34 ?_ rfl ?_ (xso 35 ?_ rfl ?_ ?_)
   iterate 2 (rotate_left; focus ((try simp only [xap]); intro w hSw; (try dsimp only at hSw); go_simp; first | done | with_reducible rfl))
   try simp only [xap]
   refine xtk 36 (v := undef) rfl (Or.inr ⟨by rfl, rfl⟩) ?_
   try simp only [xap]
   refine xtk 37 (v := undef) rfl (Or.inr ⟨by rfl, rfl⟩) ?_
   try simp only [xap]
   refine xtk 38 (v := undef) rfl (Or.inr ⟨by rfl, rfl⟩) ?_
   try simp only [xap]
   refine xtk 39 (v := undef) rfl (Or.inr ⟨by rfl, rfl⟩) ?_
   try simp only [xap]
   refine xso 40 ?_ rfl ?_ ?_
   rotate_left
   · intro w hSw; (try dsimp only at hSw); go_simp; first | done | with_reducible rfl
   try simp only [xap]
   refine xdn ?_ _
   clear KS hHeld
   go_wp2_with fail
   go_ret
   exact ⟨retI (by rw [hbad.out]), hGR.out.trans hG0⟩
 obtain ⟨cn, rfl⟩ := Int.eq_ofNat_of_zero_le (show 0 ≤ gc by omega)
 have c1' : ¬ (cn : Int) < 0 := by omega
 clear c1
 by_cases c2 : cn < C.length
 case neg =>
   have hbad := Hid.mk (gateE_no (C := C) (gc := (cn : Int)) (ge := ge) (A := A) (R := R) (fun q => by have := q.1; unfold hasI at this; rw [if_neg (by omega)] at this; cases this))
   have c2' : (C.length : Int) ≤ cn := by omega
   clear hC
   replace c2 := Hid.mk c2
   have hGR : Gr w ((w.alloc (.cells #[.int .i64 cn, .int .i64 ge, .slice xa A.length xc, .slice ya R.length yc] 59)).alloc (.cells #[.slice ra n1 rc, .slice ca C.length cc, .slice ga n3 gcc, .int .i64 dp] 26)) := ((Gr.refl w).alloc _).alloc _
   have X : Box ((w.alloc (.cells #[.int .i64 cn, .int .i64 ge, .slice xa A.length xc, .slice ya R.length yc] 59)).alloc (.cells #[.slice ra n1 rc, .slice ca C.length cc, .slice ga n3 gcc, .int .i64 dp] 26)) w.heap.size #[.int .i64 cn, .int .i64 ge, .slice xa A.length xc, .slice ya R.length yc] 59 := (Box.new w _ _).alloc _
   have Y : Box ((w.alloc (.cells #[.int .i64 cn, .int .i64 ge, .slice xa A.length xc, .slice ya R.length yc] 59)).alloc (.cells #[.slice ra n1 rc, .slice ca C.length cc, .slice ga n3 gcc, .int .i64 dp] 26)) (w.heap.size + 1) #[.slice ra n1 rc, .slice ca C.length cc, .slice ga n3 gcc, .int .i64 dp] 26 := Box.next _ _ _ _
   replace hGR := Hid.mk hGR
   replace X := Hid.mk X
   replace Y := Hid.mk Y
   go_enter Tryz.func39, Tryz.ntmps39
   go_wp2_with fail
   generalize (w.alloc (.cells #[.int .i64 cn, .int .i64 ge, .slice xa A.length xc, .slice ya R.length yc] 59)).alloc (.cells #[.slice ra n1 rc, .slice ca C.length cc, .slice ga n3 gcc, .int .i64 dp] 26) = R0 at *
   have ⟨z0, p0, f0⟩ := X.out.at
   have ⟨z1, p1, f1⟩ := Y.out.at
   have KS : ∀ W, Gr R0 W → W.cell? ⟨w.heap.size, 0, none⟩ = some (.int .i64 cn) ∧ W.cell? ⟨w.heap.size, 1, none⟩ = some (.int .i64 ge) ∧ W.cell? ⟨w.heap.size, 2, none⟩ = some (.slice xa A.length xc) ∧ W.cell? ⟨w.heap.size, 3, none⟩ = some (.slice ya R.length yc) ∧ W.cell? ⟨w.heap.size + 1, 1, none⟩ = some (.slice ca C.length cc) := fun W hW => ⟨(hW.cell z0 0).trans (p0 0), (hW.cell z0 1).trans (p0 1), (hW.cell z0 2).trans (p0 2), (hW.cell z0 3).trans (p0 3), (hW.cell z1 1).trans (p1 1)⟩
   replace KS := Hid.mk KS
   have hG0 : Gr R0 R0.drew := (Gr.refl _).drew
   refine wp_region_held_drew (S := fun W => W.cell? ⟨w.heap.size, 0, none⟩ = some (.int .i64 cn) ∧ W.cell? ⟨w.heap.size, 1, none⟩ = some (.int .i64 ge) ∧ W.cell? ⟨w.heap.size, 2, none⟩ = some (.slice xa A.length xc) ∧ W.cell? ⟨w.heap.size, 3, none⟩ = some (.slice ya R.length yc) ∧ W.cell? ⟨w.heap.size + 1, 1, none⟩ = some (.slice ca C.length cc)) (by kernel_rfl) (KS.out _ hG0) (fun hHeld => ?_)
   refine xso 0 ?_ rfl ?_ (xso 1 ?_ rfl ?_ ?_)
   iterate 2 (rotate_left; focus ((try simp only [xap]); intro w hSw; (try dsimp only at hSw); go_simp; first | done | with_reducible rfl))
   try simp only [xap]
   refine xtk 2 (v := .bool false) rfl (Or.inl ⟨by rfl, ?_⟩) ?_
   · intro w hSw; (try dsimp only at hSw); first | (go_simp; done) | (go_simp; simp_all; done) | (go_simp; omega)
   try simp only [xap]
   refine xso 3 ?_ rfl ?_ ?_
   rotate_left
   · intro w hSw; (try dsimp only at hSw); go_simp; first | done | with_reducible rfl
   try simp only [xap]
   refine xso 4 ?_ rfl ?_ ?_
   rotate_left
   · intro w hSw; (try dsimp only at hSw); go_simp; first | done | with_reducible rfl
   try simp only [xap]
   refine xso 5 ?_ rfl ?_ ?_
   rotate_left
   · intro w hSw; (try dsimp only at hSw); go_simp; first | done | with_reducible rfl
   try simp only [xap]
   refine xso 6 ?_ rfl ?_ ?_
   rotate_left
   · intro w hSw; (try dsimp only at hSw); go_simp; first | done | with_reducible rfl
   try simp only [xap]
   refine xso 7 ?_ rfl ?_ ?_
   rotate_left
   · intro w hSw; (try dsimp only at hSw); go_simp; first | done | with_reducible rfl
   try simp only [xap]
   refine xso 8 ?_ rfl ?_ ?_
   rotate_left
   · intro w hSw; (try dsimp only at hSw); go_simp; first | done | with_reducible rfl
   try simp only [xap]
   refine xtk 9 (v := .bool true) rfl (Or.inl ⟨by rfl, ?_⟩) ?_
   · intro w hSw; (try dsimp only at hSw); first | (go_simp; done) | (go_simp; simp_all; done) | (go_simp; omega)
   try simp only [xap]
   refine xso 10 ?_ rfl ?_ (xso 11 ?_ rfl ?_ ?_)
   iterate 2 (rotate_left; focus ((try simp only [xap]); intro w hSw; (try dsimp only at hSw); go_simp; first | done | with_reducible rfl))
   try simp only [xap]
   refine xtk 12 (v := undef) rfl (Or.inr ⟨by rfl, rfl⟩) ?_
   try simp only [xap]
   refine xtk 13 (v := undef) rfl (Or.inr ⟨by rfl, rfl⟩) ?_
   try simp only [xap]
   refine xtk 14 (v := undef) rfl (Or.inr ⟨by rfl, rfl⟩) ?_
   try simp only [xap]
   refine xso 15 ?_ rfl ?_ (xso 16 ?_ rfl ?_ ?_)
   iterate 2 (rotate_left; focus ((try simp only [xap]); intro w hSw; (try dsimp only at hSw); go_simp; first | done | with_reducible rfl))
   try simp only [xap]
   refine xtk 17 (v := undef) rfl (Or.inr ⟨by rfl, rfl⟩) ?_
   try simp only [xap]
   refine xtk 18 (v := undef) rfl (Or.inr ⟨by rfl, rfl⟩) ?_
   try simp only [xap]
   refine xtk 19 (v := undef) rfl (Or.inr ⟨by rfl, rfl⟩) ?_
   try simp only [xap]
   refine xtk 20 (v := undef) rfl (Or.inr ⟨by rfl, rfl⟩) ?_
   try simp only [xap]
   refine xtk 21 (v := undef) rfl (Or.inr ⟨by rfl, rfl⟩) ?_
   try simp only [xap]
   refine xtk 22 (v := undef) rfl (Or.inr ⟨by rfl, rfl⟩) ?_
   try simp only [xap]
   refine xtk 23 (v := undef) rfl (Or.inr ⟨by rfl, rfl⟩) ?_
   try simp only [xap]
   refine xtk 24 (v := undef) rfl (Or.inr ⟨by rfl, rfl⟩) ?_
   try simp only [xap]
   refine xtk 25 (v := undef) rfl (Or.inr ⟨by rfl, rfl⟩) ?_
   try simp only [xap]
   refine xtk 26 (v := undef) rfl (Or.inr ⟨by rfl, rfl⟩) ?_
   try simp only [xap]
   refine xtk 27 (v := undef) rfl (Or.inr ⟨by rfl, rfl⟩) ?_
   try simp only [xap]
   refine xso 28 ?_ rfl ?_ (xso 29 ?_ rfl ?_ ?_)
   iterate 2 (rotate_left; focus ((try simp only [xap]); intro w hSw; (try dsimp only at hSw); go_simp; first | done | with_reducible rfl))
   try simp only [xap]
   refine xtk 30 (v := undef) rfl (Or.inr ⟨by rfl, rfl⟩) ?_
   try simp only [xap]
   refine xtk 31 (v := undef) rfl (Or.inr ⟨by rfl, rfl⟩) ?_
   try simp only [xap]
   refine xtk 32 (v := undef) rfl (Or.inr ⟨by rfl, rfl⟩) ?_
   try simp only [xap]
   refine xtk 33 (v := undef) rfl (Or.inr ⟨by rfl, rfl⟩) ?_
   try simp only [xap]
   refine xso 34 ?_ rfl ?_ (xso 35 ?_ rfl ?_ ?_)
   iterate 2 (rotate_left; focus ((try simp only [xap]); intro w hSw; (try dsimp only at hSw); go_simp; first | done | with_reducible rfl))
   try simp only [xap]
   refine xtk 36 (v := undef) rfl (Or.inr ⟨by rfl, rfl⟩) ?_
   try simp only [xap]
   refine xtk 37 (v := undef) rfl (Or.inr ⟨by rfl, rfl⟩) ?_
   try simp only [xap]
   refine xtk 38 (v := undef) rfl (Or.inr ⟨by rfl, rfl⟩) ?_
   try simp only [xap]
   refine xtk 39 (v := undef) rfl (Or.inr ⟨by rfl, rfl⟩) ?_
   try simp only [xap]
   refine xso 40 ?_ rfl ?_ ?_
   rotate_left
   · intro w hSw; (try dsimp only at hSw); go_simp; first | done | with_reducible rfl
   try simp only [xap]
   refine xdn ?_ _
   clear KS hHeld
   go_wp2_with fail
   go_ret
   exact ⟨retI (by rw [hbad.out]), hGR.out.trans hG0⟩
 have c2' : ¬ (C.length : Int) ≤ cn := by omega
 have c2'' : (cn : Int) < C.length := by omega
 by_cases c3 : ge < 0
 · have hbad := Hid.mk (gateE_no (C := C) (gc := (cn : Int)) (ge := ge) (A := A) (R := R) (fun q => by have := q.1; unfold hasI at this; rw [if_neg (by omega)] at this; cases this))
   clear hC
   replace c2 := Hid.mk c2
   have hGR : Gr w ((w.alloc (.cells #[.int .i64 cn, .int .i64 ge, .slice xa A.length xc, .slice ya R.length yc] 59)).alloc (.cells #[.slice ra n1 rc, .slice ca C.length cc, .slice ga n3 gcc, .int .i64 dp] 26)) := ((Gr.refl w).alloc _).alloc _
   have X : Box ((w.alloc (.cells #[.int .i64 cn, .int .i64 ge, .slice xa A.length xc, .slice ya R.length yc] 59)).alloc (.cells #[.slice ra n1 rc, .slice ca C.length cc, .slice ga n3 gcc, .int .i64 dp] 26)) w.heap.size #[.int .i64 cn, .int .i64 ge, .slice xa A.length xc, .slice ya R.length yc] 59 := (Box.new w _ _).alloc _
   have Y : Box ((w.alloc (.cells #[.int .i64 cn, .int .i64 ge, .slice xa A.length xc, .slice ya R.length yc] 59)).alloc (.cells #[.slice ra n1 rc, .slice ca C.length cc, .slice ga n3 gcc, .int .i64 dp] 26)) (w.heap.size + 1) #[.slice ra n1 rc, .slice ca C.length cc, .slice ga n3 gcc, .int .i64 dp] 26 := Box.next _ _ _ _
   replace hGR := Hid.mk hGR
   replace X := Hid.mk X
   replace Y := Hid.mk Y
   go_enter Tryz.func39, Tryz.ntmps39
   go_wp2_with fail
   generalize (w.alloc (.cells #[.int .i64 cn, .int .i64 ge, .slice xa A.length xc, .slice ya R.length yc] 59)).alloc (.cells #[.slice ra n1 rc, .slice ca C.length cc, .slice ga n3 gcc, .int .i64 dp] 26) = R0 at *
   have ⟨z0, p0, f0⟩ := X.out.at
   have ⟨z1, p1, f1⟩ := Y.out.at
   have KS : ∀ W, Gr R0 W → W.cell? ⟨w.heap.size, 0, none⟩ = some (.int .i64 cn) ∧ W.cell? ⟨w.heap.size, 1, none⟩ = some (.int .i64 ge) ∧ W.cell? ⟨w.heap.size, 2, none⟩ = some (.slice xa A.length xc) ∧ W.cell? ⟨w.heap.size, 3, none⟩ = some (.slice ya R.length yc) ∧ W.cell? ⟨w.heap.size + 1, 1, none⟩ = some (.slice ca C.length cc) := fun W hW => ⟨(hW.cell z0 0).trans (p0 0), (hW.cell z0 1).trans (p0 1), (hW.cell z0 2).trans (p0 2), (hW.cell z0 3).trans (p0 3), (hW.cell z1 1).trans (p1 1)⟩
   replace KS := Hid.mk KS
   have hG0 : Gr R0 R0.drew := (Gr.refl _).drew
   refine wp_region_held_drew (S := fun W => W.cell? ⟨w.heap.size, 0, none⟩ = some (.int .i64 cn) ∧ W.cell? ⟨w.heap.size, 1, none⟩ = some (.int .i64 ge) ∧ W.cell? ⟨w.heap.size, 2, none⟩ = some (.slice xa A.length xc) ∧ W.cell? ⟨w.heap.size, 3, none⟩ = some (.slice ya R.length yc) ∧ W.cell? ⟨w.heap.size + 1, 1, none⟩ = some (.slice ca C.length cc)) (by kernel_rfl) (KS.out _ hG0) (fun hHeld => ?_)
   refine xso 0 ?_ rfl ?_ (xso 1 ?_ rfl ?_ ?_)
   iterate 2 (rotate_left; focus ((try simp only [xap]); intro w hSw; (try dsimp only at hSw); go_simp; first | done | with_reducible rfl))
   try simp only [xap]
   refine xtk 2 (v := .bool false) rfl (Or.inl ⟨by rfl, ?_⟩) ?_
   · intro w hSw; (try dsimp only at hSw); first | (go_simp; done) | (go_simp; simp_all; done) | (go_simp; omega)
   try simp only [xap]
   refine xso 3 ?_ rfl ?_ ?_
   rotate_left
   · intro w hSw; (try dsimp only at hSw); go_simp; first | done | with_reducible rfl
   try simp only [xap]
   refine xso 4 ?_ rfl ?_ ?_
   rotate_left
   · intro w hSw; (try dsimp only at hSw); go_simp; first | done | with_reducible rfl
   try simp only [xap]
   refine xso 5 ?_ rfl ?_ ?_
   rotate_left
   · intro w hSw; (try dsimp only at hSw); go_simp; first | done | with_reducible rfl
   try simp only [xap]
   refine xso 6 ?_ rfl ?_ ?_
   rotate_left
   · intro w hSw; (try dsimp only at hSw); go_simp; first | done | with_reducible rfl
   try simp only [xap]
   refine xso 7 ?_ rfl ?_ ?_
   rotate_left
   · intro w hSw; (try dsimp only at hSw); go_simp; first | done | with_reducible rfl
   try simp only [xap]
   refine xso 8 ?_ rfl ?_ ?_
   rotate_left
   · intro w hSw; (try dsimp only at hSw); go_simp; first | done | with_reducible rfl
   try simp only [xap]
   refine xtk 9 (v := .bool false) rfl (Or.inl ⟨by rfl, ?_⟩) ?_
   · intro w hSw; (try dsimp only at hSw); first | (go_simp; done) | (go_simp; simp_all; done) | (go_simp; omega)
   try simp only [xap]
   refine xso 10 ?_ rfl ?_ (xso 11 ?_ rfl ?_ ?_)
   iterate 2 (rotate_left; focus ((try simp only [xap]); intro w hSw; (try dsimp only at hSw); go_simp; first | done | with_reducible rfl))
   try simp only [xap]
   refine xso 12 ?_ rfl ?_ ?_
   rotate_left
   · intro w hSw; (try dsimp only at hSw); go_simp; first | done | with_reducible rfl
   try simp only [xap]
   refine xso 13 ?_ rfl ?_ ?_
   rotate_left
   · intro w hSw; (try dsimp only at hSw); go_simp; first | done | with_reducible rfl
   try simp only [xap]
   refine xtk 14 (v := .bool true) rfl (Or.inl ⟨by rfl, ?_⟩) ?_
   · intro w hSw; (try dsimp only at hSw); first | (go_simp; done) | (go_simp; simp_all; done) | (go_simp; omega)
   try simp only [xap]
   refine xso 15 ?_ rfl ?_ (xso 16 ?_ rfl ?_ ?_)
   iterate 2 (rotate_left; focus ((try simp only [xap]); intro w hSw; (try dsimp only at hSw); go_simp; first | done | with_reducible rfl))
   try simp only [xap]
   refine xtk 17 (v := undef) rfl (Or.inr ⟨by rfl, rfl⟩) ?_
   try simp only [xap]
   refine xtk 18 (v := undef) rfl (Or.inr ⟨by rfl, rfl⟩) ?_
   try simp only [xap]
   refine xtk 19 (v := undef) rfl (Or.inr ⟨by rfl, rfl⟩) ?_
   try simp only [xap]
   refine xtk 20 (v := undef) rfl (Or.inr ⟨by rfl, rfl⟩) ?_
   try simp only [xap]
   refine xtk 21 (v := undef) rfl (Or.inr ⟨by rfl, rfl⟩) ?_
   try simp only [xap]
   refine xtk 22 (v := undef) rfl (Or.inr ⟨by rfl, rfl⟩) ?_
   try simp only [xap]
   refine xtk 23 (v := undef) rfl (Or.inr ⟨by rfl, rfl⟩) ?_
   try simp only [xap]
   refine xtk 24 (v := undef) rfl (Or.inr ⟨by rfl, rfl⟩) ?_
   try simp only [xap]
   refine xtk 25 (v := undef) rfl (Or.inr ⟨by rfl, rfl⟩) ?_
   try simp only [xap]
   refine xtk 26 (v := undef) rfl (Or.inr ⟨by rfl, rfl⟩) ?_
   try simp only [xap]
   refine xtk 27 (v := undef) rfl (Or.inr ⟨by rfl, rfl⟩) ?_
   try simp only [xap]
   refine xso 28 ?_ rfl ?_ (xso 29 ?_ rfl ?_ ?_)
   iterate 2 (rotate_left; focus ((try simp only [xap]); intro w hSw; (try dsimp only at hSw); go_simp; first | done | with_reducible rfl))
   try simp only [xap]
   refine xtk 30 (v := undef) rfl (Or.inr ⟨by rfl, rfl⟩) ?_
   try simp only [xap]
   refine xtk 31 (v := undef) rfl (Or.inr ⟨by rfl, rfl⟩) ?_
   try simp only [xap]
   refine xtk 32 (v := undef) rfl (Or.inr ⟨by rfl, rfl⟩) ?_
   try simp only [xap]
   refine xtk 33 (v := undef) rfl (Or.inr ⟨by rfl, rfl⟩) ?_
   try simp only [xap]
   refine xso 34 ?_ rfl ?_ (xso 35 ?_ rfl ?_ ?_)
   iterate 2 (rotate_left; focus ((try simp only [xap]); intro w hSw; (try dsimp only at hSw); go_simp; first | done | with_reducible rfl))
   try simp only [xap]
   refine xtk 36 (v := undef) rfl (Or.inr ⟨by rfl, rfl⟩) ?_
   try simp only [xap]
   refine xtk 37 (v := undef) rfl (Or.inr ⟨by rfl, rfl⟩) ?_
   try simp only [xap]
   refine xtk 38 (v := undef) rfl (Or.inr ⟨by rfl, rfl⟩) ?_
   try simp only [xap]
   refine xtk 39 (v := undef) rfl (Or.inr ⟨by rfl, rfl⟩) ?_
   try simp only [xap]
   refine xso 40 ?_ rfl ?_ ?_
   rotate_left
   · intro w hSw; (try dsimp only at hSw); go_simp; first | done | with_reducible rfl
   try simp only [xap]
   refine xdn ?_ _
   clear KS hHeld
   go_wp2_with fail
   go_ret
   exact ⟨retI (by rw [hbad.out]), hGR.out.trans hG0⟩
 have hhas := hasI_yes (C := C) (c := cn) (e := ge) c2 (by omega)
 obtain ⟨b, off, ra', rc', ka, kc, rfl, hb, hb2, _, k1, _, _⟩ := hC cn c2
 clear hC
 generalize C[cn].code.length = nk at *
 by_cases c4 : ge < nk
 case neg =>
   have hbad := Hid.mk (gateE_no (C := C) (gc := (cn : Int)) (ge := ge) (A := A) (R := R) (fun q => by have := q.1; rw [hhas] at this; simp at this; omega))
   have c4' : (nk : Int) ≤ ge := by omega
   clear hhas
   replace c2 := Hid.mk c2
   replace c4 := Hid.mk c4
   have hGR : Gr w ((w.alloc (.cells #[.int .i64 cn, .int .i64 ge, .slice xa A.length xc, .slice ya R.length yc] 59)).alloc (.cells #[.slice ra n1 rc, .slice (some ⟨b, off, none⟩) C.length cc, .slice ga n3 gcc, .int .i64 dp] 26)) := ((Gr.refl w).alloc _).alloc _
   have X : Box ((w.alloc (.cells #[.int .i64 cn, .int .i64 ge, .slice xa A.length xc, .slice ya R.length yc] 59)).alloc (.cells #[.slice ra n1 rc, .slice (some ⟨b, off, none⟩) C.length cc, .slice ga n3 gcc, .int .i64 dp] 26)) w.heap.size #[.int .i64 cn, .int .i64 ge, .slice xa A.length xc, .slice ya R.length yc] 59 := (Box.new w _ _).alloc _
   have Y : Box ((w.alloc (.cells #[.int .i64 cn, .int .i64 ge, .slice xa A.length xc, .slice ya R.length yc] 59)).alloc (.cells #[.slice ra n1 rc, .slice (some ⟨b, off, none⟩) C.length cc, .slice ga n3 gcc, .int .i64 dp] 26)) (w.heap.size + 1) #[.slice ra n1 rc, .slice (some ⟨b, off, none⟩) C.length cc, .slice ga n3 gcc, .int .i64 dp] 26 := Box.next _ _ _ _
   have k2 := (hGR.cell hb2 _).trans k1
   have hb5 := Nat.lt_of_lt_of_le hb2 (gr_size hGR)
   clear k1 hb hb2
   replace hGR := Hid.mk hGR
   replace X := Hid.mk X
   replace Y := Hid.mk Y
   go_enter Tryz.func39, Tryz.ntmps39
   go_wp2_with fail
   generalize (w.alloc (.cells #[.int .i64 cn, .int .i64 ge, .slice xa A.length xc, .slice ya R.length yc] 59)).alloc (.cells #[.slice ra n1 rc, .slice (some ⟨b, off, none⟩) C.length cc, .slice ga n3 gcc, .int .i64 dp] 26) = R0 at *
   have ⟨z0, p0, f0⟩ := X.out.at
   have ⟨z1, p1, f1⟩ := Y.out.at
   have KS : ∀ W, Gr R0 W → W.cell? ⟨w.heap.size, 0, none⟩ = some (.int .i64 cn) ∧ W.cell? ⟨w.heap.size, 1, none⟩ = some (.int .i64 ge) ∧ W.cell? ⟨w.heap.size, 2, none⟩ = some (.slice xa A.length xc) ∧ W.cell? ⟨w.heap.size, 3, none⟩ = some (.slice ya R.length yc) ∧ W.cell? ⟨w.heap.size + 1, 1, none⟩ = some (.slice (some ⟨b, off, none⟩) C.length cc) ∧ W.cell? ⟨b, off + cn * 2 + 1, none⟩ = some (.slice ka nk kc) := fun W hW => ⟨(hW.cell z0 0).trans (p0 0), (hW.cell z0 1).trans (p0 1), (hW.cell z0 2).trans (p0 2), (hW.cell z0 3).trans (p0 3), (hW.cell z1 1).trans (p1 1), (hW.cell hb5 _).trans k2⟩
   replace KS := Hid.mk KS
   have hG0 : Gr R0 R0.drew := (Gr.refl _).drew
   refine wp_region_held_drew (S := fun W => W.cell? ⟨w.heap.size, 0, none⟩ = some (.int .i64 cn) ∧ W.cell? ⟨w.heap.size, 1, none⟩ = some (.int .i64 ge) ∧ W.cell? ⟨w.heap.size, 2, none⟩ = some (.slice xa A.length xc) ∧ W.cell? ⟨w.heap.size, 3, none⟩ = some (.slice ya R.length yc) ∧ W.cell? ⟨w.heap.size + 1, 1, none⟩ = some (.slice (some ⟨b, off, none⟩) C.length cc) ∧ W.cell? ⟨b, off + cn * 2 + 1, none⟩ = some (.slice ka nk kc)) (by kernel_rfl) (KS.out _ hG0) (fun hHeld => ?_)
   refine xso 0 ?_ rfl ?_ (xso 1 ?_ rfl ?_ ?_)
   iterate 2 (rotate_left; focus ((try simp only [xap]); intro w hSw; (try dsimp only at hSw); go_simp; first | done | with_reducible rfl))
   try simp only [xap]
   refine xtk 2 (v := .bool false) rfl (Or.inl ⟨by rfl, ?_⟩) ?_
   · intro w hSw; (try dsimp only at hSw); first | (go_simp; done) | (go_simp; simp_all; done) | (go_simp; omega)
   try simp only [xap]
   refine xso 3 ?_ rfl ?_ ?_
   rotate_left
   · intro w hSw; (try dsimp only at hSw); go_simp; first | done | with_reducible rfl
   try simp only [xap]
   refine xso 4 ?_ rfl ?_ ?_
   rotate_left
   · intro w hSw; (try dsimp only at hSw); go_simp; first | done | with_reducible rfl
   try simp only [xap]
   refine xso 5 ?_ rfl ?_ ?_
   rotate_left
   · intro w hSw; (try dsimp only at hSw); go_simp; first | done | with_reducible rfl
   try simp only [xap]
   refine xso 6 ?_ rfl ?_ ?_
   rotate_left
   · intro w hSw; (try dsimp only at hSw); go_simp; first | done | with_reducible rfl
   try simp only [xap]
   refine xso 7 ?_ rfl ?_ ?_
   rotate_left
   · intro w hSw; (try dsimp only at hSw); go_simp; first | done | with_reducible rfl
   try simp only [xap]
   refine xso 8 ?_ rfl ?_ ?_
   rotate_left
   · intro w hSw; (try dsimp only at hSw); go_simp; first | done | with_reducible rfl
   try simp only [xap]
   refine xtk 9 (v := .bool false) rfl (Or.inl ⟨by rfl, ?_⟩) ?_
   · intro w hSw; (try dsimp only at hSw); first | (go_simp; done) | (go_simp; simp_all; done) | (go_simp; omega)
   try simp only [xap]
   refine xso 10 ?_ rfl ?_ (xso 11 ?_ rfl ?_ ?_)
   iterate 2 (rotate_left; focus ((try simp only [xap]); intro w hSw; (try dsimp only at hSw); go_simp; first | done | with_reducible rfl))
   try simp only [xap]
   refine xso 12 ?_ rfl ?_ ?_
   rotate_left
   · intro w hSw; (try dsimp only at hSw); go_simp; first | done | with_reducible rfl
   try simp only [xap]
   refine xso 13 ?_ rfl ?_ ?_
   rotate_left
   · intro w hSw; (try dsimp only at hSw); go_simp; first | done | with_reducible rfl
   try simp only [xap]
   refine xtk 14 (v := .bool false) rfl (Or.inl ⟨by rfl, ?_⟩) ?_
   · intro w hSw; (try dsimp only at hSw); first | (go_simp; done) | (go_simp; simp_all; done) | (go_simp; omega)
   try simp only [xap]
   refine xso 15 ?_ rfl ?_ (xso 16 ?_ rfl ?_ ?_)
   iterate 2 (rotate_left; focus ((try simp only [xap]); intro w hSw; (try dsimp only at hSw); go_simp; first | done | with_reducible rfl))
   try simp only [xap]
   refine xso 17 ?_ rfl ?_ ?_
   rotate_left
   · intro w hSw; (try dsimp only at hSw); go_simp; first | done | with_reducible rfl
   try simp only [xap]
   refine xso 18 ?_ rfl ?_ ?_
   rotate_left
   · intro w hSw; (try dsimp only at hSw); go_simp; first | done | with_reducible rfl
   try simp only [xap]
   refine xso 19 ?_ rfl ?_ ?_
   rotate_left
   · intro w hSw; (try dsimp only at hSw); go_simp; first | done | with_reducible rfl
   try simp only [xap]
   refine xso 20 ?_ rfl ?_ ?_
   rotate_left
   · intro w hSw; (try dsimp only at hSw); go_simp; first | done | with_reducible rfl
   try simp only [xap]
   refine xso 21 ?_ rfl ?_ ?_
   rotate_left
   · intro w hSw; (try dsimp only at hSw); go_simp; first | done | with_reducible rfl
   try simp only [xap]
   refine xso 22 ?_ rfl ?_ ?_
   rotate_left
   · intro w hSw; (try dsimp only at hSw); go_simp; first | done | with_reducible rfl
   try simp only [xap]
   refine xso 23 ?_ rfl ?_ ?_
   rotate_left
   · intro w hSw; (try dsimp only at hSw); go_simp; first | done | with_reducible rfl
   try simp only [xap]
   refine xso 24 ?_ rfl ?_ ?_
   rotate_left
   · intro w hSw; (try dsimp only at hSw); go_simp; first | done | with_reducible rfl
   try simp only [xap]
   refine xso 25 ?_ rfl ?_ ?_
   rotate_left
   · intro w hSw; (try dsimp only at hSw); go_simp; first | done | with_reducible rfl
   try simp only [xap]
   refine xso 26 ?_ rfl ?_ ?_
   rotate_left
   · intro w hSw; (try dsimp only at hSw); go_simp; first | done | with_reducible rfl
   try simp only [xap]
   refine xtk 27 (v := .bool true) rfl (Or.inl ⟨by rfl, ?_⟩) ?_
   · intro w hSw; (try dsimp only at hSw); first | (go_simp; done) | (go_simp; simp_all; done) | (go_simp; omega)
   try simp only [xap]
   refine xso 28 ?_ rfl ?_ (xso 29 ?_ rfl ?_ ?_)
   iterate 2 (rotate_left; focus ((try simp only [xap]); intro w hSw; (try dsimp only at hSw); go_simp; first | done | with_reducible rfl))
   try simp only [xap]
   refine xtk 30 (v := undef) rfl (Or.inr ⟨by rfl, rfl⟩) ?_
   try simp only [xap]
   refine xtk 31 (v := undef) rfl (Or.inr ⟨by rfl, rfl⟩) ?_
   try simp only [xap]
   refine xtk 32 (v := undef) rfl (Or.inr ⟨by rfl, rfl⟩) ?_
   try simp only [xap]
   refine xtk 33 (v := undef) rfl (Or.inr ⟨by rfl, rfl⟩) ?_
   try simp only [xap]
   refine xso 34 ?_ rfl ?_ (xso 35 ?_ rfl ?_ ?_)
   iterate 2 (rotate_left; focus ((try simp only [xap]); intro w hSw; (try dsimp only at hSw); go_simp; first | done | with_reducible rfl))
   try simp only [xap]
   refine xtk 36 (v := undef) rfl (Or.inr ⟨by rfl, rfl⟩) ?_
   try simp only [xap]
   refine xtk 37 (v := undef) rfl (Or.inr ⟨by rfl, rfl⟩) ?_
   try simp only [xap]
   refine xtk 38 (v := undef) rfl (Or.inr ⟨by rfl, rfl⟩) ?_
   try simp only [xap]
   refine xtk 39 (v := undef) rfl (Or.inr ⟨by rfl, rfl⟩) ?_
   try simp only [xap]
   refine xso 40 ?_ rfl ?_ ?_
   rotate_left
   · intro w hSw; (try dsimp only at hSw); go_simp; first | done | with_reducible rfl
   try simp only [xap]
   refine xdn ?_ _
   clear KS hHeld
   go_wp2_with fail
   go_ret
   exact ⟨retI (by rw [hbad.out]), hGR.out.trans hG0⟩
 have c4' : ¬ (nk : Int) ≤ ge := by omega
 by_cases c5 : A.length ≤ 7
 case neg =>
   have hbad := Hid.mk (gateE_no (C := C) (gc := (cn : Int)) (ge := ge) (A := A) (R := R) (fun q => c5 q.2.1))
   have c5' : (7 : Int) < A.length := by omega
   clear hhas
   replace c2 := Hid.mk c2
   replace c4 := Hid.mk c4
   replace c5 := Hid.mk c5
   have hGR : Gr w ((w.alloc (.cells #[.int .i64 cn, .int .i64 ge, .slice xa A.length xc, .slice ya R.length yc] 59)).alloc (.cells #[.slice ra n1 rc, .slice (some ⟨b, off, none⟩) C.length cc, .slice ga n3 gcc, .int .i64 dp] 26)) := ((Gr.refl w).alloc _).alloc _
   have X : Box ((w.alloc (.cells #[.int .i64 cn, .int .i64 ge, .slice xa A.length xc, .slice ya R.length yc] 59)).alloc (.cells #[.slice ra n1 rc, .slice (some ⟨b, off, none⟩) C.length cc, .slice ga n3 gcc, .int .i64 dp] 26)) w.heap.size #[.int .i64 cn, .int .i64 ge, .slice xa A.length xc, .slice ya R.length yc] 59 := (Box.new w _ _).alloc _
   have Y : Box ((w.alloc (.cells #[.int .i64 cn, .int .i64 ge, .slice xa A.length xc, .slice ya R.length yc] 59)).alloc (.cells #[.slice ra n1 rc, .slice (some ⟨b, off, none⟩) C.length cc, .slice ga n3 gcc, .int .i64 dp] 26)) (w.heap.size + 1) #[.slice ra n1 rc, .slice (some ⟨b, off, none⟩) C.length cc, .slice ga n3 gcc, .int .i64 dp] 26 := Box.next _ _ _ _
   have k2 := (hGR.cell hb2 _).trans k1
   have hb5 := Nat.lt_of_lt_of_le hb2 (gr_size hGR)
   clear k1 hb hb2
   replace hGR := Hid.mk hGR
   replace X := Hid.mk X
   replace Y := Hid.mk Y
   go_enter Tryz.func39, Tryz.ntmps39
   go_wp2_with fail
   generalize (w.alloc (.cells #[.int .i64 cn, .int .i64 ge, .slice xa A.length xc, .slice ya R.length yc] 59)).alloc (.cells #[.slice ra n1 rc, .slice (some ⟨b, off, none⟩) C.length cc, .slice ga n3 gcc, .int .i64 dp] 26) = R0 at *
   have ⟨z0, p0, f0⟩ := X.out.at
   have ⟨z1, p1, f1⟩ := Y.out.at
   have KS : ∀ W, Gr R0 W → W.cell? ⟨w.heap.size, 0, none⟩ = some (.int .i64 cn) ∧ W.cell? ⟨w.heap.size, 1, none⟩ = some (.int .i64 ge) ∧ W.cell? ⟨w.heap.size, 2, none⟩ = some (.slice xa A.length xc) ∧ W.cell? ⟨w.heap.size, 3, none⟩ = some (.slice ya R.length yc) ∧ W.cell? ⟨w.heap.size + 1, 1, none⟩ = some (.slice (some ⟨b, off, none⟩) C.length cc) ∧ W.cell? ⟨b, off + cn * 2 + 1, none⟩ = some (.slice ka nk kc) := fun W hW => ⟨(hW.cell z0 0).trans (p0 0), (hW.cell z0 1).trans (p0 1), (hW.cell z0 2).trans (p0 2), (hW.cell z0 3).trans (p0 3), (hW.cell z1 1).trans (p1 1), (hW.cell hb5 _).trans k2⟩
   replace KS := Hid.mk KS
   have hG0 : Gr R0 R0.drew := (Gr.refl _).drew
   refine wp_region_held_drew (S := fun W => W.cell? ⟨w.heap.size, 0, none⟩ = some (.int .i64 cn) ∧ W.cell? ⟨w.heap.size, 1, none⟩ = some (.int .i64 ge) ∧ W.cell? ⟨w.heap.size, 2, none⟩ = some (.slice xa A.length xc) ∧ W.cell? ⟨w.heap.size, 3, none⟩ = some (.slice ya R.length yc) ∧ W.cell? ⟨w.heap.size + 1, 1, none⟩ = some (.slice (some ⟨b, off, none⟩) C.length cc) ∧ W.cell? ⟨b, off + cn * 2 + 1, none⟩ = some (.slice ka nk kc)) (by kernel_rfl) (KS.out _ hG0) (fun hHeld => ?_)
   refine xso 0 ?_ rfl ?_ (xso 1 ?_ rfl ?_ ?_)
   iterate 2 (rotate_left; focus ((try simp only [xap]); intro w hSw; (try dsimp only at hSw); go_simp; first | done | with_reducible rfl))
   try simp only [xap]
   refine xtk 2 (v := .bool false) rfl (Or.inl ⟨by rfl, ?_⟩) ?_
   · intro w hSw; (try dsimp only at hSw); first | (go_simp; done) | (go_simp; simp_all; done) | (go_simp; omega)
   try simp only [xap]
   refine xso 3 ?_ rfl ?_ ?_
   rotate_left
   · intro w hSw; (try dsimp only at hSw); go_simp; first | done | with_reducible rfl
   try simp only [xap]
   refine xso 4 ?_ rfl ?_ ?_
   rotate_left
   · intro w hSw; (try dsimp only at hSw); go_simp; first | done | with_reducible rfl
   try simp only [xap]
   refine xso 5 ?_ rfl ?_ ?_
   rotate_left
   · intro w hSw; (try dsimp only at hSw); go_simp; first | done | with_reducible rfl
   try simp only [xap]
   refine xso 6 ?_ rfl ?_ ?_
   rotate_left
   · intro w hSw; (try dsimp only at hSw); go_simp; first | done | with_reducible rfl
   try simp only [xap]
   refine xso 7 ?_ rfl ?_ ?_
   rotate_left
   · intro w hSw; (try dsimp only at hSw); go_simp; first | done | with_reducible rfl
   try simp only [xap]
   refine xso 8 ?_ rfl ?_ ?_
   rotate_left
   · intro w hSw; (try dsimp only at hSw); go_simp; first | done | with_reducible rfl
   try simp only [xap]
   refine xtk 9 (v := .bool false) rfl (Or.inl ⟨by rfl, ?_⟩) ?_
   · intro w hSw; (try dsimp only at hSw); first | (go_simp; done) | (go_simp; simp_all; done) | (go_simp; omega)
   try simp only [xap]
   refine xso 10 ?_ rfl ?_ (xso 11 ?_ rfl ?_ ?_)
   iterate 2 (rotate_left; focus ((try simp only [xap]); intro w hSw; (try dsimp only at hSw); go_simp; first | done | with_reducible rfl))
   try simp only [xap]
   refine xso 12 ?_ rfl ?_ ?_
   rotate_left
   · intro w hSw; (try dsimp only at hSw); go_simp; first | done | with_reducible rfl
   try simp only [xap]
   refine xso 13 ?_ rfl ?_ ?_
   rotate_left
   · intro w hSw; (try dsimp only at hSw); go_simp; first | done | with_reducible rfl
   try simp only [xap]
   refine xtk 14 (v := .bool false) rfl (Or.inl ⟨by rfl, ?_⟩) ?_
   · intro w hSw; (try dsimp only at hSw); first | (go_simp; done) | (go_simp; simp_all; done) | (go_simp; omega)
   try simp only [xap]
   refine xso 15 ?_ rfl ?_ (xso 16 ?_ rfl ?_ ?_)
   iterate 2 (rotate_left; focus ((try simp only [xap]); intro w hSw; (try dsimp only at hSw); go_simp; first | done | with_reducible rfl))
   try simp only [xap]
   refine xso 17 ?_ rfl ?_ ?_
   rotate_left
   · intro w hSw; (try dsimp only at hSw); go_simp; first | done | with_reducible rfl
   try simp only [xap]
   refine xso 18 ?_ rfl ?_ ?_
   rotate_left
   · intro w hSw; (try dsimp only at hSw); go_simp; first | done | with_reducible rfl
   try simp only [xap]
   refine xso 19 ?_ rfl ?_ ?_
   rotate_left
   · intro w hSw; (try dsimp only at hSw); go_simp; first | done | with_reducible rfl
   try simp only [xap]
   refine xso 20 ?_ rfl ?_ ?_
   rotate_left
   · intro w hSw; (try dsimp only at hSw); go_simp; first | done | with_reducible rfl
   try simp only [xap]
   refine xso 21 ?_ rfl ?_ ?_
   rotate_left
   · intro w hSw; (try dsimp only at hSw); go_simp; first | done | with_reducible rfl
   try simp only [xap]
   refine xso 22 ?_ rfl ?_ ?_
   rotate_left
   · intro w hSw; (try dsimp only at hSw); go_simp; first | done | with_reducible rfl
   try simp only [xap]
   refine xso 23 ?_ rfl ?_ ?_
   rotate_left
   · intro w hSw; (try dsimp only at hSw); go_simp; first | done | with_reducible rfl
   try simp only [xap]
   refine xso 24 ?_ rfl ?_ ?_
   rotate_left
   · intro w hSw; (try dsimp only at hSw); go_simp; first | done | with_reducible rfl
   try simp only [xap]
   refine xso 25 ?_ rfl ?_ ?_
   rotate_left
   · intro w hSw; (try dsimp only at hSw); go_simp; first | done | with_reducible rfl
   try simp only [xap]
   refine xso 26 ?_ rfl ?_ ?_
   rotate_left
   · intro w hSw; (try dsimp only at hSw); go_simp; first | done | with_reducible rfl
   try simp only [xap]
   refine xtk 27 (v := .bool false) rfl (Or.inl ⟨by rfl, ?_⟩) ?_
   · intro w hSw; (try dsimp only at hSw); first | (go_simp; done) | (go_simp; simp_all; done) | (go_simp; omega)
   try simp only [xap]
   refine xso 28 ?_ rfl ?_ (xso 29 ?_ rfl ?_ ?_)
   iterate 2 (rotate_left; focus ((try simp only [xap]); intro w hSw; (try dsimp only at hSw); go_simp; first | done | with_reducible rfl))
   try simp only [xap]
   refine xso 30 ?_ rfl ?_ ?_
   rotate_left
   · intro w hSw; (try dsimp only at hSw); go_simp; first | done | with_reducible rfl
   try simp only [xap]
   refine xso 31 ?_ rfl ?_ ?_
   rotate_left
   · intro w hSw; (try dsimp only at hSw); go_simp; first | done | with_reducible rfl
   try simp only [xap]
   refine xso 32 ?_ rfl ?_ ?_
   rotate_left
   · intro w hSw; (try dsimp only at hSw); go_simp; first | done | with_reducible rfl
   try simp only [xap]
   refine xtk 33 (v := .bool true) rfl (Or.inl ⟨by rfl, ?_⟩) ?_
   · intro w hSw; (try dsimp only at hSw); first | (go_simp; done) | (go_simp; simp_all; done) | (go_simp; omega)
   try simp only [xap]
   refine xso 34 ?_ rfl ?_ (xso 35 ?_ rfl ?_ ?_)
   iterate 2 (rotate_left; focus ((try simp only [xap]); intro w hSw; (try dsimp only at hSw); go_simp; first | done | with_reducible rfl))
   try simp only [xap]
   refine xtk 36 (v := undef) rfl (Or.inr ⟨by rfl, rfl⟩) ?_
   try simp only [xap]
   refine xtk 37 (v := undef) rfl (Or.inr ⟨by rfl, rfl⟩) ?_
   try simp only [xap]
   refine xtk 38 (v := undef) rfl (Or.inr ⟨by rfl, rfl⟩) ?_
   try simp only [xap]
   refine xtk 39 (v := undef) rfl (Or.inr ⟨by rfl, rfl⟩) ?_
   try simp only [xap]
   refine xso 40 ?_ rfl ?_ ?_
   rotate_left
   · intro w hSw; (try dsimp only at hSw); go_simp; first | done | with_reducible rfl
   try simp only [xap]
   refine xdn ?_ _
   clear KS hHeld
   go_wp2_with fail
   go_ret
   exact ⟨retI (by rw [hbad.out]), hGR.out.trans hG0⟩
 have c5' : ¬ (7 : Int) < A.length := by omega
 by_cases c6 : R.length ≤ 7
 case neg =>
   have hbad := Hid.mk (gateE_no (C := C) (gc := (cn : Int)) (ge := ge) (A := A) (R := R) (fun q => c6 q.2.2))
   have c6' : (7 : Int) < R.length := by omega
   clear hhas
   replace c2 := Hid.mk c2
   replace c4 := Hid.mk c4
   replace c5 := Hid.mk c5
   replace c6 := Hid.mk c6
   have hGR : Gr w ((w.alloc (.cells #[.int .i64 cn, .int .i64 ge, .slice xa A.length xc, .slice ya R.length yc] 59)).alloc (.cells #[.slice ra n1 rc, .slice (some ⟨b, off, none⟩) C.length cc, .slice ga n3 gcc, .int .i64 dp] 26)) := ((Gr.refl w).alloc _).alloc _
   have X : Box ((w.alloc (.cells #[.int .i64 cn, .int .i64 ge, .slice xa A.length xc, .slice ya R.length yc] 59)).alloc (.cells #[.slice ra n1 rc, .slice (some ⟨b, off, none⟩) C.length cc, .slice ga n3 gcc, .int .i64 dp] 26)) w.heap.size #[.int .i64 cn, .int .i64 ge, .slice xa A.length xc, .slice ya R.length yc] 59 := (Box.new w _ _).alloc _
   have Y : Box ((w.alloc (.cells #[.int .i64 cn, .int .i64 ge, .slice xa A.length xc, .slice ya R.length yc] 59)).alloc (.cells #[.slice ra n1 rc, .slice (some ⟨b, off, none⟩) C.length cc, .slice ga n3 gcc, .int .i64 dp] 26)) (w.heap.size + 1) #[.slice ra n1 rc, .slice (some ⟨b, off, none⟩) C.length cc, .slice ga n3 gcc, .int .i64 dp] 26 := Box.next _ _ _ _
   have k2 := (hGR.cell hb2 _).trans k1
   have hb5 := Nat.lt_of_lt_of_le hb2 (gr_size hGR)
   clear k1 hb hb2
   replace hGR := Hid.mk hGR
   replace X := Hid.mk X
   replace Y := Hid.mk Y
   go_enter Tryz.func39, Tryz.ntmps39
   go_wp2_with fail
   generalize (w.alloc (.cells #[.int .i64 cn, .int .i64 ge, .slice xa A.length xc, .slice ya R.length yc] 59)).alloc (.cells #[.slice ra n1 rc, .slice (some ⟨b, off, none⟩) C.length cc, .slice ga n3 gcc, .int .i64 dp] 26) = R0 at *
   have ⟨z0, p0, f0⟩ := X.out.at
   have ⟨z1, p1, f1⟩ := Y.out.at
   have KS : ∀ W, Gr R0 W → W.cell? ⟨w.heap.size, 0, none⟩ = some (.int .i64 cn) ∧ W.cell? ⟨w.heap.size, 1, none⟩ = some (.int .i64 ge) ∧ W.cell? ⟨w.heap.size, 2, none⟩ = some (.slice xa A.length xc) ∧ W.cell? ⟨w.heap.size, 3, none⟩ = some (.slice ya R.length yc) ∧ W.cell? ⟨w.heap.size + 1, 1, none⟩ = some (.slice (some ⟨b, off, none⟩) C.length cc) ∧ W.cell? ⟨b, off + cn * 2 + 1, none⟩ = some (.slice ka nk kc) := fun W hW => ⟨(hW.cell z0 0).trans (p0 0), (hW.cell z0 1).trans (p0 1), (hW.cell z0 2).trans (p0 2), (hW.cell z0 3).trans (p0 3), (hW.cell z1 1).trans (p1 1), (hW.cell hb5 _).trans k2⟩
   replace KS := Hid.mk KS
   have hG0 : Gr R0 R0.drew := (Gr.refl _).drew
   refine wp_region_held_drew (S := fun W => W.cell? ⟨w.heap.size, 0, none⟩ = some (.int .i64 cn) ∧ W.cell? ⟨w.heap.size, 1, none⟩ = some (.int .i64 ge) ∧ W.cell? ⟨w.heap.size, 2, none⟩ = some (.slice xa A.length xc) ∧ W.cell? ⟨w.heap.size, 3, none⟩ = some (.slice ya R.length yc) ∧ W.cell? ⟨w.heap.size + 1, 1, none⟩ = some (.slice (some ⟨b, off, none⟩) C.length cc) ∧ W.cell? ⟨b, off + cn * 2 + 1, none⟩ = some (.slice ka nk kc)) (by kernel_rfl) (KS.out _ hG0) (fun hHeld => ?_)
   refine xso 0 ?_ rfl ?_ (xso 1 ?_ rfl ?_ ?_)
   iterate 2 (rotate_left; focus ((try simp only [xap]); intro w hSw; (try dsimp only at hSw); go_simp; first | done | with_reducible rfl))
   try simp only [xap]
   refine xtk 2 (v := .bool false) rfl (Or.inl ⟨by rfl, ?_⟩) ?_
   · intro w hSw; (try dsimp only at hSw); first | (go_simp; done) | (go_simp; simp_all; done) | (go_simp; omega)
   try simp only [xap]
   refine xso 3 ?_ rfl ?_ ?_
   rotate_left
   · intro w hSw; (try dsimp only at hSw); go_simp; first | done | with_reducible rfl
   try simp only [xap]
   refine xso 4 ?_ rfl ?_ ?_
   rotate_left
   · intro w hSw; (try dsimp only at hSw); go_simp; first | done | with_reducible rfl
   try simp only [xap]
   refine xso 5 ?_ rfl ?_ ?_
   rotate_left
   · intro w hSw; (try dsimp only at hSw); go_simp; first | done | with_reducible rfl
   try simp only [xap]
   refine xso 6 ?_ rfl ?_ ?_
   rotate_left
   · intro w hSw; (try dsimp only at hSw); go_simp; first | done | with_reducible rfl
   try simp only [xap]
   refine xso 7 ?_ rfl ?_ ?_
   rotate_left
   · intro w hSw; (try dsimp only at hSw); go_simp; first | done | with_reducible rfl
   try simp only [xap]
   refine xso 8 ?_ rfl ?_ ?_
   rotate_left
   · intro w hSw; (try dsimp only at hSw); go_simp; first | done | with_reducible rfl
   try simp only [xap]
   refine xtk 9 (v := .bool false) rfl (Or.inl ⟨by rfl, ?_⟩) ?_
   · intro w hSw; (try dsimp only at hSw); first | (go_simp; done) | (go_simp; simp_all; done) | (go_simp; omega)
   try simp only [xap]
   refine xso 10 ?_ rfl ?_ (xso 11 ?_ rfl ?_ ?_)
   iterate 2 (rotate_left; focus ((try simp only [xap]); intro w hSw; (try dsimp only at hSw); go_simp; first | done | with_reducible rfl))
   try simp only [xap]
   refine xso 12 ?_ rfl ?_ ?_
   rotate_left
   · intro w hSw; (try dsimp only at hSw); go_simp; first | done | with_reducible rfl
   try simp only [xap]
   refine xso 13 ?_ rfl ?_ ?_
   rotate_left
   · intro w hSw; (try dsimp only at hSw); go_simp; first | done | with_reducible rfl
   try simp only [xap]
   refine xtk 14 (v := .bool false) rfl (Or.inl ⟨by rfl, ?_⟩) ?_
   · intro w hSw; (try dsimp only at hSw); first | (go_simp; done) | (go_simp; simp_all; done) | (go_simp; omega)
   try simp only [xap]
   refine xso 15 ?_ rfl ?_ (xso 16 ?_ rfl ?_ ?_)
   iterate 2 (rotate_left; focus ((try simp only [xap]); intro w hSw; (try dsimp only at hSw); go_simp; first | done | with_reducible rfl))
   try simp only [xap]
   refine xso 17 ?_ rfl ?_ ?_
   rotate_left
   · intro w hSw; (try dsimp only at hSw); go_simp; first | done | with_reducible rfl
   try simp only [xap]
   refine xso 18 ?_ rfl ?_ ?_
   rotate_left
   · intro w hSw; (try dsimp only at hSw); go_simp; first | done | with_reducible rfl
   try simp only [xap]
   refine xso 19 ?_ rfl ?_ ?_
   rotate_left
   · intro w hSw; (try dsimp only at hSw); go_simp; first | done | with_reducible rfl
   try simp only [xap]
   refine xso 20 ?_ rfl ?_ ?_
   rotate_left
   · intro w hSw; (try dsimp only at hSw); go_simp; first | done | with_reducible rfl
   try simp only [xap]
   refine xso 21 ?_ rfl ?_ ?_
   rotate_left
   · intro w hSw; (try dsimp only at hSw); go_simp; first | done | with_reducible rfl
   try simp only [xap]
   refine xso 22 ?_ rfl ?_ ?_
   rotate_left
   · intro w hSw; (try dsimp only at hSw); go_simp; first | done | with_reducible rfl
   try simp only [xap]
   refine xso 23 ?_ rfl ?_ ?_
   rotate_left
   · intro w hSw; (try dsimp only at hSw); go_simp; first | done | with_reducible rfl
   try simp only [xap]
   refine xso 24 ?_ rfl ?_ ?_
   rotate_left
   · intro w hSw; (try dsimp only at hSw); go_simp; first | done | with_reducible rfl
   try simp only [xap]
   refine xso 25 ?_ rfl ?_ ?_
   rotate_left
   · intro w hSw; (try dsimp only at hSw); go_simp; first | done | with_reducible rfl
   try simp only [xap]
   refine xso 26 ?_ rfl ?_ ?_
   rotate_left
   · intro w hSw; (try dsimp only at hSw); go_simp; first | done | with_reducible rfl
   try simp only [xap]
   refine xtk 27 (v := .bool false) rfl (Or.inl ⟨by rfl, ?_⟩) ?_
   · intro w hSw; (try dsimp only at hSw); first | (go_simp; done) | (go_simp; simp_all; done) | (go_simp; omega)
   try simp only [xap]
   refine xso 28 ?_ rfl ?_ (xso 29 ?_ rfl ?_ ?_)
   iterate 2 (rotate_left; focus ((try simp only [xap]); intro w hSw; (try dsimp only at hSw); go_simp; first | done | with_reducible rfl))
   try simp only [xap]
   refine xso 30 ?_ rfl ?_ ?_
   rotate_left
   · intro w hSw; (try dsimp only at hSw); go_simp; first | done | with_reducible rfl
   try simp only [xap]
   refine xso 31 ?_ rfl ?_ ?_
   rotate_left
   · intro w hSw; (try dsimp only at hSw); go_simp; first | done | with_reducible rfl
   try simp only [xap]
   refine xso 32 ?_ rfl ?_ ?_
   rotate_left
   · intro w hSw; (try dsimp only at hSw); go_simp; first | done | with_reducible rfl
   try simp only [xap]
   refine xtk 33 (v := .bool false) rfl (Or.inl ⟨by rfl, ?_⟩) ?_
   · intro w hSw; (try dsimp only at hSw); first | (go_simp; done) | (go_simp; simp_all; done) | (go_simp; omega)
   try simp only [xap]
   refine xso 34 ?_ rfl ?_ (xso 35 ?_ rfl ?_ ?_)
   iterate 2 (rotate_left; focus ((try simp only [xap]); intro w hSw; (try dsimp only at hSw); go_simp; first | done | with_reducible rfl))
   try simp only [xap]
   refine xso 36 ?_ rfl ?_ ?_
   rotate_left
   · intro w hSw; (try dsimp only at hSw); go_simp; first | done | with_reducible rfl
   try simp only [xap]
   refine xso 37 ?_ rfl ?_ ?_
   rotate_left
   · intro w hSw; (try dsimp only at hSw); go_simp; first | done | with_reducible rfl
   try simp only [xap]
   refine xso 38 ?_ rfl ?_ ?_
   rotate_left
   · intro w hSw; (try dsimp only at hSw); go_simp; first | done | with_reducible rfl
   try simp only [xap]
   refine xtk 39 (v := .bool true) rfl (Or.inl ⟨by rfl, ?_⟩) ?_
   · intro w hSw; (try dsimp only at hSw); first | (go_simp; done) | (go_simp; simp_all; done) | (go_simp; omega)
   try simp only [xap]
   refine xso 40 ?_ rfl ?_ ?_
   rotate_left
   · intro w hSw; (try dsimp only at hSw); go_simp; first | done | with_reducible rfl
   try simp only [xap]
   refine xdn ?_ _
   clear KS hHeld
   go_wp2_with fail
   go_ret
   exact ⟨retI (by rw [hbad.out]), hGR.out.trans hG0⟩
 have c6' : ¬ (7 : Int) < R.length := by omega
 have hgood : gateE C ⟨(cn : Int), ge, A, R⟩ = typE (typesR A) (typesR R) := by
   unfold gateE
   rw [if_pos]
   simp only [Bool.and_eq_true, decide_eq_true_eq]
   exact ⟨⟨by rw [hhas]; simpa using c4, c5⟩, c6⟩
 replace hgood := Hid.mk hgood
 clear hhas
 replace c2 := Hid.mk c2
 replace c4 := Hid.mk c4
 replace c5 := Hid.mk c5
 replace c6 := Hid.mk c6
 have hGR : Gr w ((w.alloc (.cells #[.int .i64 cn, .int .i64 ge, .slice xa A.length xc, .slice ya R.length yc] 59)).alloc (.cells #[.slice ra n1 rc, .slice (some ⟨b, off, none⟩) C.length cc, .slice ga n3 gcc, .int .i64 dp] 26)) := ((Gr.refl w).alloc _).alloc _
 have X : Box ((w.alloc (.cells #[.int .i64 cn, .int .i64 ge, .slice xa A.length xc, .slice ya R.length yc] 59)).alloc (.cells #[.slice ra n1 rc, .slice (some ⟨b, off, none⟩) C.length cc, .slice ga n3 gcc, .int .i64 dp] 26)) w.heap.size #[.int .i64 cn, .int .i64 ge, .slice xa A.length xc, .slice ya R.length yc] 59 := (Box.new w _ _).alloc _
 have Y : Box ((w.alloc (.cells #[.int .i64 cn, .int .i64 ge, .slice xa A.length xc, .slice ya R.length yc] 59)).alloc (.cells #[.slice ra n1 rc, .slice (some ⟨b, off, none⟩) C.length cc, .slice ga n3 gcc, .int .i64 dp] 26)) (w.heap.size + 1) #[.slice ra n1 rc, .slice (some ⟨b, off, none⟩) C.length cc, .slice ga n3 gcc, .int .i64 dp] 26 := Box.next _ _ _ _
 have k2 := (hGR.cell hb2 _).trans k1
 have hb5 := Nat.lt_of_lt_of_le hb2 (gr_size hGR)
 clear k1 hb hb2
 replace hGR := Hid.mk hGR
 replace X := Hid.mk X
 replace Y := Hid.mk Y
 go_enter Tryz.func39, Tryz.ntmps39
 go_wp2_with fail
 generalize (w.alloc (.cells #[.int .i64 cn, .int .i64 ge, .slice xa A.length xc, .slice ya R.length yc] 59)).alloc (.cells #[.slice ra n1 rc, .slice (some ⟨b, off, none⟩) C.length cc, .slice ga n3 gcc, .int .i64 dp] 26) = R0 at *
 have ⟨z0, p0, f0⟩ := X.out.at
 have ⟨z1, p1, f1⟩ := Y.out.at
 have KS : ∀ W, Gr R0 W → W.cell? ⟨w.heap.size, 0, none⟩ = some (.int .i64 cn) ∧ W.cell? ⟨w.heap.size, 1, none⟩ = some (.int .i64 ge) ∧ W.cell? ⟨w.heap.size, 2, none⟩ = some (.slice xa A.length xc) ∧ W.cell? ⟨w.heap.size, 3, none⟩ = some (.slice ya R.length yc) ∧ W.cell? ⟨w.heap.size + 1, 1, none⟩ = some (.slice (some ⟨b, off, none⟩) C.length cc) ∧ W.cell? ⟨b, off + cn * 2 + 1, none⟩ = some (.slice ka nk kc) := fun W hW => ⟨(hW.cell z0 0).trans (p0 0), (hW.cell z0 1).trans (p0 1), (hW.cell z0 2).trans (p0 2), (hW.cell z0 3).trans (p0 3), (hW.cell z1 1).trans (p1 1), (hW.cell hb5 _).trans k2⟩
 replace KS := Hid.mk KS
 have hG0 : Gr R0 R0.drew := (Gr.refl _).drew
 refine wp_region_held_drew (S := fun W => W.cell? ⟨w.heap.size, 0, none⟩ = some (.int .i64 cn) ∧ W.cell? ⟨w.heap.size, 1, none⟩ = some (.int .i64 ge) ∧ W.cell? ⟨w.heap.size, 2, none⟩ = some (.slice xa A.length xc) ∧ W.cell? ⟨w.heap.size, 3, none⟩ = some (.slice ya R.length yc) ∧ W.cell? ⟨w.heap.size + 1, 1, none⟩ = some (.slice (some ⟨b, off, none⟩) C.length cc) ∧ W.cell? ⟨b, off + cn * 2 + 1, none⟩ = some (.slice ka nk kc)) (by kernel_rfl) (KS.out _ hG0) (fun hHeld => ?_)
 refine xso 0 ?_ rfl ?_ (xso 1 ?_ rfl ?_ ?_)
 iterate 2 (rotate_left; focus ((try simp only [xap]); intro w hSw; (try dsimp only at hSw); go_simp; first | done | with_reducible rfl))
 try simp only [xap]
 refine xtk 2 (v := .bool false) rfl (Or.inl ⟨by rfl, ?_⟩) ?_
 · intro w hSw; (try dsimp only at hSw); first | (go_simp; done) | (go_simp; simp_all; done) | (go_simp; omega)
 try simp only [xap]
 refine xso 3 ?_ rfl ?_ ?_
 rotate_left
 · intro w hSw; (try dsimp only at hSw); go_simp; first | done | with_reducible rfl
 try simp only [xap]
 refine xso 4 ?_ rfl ?_ ?_
 rotate_left
 · intro w hSw; (try dsimp only at hSw); go_simp; first | done | with_reducible rfl
 try simp only [xap]
 refine xso 5 ?_ rfl ?_ ?_
 rotate_left
 · intro w hSw; (try dsimp only at hSw); go_simp; first | done | with_reducible rfl
 try simp only [xap]
 refine xso 6 ?_ rfl ?_ ?_
 rotate_left
 · intro w hSw; (try dsimp only at hSw); go_simp; first | done | with_reducible rfl
 try simp only [xap]
 refine xso 7 ?_ rfl ?_ ?_
 rotate_left
 · intro w hSw; (try dsimp only at hSw); go_simp; first | done | with_reducible rfl
 try simp only [xap]
 refine xso 8 ?_ rfl ?_ ?_
 rotate_left
 · intro w hSw; (try dsimp only at hSw); go_simp; first | done | with_reducible rfl
 try simp only [xap]
 refine xtk 9 (v := .bool false) rfl (Or.inl ⟨by rfl, ?_⟩) ?_
 · intro w hSw; (try dsimp only at hSw); first | (go_simp; done) | (go_simp; simp_all; done) | (go_simp; omega)
 try simp only [xap]
 refine xso 10 ?_ rfl ?_ (xso 11 ?_ rfl ?_ ?_)
 iterate 2 (rotate_left; focus ((try simp only [xap]); intro w hSw; (try dsimp only at hSw); go_simp; first | done | with_reducible rfl))
 try simp only [xap]
 refine xso 12 ?_ rfl ?_ ?_
 rotate_left
 · intro w hSw; (try dsimp only at hSw); go_simp; first | done | with_reducible rfl
 try simp only [xap]
 refine xso 13 ?_ rfl ?_ ?_
 rotate_left
 · intro w hSw; (try dsimp only at hSw); go_simp; first | done | with_reducible rfl
 try simp only [xap]
 refine xtk 14 (v := .bool false) rfl (Or.inl ⟨by rfl, ?_⟩) ?_
 · intro w hSw; (try dsimp only at hSw); first | (go_simp; done) | (go_simp; simp_all; done) | (go_simp; omega)
 try simp only [xap]
 refine xso 15 ?_ rfl ?_ (xso 16 ?_ rfl ?_ ?_)
 iterate 2 (rotate_left; focus ((try simp only [xap]); intro w hSw; (try dsimp only at hSw); go_simp; first | done | with_reducible rfl))
 try simp only [xap]
 refine xso 17 ?_ rfl ?_ ?_
 rotate_left
 · intro w hSw; (try dsimp only at hSw); go_simp; first | done | with_reducible rfl
 try simp only [xap]
 refine xso 18 ?_ rfl ?_ ?_
 rotate_left
 · intro w hSw; (try dsimp only at hSw); go_simp; first | done | with_reducible rfl
 try simp only [xap]
 refine xso 19 ?_ rfl ?_ ?_
 rotate_left
 · intro w hSw; (try dsimp only at hSw); go_simp; first | done | with_reducible rfl
 try simp only [xap]
 refine xso 20 ?_ rfl ?_ ?_
 rotate_left
 · intro w hSw; (try dsimp only at hSw); go_simp; first | done | with_reducible rfl
 try simp only [xap]
 refine xso 21 ?_ rfl ?_ ?_
 rotate_left
 · intro w hSw; (try dsimp only at hSw); go_simp; first | done | with_reducible rfl
 try simp only [xap]
 refine xso 22 ?_ rfl ?_ ?_
 rotate_left
 · intro w hSw; (try dsimp only at hSw); go_simp; first | done | with_reducible rfl
 try simp only [xap]
 refine xso 23 ?_ rfl ?_ ?_
 rotate_left
 · intro w hSw; (try dsimp only at hSw); go_simp; first | done | with_reducible rfl
 try simp only [xap]
 refine xso 24 ?_ rfl ?_ ?_
 rotate_left
 · intro w hSw; (try dsimp only at hSw); go_simp; first | done | with_reducible rfl
 try simp only [xap]
 refine xso 25 ?_ rfl ?_ ?_
 rotate_left
 · intro w hSw; (try dsimp only at hSw); go_simp; first | done | with_reducible rfl
 try simp only [xap]
 refine xso 26 ?_ rfl ?_ ?_
 rotate_left
 · intro w hSw; (try dsimp only at hSw); go_simp; first | done | with_reducible rfl
 try simp only [xap]
 refine xtk 27 (v := .bool false) rfl (Or.inl ⟨by rfl, ?_⟩) ?_
 · intro w hSw; (try dsimp only at hSw); first | (go_simp; done) | (go_simp; simp_all; done) | (go_simp; omega)
 try simp only [xap]
 refine xso 28 ?_ rfl ?_ (xso 29 ?_ rfl ?_ ?_)
 iterate 2 (rotate_left; focus ((try simp only [xap]); intro w hSw; (try dsimp only at hSw); go_simp; first | done | with_reducible rfl))
 try simp only [xap]
 refine xso 30 ?_ rfl ?_ ?_
 rotate_left
 · intro w hSw; (try dsimp only at hSw); go_simp; first | done | with_reducible rfl
 try simp only [xap]
 refine xso 31 ?_ rfl ?_ ?_
 rotate_left
 · intro w hSw; (try dsimp only at hSw); go_simp; first | done | with_reducible rfl
 try simp only [xap]
 refine xso 32 ?_ rfl ?_ ?_
 rotate_left
 · intro w hSw; (try dsimp only at hSw); go_simp; first | done | with_reducible rfl
 try simp only [xap]
 refine xtk 33 (v := .bool false) rfl (Or.inl ⟨by rfl, ?_⟩) ?_
 · intro w hSw; (try dsimp only at hSw); first | (go_simp; done) | (go_simp; simp_all; done) | (go_simp; omega)
 try simp only [xap]
 refine xso 34 ?_ rfl ?_ (xso 35 ?_ rfl ?_ ?_)
 iterate 2 (rotate_left; focus ((try simp only [xap]); intro w hSw; (try dsimp only at hSw); go_simp; first | done | with_reducible rfl))
 try simp only [xap]
 refine xso 36 ?_ rfl ?_ ?_
 rotate_left
 · intro w hSw; (try dsimp only at hSw); go_simp; first | done | with_reducible rfl
 try simp only [xap]
 refine xso 37 ?_ rfl ?_ ?_
 rotate_left
 · intro w hSw; (try dsimp only at hSw); go_simp; first | done | with_reducible rfl
 try simp only [xap]
 refine xso 38 ?_ rfl ?_ ?_
 rotate_left
 · intro w hSw; (try dsimp only at hSw); go_simp; first | done | with_reducible rfl
 try simp only [xap]
 refine xtk 39 (v := .bool false) rfl (Or.inl ⟨by rfl, ?_⟩) ?_
 · intro w hSw; (try dsimp only at hSw); first | (go_simp; done) | (go_simp; simp_all; done) | (go_simp; omega)
 try simp only [xap]
 refine xso 40 ?_ rfl ?_ ?_
 rotate_left
 · intro w hSw; (try dsimp only at hSw); go_simp; first | done | with_reducible rfl
 try simp only [xap]
 refine xdn ?_ _
 clear KS hHeld
 go_wp2_with fail
 clear c1' c2' c2'' c3 c4' c5' c6' k2 hb5 z0 p0 f0 z1 p1 f1 Y
 replace X := Hid.mk (X.out.gr hG0)
 replace hGR := Hid.mk (hGR.out.trans hG0)
 clear hG0
 generalize R0.drew = R0 at *
 replace hx := Hid.mk ((hx.out.below hGR.out.below).mono (gr_size hGR.out))
 replace hy := Hid.mk ((hy.out.below hGR.out.below).mono (gr_size hGR.out))
 go_loopw [5] (fun i wr => ∃ k : Nat, i = .int .i64 k ∧ k ≤ A.length ∧ Hid (typesR (A.drop k) = typesR A ∧ Gr R0 wr)) (fun i _ => A.length - (intOf i).toNat)
 case atStart => exact ⟨0, rfl, by omega, ⟨rfl, Gr.refl _⟩⟩
 case round =>
   obtain ⟨k, rfl, hkk, ⟨hsf, hG⟩⟩ := hrel
   have X1 := X.out.gr hG
   have ⟨z0, p0, f0⟩ := X1.at
   replace X1 := Hid.mk X1
   by_cases hkl : k < A.length
   · have kl : (k : Int) < A.length := by omega
     obtain ⟨b2, off2, rfl, hb3, hb4, hcc⟩ := (hx.out.below hG.below) k hkl
     obtain ⟨d0, d1, d2, d3, d4, d5, d6⟩ := typ_cells hcc
     clear hcc
     rw [typesR_at hkl] at hsf
     have hT := fun W => refRightType_any A[k] W (hr1.out _ (List.getElem_mem hkl))
     generalize A[k] = t at *
     cases hq1 : t.right with
     | false =>
       simp only [hq1, Bool.false_and] at hsf hT
       replace hsf := Hid.mk hsf
       replace hq1 := Hid.mk hq1
       replace hG := Hid.mk hG
       go_wp2_with fail
       refine (hT _).mono ?_
       rintro x w2 ⟨rfl, hG2⟩
       replace hG := Hid.mk (hG.out.trans hG2)
       clear hG2 hT d0 d1 d2 d3 d4 d5 d6 z0 p0 f0
       go_wp2_with fail
       go_ret
       exact ⟨retI (by rw [hgood.out, ← hsf.out]; simp [typE]), hGR.out.trans hG.out⟩
     | true =>
       simp only [hq1, Bool.true_and] at hsf hT
       replace hsf := Hid.mk hsf
       replace hq1 := Hid.mk hq1
       replace hG := Hid.mk hG
       go_wp2_with fail
       refine (hT _).mono ?_
       rintro x w2 ⟨rfl, hG2⟩
       replace hG := Hid.mk (hG.out.trans hG2)
       clear hG2 hT d0 d1 d2 d3 d4 d5 d6 z0 p0 f0
       go_wp2_with fail
       go_roundw
       case rel => exact ⟨k + 1, by simp, by omega, ⟨hsf.out, hG.out⟩⟩
       case measure => simp [intOf]; omega
   · have kl : ¬ (k : Int) < A.length := by omega
     rw [drop_end hkl] at hsf
     have hok1 : typesR A = true := by rw [← hsf]; rfl
     replace hok1 := Hid.mk hok1
     replace hG := Hid.mk hG
     clear hsf
     go_wp2_with fail
     replace hy := Hid.mk ((hy.out.below hG.out.below).mono (gr_size hG.out))
     replace X := Hid.mk (X.out.gr hG.out)
     replace hGR := Hid.mk (hGR.out.trans hG.out)
     clear hG z0 p0 f0 kl hkl hkk X1
     generalize wr = R1 at *
     go_loopw [7] (fun i wr => ∃ k : Nat, i = .int .i64 k ∧ k ≤ R.length ∧ Hid (typesR (R.drop k) = typesR R ∧ Gr R1 wr)) (fun i _ => R.length - (intOf i).toNat)
     case atStart => exact ⟨0, rfl, by omega, ⟨rfl, Gr.refl _⟩⟩
     case round =>
       obtain ⟨k, rfl, hkk, ⟨hsf, hG⟩⟩ := hrel
       have X1 := X.out.gr hG
       have ⟨z0, p0, f0⟩ := X1.at
       replace X1 := Hid.mk X1
       by_cases hkl : k < R.length
       · have kl : (k : Int) < R.length := by omega
         obtain ⟨b2, off2, rfl, hb3, hb4, hcc⟩ := (hy.out.below hG.below) k hkl
         obtain ⟨d0, d1, d2, d3, d4, d5, d6⟩ := typ_cells hcc
         clear hcc
         rw [typesR_at hkl] at hsf
         have hT := fun W => refRightType_any R[k] W (hr2.out _ (List.getElem_mem hkl))
         generalize R[k] = t at *
         cases hq1 : t.right with
         | false =>
           simp only [hq1, Bool.false_and] at hsf hT
           replace hsf := Hid.mk hsf
           replace hq1 := Hid.mk hq1
           replace hG := Hid.mk hG
           go_wp2_with fail
           refine (hT _).mono ?_
           rintro x w2 ⟨rfl, hG2⟩
           replace hG := Hid.mk (hG.out.trans hG2)
           clear hG2 hT d0 d1 d2 d3 d4 d5 d6 z0 p0 f0
           go_wp2_with fail
           go_ret
           exact ⟨retI (by rw [hgood.out, ← hsf.out]; simp [typE]), hGR.out.trans hG.out⟩
         | true =>
           simp only [hq1, Bool.true_and] at hsf hT
           replace hsf := Hid.mk hsf
           replace hq1 := Hid.mk hq1
           replace hG := Hid.mk hG
           go_wp2_with fail
           refine (hT _).mono ?_
           rintro x w2 ⟨rfl, hG2⟩
           replace hG := Hid.mk (hG.out.trans hG2)
           clear hG2 hT d0 d1 d2 d3 d4 d5 d6 z0 p0 f0
           go_wp2_with fail
           go_roundw
           case rel => exact ⟨k + 1, by simp, by omega, ⟨hsf.out, hG.out⟩⟩
           case measure => simp [intOf]; omega
       · have kl : ¬ (k : Int) < R.length := by omega
         rw [drop_end hkl] at hsf
         have hok2 : typesR R = true := by rw [← hsf]; rfl
         replace hok2 := Hid.mk hok2
         replace hG := Hid.mk hG
         clear hsf
         go_wp2_with fail
         go_ret
         exact ⟨retI (by rw [hgood.out, hok1.out, hok2.out]; rfl), hGR.out.trans hG.out⟩
end Go.Proofs.YtdlcphinjnnhcaaGreatDoor


namespace Go.Proofs.YtdlcphinjnnhcaaGreatDoor
namespace Q
open Go.RowKit

theorem elem_atL {α : Type} {f : α → List Value} {k : Nat} (hf : ∀ x, (f x).length = k) {w : World} {b : Nat} {L : List α} (h : At w b (rowV [] f L).toArray) (i : Nat) (v : α) (hv : L[i]? = some v) : w.rangeAt b (i * k) (f v) := by
 obtain ⟨hi, rfl⟩ := List.getElem?_eq_some_iff.1 hv
 exact h.elem (pre := []) hf i hi (i * k) (by simp)
theorem marked_atL {α : Type} {M : α} {L : List α} (i : Nat) (hi : i < L.length) : (marked M L)[i]? = some L[i] := by
 unfold marked
 rw [List.getElem?_append_left hi, List.getElem?_eq_getElem hi]
theorem LsOk.finL {α : Type} {vals : α → List Value} {M : α} {kk k : Nat} {W : World} {L : List α} {s : Sl} (hk : ∀ x, (vals x).length = k) (h : LsOk vals M kk W L s) : FIn k vals W.heap.size W s.a L := by
 obtain ⟨g, rfl, _, hA⟩ := h
 intro i hi
 refine ⟨g, 0, rfl, hA.1, hA.1, fun j hj => ?_⟩
 have hj' : j < (vals L[i]).length := by rw [hk]; exact hj
 rw [List.getElem?_eq_getElem hj', Nat.zero_add]
 exact elem_atL hk hA i _ (marked_atL i hi) j _ (List.getElem?_eq_getElem hj')
theorem LsOk.linL {M : Ins} {kk : Nat} {W : World} {L : List Ins} {s : Sl} (h : LsOk Ins.vals M kk W L s) : LIn W.heap.size W s.a L := by
 obtain ⟨g, rfl, _, hA⟩ := h
 intro i hi
 have q := elem_atL (k := 5) (fun _ => rfl) hA i _ (marked_atL i hi)
 refine ⟨g, 0, rfl, hA.1, hA.1, ?_⟩
 rw [Nat.zero_add]
 exact ⟨q 0 _ rfl, q 1 _ rfl, q 2 _ rfl, q 3 _ rfl, q 4 _ rfl⟩
theorem LsOk.lenL {α : Type} {vals : α → List Value} {M : α} {kk : Nat} {W : World} {L : List α} {s : Sl} (h : LsOk vals M kk W L s) : s.l = L.length := by
 obtain ⟨g, rfl, _, _⟩ := h
 rfl
end Q
end Go.Proofs.YtdlcphinjnnhcaaGreatDoor


namespace Go.Proofs.YtdlcphinjnnhcaaGreatDoor
namespace Q
open Go.RowKit

end Q
end Go.Proofs.YtdlcphinjnnhcaaGreatDoor
