import Derived.Test.YtiigpncfmakgjaaGreatDoorJ29
import Derived.Test.YtiigpncfmakgjaaGreatDoorJ25
import Derived.Deep.AppendSrc
namespace Go.Proofs.YtiigpncfmakgjaaGreatDoor
namespace T
open Go.RowKit

end T
end Go.Proofs.YtiigpncfmakgjaaGreatDoor


namespace Go.Proofs.YtiigpncfmakgjaaGreatDoor
set_option maxRecDepth 100000
set_option maxHeartbeats 40000000
open Go.RowKit

theorem lin_fin {B : Nat} {w : World} {a : Option Addr} {L : List Ins} (h : LIn B w a L) : FIn 5 Ins.vals B w a L := fun i hi => by
 obtain ⟨b, off, ha, h1, h2, c0, c1, c2, c3, c4⟩ := h i hi
 refine ⟨b, off, ha, h1, h2, fun j hj => ?_⟩
 have hr : j = 0 ∨ j = 1 ∨ j = 2 ∨ j = 3 ∨ j = 4 := by omega
 rcases hr with rfl | rfl | rfl | rfl | rfl
 · exact c0
 · exact c1
 · exact c2
 · exact c3
 · exact c4
theorem ins_len (x : Ins) : x.vals.length = 5 := rfl
theorem freshSlot_any (L : List PSlot) (a : Option Addr) (c : Nat) (w : World) (h : FIn 8 PSlot.vals w.heap.size w a L) (hl : FitB 64 L.length) :
   Calls Tryz.prog 67 #[.slice a L.length c] w fun x w' => ∃ v, x = .returned v ∧ w'.ownsRow w.heap.size 126 8 v L.length (L.flatMap PSlot.vals) ∧ w.grownBy w' none := by
 replace h := Hid.mk h
 replace hl := Hid.mk hl
 go_enter Tryz.func67, Tryz.ntmps67
 go_wp2_with (at_builtin; refine wpList_append_all slot_len (by decide) slot_one rfl (.const (.slice none 0 0)) (.tmp 3) 92 126 _ 64 rfl Tryz.underlying92 infoSlot rfl (by decide) L rfl a c rfl _ h.out hl.out ?_)
 intro v' w' hO hg
 replace hO := Hid.mk hO
 replace hg := Hid.mk hg
 go_wp2_with fail
 go_ret
 exact ⟨_, rfl, hO.out, hg.out⟩
theorem freshRoot_any (L : List PRoot) (a : Option Addr) (c : Nat) (w : World) (h : FIn 6 PRoot.vals w.heap.size w a L) (hl : FitB 48 L.length) :
   Calls Tryz.prog 68 #[.slice a L.length c] w fun x w' => ∃ v, x = .returned v ∧ w'.ownsRow w.heap.size 96 6 v L.length (L.flatMap PRoot.vals) ∧ w.grownBy w' none := by
 replace h := Hid.mk h
 replace hl := Hid.mk hl
 go_enter Tryz.func68, Tryz.ntmps68
 go_wp2_with (at_builtin; refine wpList_append_all root_len (by decide) root_one rfl (.const (.slice none 0 0)) (.tmp 3) 50 96 _ 48 rfl Tryz.underlying50 infoRoot rfl (by decide) L rfl a c rfl _ h.out hl.out ?_)
 intro v' w' hO hg
 replace hO := Hid.mk hO
 replace hg := Hid.mk hg
 go_wp2_with fail
 go_ret
 exact ⟨_, rfl, hO.out, hg.out⟩
theorem freshInst_any (L : List Ins) (a : Option Addr) (c : Nat) (w : World) (h : FIn 5 Ins.vals w.heap.size w a L) (hl : FitB 40 L.length) :
   Calls Tryz.prog 69 #[.slice a L.length c] w fun x w' => ∃ v, x = .returned v ∧ w'.ownsRow w.heap.size 64 5 v L.length (L.flatMap Ins.vals) ∧ w.grownBy w' none := by
 replace h := Hid.mk h
 replace hl := Hid.mk hl
 go_enter Tryz.func69, Tryz.ntmps69
 go_wp2_with (at_builtin; refine wpList_append_all ins_len (by decide) vals_one rfl (.const (.slice none 0 0)) (.tmp 3) 51 64 _ 40 rfl Tryz.underlying51 infoInst rfl (by decide) L rfl a c rfl _ h.out hl.out ?_)
 intro v' w' hO hg
 replace hO := Hid.mk hO
 replace hg := Hid.mk hg
 go_wp2_with fail
 go_ret
 exact ⟨_, rfl, hO.out, hg.out⟩
theorem freshType_any (L : List PTyp) (a : Option Addr) (c : Nat) (w : World) (h : FIn 7 PTyp.vals w.heap.size w a L) (hl : FitB 56 L.length) :
   Calls Tryz.prog 70 #[.slice a L.length c] w fun x w' => ∃ v, x = .returned v ∧ w'.ownsRow w.heap.size 103 7 v L.length (L.flatMap PTyp.vals) ∧ w.grownBy w' none := by
 replace h := Hid.mk h
 replace hl := Hid.mk hl
 go_enter Tryz.func70, Tryz.ntmps70
 go_wp2_with (at_builtin; refine wpList_append_all typ_len (by decide) typ_one rfl (.const (.slice none 0 0)) (.tmp 3) 54 103 _ 56 rfl Tryz.underlying54 infoType rfl (by decide) L rfl a c rfl _ h.out hl.out ?_)
 intro v' w' hO hg
 replace hO := Hid.mk hO
 replace hg := Hid.mk hg
 go_wp2_with fail
 go_ret
 exact ⟨_, rfl, hO.out, hg.out⟩
end Go.Proofs.YtiigpncfmakgjaaGreatDoor


namespace Go.Proofs.YtiigpncfmakgjaaGreatDoor
set_option maxRecDepth 100000
set_option maxHeartbeats 40000000
open Go.RowKit

theorem below_row {B : Nat} {w : World} {k : Nat} : ∀ (vs : List Value) {w3 : World} {j : Nat}, Below B w w3 → B ≤ k → Below B w (setRow w3 k j vs)
 | [], _, _, h, _ => h
 | v :: vs, _, j, h, hk => below_row vs (h.setCell (p := ⟨k, j, none⟩) hk v) hk
theorem grown_none {w w' : World} (h : w.grownBy w' none) : Below w.heap.size w w' := grown_below h
theorem step_below {B : Nat} {R W w1 : World} (h : Below B R W) (hB : B ≤ R.heap.size) (hg : W.grownBy w1 none) : Below B R w1 := h.trans ((grown_none hg).mono (Nat.le_trans hB h.size))
theorem copyRegion_any (r : PReg) (sa : Option Addr) (sc : Nat) (w : World) (hs : FIn 8 PSlot.vals w.heap.size w sa r.slots) (hd : r.data.length ≤ 140737488355328) (hl : FitB 64 r.slots.length) :
   Calls Tryz.prog 40 #[.agg #[.int .u64 r.b, .int .u64 r.n, .string (str r.data), .slice sa r.slots.length sc]] w fun x w' => ∃ va vc, x = .returned (.agg #[.int .u64 r.b, .int .u64 r.n, .string (str r.data), .slice va r.slots.length vc]) ∧ w'.ownsRow w.heap.size 126 8 (.slice va r.slots.length vc) r.slots.length (r.slots.flatMap PSlot.vals) ∧ Below w.heap.size w w' := by
 have hC := fun W => Clone_any r.data W hd
 have hF := fun W h1 => freshSlot_any r.slots sa sc W h1 hl
 have hB0 : Below w.heap.size w ((w.alloc (.cells #[.int .u64 r.b, .int .u64 r.n, .string (str r.data), .slice sa r.slots.length sc] 94)).alloc (.cells #[.int .u64 0, .int .u64 0, .string ⟨#[]⟩, .slice none 0 0] 94)) := (((Gr.refl w).alloc _).alloc _).below
 have RB : Box ((w.alloc (.cells #[.int .u64 r.b, .int .u64 r.n, .string (str r.data), .slice sa r.slots.length sc] 94)).alloc (.cells #[.int .u64 0, .int .u64 0, .string ⟨#[]⟩, .slice none 0 0] 94)) w.heap.size #[.int .u64 r.b, .int .u64 r.n, .string (str r.data), .slice sa r.slots.length sc] 94 := (Box.new w _ _).alloc _
 have X : Box ((w.alloc (.cells #[.int .u64 r.b, .int .u64 r.n, .string (str r.data), .slice sa r.slots.length sc] 94)).alloc (.cells #[.int .u64 0, .int .u64 0, .string ⟨#[]⟩, .slice none 0 0] 94)) (w.heap.size + 1) #[.int .u64 0, .int .u64 0, .string ⟨#[]⟩, .slice none 0 0] 94 := Box.next _ _ _ _
 replace hs := Hid.mk hs
 replace hB0 := Hid.mk hB0
 replace RB := Hid.mk RB
 replace X := Hid.mk X
 go_enter Tryz.func40, Tryz.ntmps40
 go_wp2_with fail
 refine (hC _).mono ?_
 rintro x w1 ⟨rfl, hB1⟩
 replace RB := RB.out.below hB1 RB.out.lt
 replace X := Hid.mk (X.out.below hB1 X.out.lt)
 have hB := Hid.mk (hB0.out.trans (hB1.mono hB0.out.size))
 have ⟨z0, p0, f0⟩ := RB.at
 replace RB := Hid.mk RB
 clear hB1 hB0 hC
 go_wp2_with fail
 have hV : Below w.heap.size w (w1.setCell ⟨w.heap.size, 2, none⟩ (.string (str r.data))) := hB.out.setCell (p := ⟨w.heap.size, 2, none⟩) (Nat.le_refl _) _
 have RV : Box (w1.setCell ⟨w.heap.size, 2, none⟩ (.string (str r.data))) w.heap.size #[.int .u64 r.b, .int .u64 r.n, .string (str r.data), .slice sa r.slots.length sc] 94 := RB.out.set 2 (.string (str r.data))
 have XV : Box (w1.setCell ⟨w.heap.size, 2, none⟩ (.string (str r.data))) (w.heap.size + 1) #[.int .u64 0, .int .u64 0, .string ⟨#[]⟩, .slice none 0 0] 94 := X.out.kept (grown_set w1 w.heap.size 2 (.string (str r.data))) (by omega)
 clear z0 p0 f0 RB X hB
 generalize w1.setCell ⟨w.heap.size, 2, none⟩ (.string (str r.data)) = V1 at *
 refine (hF _ ((hs.out.below hV).mono hV.size)).mono ?_
 rintro x w2 ⟨v, rfl, hO, hg⟩
 obtain ⟨va, vc, rfl⟩ := own_slice hO
 have hB2 := grown_none hg
 replace RV := RV.below hB2 RV.lt
 replace XV := XV.below hB2 XV.lt
 have hB := hV.trans (hB2.mono hV.size)
 replace hO := own_base hO hV.size
 have ⟨z0, p0, f0⟩ := RV.at
 have ⟨z1, p1, f1⟩ := XV.at
 replace RV := Hid.mk RV
 replace XV := Hid.mk XV
 replace hB := Hid.mk hB
 replace hO := Hid.mk hO
 clear hg hB2 hV hF
 go_wp2_with fail
 have X1 := XV.out.kept (grown_set w2 w.heap.size 3 (.slice va r.slots.length vc)) (by omega)
 have O1 := own_setBox (o := 3) (u := .slice va r.slots.length vc) hO.out RV.out (by decide)
 have B1 := hB.out.setCell (p := ⟨w.heap.size, 3, none⟩) (Nat.le_refl _) (.slice va r.slots.length vc)
 have b4 : Box ((((((w2.setCell ⟨w.heap.size, 3, none⟩ (.slice va r.slots.length vc))).setCell ⟨(w.heap.size + 1), 0, none⟩ (.int .u64 r.b)).setCell ⟨(w.heap.size + 1), 1, none⟩ (.int .u64 r.n)).setCell ⟨(w.heap.size + 1), 2, none⟩ (.string (str r.data))).setCell ⟨(w.heap.size + 1), 3, none⟩ (.slice va r.slots.length vc)) (w.heap.size + 1) #[.int .u64 r.b, .int .u64 r.n, .string (str r.data), .slice va r.slots.length vc] 94 := Box.setRow X1 [.int .u64 r.b, .int .u64 r.n, .string (str r.data), .slice va r.slots.length vc] rfl
 have B4 : Below w.heap.size w ((((((w2.setCell ⟨w.heap.size, 3, none⟩ (.slice va r.slots.length vc))).setCell ⟨(w.heap.size + 1), 0, none⟩ (.int .u64 r.b)).setCell ⟨(w.heap.size + 1), 1, none⟩ (.int .u64 r.n)).setCell ⟨(w.heap.size + 1), 2, none⟩ (.string (str r.data))).setCell ⟨(w.heap.size + 1), 3, none⟩ (.slice va r.slots.length vc)) := below_row [.int .u64 r.b, .int .u64 r.n, .string (str r.data), .slice va r.slots.length vc] B1 (by omega)
 have O4 : World.ownsRow ((((((w2.setCell ⟨w.heap.size, 3, none⟩ (.slice va r.slots.length vc))).setCell ⟨(w.heap.size + 1), 0, none⟩ (.int .u64 r.b)).setCell ⟨(w.heap.size + 1), 1, none⟩ (.int .u64 r.n)).setCell ⟨(w.heap.size + 1), 2, none⟩ (.string (str r.data))).setCell ⟨(w.heap.size + 1), 3, none⟩ (.slice va r.slots.length vc)) w.heap.size 126 8 (.slice va r.slots.length vc) r.slots.length (r.slots.flatMap PSlot.vals) := own_row [.int .u64 r.b, .int .u64 r.n, .string (str r.data), .slice va r.slots.length vc] O1 X1 (by decide)
 have ⟨_, q4, _⟩ := b4.at
 clear z0 p0 f0 z1 p1 f1 RV XV hB hO b4 X1 O1 B1
 generalize (((((w2.setCell ⟨w.heap.size, 3, none⟩ (.slice va r.slots.length vc))).setCell ⟨(w.heap.size + 1), 0, none⟩ (.int .u64 r.b)).setCell ⟨(w.heap.size + 1), 1, none⟩ (.int .u64 r.n)).setCell ⟨(w.heap.size + 1), 2, none⟩ (.string (str r.data))).setCell ⟨(w.heap.size + 1), 3, none⟩ (.slice va r.slots.length vc) = W4 at *
 simp [bodyPost, results, Tryz.results40, go_sem, q4]
 exact ⟨va, vc, ⟨rfl, rfl⟩, O4, B4⟩
theorem copyComp_any (c : PComp) (ra ka : Option Addr) (rc kc : Nat) (w : World) (hr : FIn 6 PRoot.vals w.heap.size w ra c.roots) (hk : LIn w.heap.size w ka c.code) (hl : FitB 48 c.roots.length) (hl2 : FitB 40 c.code.length) :
   Calls Tryz.prog 42 #[.agg #[.slice ra c.roots.length rc, .slice ka c.code.length kc]] w fun x w' => ∃ va vc ua uc, x = .returned (.agg #[.slice va c.roots.length vc, .slice ua c.code.length uc]) ∧ w'.ownsRow w.heap.size 96 6 (.slice va c.roots.length vc) c.roots.length (c.roots.flatMap PRoot.vals) ∧ LOwn w' w.heap.size (.slice ua c.code.length uc) c.code ∧ Below w.heap.size w w' := by
 have hF1 := fun W h1 => freshRoot_any c.roots ra rc W h1 hl
 have hF2 := fun W h1 => freshInst_any c.code ka kc W h1 hl2
 have hk2 := Hid.mk (lin_fin hk)
 have hB : Below w.heap.size w ((w.alloc (.cells #[.slice ra c.roots.length rc, .slice ka c.code.length kc] 53)).alloc (.cells #[.slice none 0 0, .slice none 0 0] 53)) := (((Gr.refl w).alloc _).alloc _).below
 have RB : Box ((w.alloc (.cells #[.slice ra c.roots.length rc, .slice ka c.code.length kc] 53)).alloc (.cells #[.slice none 0 0, .slice none 0 0] 53)) w.heap.size #[.slice ra c.roots.length rc, .slice ka c.code.length kc] 53 := (Box.new w _ _).alloc _
 have X : Box ((w.alloc (.cells #[.slice ra c.roots.length rc, .slice ka c.code.length kc] 53)).alloc (.cells #[.slice none 0 0, .slice none 0 0] 53)) (w.heap.size + 1) #[.slice none 0 0, .slice none 0 0] 53 := Box.next _ _ _ _
 replace hr := Hid.mk hr
 clear hk
 replace hB := Hid.mk hB
 replace RB := Hid.mk RB
 replace X := Hid.mk X
 go_enter Tryz.func42, Tryz.ntmps42
 go_wp2_with fail
 generalize (w.alloc (.cells #[.slice ra c.roots.length rc, .slice ka c.code.length kc] 53)).alloc (.cells #[.slice none 0 0, .slice none 0 0] 53) = R0 at *
 have hn1 : w.heap.size + 1 ≤ R0.heap.size := Nat.le_of_lt X.out.lt
 have KS : ∀ W, Below (w.heap.size + 1) R0 W → W.cell? ⟨w.heap.size, 0, none⟩ = some (.slice ra c.roots.length rc) ∧ W.cell? ⟨w.heap.size, 1, none⟩ = some (.slice ka c.code.length kc) := fun W hW => ⟨(hW.cell (p := ⟨w.heap.size, 0, none⟩) (Nat.lt_succ_self _)).trans (RB.out.at.2.1 0), (hW.cell (p := ⟨w.heap.size, 1, none⟩) (Nat.lt_succ_self _)).trans (RB.out.at.2.1 1)⟩
 replace KS := Hid.mk KS
 have hI1 : ∀ W, Below (w.heap.size + 1) R0 W → FIn 6 PRoot.vals W.heap.size W ra c.roots := fun W hW => (hr.out.below (hB.out.trans (hW.mono (Nat.le_succ _)))).mono (Nat.le_trans hB.out.size hW.size)
 have hI2 : ∀ W, Below (w.heap.size + 1) R0 W → FIn 5 Ins.vals W.heap.size W ka c.code := fun W hW => (hk2.out.below (hB.out.trans (hW.mono (Nat.le_succ _)))).mono (Nat.le_trans hB.out.size hW.size)
 replace hI1 := Hid.mk hI1
 replace hI2 := Hid.mk hI2
 (go_region_held3 (fun W => W.cell? ⟨w.heap.size, 0, none⟩ = some (.slice ra c.roots.length rc) ∧ W.cell? ⟨w.heap.size, 1, none⟩ = some (.slice ka c.code.length kc)) (first | (refine KS.out _ ?_; ((repeat (first | assumption | with_reducible exact Below.refl _ _ | with_reducible refine Below.drew ?_ | with_reducible refine Below.setCell (p := ⟨w.heap.size + 1, _, none⟩) ?_ (Nat.le_refl _) _))); done) | exact KS.out _ (Below.drew ((Below.setCell (p := ⟨w.heap.size + 1, 1, none⟩) (Below.setCell (p := ⟨w.heap.size + 1, 0, none⟩) (by assumption) (Nat.le_refl _) _) (Nat.le_refl _) _))) | exact KS.out _ (Below.setCell (p := ⟨w.heap.size + 1, 1, none⟩) (Below.setCell (p := ⟨w.heap.size + 1, 0, none⟩) (by assumption) (Nat.le_refl _) _) (Nat.le_refl _) _)) (first | (go_at_call 68; refine (hF1 _ (hI1.out _ (by ((repeat (first | assumption | with_reducible exact Below.refl _ _ | with_reducible refine Below.drew ?_ | with_reducible refine Below.setCell (p := ⟨w.heap.size + 1, _, none⟩) ?_ (Nat.le_refl _) _)))))).mono ?_; rintro x w1 ⟨v, rfl, hO1, hg1⟩; obtain ⟨va, vc, rfl⟩ := own_slice hO1; have d1 : Below R0.heap.size R0 w1 := step_below (by ((repeat (first | assumption | with_reducible exact Below.refl _ _ | with_reducible refine Below.drew ?_ | with_reducible refine Below.setCell (p := ⟨w.heap.size + 1, _, none⟩) ?_ (Nat.le_refl _) _)))) (Nat.le_refl _) hg1; have b1 : Below (w.heap.size + 1) R0 w1 := d1.mono hn1) | (go_at_call 69; refine (hF2 _ (hI2.out _ (by ((repeat (first | assumption | with_reducible exact Below.refl _ _ | with_reducible refine Below.drew ?_ | with_reducible refine Below.setCell (p := ⟨w.heap.size + 1, _, none⟩) ?_ (Nat.le_refl _) _)))))).mono ?_; rintro x w2 ⟨v, rfl, hO2, hg2⟩; obtain ⟨ua, uc, rfl⟩ := own_slice hO2; have d2 : Below R0.heap.size R0 w2 := step_below (by ((repeat (first | assumption | with_reducible exact Below.refl _ _ | with_reducible refine Below.drew ?_ | with_reducible refine Below.setCell (p := ⟨w.heap.size + 1, _, none⟩) ?_ (Nat.le_refl _) _)))) (Nat.le_refl _) hg2; have b2 : Below (w.heap.size + 1) R0 w2 := d2.mono hn1; have ⟨z1, p1, f1⟩ := (X.out.below d2 X.out.lt).at)))
 go_wp2_with fail
 have X2 := X.out.below d2 X.out.lt
 have O1 := own_base (own_below hO1 (grown_none hg2)) hB.out.size
 have O2 := own_base hO2 (Nat.le_trans hB.out.size d1.size)
 have B2 := hB.out.trans (d2.mono hB.out.size)
 have b4 : Box (((w2).setCell ⟨(w.heap.size + 1), 0, none⟩ (.slice va c.roots.length vc)).setCell ⟨(w.heap.size + 1), 1, none⟩ (.slice ua c.code.length uc)) (w.heap.size + 1) #[.slice va c.roots.length vc, .slice ua c.code.length uc] 53 := Box.setRow X2 [.slice va c.roots.length vc, .slice ua c.code.length uc] rfl
 have B4 : Below w.heap.size w (((w2).setCell ⟨(w.heap.size + 1), 0, none⟩ (.slice va c.roots.length vc)).setCell ⟨(w.heap.size + 1), 1, none⟩ (.slice ua c.code.length uc)) := below_row [.slice va c.roots.length vc, .slice ua c.code.length uc] B2 (by omega)
 have O3 : World.ownsRow (((w2).setCell ⟨(w.heap.size + 1), 0, none⟩ (.slice va c.roots.length vc)).setCell ⟨(w.heap.size + 1), 1, none⟩ (.slice ua c.code.length uc)) w.heap.size 96 6 (.slice va c.roots.length vc) c.roots.length (c.roots.flatMap PRoot.vals) := own_row [.slice va c.roots.length vc, .slice ua c.code.length uc] O1 X2 (by decide)
 have O4 : LOwn (((w2).setCell ⟨(w.heap.size + 1), 0, none⟩ (.slice va c.roots.length vc)).setCell ⟨(w.heap.size + 1), 1, none⟩ (.slice ua c.code.length uc)) w.heap.size (.slice ua c.code.length uc) c.code := own_row [.slice va c.roots.length vc, .slice ua c.code.length uc] O2 X2 (by decide)
 have ⟨_, q4, _⟩ := b4.at
 clear z1 p1 f1 RB X hB b4 X2 O1 O2 B2
 generalize ((w2).setCell ⟨(w.heap.size + 1), 0, none⟩ (.slice va c.roots.length vc)).setCell ⟨(w.heap.size + 1), 1, none⟩ (.slice ua c.code.length uc) = W4 at *
 simp [bodyPost, results, Tryz.results42, go_sem, q4]
 exact ⟨va, vc, ua, uc, ⟨⟨rfl, rfl⟩, rfl, rfl⟩, O3, O4, B4⟩
theorem copyGate_any (g : PGate) (xa ya : Option Addr) (xc yc : Nat) (w : World) (hr : FIn 7 PTyp.vals w.heap.size w xa g.args) (hk : FIn 7 PTyp.vals w.heap.size w ya g.res) (hl : FitB 56 g.args.length) (hl2 : FitB 56 g.res.length) :
   Calls Tryz.prog 44 #[.agg #[.int .i64 g.c, .int .i64 g.e, .slice xa g.args.length xc, .slice ya g.res.length yc]] w fun x w' => ∃ va vc ua uc, x = .returned (.agg #[.int .i64 g.c, .int .i64 g.e, .slice va g.args.length vc, .slice ua g.res.length uc]) ∧ w'.ownsRow w.heap.size 103 7 (.slice va g.args.length vc) g.args.length (g.args.flatMap PTyp.vals) ∧ w'.ownsRow w.heap.size 103 7 (.slice ua g.res.length uc) g.res.length (g.res.flatMap PTyp.vals) ∧ Below w.heap.size w w' := by
 have hF1 := fun W h1 => freshType_any g.args xa xc W h1 hl
 have hF2 := fun W h1 => freshType_any g.res ya yc W h1 hl2
 have hB : Below w.heap.size w ((w.alloc (.cells #[.int .i64 g.c, .int .i64 g.e, .slice xa g.args.length xc, .slice ya g.res.length yc] 56)).alloc (.cells #[.int .i64 0, .int .i64 0, .slice none 0 0, .slice none 0 0] 56)) := (((Gr.refl w).alloc _).alloc _).below
 have RB : Box ((w.alloc (.cells #[.int .i64 g.c, .int .i64 g.e, .slice xa g.args.length xc, .slice ya g.res.length yc] 56)).alloc (.cells #[.int .i64 0, .int .i64 0, .slice none 0 0, .slice none 0 0] 56)) w.heap.size #[.int .i64 g.c, .int .i64 g.e, .slice xa g.args.length xc, .slice ya g.res.length yc] 56 := (Box.new w _ _).alloc _
 have X : Box ((w.alloc (.cells #[.int .i64 g.c, .int .i64 g.e, .slice xa g.args.length xc, .slice ya g.res.length yc] 56)).alloc (.cells #[.int .i64 0, .int .i64 0, .slice none 0 0, .slice none 0 0] 56)) (w.heap.size + 1) #[.int .i64 0, .int .i64 0, .slice none 0 0, .slice none 0 0] 56 := Box.next _ _ _ _
 replace hr := Hid.mk hr
 replace hk := Hid.mk hk
 replace hB := Hid.mk hB
 replace RB := Hid.mk RB
 replace X := Hid.mk X
 go_enter Tryz.func44, Tryz.ntmps44
 go_wp2_with fail
 generalize (w.alloc (.cells #[.int .i64 g.c, .int .i64 g.e, .slice xa g.args.length xc, .slice ya g.res.length yc] 56)).alloc (.cells #[.int .i64 0, .int .i64 0, .slice none 0 0, .slice none 0 0] 56) = R0 at *
 have hI1 : ∀ W, Below R0.heap.size R0 W → FIn 7 PTyp.vals W.heap.size W xa g.args := fun W hW => (hr.out.below (hB.out.trans (hW.mono hB.out.size))).mono (Nat.le_trans hB.out.size hW.size)
 have hI2 : ∀ W, Below R0.heap.size R0 W → FIn 7 PTyp.vals W.heap.size W ya g.res := fun W hW => (hk.out.below (hB.out.trans (hW.mono hB.out.size))).mono (Nat.le_trans hB.out.size hW.size)
 replace hI1 := Hid.mk hI1
 replace hI2 := Hid.mk hI2
 have ⟨z0, p0, f0⟩ := RB.out.at
 go_region_with (go_at_call 70; first | (refine (hF1 _ (hI1.out _ (by ((repeat (first | assumption | with_reducible exact Below.refl _ _ | with_reducible refine Below.drew ?_)))))).mono ?_; rintro x w1 ⟨v, rfl, hO1, hg1⟩; obtain ⟨va, vc, rfl⟩ := own_slice hO1; have d1 : Below R0.heap.size R0 w1 := step_below (by ((repeat (first | assumption | with_reducible exact Below.refl _ _ | with_reducible refine Below.drew ?_)))) (Nat.le_refl _) hg1; have ⟨z1, p1, f1⟩ := (RB.out.below d1 RB.out.lt).at) | (refine (hF2 _ (hI2.out _ (by ((repeat (first | assumption | with_reducible exact Below.refl _ _ | with_reducible refine Below.drew ?_)))))).mono ?_; rintro x w2 ⟨v, rfl, hO2, hg2⟩; obtain ⟨ua, uc, rfl⟩ := own_slice hO2; have d2 : Below R0.heap.size R0 w2 := step_below (by ((repeat (first | assumption | with_reducible exact Below.refl _ _ | with_reducible refine Below.drew ?_)))) (Nat.le_refl _) hg2; have ⟨z2, p2, f2⟩ := (RB.out.below d2 RB.out.lt).at))
 all_goals
   have G2 := RB.out.below d2 RB.out.lt
   have X2 := X.out.below d2 X.out.lt
   have O1 := own_base (own_below hO1 (grown_none hg2)) hB.out.size
   have O2 := own_base hO2 (Nat.le_trans hB.out.size d1.size)
   have B2 := hB.out.trans (d2.mono hB.out.size)
   have B3 : Below w.heap.size w ((w2.setCell ⟨w.heap.size, 2, none⟩ (.slice va g.args.length vc)).setCell ⟨w.heap.size, 3, none⟩ (.slice ua g.res.length uc)) := (B2.setCell (p := ⟨w.heap.size, 2, none⟩) (Nat.le_refl _) _).setCell (p := ⟨w.heap.size, 3, none⟩) (Nat.le_refl _) _
   have X3 : Box ((w2.setCell ⟨w.heap.size, 2, none⟩ (.slice va g.args.length vc)).setCell ⟨w.heap.size, 3, none⟩ (.slice ua g.res.length uc)) (w.heap.size + 1) #[.int .i64 0, .int .i64 0, .slice none 0 0, .slice none 0 0] 56 := (X2.kept (grown_set _ _ _ _) (by omega)).kept (grown_set _ _ _ _) (by omega)
   have G3 : Box ((w2.setCell ⟨w.heap.size, 2, none⟩ (.slice va g.args.length vc)).setCell ⟨w.heap.size, 3, none⟩ (.slice ua g.res.length uc)) w.heap.size #[.int .i64 g.c, .int .i64 g.e, .slice va g.args.length vc, .slice ua g.res.length uc] 56 := (G2.set 2 (.slice va g.args.length vc)).set 3 (.slice ua g.res.length uc)
   have P3 : World.ownsRow ((w2.setCell ⟨w.heap.size, 2, none⟩ (.slice va g.args.length vc)).setCell ⟨w.heap.size, 3, none⟩ (.slice ua g.res.length uc)) w.heap.size 103 7 (.slice va g.args.length vc) g.args.length (g.args.flatMap PTyp.vals) := own_setBox (own_setBox O1 G2 (by decide)) (G2.set 2 _) (by decide)
   have Q3 : World.ownsRow ((w2.setCell ⟨w.heap.size, 2, none⟩ (.slice va g.args.length vc)).setCell ⟨w.heap.size, 3, none⟩ (.slice ua g.res.length uc)) w.heap.size 103 7 (.slice ua g.res.length uc) g.res.length (g.res.flatMap PTyp.vals) := own_setBox (own_setBox O2 G2 (by decide)) (G2.set 2 _) (by decide)
   clear p0 f0 p1 f1 p2 f2 z0 z1 z2 G2 X2 O1 O2 B2 hO1 hO2 hg1 hg2 d1 d2 hI1 hI2 hF1 hF2 RB X hB hr hk
   generalize (w2.setCell ⟨w.heap.size, 2, none⟩ (.slice va g.args.length vc)).setCell ⟨w.heap.size, 3, none⟩ (.slice ua g.res.length uc) = V2 at *
   have ⟨z0, p0, f0⟩ := G3.at
   have ⟨z1, p1, f1⟩ := X3.at
   replace G3 := Hid.mk G3
   replace X3 := Hid.mk X3
   replace B3 := Hid.mk B3
   replace P3 := Hid.mk P3
   replace Q3 := Hid.mk Q3
   go_wp2_with fail
   have b4 : Box (((((V2).setCell ⟨(w.heap.size + 1), 0, none⟩ (.int .i64 g.c)).setCell ⟨(w.heap.size + 1), 1, none⟩ (.int .i64 g.e)).setCell ⟨(w.heap.size + 1), 2, none⟩ (.slice va g.args.length vc)).setCell ⟨(w.heap.size + 1), 3, none⟩ (.slice ua g.res.length uc)) (w.heap.size + 1) #[.int .i64 g.c, .int .i64 g.e, .slice va g.args.length vc, .slice ua g.res.length uc] 56 := Box.setRow X3.out [.int .i64 g.c, .int .i64 g.e, .slice va g.args.length vc, .slice ua g.res.length uc] rfl
   have B4 : Below w.heap.size w (((((V2).setCell ⟨(w.heap.size + 1), 0, none⟩ (.int .i64 g.c)).setCell ⟨(w.heap.size + 1), 1, none⟩ (.int .i64 g.e)).setCell ⟨(w.heap.size + 1), 2, none⟩ (.slice va g.args.length vc)).setCell ⟨(w.heap.size + 1), 3, none⟩ (.slice ua g.res.length uc)) := below_row [.int .i64 g.c, .int .i64 g.e, .slice va g.args.length vc, .slice ua g.res.length uc] B3.out (by omega)
   have O3 : World.ownsRow (((((V2).setCell ⟨(w.heap.size + 1), 0, none⟩ (.int .i64 g.c)).setCell ⟨(w.heap.size + 1), 1, none⟩ (.int .i64 g.e)).setCell ⟨(w.heap.size + 1), 2, none⟩ (.slice va g.args.length vc)).setCell ⟨(w.heap.size + 1), 3, none⟩ (.slice ua g.res.length uc)) w.heap.size 103 7 (.slice va g.args.length vc) g.args.length (g.args.flatMap PTyp.vals) := own_row [.int .i64 g.c, .int .i64 g.e, .slice va g.args.length vc, .slice ua g.res.length uc] P3.out X3.out (by decide)
   have O4 : World.ownsRow (((((V2).setCell ⟨(w.heap.size + 1), 0, none⟩ (.int .i64 g.c)).setCell ⟨(w.heap.size + 1), 1, none⟩ (.int .i64 g.e)).setCell ⟨(w.heap.size + 1), 2, none⟩ (.slice va g.args.length vc)).setCell ⟨(w.heap.size + 1), 3, none⟩ (.slice ua g.res.length uc)) w.heap.size 103 7 (.slice ua g.res.length uc) g.res.length (g.res.flatMap PTyp.vals) := own_row [.int .i64 g.c, .int .i64 g.e, .slice va g.args.length vc, .slice ua g.res.length uc] Q3.out X3.out (by decide)
   have ⟨_, q4, _⟩ := b4.at
   clear z0 p0 f0 z1 p1 f1 G3 X3 B3 P3 Q3 b4
   generalize ((((V2).setCell ⟨(w.heap.size + 1), 0, none⟩ (.int .i64 g.c)).setCell ⟨(w.heap.size + 1), 1, none⟩ (.int .i64 g.e)).setCell ⟨(w.heap.size + 1), 2, none⟩ (.slice va g.args.length vc)).setCell ⟨(w.heap.size + 1), 3, none⟩ (.slice ua g.res.length uc) = W4 at *
   simp [bodyPost, results, Tryz.results44, go_sem, q4]
   exact ⟨va, vc, ua, uc, ⟨⟨rfl, rfl⟩, rfl, rfl⟩, O3, O4, B4⟩
end Go.Proofs.YtiigpncfmakgjaaGreatDoor


namespace Go.Proofs.YtiigpncfmakgjaaGreatDoor
set_option maxRecDepth 100000
set_option maxHeartbeats 40000000
open Go.RowKit

theorem wpList_append_el2 {ops : Array Oper} {rest : List Oper} {o : Oper} {a : Act} {Q : Exit → Act → World → Prop} {w : World} (hgd : o.guard = none) (s x : Operand) (t e : TypeId) (z : Value) (size bytes : Nat)
   (ho : o.op = .call { callee := .builtin .append, args := #[s, x], argTypes := #[t, t] }) (ht : Tryz.prog.underlying t = some (.slice e))
   (hi : (Tryz.prog.info? e).map (fun i => (i.zero, i.size, i.bytes)) = some (some z, size, bytes)) (hz : z.cells.size = size) (hsz : 0 < size) (hby : 0 < bytes)
   (base : Nat) (v : Value) (n : Nat) (xs cs : List Value) (hs : a.eval s = v) (hown : w.ownsRow base e size v n xs) (X : Nat) (hx : a.eval x = .slice (some ⟨X, 0, none⟩) 1 1) (hX : At w X cs.toArray) (hc : cs.length = size) (h1 : ∀ u ∈ cs, u.oneCell' = true)
   (hlen : FitB bytes (n + 1)) (hbase : base ≤ w.heap.size)
   (h : ∀ g cap w', w'.ownsRow base e size (.slice (some ⟨g, 0, none⟩) (n + 1) cap) (n + 1) (xs ++ cs) → w.grownBy w' v.ownBlock → wpList Tryz.prog ops Q rest (a.put o.dst (.slice (some ⟨g, 0, none⟩) (n + 1) cap)) w') :
   wpList Tryz.prog ops Q (o :: rest) a w := by
 obtain ⟨i0, hi0, hz0, hz1, hz2⟩ := info_parts hi
 unfold FitB at hlen
 have hb : (n + 1) * bytes ≤ 140737488355328 := hlen
 have hb1 := Nat.le_mul_of_pos_right (n + 1) hby
 refine wpList_append_lies _ hgd s x t ho base e i0 z size bytes ht hi0 hz0 hz1 hz2 hz hsz v n xs hs hown ⟨X, 0, none⟩ 1 1 cs hx (by omega) (news_at hX) h1 (by decide) (by unfold maxLen; omega) hb hbase _ rfl ?_
 intro g cap w' k1 k2 _ _
 exact h g cap w' k1 k2
theorem FitB.le {k m n : Nat} (h : FitB k n) (hm : m ≤ n) : FitB k m := by unfold FitB at *; exact Nat.le_trans (Nat.mul_le_mul_right _ hm) h
theorem copiedRegion_any (L : List PReg) (a : Option Addr) (c : Nat) (w : World) (h : RegIn w.heap.size w a L) (hr : ∀ r ∈ L, r.data.length ≤ 140737488355328 ∧ FitB 64 r.slots.length) (hl : FitB 56 L.length) :
   Calls Tryz.prog 39 #[.slice a L.length c, .func (.func 40) #[] #[]] w fun x w' => ∃ v, x = .returned v ∧ ∃ css, w'.ownsRow w.heap.size 94 4 v L.length css.flatten ∧ All2 (RegC w.heap.size w') css L ∧ Below w.heap.size w w' := by
 replace h := Hid.mk h
 replace hr := Hid.mk hr
 have hl1 : (L.length : Int) ≤ 140737488355328 := by unfold FitB at hl; omega
 replace hl := Hid.mk hl
 go_enter Tryz.func39, Tryz.ntmps39
 go_wp2_with fail
 go_loopw [5, 10] (fun l i wr => ∃ (j : Nat) (css : List (List Value)), i = .int .i64 j ∧ j ≤ L.length ∧ Hid (wr.ownsRow w.heap.size 94 4 l j css.flatten ∧ All2 (RegC w.heap.size wr) css (L.take j) ∧ Below w.heap.size w wr)) (fun _ i _ => L.length - (intOf i).toNat)
 case atStart => exact ⟨0, [], rfl, by omega, ⟨⟨rfl, .inl ⟨rfl, rfl⟩⟩, trivial, Below.refl _ _⟩⟩
 case round =>
   obtain ⟨j, css, rfl, hj, ⟨hO, hE, hB⟩⟩ := hrel
   obtain ⟨la, lc, rfl⟩ := own_slice hO
   by_cases hlt : j < L.length
   · have jl : (j : Int) < L.length := by omega
     obtain ⟨b, off, sa, sc, rfl, hb, hb2, c0, c1, c2, c3, hs⟩ := (h.out.below hB) j hlt
     have hq := hr.out L[j] (List.getElem_mem hlt)
     have hsn : L.take (j + 1) = L.take j ++ [L[j]] := List.take_succ_eq_append_getElem hlt
     have hG1 : Gr wr (wr.alloc (.cells #[.int .u64 L[j].b, .int .u64 L[j].n, .string (str L[j].data), .slice sa L[j].slots.length sc] 94)) := (Gr.refl wr).alloc _
     have hB1 := hB.trans (hG1.below.mono hB.size)
     have hc := copyRegion_any L[j] sa sc _ ((hs.below (hG1.below.mono hB.size)).mono hB1.size) hq.1 hq.2
     generalize L[j] = r at *
     have hO1 := own_below hO hG1.below
     have hE1 : All2 (RegC w.heap.size _) css (L.take j) := hE.imp fun _ _ q => q.step (grown_of hG1.below none) (nes_none _)
     replace hsn := Hid.mk hsn
     replace hc := Hid.mk hc
     replace hB1 := Hid.mk hB1
     replace hO1 := Hid.mk hO1
     replace hE1 := Hid.mk hE1
     clear hO hE hB hG1
     go_wp2_with fail
     refine hc.out.mono ?_
     rintro z w1 ⟨va, vc, rfl, hn1, hB2⟩
     have hN : RegC w.heap.size w1 [.int .u64 r.b, .int .u64 r.n, .string (str r.data), .slice va r.slots.length vc] r := ⟨va, vc, rfl, own_base hn1 hB1.out.size⟩
     have hO2 := own_below hO1.out hB2
     have hE2 := (hE1.out.imp fun _ _ q => q.step (grown_of hB2 none) (nes_none _)).snoc hN
     have hG3 : Gr w1 (w1.alloc (.cells #[.int .u64 r.b, .int .u64 r.n, .string (str r.data), .slice va r.slots.length vc] 94)) := (Gr.refl w1).alloc _
     have hA : At (w1.alloc (.cells #[.int .u64 r.b, .int .u64 r.n, .string (str r.data), .slice va r.slots.length vc] 94)) w1.heap.size [Value.int .u64 r.b, .int .u64 r.n, .string (str r.data), .slice va r.slots.length vc].toArray := At.new _ _ _
     replace hO2 := Hid.mk (own_below hO2 hG3.below)
     replace hE2 := Hid.mk (hE2.imp fun _ _ q => q.step (grown_of hG3.below none) (nes_none _))
     have hB := Hid.mk ((hB1.out.trans (hB2.mono hB1.out.size)).trans (hG3.below.mono (Nat.le_trans hB1.out.size hB2.size)))
     have hs := Hid.mk hB.out.size
     replace hA := Hid.mk hA
     have hf := Hid.mk (hl.out.le (show j + 1 ≤ L.length by omega))
     clear hG3 hB2 hN hc hO1 hE1 hB1 hn1
     go_wp2_with (at_builtin; refine wpList_append_el2 rfl (.tmp 14) (.tmp 18) 22 94 _ 4 56 rfl Tryz.underlying22 infoRegion rfl (by decide) (by decide) w.heap.size (.slice la j lc) j css.flatten [Value.int .u64 r.b, .int .u64 r.n, .string (str r.data), .slice va r.slots.length vc] rfl hO2.out w1.heap.size rfl hA.out rfl (by simp [Value.oneCell']) hf.out hs.out ?_)
     intro gg cc w5 hrow hgr
     replace hE2 := Hid.mk (hE2.out.imp fun _ _ q => q.step hgr (nes_own hO2.out (by decide) (by decide) (by decide) (by decide)))
     replace hB := Hid.mk (hB.out.trans (Below.of_grown hgr hs.out (fun i hq => (own_block hO2.out i hq).1)))
     replace hrow := Hid.mk hrow
     clear hgr hO2 hs hA
     go_wp2_with fail
     go_roundw
     case rel => exact ⟨j + 1, css ++ [[.int .u64 r.b, .int .u64 r.n, .string (str r.data), .slice va r.slots.length vc]], by simp, by omega, ⟨by rw [flat_snoc2]; exact hrow.out, by rw [hsn.out]; exact hE2.out, hB.out⟩⟩
     case measure => simp [intOf]; omega
   · have jl : ¬ (j : Int) < L.length := by omega
     have hjl : j = L.length := by omega
     subst hjl
     rw [List.take_length] at hE
     replace hO := Hid.mk hO
     replace hE := Hid.mk hE
     replace hB := Hid.mk hB
     go_wp2_with fail
     go_ret
     exact ⟨_, rfl, css, hO.out, hE.out, hB.out⟩
theorem copiedComp_any (L : List PComp) (a : Option Addr) (c : Nat) (w : World) (h : CompIn w.heap.size w a L) (hr : ∀ r ∈ L, FitB 48 r.roots.length ∧ FitB 40 r.code.length) (hl : FitB 48 L.length) :
   Calls Tryz.prog 41 #[.slice a L.length c, .func (.func 42) #[] #[]] w fun x w' => ∃ v, x = .returned v ∧ ∃ css, w'.ownsRow w.heap.size 53 2 v L.length css.flatten ∧ All2 (CompC w.heap.size w') css L ∧ Below w.heap.size w w' := by
 replace h := Hid.mk h
 replace hr := Hid.mk hr
 have hl1 : (L.length : Int) ≤ 140737488355328 := by unfold FitB at hl; omega
 replace hl := Hid.mk hl
 go_enter Tryz.func41, Tryz.ntmps41
 go_wp2_with fail
 go_loopw [5, 10] (fun l i wr => ∃ (j : Nat) (css : List (List Value)), i = .int .i64 j ∧ j ≤ L.length ∧ Hid (wr.ownsRow w.heap.size 53 2 l j css.flatten ∧ All2 (CompC w.heap.size wr) css (L.take j) ∧ Below w.heap.size w wr)) (fun _ i _ => L.length - (intOf i).toNat)
 case atStart => exact ⟨0, [], rfl, by omega, ⟨⟨rfl, .inl ⟨rfl, rfl⟩⟩, trivial, Below.refl _ _⟩⟩
 case round =>
   obtain ⟨j, css, rfl, hj, ⟨hO, hE, hB⟩⟩ := hrel
   obtain ⟨la, lc, rfl⟩ := own_slice hO
   by_cases hlt : j < L.length
   · have jl : (j : Int) < L.length := by omega
     obtain ⟨b, off, ra, rc, ka, kc, rfl, hb, hb2, c0, c1, hs, hs2⟩ := (h.out.below hB) j hlt
     have hq := hr.out L[j] (List.getElem_mem hlt)
     have hsn : L.take (j + 1) = L.take j ++ [L[j]] := List.take_succ_eq_append_getElem hlt
     have hG1 : Gr wr (wr.alloc (.cells #[.slice ra L[j].roots.length rc, .slice ka L[j].code.length kc] 53)) := (Gr.refl wr).alloc _
     have hB1 := hB.trans (hG1.below.mono hB.size)
     have hc := copyComp_any L[j] ra ka rc kc _ ((hs.below (hG1.below.mono hB.size)).mono hB1.size) ((hs2.below (hG1.below.mono hB.size)).mono hB1.size) hq.1 hq.2
     generalize L[j] = r at *
     have hO1 := own_below hO hG1.below
     have hE1 : All2 (CompC w.heap.size _) css (L.take j) := hE.imp fun _ _ q => q.step (grown_of hG1.below none) (nes_none _)
     replace hsn := Hid.mk hsn
     replace hc := Hid.mk hc
     replace hB1 := Hid.mk hB1
     replace hO1 := Hid.mk hO1
     replace hE1 := Hid.mk hE1
     clear hO hE hB hG1
     go_wp2_with fail
     refine hc.out.mono ?_
     rintro z w1 ⟨va, vc, ua, uc, rfl, hn1, hn2, hB2⟩
     have hN : CompC w.heap.size w1 [.slice va r.roots.length vc, .slice ua r.code.length uc] r := ⟨va, vc, ua, uc, rfl, own_base hn1 hB1.out.size, own_base hn2 hB1.out.size⟩
     have hO2 := own_below hO1.out hB2
     have hE2 := (hE1.out.imp fun _ _ q => q.step (grown_of hB2 none) (nes_none _)).snoc hN
     have hG3 : Gr w1 (w1.alloc (.cells #[.slice va r.roots.length vc, .slice ua r.code.length uc] 53)) := (Gr.refl w1).alloc _
     have hA : At (w1.alloc (.cells #[.slice va r.roots.length vc, .slice ua r.code.length uc] 53)) w1.heap.size [Value.slice va r.roots.length vc, .slice ua r.code.length uc].toArray := At.new _ _ _
     replace hO2 := Hid.mk (own_below hO2 hG3.below)
     replace hE2 := Hid.mk (hE2.imp fun _ _ q => q.step (grown_of hG3.below none) (nes_none _))
     have hB := Hid.mk ((hB1.out.trans (hB2.mono hB1.out.size)).trans (hG3.below.mono (Nat.le_trans hB1.out.size hB2.size)))
     have hs := Hid.mk hB.out.size
     replace hA := Hid.mk hA
     have hf := Hid.mk (hl.out.le (show j + 1 ≤ L.length by omega))
     clear hG3 hB2 hN hc hO1 hE1 hB1 hn1 hn2
     go_wp2_with (at_builtin; refine wpList_append_el2 rfl (.tmp 14) (.tmp 18) 23 53 _ 2 48 rfl Tryz.underlying23 infoComp rfl (by decide) (by decide) w.heap.size (.slice la j lc) j css.flatten [Value.slice va r.roots.length vc, .slice ua r.code.length uc] rfl hO2.out w1.heap.size rfl hA.out rfl (by simp [Value.oneCell']) hf.out hs.out ?_)
     intro gg cc w5 hrow hgr
     replace hE2 := Hid.mk (hE2.out.imp fun _ _ q => q.step hgr (nes_own hO2.out (by decide) (by decide) (by decide) (by decide)))
     replace hB := Hid.mk (hB.out.trans (Below.of_grown hgr hs.out (fun i hq => (own_block hO2.out i hq).1)))
     replace hrow := Hid.mk hrow
     clear hgr hO2 hs hA
     go_wp2_with fail
     go_roundw
     case rel => exact ⟨j + 1, css ++ [[.slice va r.roots.length vc, .slice ua r.code.length uc]], by simp, by omega, ⟨by rw [flat_snoc2]; exact hrow.out, by rw [hsn.out]; exact hE2.out, hB.out⟩⟩
     case measure => simp [intOf]; omega
   · have jl : ¬ (j : Int) < L.length := by omega
     have hjl : j = L.length := by omega
     subst hjl
     rw [List.take_length] at hE
     replace hO := Hid.mk hO
     replace hE := Hid.mk hE
     replace hB := Hid.mk hB
     go_wp2_with fail
     go_ret
     exact ⟨_, rfl, css, hO.out, hE.out, hB.out⟩
theorem copiedGate_any (L : List PGate) (a : Option Addr) (c : Nat) (w : World) (h : GateIn w.heap.size w a L) (hr : ∀ r ∈ L, FitB 56 r.args.length ∧ FitB 56 r.res.length) (hl : FitB 64 L.length) :
   Calls Tryz.prog 43 #[.slice a L.length c, .func (.func 44) #[] #[]] w fun x w' => ∃ v, x = .returned v ∧ ∃ css, w'.ownsRow w.heap.size 56 4 v L.length css.flatten ∧ All2 (GateC w.heap.size w') css L ∧ Below w.heap.size w w' := by
 replace h := Hid.mk h
 replace hr := Hid.mk hr
 have hl1 : (L.length : Int) ≤ 140737488355328 := by unfold FitB at hl; omega
 replace hl := Hid.mk hl
 go_enter Tryz.func43, Tryz.ntmps43
 go_wp2_with fail
 go_loopw [5, 10] (fun l i wr => ∃ (j : Nat) (css : List (List Value)), i = .int .i64 j ∧ j ≤ L.length ∧ Hid (wr.ownsRow w.heap.size 56 4 l j css.flatten ∧ All2 (GateC w.heap.size wr) css (L.take j) ∧ Below w.heap.size w wr)) (fun _ i _ => L.length - (intOf i).toNat)
 case atStart => exact ⟨0, [], rfl, by omega, ⟨⟨rfl, .inl ⟨rfl, rfl⟩⟩, trivial, Below.refl _ _⟩⟩
 case round =>
   obtain ⟨j, css, rfl, hj, ⟨hO, hE, hB⟩⟩ := hrel
   obtain ⟨la, lc, rfl⟩ := own_slice hO
   by_cases hlt : j < L.length
   · have jl : (j : Int) < L.length := by omega
     obtain ⟨b, off, xa, xc, ya, yc, rfl, hb, hb2, c0, c1, c2, c3, hs, hs2⟩ := (h.out.below hB) j hlt
     have hq := hr.out L[j] (List.getElem_mem hlt)
     have hsn : L.take (j + 1) = L.take j ++ [L[j]] := List.take_succ_eq_append_getElem hlt
     have hG1 : Gr wr (wr.alloc (.cells #[.int .i64 L[j].c, .int .i64 L[j].e, .slice xa L[j].args.length xc, .slice ya L[j].res.length yc] 56)) := (Gr.refl wr).alloc _
     have hB1 := hB.trans (hG1.below.mono hB.size)
     have hc := copyGate_any L[j] xa ya xc yc _ ((hs.below (hG1.below.mono hB.size)).mono hB1.size) ((hs2.below (hG1.below.mono hB.size)).mono hB1.size) hq.1 hq.2
     generalize L[j] = r at *
     have hO1 := own_below hO hG1.below
     have hE1 : All2 (GateC w.heap.size _) css (L.take j) := hE.imp fun _ _ q => q.step (grown_of hG1.below none) (nes_none _)
     replace hsn := Hid.mk hsn
     replace hc := Hid.mk hc
     replace hB1 := Hid.mk hB1
     replace hO1 := Hid.mk hO1
     replace hE1 := Hid.mk hE1
     clear hO hE hB hG1
     go_wp2_with fail
     refine hc.out.mono ?_
     rintro z w1 ⟨va, vc, ua, uc, rfl, hn1, hn2, hB2⟩
     have hN : GateC w.heap.size w1 [.int .i64 r.c, .int .i64 r.e, .slice va r.args.length vc, .slice ua r.res.length uc] r := ⟨va, vc, ua, uc, rfl, own_base hn1 hB1.out.size, own_base hn2 hB1.out.size⟩
     have hO2 := own_below hO1.out hB2
     have hE2 := (hE1.out.imp fun _ _ q => q.step (grown_of hB2 none) (nes_none _)).snoc hN
     have hG3 : Gr w1 (w1.alloc (.cells #[.int .i64 r.c, .int .i64 r.e, .slice va r.args.length vc, .slice ua r.res.length uc] 56)) := (Gr.refl w1).alloc _
     have hA : At (w1.alloc (.cells #[.int .i64 r.c, .int .i64 r.e, .slice va r.args.length vc, .slice ua r.res.length uc] 56)) w1.heap.size [Value.int .i64 r.c, .int .i64 r.e, .slice va r.args.length vc, .slice ua r.res.length uc].toArray := At.new _ _ _
     replace hO2 := Hid.mk (own_below hO2 hG3.below)
     replace hE2 := Hid.mk (hE2.imp fun _ _ q => q.step (grown_of hG3.below none) (nes_none _))
     have hB := Hid.mk ((hB1.out.trans (hB2.mono hB1.out.size)).trans (hG3.below.mono (Nat.le_trans hB1.out.size hB2.size)))
     have hs := Hid.mk hB.out.size
     replace hA := Hid.mk hA
     have hf := Hid.mk (hl.out.le (show j + 1 ≤ L.length by omega))
     clear hG3 hB2 hN hc hO1 hE1 hB1 hn1 hn2
     go_wp2_with (at_builtin; refine wpList_append_el2 rfl (.tmp 14) (.tmp 18) 24 56 _ 4 64 rfl Tryz.underlying24 infoGate rfl (by decide) (by decide) w.heap.size (.slice la j lc) j css.flatten [Value.int .i64 r.c, .int .i64 r.e, .slice va r.args.length vc, .slice ua r.res.length uc] rfl hO2.out w1.heap.size rfl hA.out rfl (by simp [Value.oneCell']) hf.out hs.out ?_)
     intro gg cc w5 hrow hgr
     replace hE2 := Hid.mk (hE2.out.imp fun _ _ q => q.step hgr (nes_own hO2.out (by decide) (by decide) (by decide) (by decide)))
     replace hB := Hid.mk (hB.out.trans (Below.of_grown hgr hs.out (fun i hq => (own_block hO2.out i hq).1)))
     replace hrow := Hid.mk hrow
     clear hgr hO2 hs hA
     go_wp2_with fail
     go_roundw
     case rel => exact ⟨j + 1, css ++ [[.int .i64 r.c, .int .i64 r.e, .slice va r.args.length vc, .slice ua r.res.length uc]], by simp, by omega, ⟨by rw [flat_snoc2]; exact hrow.out, by rw [hsn.out]; exact hE2.out, hB.out⟩⟩
     case measure => simp [intOf]; omega
   · have jl : ¬ (j : Int) < L.length := by omega
     have hjl : j = L.length := by omega
     subst hjl
     rw [List.take_length] at hE
     replace hO := Hid.mk hO
     replace hE := Hid.mk hE
     replace hB := Hid.mk hB
     go_wp2_with fail
     go_ret
     exact ⟨_, rfl, css, hO.out, hE.out, hB.out⟩
end Go.Proofs.YtiigpncfmakgjaaGreatDoor
