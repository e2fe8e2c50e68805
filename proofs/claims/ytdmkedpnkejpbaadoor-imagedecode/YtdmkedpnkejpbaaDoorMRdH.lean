import Derived.Test.YtdmkedpnkejpbaaDoorMRdG
/-
  Stage 4, image: the reader's comp and gate.
-/
namespace Go.Proofs.YtdmkedpnkejpbaaDoor
open Go.RowKit

set_option maxRecDepth 10000 in
set_option maxHeartbeats 4000000 in
theorem rcomp_any (S : List UInt8) (kr : Nat) (σ : RS) (w : World) (ht : TabIn w) (hk : 2 ≤ kr) (h : RIn w kr S σ) (hi : σ.In S) (hS : S.length ≤ 1000000) :
    Calls Tryd.prog 31 #[.pointer (some ⟨kr, 0, none⟩)] w fun x w' => ∃ ra rc ka kc, x = .returned (.agg #[.slice ra (compP S σ).1.roots.length rc, .slice ka (compP S σ).1.code.length kc]) ∧ w'.ownsRow w.heap.size 93 6 (.slice ra (compP S σ).1.roots.length rc) (compP S σ).1.roots.length ((compP S σ).1.roots.flatMap PRoot.vals) ∧ LOwn w' w.heap.size (.slice ka (compP S σ).1.code.length kc) (compP S σ).1.code ∧ RIn w' kr S (compP S σ).2 ∧ w.grownBy w' (some kr) := by
  have hS2 : S.length ≤ 140737488355328 := by omega
  have hTI : ∀ W, w.grownBy W (some kr) → TabIn W := fun W hg => ht.below (n := kr) (Below.of_grown hg (Nat.le_of_lt h.lt) (fun g e => by cases e; omega)) hk
  replace hTI := Hid.mk hTI
  have hq1 := num1 S σ
  have hq2 := num2 S (rootsP S σ).2
  have c1 := fun W h1 => count_any S kr 1 σ W h1 hi hS2 (by omega)
  have i1 := takeS_in (S := S) 1 hi
  have c2 : ∀ W, RIn W kr S (takeS S 1 σ) → Calls Tryd.prog 56 #[.pointer (some ⟨kr, 0, none⟩), .int .i64 ((numV S 1 σ).toNat : Nat), .func (.func 57) #[.pointer (some ⟨kr, 0, none⟩)] #[]] W fun x w' => ∃ v, x = .returned v ∧ w'.ownsRow W.heap.size 93 6 v (rootsP S σ).1.length ((rootsP S σ).1.flatMap PRoot.vals) ∧ RIn w' kr S (rootsP S σ).2 ∧ W.grownBy w' (some kr) := fun W h1 => listRoot_any S kr (numV S 1 σ).toNat (takeS S 1 σ) W h1 i1 hS2 (by omega)
  have i2 := rootsP_in (S := S) hi
  have c3 := fun W h1 => count_any S kr 2 (rootsP S σ).2 W h1 i2 hS2 (by omega)
  have i3 := takeS_in (S := S) 2 i2
  have c4 : ∀ W, TabIn W → RIn W kr S (takeS S 2 (rootsP S σ).2) → Calls Tryd.prog 58 #[.pointer (some ⟨kr, 0, none⟩), .int .i64 ((numV S 2 (rootsP S σ).2).toNat : Nat)] W fun x w' => ∃ v, x = .returned v ∧ w'.ownsRow W.heap.size 74 5 v (insP S (rootsP S σ).2).1.length (Go.Proofs.YtdmkedpnkejpbaaDoor.flat (insP S (rootsP S σ).2).1) ∧ RIn w' kr S (insP S (rootsP S σ).2).2 ∧ W.grownBy w' (some kr) := fun W h0 h1 => rcode_any S kr (numV S 2 (rootsP S σ).2).toNat (takeS S 2 (rootsP S σ).2) W h0 hk h1 i3 hS (by omega)
  rw [toNat_num] at c2 c4
  unfold compP
  simp only
  clear i1 i2 i3 hq1 hq2 ht
  generalize (insP S (rootsP S σ).2).1 = L2 at *
  generalize (insP S (rootsP S σ).2).2 = σ4 at *
  generalize numV S 2 (rootsP S σ).2 = y2 at *
  generalize takeS S 2 (rootsP S σ).2 = σ3 at *
  generalize (rootsP S σ).1 = L1 at *
  generalize (rootsP S σ).2 = σ2 at *
  generalize numV S 1 σ = y1 at *
  generalize takeS S 1 σ = σ1 at *
  have hne : w.heap.size ≠ kr := by have := h.lt; omega
  go_enter Tryd.func31, Tryd.ntmps31
  go_wp2_with fail
  have X := Hid.mk (Box.new w #[.slice none 0 0, .slice none 0 0] 57)
  have hg := Hid.mk (grown_of ((Gr.refl w).alloc (.cells #[.slice none 0 0, .slice none 0 0] 57)).below (some kr))
  replace h : Hid (RIn (w.alloc (.cells #[.slice none 0 0, .slice none 0 0] 57)) kr S σ) := Hid.mk (h.alloc _)
  refine (c1 _ h.out).mono ?_
  clear h
  rintro x w1 ⟨rfl, h, hg2⟩
  replace X := Hid.mk (X.out.kept hg2 hne)
  replace hg := Hid.mk (hg.out.trans hg2)
  replace h := Hid.mk h
  clear hg2 c1
  go_wp2_with fail
  refine (c2 _ h.out).mono ?_
  clear h
  rintro x w2 ⟨v, rfl, hO, h, hg2⟩
  obtain ⟨ra, rc, rfl⟩ := own_slice hO
  have r := Hid.mk (own_base hO hg.out.size)
  clear hO
  replace X := Hid.mk (X.out.kept hg2 hne)
  replace hg := Hid.mk (hg.out.trans hg2)
  replace h := Hid.mk h
  clear hg2 c2
  go_wp2_with fail
  have rk := Hid.mk (fun W hW => own_kept (w' := W) r.out hW (own_ne r.out h.out (by decide)))
  refine (c3 _ h.out).mono ?_
  clear h
  rintro x w3 ⟨rfl, h, hg2⟩
  replace r := Hid.mk (rk.out _ hg2)
  clear rk
  replace X := Hid.mk (X.out.kept hg2 hne)
  replace hg := Hid.mk (hg.out.trans hg2)
  replace h := Hid.mk h
  clear hg2 c3
  go_wp2_with fail
  have rk := Hid.mk (fun W hW => own_kept (w' := W) r.out hW (own_ne r.out h.out (by decide)))
  refine (c4 _ (hTI.out _ hg.out) h.out).mono ?_
  clear h
  rintro x w4 ⟨v, rfl, hO, h, hg2⟩
  obtain ⟨ka, kc, rfl⟩ := own_slice hO
  have k := Hid.mk (own_base hO hg.out.size)
  clear hO
  replace r := Hid.mk (rk.out _ hg2)
  clear rk
  replace X := Hid.mk (X.out.kept hg2 hne)
  replace hg := Hid.mk (hg.out.trans hg2)
  replace h := Hid.mk h
  clear hg2 c4
  have ⟨z0, p0, f0⟩ := X.out.at
  go_wp2_with fail
  have b4 : Box (((w4).setCell ⟨w.heap.size, 0, none⟩ (.slice ra L1.length rc)).setCell ⟨w.heap.size, 1, none⟩ (.slice ka L2.length kc)) w.heap.size #[.slice ra L1.length rc, .slice ka L2.length kc] 57 := Box.setRow X.out [.slice ra L1.length rc, .slice ka L2.length kc] rfl
  have h4 : RIn (((w4).setCell ⟨w.heap.size, 0, none⟩ (.slice ra L1.length rc)).setCell ⟨w.heap.size, 1, none⟩ (.slice ka L2.length kc)) kr S σ4 := Box.setRow_other (cs := [.slice ra L1.length rc, .slice ka L2.length kc]) h.out hne
  have hg4 : w.grownBy (((w4).setCell ⟨w.heap.size, 0, none⟩ (.slice ra L1.length rc)).setCell ⟨w.heap.size, 1, none⟩ (.slice ka L2.length kc)) (some kr) := grown_row [.slice ra L1.length rc, .slice ka L2.length kc] hg.out (Nat.le_refl _)
  have r4 : World.ownsRow (((w4).setCell ⟨w.heap.size, 0, none⟩ (.slice ra L1.length rc)).setCell ⟨w.heap.size, 1, none⟩ (.slice ka L2.length kc)) w.heap.size 93 6 (.slice ra L1.length rc) L1.length (L1.flatMap PRoot.vals) := own_row [.slice ra L1.length rc, .slice ka L2.length kc] r.out X.out (by decide)
  have k4 : LOwn (((w4).setCell ⟨w.heap.size, 0, none⟩ (.slice ra L1.length rc)).setCell ⟨w.heap.size, 1, none⟩ (.slice ka L2.length kc)) w.heap.size (.slice ka L2.length kc) L2 := own_row [.slice ra L1.length rc, .slice ka L2.length kc] k.out X.out (by decide)
  have ⟨_, q4, _⟩ := b4.at
  clear z0 p0 f0 X hg h b4 r k
  generalize ((w4).setCell ⟨w.heap.size, 0, none⟩ (.slice ra L1.length rc)).setCell ⟨w.heap.size, 1, none⟩ (.slice ka L2.length kc) = W4 at *
  simp [bodyPost, results, Tryd.results31, go_sem, q4]
  exact ⟨ra, rc, ka, kc, ⟨⟨rfl, rfl⟩, rfl, rfl⟩, r4, k4, h4, hg4⟩
set_option maxRecDepth 10000 in
set_option maxHeartbeats 4000000 in
theorem rgate_any (S : List UInt8) (kr : Nat) (σ : RS) (w : World) (h : RIn w kr S σ) (hi : σ.In S) (hS : S.length ≤ 1000000) :
    Calls Tryd.prog 33 #[.pointer (some ⟨kr, 0, none⟩)] w fun x w' => ∃ xa xc ya yc, x = .returned (.agg #[.int .i64 (gateP S σ).1.c, .int .i64 (gateP S σ).1.e, .slice xa (gateP S σ).1.args.length xc, .slice ya (gateP S σ).1.res.length yc]) ∧ w'.ownsRow w.heap.size 88 7 (.slice xa (gateP S σ).1.args.length xc) (gateP S σ).1.args.length ((gateP S σ).1.args.flatMap PTyp.vals) ∧ w'.ownsRow w.heap.size 88 7 (.slice ya (gateP S σ).1.res.length yc) (gateP S σ).1.res.length ((gateP S σ).1.res.flatMap PTyp.vals) ∧ RIn w' kr S (gateP S σ).2 ∧ w.grownBy w' (some kr) := by
  have hS2 : S.length ≤ 140737488355328 := by omega
  have c1 := fun W h1 => count_any S kr 1 σ W h1 hi hS2 (by omega)
  have i1 := takeS_in (S := S) 1 hi
  have c2 := fun W h1 => count_any S kr 2 (takeS S 1 σ) W h1 i1 hS2 (by omega)
  have i2 := takeS_in (S := S) 2 i1
  have hgs : takeS S 2 (takeS S 1 σ) = gateS S σ := rfl
  rw [hgs] at c2
  have hl : ∀ τ : RS, τ.In S → ∀ W, RIn W kr S (takeS S 1 τ) → Calls Tryd.prog 59 #[.pointer (some ⟨kr, 0, none⟩), .int .i64 (numV S 1 τ), .func (.func 60) #[.pointer (some ⟨kr, 0, none⟩)] #[]] W fun x w' => ∃ v, x = .returned v ∧ w'.ownsRow W.heap.size 88 7 v (kindsP S τ).1.length ((kindsP S τ).1.flatMap PTyp.vals) ∧ RIn w' kr S (kindsP S τ).2 ∧ W.grownBy w' (some kr) := fun τ hτ W h1 => by
    have hq := num1 S τ
    have := listType_any S kr (numV S 1 τ).toNat (takeS S 1 τ) W h1 (takeS_in _ hτ) hS2 (by omega)
    rwa [toNat_num] at this
  have c3 := fun W h1 => count_any S kr 1 (gateS S σ) W h1 i2 hS2 (by omega)
  have c4 := hl _ i2
  have i4 := kindsP_in (S := S) i2
  have c5 := fun W h1 => count_any S kr 1 (kindsP S (gateS S σ)).2 W h1 i4 hS2 (by omega)
  have c6 := hl _ i4
  rw [hgs] at c4 c6
  unfold gateP
  simp only
  clear i1 i2 i4 hl hgs
  generalize kindsP S (kindsP S (gateS S σ)).2 = r6 at *
  generalize numV S 1 (kindsP S (gateS S σ)).2 = y5 at *
  generalize takeS S 1 (kindsP S (gateS S σ)).2 = σ5 at *
  generalize kindsP S (gateS S σ) = r4 at *
  generalize numV S 1 (gateS S σ) = y3 at *
  generalize takeS S 1 (gateS S σ) = σ3 at *
  generalize gateS S σ = σ2 at *
  generalize numV S 2 (takeS S 1 σ) = y2 at *
  generalize takeS S 1 σ = σ1 at *
  generalize numV S 1 σ = y1 at *
  obtain ⟨L1, σ4⟩ := r4
  obtain ⟨L2, σ6⟩ := r6
  simp only at *
  have hne : w.heap.size ≠ kr := by have := h.lt; omega
  go_enter Tryd.func33, Tryd.ntmps33
  go_wp2_with fail
  have X := Hid.mk (Box.new w #[.int .i64 0, .int .i64 0, .slice none 0 0, .slice none 0 0] 61)
  have hg := Hid.mk (grown_of ((Gr.refl w).alloc (.cells #[.int .i64 0, .int .i64 0, .slice none 0 0, .slice none 0 0] 61)).below (some kr))
  replace h : Hid (RIn (w.alloc (.cells #[.int .i64 0, .int .i64 0, .slice none 0 0, .slice none 0 0] 61)) kr S σ) := Hid.mk (h.alloc _)
  refine (c1 _ h.out).mono ?_
  clear h
  rintro x w1 ⟨rfl, h, hg2⟩
  replace X := Hid.mk (X.out.kept hg2 hne)
  replace hg := Hid.mk (hg.out.trans hg2)
  replace h := Hid.mk h
  clear hg2 c1
  go_wp2_with fail
  refine (c2 _ h.out).mono ?_
  clear h
  rintro x w2 ⟨rfl, h, hg2⟩
  replace X := Hid.mk (X.out.kept hg2 hne)
  replace hg := Hid.mk (hg.out.trans hg2)
  replace h := Hid.mk h
  clear hg2 c2
  go_wp2_with fail
  refine (c3 _ h.out).mono ?_
  clear h
  rintro x w3 ⟨rfl, h, hg2⟩
  replace X := Hid.mk (X.out.kept hg2 hne)
  replace hg := Hid.mk (hg.out.trans hg2)
  replace h := Hid.mk h
  clear hg2 c3
  go_wp2_with fail
  refine (c4 _ h.out).mono ?_
  clear h
  rintro x w4 ⟨v, rfl, hO, h, hg2⟩
  obtain ⟨xa, xc, rfl⟩ := own_slice hO
  have x := Hid.mk (own_base hO hg.out.size)
  clear hO
  replace X := Hid.mk (X.out.kept hg2 hne)
  replace hg := Hid.mk (hg.out.trans hg2)
  replace h := Hid.mk h
  clear hg2 c4
  go_wp2_with fail
  have xk := Hid.mk (fun W hW => own_kept (w' := W) x.out hW (own_ne x.out h.out (by decide)))
  refine (c5 _ h.out).mono ?_
  clear h
  rintro x w5 ⟨rfl, h, hg2⟩
  replace x := Hid.mk (xk.out _ hg2)
  clear xk
  replace X := Hid.mk (X.out.kept hg2 hne)
  replace hg := Hid.mk (hg.out.trans hg2)
  replace h := Hid.mk h
  clear hg2 c5
  go_wp2_with fail
  have xk := Hid.mk (fun W hW => own_kept (w' := W) x.out hW (own_ne x.out h.out (by decide)))
  refine (c6 _ h.out).mono ?_
  clear h
  rintro x w6 ⟨v, rfl, hO, h, hg2⟩
  obtain ⟨ya, yc, rfl⟩ := own_slice hO
  have y := Hid.mk (own_base hO hg.out.size)
  clear hO
  replace x := Hid.mk (xk.out _ hg2)
  clear xk
  replace X := Hid.mk (X.out.kept hg2 hne)
  replace hg := Hid.mk (hg.out.trans hg2)
  replace h := Hid.mk h
  clear hg2 c6
  have ⟨z0, p0, f0⟩ := X.out.at
  go_wp2_with fail
  have b4 : Box (((((w6).setCell ⟨w.heap.size, 0, none⟩ (.int .i64 y1)).setCell ⟨w.heap.size, 1, none⟩ (.int .i64 y2)).setCell ⟨w.heap.size, 2, none⟩ (.slice xa L1.length xc)).setCell ⟨w.heap.size, 3, none⟩ (.slice ya L2.length yc)) w.heap.size #[.int .i64 y1, .int .i64 y2, .slice xa L1.length xc, .slice ya L2.length yc] 61 := Box.setRow X.out [.int .i64 y1, .int .i64 y2, .slice xa L1.length xc, .slice ya L2.length yc] rfl
  have h4 : RIn (((((w6).setCell ⟨w.heap.size, 0, none⟩ (.int .i64 y1)).setCell ⟨w.heap.size, 1, none⟩ (.int .i64 y2)).setCell ⟨w.heap.size, 2, none⟩ (.slice xa L1.length xc)).setCell ⟨w.heap.size, 3, none⟩ (.slice ya L2.length yc)) kr S σ6 := Box.setRow_other (cs := [.int .i64 y1, .int .i64 y2, .slice xa L1.length xc, .slice ya L2.length yc]) h.out hne
  have hg4 : w.grownBy (((((w6).setCell ⟨w.heap.size, 0, none⟩ (.int .i64 y1)).setCell ⟨w.heap.size, 1, none⟩ (.int .i64 y2)).setCell ⟨w.heap.size, 2, none⟩ (.slice xa L1.length xc)).setCell ⟨w.heap.size, 3, none⟩ (.slice ya L2.length yc)) (some kr) := grown_row [.int .i64 y1, .int .i64 y2, .slice xa L1.length xc, .slice ya L2.length yc] hg.out (Nat.le_refl _)
  have x4 : World.ownsRow (((((w6).setCell ⟨w.heap.size, 0, none⟩ (.int .i64 y1)).setCell ⟨w.heap.size, 1, none⟩ (.int .i64 y2)).setCell ⟨w.heap.size, 2, none⟩ (.slice xa L1.length xc)).setCell ⟨w.heap.size, 3, none⟩ (.slice ya L2.length yc)) w.heap.size 88 7 (.slice xa L1.length xc) L1.length (L1.flatMap PTyp.vals) := own_row [.int .i64 y1, .int .i64 y2, .slice xa L1.length xc, .slice ya L2.length yc] x.out X.out (by decide)
  have y4 : World.ownsRow (((((w6).setCell ⟨w.heap.size, 0, none⟩ (.int .i64 y1)).setCell ⟨w.heap.size, 1, none⟩ (.int .i64 y2)).setCell ⟨w.heap.size, 2, none⟩ (.slice xa L1.length xc)).setCell ⟨w.heap.size, 3, none⟩ (.slice ya L2.length yc)) w.heap.size 88 7 (.slice ya L2.length yc) L2.length (L2.flatMap PTyp.vals) := own_row [.int .i64 y1, .int .i64 y2, .slice xa L1.length xc, .slice ya L2.length yc] y.out X.out (by decide)
  have ⟨_, q4, _⟩ := b4.at
  clear z0 p0 f0 X hg h b4 x y
  generalize ((((w6).setCell ⟨w.heap.size, 0, none⟩ (.int .i64 y1)).setCell ⟨w.heap.size, 1, none⟩ (.int .i64 y2)).setCell ⟨w.heap.size, 2, none⟩ (.slice xa L1.length xc)).setCell ⟨w.heap.size, 3, none⟩ (.slice ya L2.length yc) = W4 at *
  simp [bodyPost, results, Tryd.results33, go_sem, q4]
  exact ⟨xa, xc, ya, yc, ⟨⟨rfl, rfl⟩, rfl, rfl⟩, x4, y4, h4, hg4⟩
end Go.Proofs.YtdmkedpnkejpbaaDoor
