import Derived.Test.YtcljibdikhpnlaaDoorP33
/-
  Stage 4, image: the reader's comp and gate.
-/
namespace Go.Proofs.YtcljibdikhpnlaaDoor
open Go.RowKit

set_option maxRecDepth 10000 in
set_option maxHeartbeats 4000000 in
theorem rcomp_any (S : List UInt8) (kr : Nat) (σ : RS) (w : World) (ht : TabIn w) (hk : 2 ≤ kr) (h : RIn w kr S σ) (hi : σ.In S) (hS : S.length ≤ 1000000) :
    Calls Tryd.prog 52 #[.pointer (some ⟨kr, 0, none⟩)] w fun x w' => ∃ ra rc ka kc, x = .returned (.agg #[.slice ra (compP S σ).1.roots.length rc, .slice ka (compP S σ).1.code.length kc]) ∧ w'.ownsRow w.heap.size 71 6 (.slice ra (compP S σ).1.roots.length rc) (compP S σ).1.roots.length ((compP S σ).1.roots.flatMap PRoot.vals) ∧ LOwn w' w.heap.size (.slice ka (compP S σ).1.code.length kc) (compP S σ).1.code ∧ RIn w' kr S (compP S σ).2 ∧ w.grownBy w' (some kr) := by
  have hS2 : S.length ≤ 140737488355328 := by omega
  have hTI : ∀ W, w.grownBy W (some kr) → TabIn W := fun W hg => ht.below (n := kr) (Below.of_grown hg (Nat.le_of_lt h.lt) (fun g e => by cases e; omega)) hk
  replace hTI := Hid.mk hTI
  have hq1 := num1 S σ
  have hq2 := num2 S (rootsP S σ).2
  have c1 := fun W h1 => count_any S kr 1 σ W h1 hi hS2 (by omega)
  have i1 := takeS_in (S := S) 1 hi
  have c2 : ∀ W, RIn W kr S (takeS S 1 σ) → Calls Tryd.prog 70 #[.pointer (some ⟨kr, 0, none⟩), .int .i64 ((numV S 1 σ).toNat : Nat), .func (.func 71) #[.pointer (some ⟨kr, 0, none⟩)] #[]] W fun x w' => ∃ v, x = .returned v ∧ w'.ownsRow W.heap.size 71 6 v (rootsP S σ).1.length ((rootsP S σ).1.flatMap PRoot.vals) ∧ RIn w' kr S (rootsP S σ).2 ∧ W.grownBy w' (some kr) := fun W h1 => listRoot_any S kr (numV S 1 σ).toNat (takeS S 1 σ) W h1 i1 hS2 (by omega)
  have i2 := rootsP_in (S := S) hi
  have c3 := fun W h1 => count_any S kr 2 (rootsP S σ).2 W h1 i2 hS2 (by omega)
  have i3 := takeS_in (S := S) 2 i2
  have c4 : ∀ W, TabIn W → RIn W kr S (takeS S 2 (rootsP S σ).2) → Calls Tryd.prog 72 #[.pointer (some ⟨kr, 0, none⟩), .int .i64 ((numV S 2 (rootsP S σ).2).toNat : Nat)] W fun x w' => ∃ v, x = .returned v ∧ w'.ownsRow W.heap.size 74 5 v (insP S (rootsP S σ).2).1.length (Go.Proofs.YtcljibdikhpnlaaDoor.flat (insP S (rootsP S σ).2).1) ∧ RIn w' kr S (insP S (rootsP S σ).2).2 ∧ W.grownBy w' (some kr) := fun W h0 h1 => rcode_any S kr (numV S 2 (rootsP S σ).2).toNat (takeS S 2 (rootsP S σ).2) W h0 hk h1 i3 hS (by omega)
  rw [toNat_num] at c2 c4
  unfold compP
  simp only
  clear i1 i2 i3 hq1 hq2 ht
  generalize (insP S (rootsP S σ).2).1 = L2 at *
  generalize (insP S (rootsP S σ).2).2 = σ4 at *
  generalize numV S 2 (rootsP S σ).2 = y2 at *
  generalize takeS S 2 (rootsP S σ).2 = σ3 at *
  generalize (rootsP S σ).1 = L1 at *
  generalize (rootsP S σ).2 = σ2 at *
  generalize numV S 1 σ = y1 at *
  generalize takeS S 1 σ = σ1 at *
  have hne : w.heap.size ≠ kr := by have := h.lt; omega
  go_enter Tryd.func52, Tryd.ntmps52
  go_wp2_with fail
  have X := Hid.mk (Box.new w #[.slice none 0 0, .slice none 0 0] 52)
  have hg := Hid.mk (grown_of ((Gr.refl w).alloc (.cells #[.slice none 0 0, .slice none 0 0] 52)).below (some kr))
  replace h : Hid (RIn (w.alloc (.cells #[.slice none 0 0, .slice none 0 0] 52)) kr S σ) := Hid.mk (h.alloc _)
  refine (c1 _ h.out).mono ?_
  clear h
  rintro x w1 ⟨rfl, h, hg2⟩
  replace X := Hid.mk (X.out.kept hg2 hne)
  replace hg := Hid.mk (hg.out.trans hg2)
  replace h := Hid.mk h
  clear hg2 c1
  go_wp2_with fail
  refine (c2 _ h.out).mono ?_
  clear h
  rintro x w2 ⟨v, rfl, hO, h, hg2⟩
  obtain ⟨ra, rc, rfl⟩ := own_slice hO
  have r := Hid.mk (own_base hO hg.out.size)
  clear hO
  replace X := Hid.mk (X.out.kept hg2 hne)
  replace hg := Hid.mk (hg.out.trans hg2)
  replace h := Hid.mk h
  clear hg2 c2
  go_wp2_with fail
  have rk := Hid.mk (fun W hW => own_kept (w' := W) r.out hW (own_ne r.out h.out (by decide)))
  refine (c3 _ h.out).mono ?_
  clear h
  rintro x w3 ⟨rfl, h, hg2⟩
  replace r := Hid.mk (rk.out _ hg2)
  clear rk
  replace X := Hid.mk (X.out.kept hg2 hne)
  replace hg := Hid.mk (hg.out.trans hg2)
  replace h := Hid.mk h
  clear hg2 c3
  go_wp2_with fail
  have rk := Hid.mk (fun W hW => own_kept (w' := W) r.out hW (own_ne r.out h.out (by decide)))
  refine (c4 _ (hTI.out _ hg.out) h.out).mono ?_
  clear h
  rintro x w4 ⟨v, rfl, hO, h, hg2⟩
  obtain ⟨ka, kc, rfl⟩ := own_slice hO
  have k := Hid.mk (own_base hO hg.out.size)
  clear hO
  replace r := Hid.mk (rk.out _ hg2)
  clear rk
  replace X := Hid.mk (X.out.kept hg2 hne)
  replace hg := Hid.mk (hg.out.trans hg2)
  replace h := Hid.mk h
  clear hg2 c4
  have ⟨z0, p0, f0⟩ := X.out.at
  go_wp2_with fail
  have b4 : Box (((w4).setCell ⟨w.heap.size, 0, none⟩ (.slice ra L1.length rc)).setCell ⟨w.heap.size, 1, none⟩ (.slice ka L2.length kc)) w.heap.size #[.slice ra L1.length rc, .slice ka L2.length kc] 52 := Box.setRow X.out [.slice ra L1.length rc, .slice ka L2.length kc] rfl
  have h4 : RIn (((w4).setCell ⟨w.heap.size, 0, none⟩ (.slice ra L1.length rc)).setCell ⟨w.heap.size, 1, none⟩ (.slice ka L2.length kc)) kr S σ4 := Box.setRow_other (cs := [.slice ra L1.length rc, .slice ka L2.length kc]) h.out hne
  have hg4 : w.grownBy (((w4).setCell ⟨w.heap.size, 0, none⟩ (.slice ra L1.length rc)).setCell ⟨w.heap.size, 1, none⟩ (.slice ka L2.length kc)) (some kr) := grown_row [.slice ra L1.length rc, .slice ka L2.length kc] hg.out (Nat.le_refl _)
  have r4 : World.ownsRow (((w4).setCell ⟨w.heap.size, 0, none⟩ (.slice ra L1.length rc)).setCell ⟨w.heap.size, 1, none⟩ (.slice ka L2.length kc)) w.heap.size 71 6 (.slice ra L1.length rc) L1.length (L1.flatMap PRoot.vals) := own_row [.slice ra L1.length rc, .slice ka L2.length kc] r.out X.out (by decide)
  have k4 : LOwn (((w4).setCell ⟨w.heap.size, 0, none⟩ (.slice ra L1.length rc)).setCell ⟨w.heap.size, 1, none⟩ (.slice ka L2.length kc)) w.heap.size (.slice ka L2.length kc) L2 := own_row [.slice ra L1.length rc, .slice ka L2.length kc] k.out X.out (by decide)
  have ⟨_, q4, _⟩ := b4.at
  clear z0 p0 f0 X hg h b4 r k
  generalize ((w4).setCell ⟨w.heap.size, 0, none⟩ (.slice ra L1.length rc)).setCell ⟨w.heap.size, 1, none⟩ (.slice ka L2.length kc) = W4 at *
  simp [bodyPost, results, Tryd.results52, go_sem, q4]
  exact ⟨ra, rc, ka, kc, ⟨⟨rfl, rfl⟩, rfl, rfl⟩, r4, k4, h4, hg4⟩
set_option maxRecDepth 10000 in
set_option maxHeartbeats 4000000 in
theorem rgate_any (S : List UInt8) (kr : Nat) (σ : RS) (w : World) (h : RIn w kr S σ) (hi : σ.In S) (hS : S.length ≤ 1000000) :
    Calls Tryd.prog 54 #[.pointer (some ⟨kr, 0, none⟩)] w fun x w' => ∃ xa xc ya yc, x = .returned (.agg #[.int .i64 (gateP S σ).1.c, .int .i64 (gateP S σ).1.e, .slice xa (gateP S σ).1.args.length xc, .slice ya (gateP S σ).1.res.length yc]) ∧ w'.ownsRow w.heap.size 67 7 (.slice xa (gateP S σ).1.args.length xc) (gateP S σ).1.args.length ((gateP S σ).1.args.flatMap PTyp.vals) ∧ w'.ownsRow w.heap.size 67 7 (.slice ya (gateP S σ).1.res.length yc) (gateP S σ).1.res.length ((gateP S σ).1.res.flatMap PTyp.vals) ∧ RIn w' kr S (gateP S σ).2 ∧ w.grownBy w' (some kr) := by
  have hS2 : S.length ≤ 140737488355328 := by omega
  have c1 := fun W h1 => count_any S kr 1 σ W h1 hi hS2 (by omega)
  have i1 := takeS_in (S := S) 1 hi
  have c2 := fun W h1 => count_any S kr 2 (takeS S 1 σ) W h1 i1 hS2 (by omega)
  have i2 := takeS_in (S := S) 2 i1
  have hgs : takeS S 2 (takeS S 1 σ) = gateS S σ := rfl
  rw [hgs] at c2
  have hl : ∀ τ : RS, τ.In S → ∀ W, RIn W kr S (takeS S 1 τ) → Calls Tryd.prog 73 #[.pointer (some ⟨kr, 0, none⟩), .int .i64 (numV S 1 τ), .func (.func 74) #[.pointer (some ⟨kr, 0, none⟩)] #[]] W fun x w' => ∃ v, x = .returned v ∧ w'.ownsRow W.heap.size 67 7 v (kindsP S τ).1.length ((kindsP S τ).1.flatMap PTyp.vals) ∧ RIn w' kr S (kindsP S τ).2 ∧ W.grownBy w' (some kr) := fun τ hτ W h1 => by
    have hq := num1 S τ
    have := listType_any S kr (numV S 1 τ).toNat (takeS S 1 τ) W h1 (takeS_in _ hτ) hS2 (by omega)
    rwa [toNat_num] at this
  have c3 := fun W h1 => count_any S kr 1 (gateS S σ) W h1 i2 hS2 (by omega)
  have c4 := hl _ i2
  have i4 := kindsP_in (S := S) i2
  have c5 := fun W h1 => count_any S kr 1 (kindsP S (gateS S σ)).2 W h1 i4 hS2 (by omega)
  have c6 := hl _ i4
  rw [hgs] at c4 c6
  unfold gateP
  simp only
  clear i1 i2 i4 hl hgs
  generalize kindsP S (kindsP S (gateS S σ)).2 = r6 at *
  generalize numV S 1 (kindsP S (gateS S σ)).2 = y5 at *
  generalize takeS S 1 (kindsP S (gateS S σ)).2 = σ5 at *
  generalize kindsP S (gateS S σ) = r4 at *
  generalize numV S 1 (gateS S σ) = y3 at *
  generalize takeS S 1 (gateS S σ) = σ3 at *
  generalize gateS S σ = σ2 at *
  generalize numV S 2 (takeS S 1 σ) = y2 at *
  generalize takeS S 1 σ = σ1 at *
  generalize numV S 1 σ = y1 at *
  obtain ⟨L1, σ4⟩ := r4
  obtain ⟨L2, σ6⟩ := r6
  simp only at *
  have hne : w.heap.size ≠ kr := by have := h.lt; omega
  go_enter Tryd.func54, Tryd.ntmps54
  go_wp2_with fail
  have X := Hid.mk (Box.new w #[.int .i64 0, .int .i64 0, .slice none 0 0, .slice none 0 0] 55)
  have hg := Hid.mk (grown_of ((Gr.refl w).alloc (.cells #[.int .i64 0, .int .i64 0, .slice none 0 0, .slice none 0 0] 55)).below (some kr))
  replace h : Hid (RIn (w.alloc (.cells #[.int .i64 0, .int .i64 0, .slice none 0 0, .slice none 0 0] 55)) kr S σ) := Hid.mk (h.alloc _)
  refine (c1 _ h.out).mono ?_
  clear h
  rintro x w1 ⟨rfl, h, hg2⟩
  replace X := Hid.mk (X.out.kept hg2 hne)
  replace hg := Hid.mk (hg.out.trans hg2)
  replace h := Hid.mk h
  clear hg2 c1
  go_wp2_with fail
  refine (c2 _ h.out).mono ?_
  clear h
  rintro x w2 ⟨rfl, h, hg2⟩
  replace X := Hid.mk (X.out.kept hg2 hne)
  replace hg := Hid.mk (hg.out.trans hg2)
  replace h := Hid.mk h
  clear hg2 c2
  go_wp2_with fail
  refine (c3 _ h.out).mono ?_
  clear h
  rintro x w3 ⟨rfl, h, hg2⟩
  replace X := Hid.mk (X.out.kept hg2 hne)
  replace hg := Hid.mk (hg.out.trans hg2)
  replace h := Hid.mk h
  clear hg2 c3
  go_wp2_with fail
  refine (c4 _ h.out).mono ?_
  clear h
  rintro x w4 ⟨v, rfl, hO, h, hg2⟩
  obtain ⟨xa, xc, rfl⟩ := own_slice hO
  have x := Hid.mk (own_base hO hg.out.size)
  clear hO
  replace X := Hid.mk (X.out.kept hg2 hne)
  replace hg := Hid.mk (hg.out.trans hg2)
  replace h := Hid.mk h
  clear hg2 c4
  go_wp2_with fail
  have xk := Hid.mk (fun W hW => own_kept (w' := W) x.out hW (own_ne x.out h.out (by decide)))
  refine (c5 _ h.out).mono ?_
  clear h
  rintro x w5 ⟨rfl, h, hg2⟩
  replace x := Hid.mk (xk.out _ hg2)
  clear xk
  replace X := Hid.mk (X.out.kept hg2 hne)
  replace hg := Hid.mk (hg.out.trans hg2)
  replace h := Hid.mk h
  clear hg2 c5
  go_wp2_with fail
  have xk := Hid.mk (fun W hW => own_kept (w' := W) x.out hW (own_ne x.out h.out (by decide)))
  refine (c6 _ h.out).mono ?_
  clear h
  rintro x w6 ⟨v, rfl, hO, h, hg2⟩
  obtain ⟨ya, yc, rfl⟩ := own_slice hO
  have y := Hid.mk (own_base hO hg.out.size)
  clear hO
  replace x := Hid.mk (xk.out _ hg2)
  clear xk
  replace X := Hid.mk (X.out.kept hg2 hne)
  replace hg := Hid.mk (hg.out.trans hg2)
  replace h := Hid.mk h
  clear hg2 c6
  have ⟨z0, p0, f0⟩ := X.out.at
  go_wp2_with fail
  have b4 : Box (((((w6).setCell ⟨w.heap.size, 0, none⟩ (.int .i64 y1)).setCell ⟨w.heap.size, 1, none⟩ (.int .i64 y2)).setCell ⟨w.heap.size, 2, none⟩ (.slice xa L1.length xc)).setCell ⟨w.heap.size, 3, none⟩ (.slice ya L2.length yc)) w.heap.size #[.int .i64 y1, .int .i64 y2, .slice xa L1.length xc, .slice ya L2.length yc] 55 := Box.setRow X.out [.int .i64 y1, .int .i64 y2, .slice xa L1.length xc, .slice ya L2.length yc] rfl
  have h4 : RIn (((((w6).setCell ⟨w.heap.size, 0, none⟩ (.int .i64 y1)).setCell ⟨w.heap.size, 1, none⟩ (.int .i64 y2)).setCell ⟨w.heap.size, 2, none⟩ (.slice xa L1.length xc)).setCell ⟨w.heap.size, 3, none⟩ (.slice ya L2.length yc)) kr S σ6 := Box.setRow_other (cs := [.int .i64 y1, .int .i64 y2, .slice xa L1.length xc, .slice ya L2.length yc]) h.out hne
  have hg4 : w.grownBy (((((w6).setCell ⟨w.heap.size, 0, none⟩ (.int .i64 y1)).setCell ⟨w.heap.size, 1, none⟩ (.int .i64 y2)).setCell ⟨w.heap.size, 2, none⟩ (.slice xa L1.length xc)).setCell ⟨w.heap.size, 3, none⟩ (.slice ya L2.length yc)) (some kr) := grown_row [.int .i64 y1, .int .i64 y2, .slice xa L1.length xc, .slice ya L2.length yc] hg.out (Nat.le_refl _)
  have x4 : World.ownsRow (((((w6).setCell ⟨w.heap.size, 0, none⟩ (.int .i64 y1)).setCell ⟨w.heap.size, 1, none⟩ (.int .i64 y2)).setCell ⟨w.heap.size, 2, none⟩ (.slice xa L1.length xc)).setCell ⟨w.heap.size, 3, none⟩ (.slice ya L2.length yc)) w.heap.size 67 7 (.slice xa L1.length xc) L1.length (L1.flatMap PTyp.vals) := own_row [.int .i64 y1, .int .i64 y2, .slice xa L1.length xc, .slice ya L2.length yc] x.out X.out (by decide)
  have y4 : World.ownsRow (((((w6).setCell ⟨w.heap.size, 0, none⟩ (.int .i64 y1)).setCell ⟨w.heap.size, 1, none⟩ (.int .i64 y2)).setCell ⟨w.heap.size, 2, none⟩ (.slice xa L1.length xc)).setCell ⟨w.heap.size, 3, none⟩ (.slice ya L2.length yc)) w.heap.size 67 7 (.slice ya L2.length yc) L2.length (L2.flatMap PTyp.vals) := own_row [.int .i64 y1, .int .i64 y2, .slice xa L1.length xc, .slice ya L2.length yc] y.out X.out (by decide)
  have ⟨_, q4, _⟩ := b4.at
  clear z0 p0 f0 X hg h b4 x y
  generalize ((((w6).setCell ⟨w.heap.size, 0, none⟩ (.int .i64 y1)).setCell ⟨w.heap.size, 1, none⟩ (.int .i64 y2)).setCell ⟨w.heap.size, 2, none⟩ (.slice xa L1.length xc)).setCell ⟨w.heap.size, 3, none⟩ (.slice ya L2.length yc) = W4 at *
  simp [bodyPost, results, Tryd.results54, go_sem, q4]
  exact ⟨xa, xc, ya, yc, ⟨⟨rfl, rfl⟩, rfl, rfl⟩, x4, y4, h4, hg4⟩
end Go.Proofs.YtcljibdikhpnlaaDoor


/-
  Stage 4, image: the reader's lists of regions, comps and gates.
-/
namespace Go.Proofs.YtcljibdikhpnlaaDoor
open Go.RowKit

/-- Two lists, one by one. -/
def All2 {α β : Type} (E : α → β → Prop) : List α → List β → Prop
  | [], [] => True
  | a :: l, b :: m => E a b ∧ All2 E l m
  | [], _ :: _ => False
  | _ :: _, [] => False
theorem All2.imp {α β : Type} {E F : α → β → Prop} (h : ∀ a b, E a b → F a b) : ∀ {l : List α} {m : List β}, All2 E l m → All2 F l m
  | [], [], _ => trivial
  | _ :: _, _ :: _, ⟨h1, h2⟩ => ⟨h _ _ h1, All2.imp h h2⟩
theorem All2.snoc {α β : Type} {E : α → β → Prop} {a : α} {b : β} (h : E a b) : ∀ {l : List α} {m : List β}, All2 E l m → All2 E (l ++ [a]) (m ++ [b])
  | [], [], _ => ⟨h, trivial⟩
  | _ :: _, _ :: _, ⟨h1, h2⟩ => ⟨h1, All2.snoc h h2⟩
theorem All2.len {α β : Type} {E : α → β → Prop} : ∀ {l : List α} {m : List β}, All2 E l m → l.length = m.length
  | [], [], _ => rfl
  | _ :: _, _ :: _, ⟨_, h2⟩ => by simp [All2.len h2]
theorem All2.get {α β : Type} {E : α → β → Prop} : ∀ {l : List α} {m : List β}, All2 E l m → ∀ i (h : i < m.length), ∃ a, l[i]? = some a ∧ E a m[i]
  | [], [], _, i, h => by simp at h
  | a :: _, _ :: _, ⟨h1, _⟩, 0, _ => ⟨a, rfl, h1⟩
  | _ :: _, _ :: _, ⟨_, h2⟩, i + 1, h => by
    obtain ⟨a, e, q⟩ := All2.get h2 i (by simpa using h)
    exact ⟨a, by simpa using e, by simpa using q⟩
/-- What is turned is of no row of this type. -/
def TyNe (w : World) (row : Option Nat) (e : TypeId) : Prop := ∀ g, row = some g → ∃ cs t fr, w.heap[g]? = some (.cells cs t fr) ∧ t ≠ e
theorem own_ty {w w' : World} {base e size n : Nat} {v : Value} {xs : List Value} {row : Option Nat} (h : w.ownsRow base e size v n xs) (hg : w.grownBy w' row) (ht : TyNe w row e) : w'.ownsRow base e size v n xs := by
  refine own_grown h hg ?_
  intro g hv hr
  obtain ⟨cs, t, fr, hb, hne⟩ := ht g hr
  rcases h.2 with ⟨rfl, _⟩ | ⟨g', cap, cur, rfl, hbg, hh, _⟩
  · cases hv
  · obtain rfl : g' = g := by simpa [Value.ownBlock] using hv
    rw [hb] at hh
    simp at hh
    exact hne hh.2.1
theorem tyNe_box {w : World} {k : Nat} {cs : Array Value} {t e : TypeId} (h : Box w k cs t) (hne : t ≠ e) : TyNe w (some k) e := fun g hg => by
  cases hg; exact ⟨cs, t, _, h, hne⟩
theorem tyNe_own {w : World} {base e size n : Nat} {v : Value} {xs : List Value} {t : TypeId} (h : w.ownsRow base e size v n xs) (hne : e ≠ t) : TyNe w v.ownBlock t := fun g hg => by
  rcases h.2 with ⟨rfl, _⟩ | ⟨g', cap, cur, rfl, hbg, hh, _⟩
  · cases hg
  · obtain rfl : g' = g := by simpa [Value.ownBlock] using hg
    exact ⟨_, _, _, hh, hne⟩
theorem tyNe_none (w : World) (e : TypeId) : TyNe w none e := fun g hg => by cases hg
/-- A region's cells, its slots in a row of their own. -/
def RegC (lo : Nat) (w : World) (cs : List Value) (r : PReg) : Prop := ∃ sa sc, cs = [.int .u64 r.b, .int .u64 r.n, .string (str r.data), .slice sa r.slots.length sc] ∧ w.ownsRow lo 69 8 (.slice sa r.slots.length sc) r.slots.length (r.slots.flatMap PSlot.vals)
def CompC (lo : Nat) (w : World) (cs : List Value) (c : PComp) : Prop := ∃ ra rc ka kc, cs = [.slice ra c.roots.length rc, .slice ka c.code.length kc] ∧ w.ownsRow lo 71 6 (.slice ra c.roots.length rc) c.roots.length (c.roots.flatMap PRoot.vals) ∧ LOwn w lo (.slice ka c.code.length kc) c.code
def GateC (lo : Nat) (w : World) (cs : List Value) (g : PGate) : Prop := ∃ xa xc ya yc, cs = [.int .i64 g.c, .int .i64 g.e, .slice xa g.args.length xc, .slice ya g.res.length yc] ∧ w.ownsRow lo 67 7 (.slice xa g.args.length xc) g.args.length (g.args.flatMap PTyp.vals) ∧ w.ownsRow lo 67 7 (.slice ya g.res.length yc) g.res.length (g.res.flatMap PTyp.vals)
/-- What is turned is of no row of a program's inner lists. -/
def TyNes (w : World) (row : Option Nat) : Prop := TyNe w row 69 ∧ TyNe w row 71 ∧ TyNe w row 74 ∧ TyNe w row 67
theorem RegC.step {lo : Nat} {w w' : World} {row : Option Nat} {cs : List Value} {r : PReg} (hg : w.grownBy w' row) (ht : TyNes w row) (h : RegC lo w cs r) : RegC lo w' cs r := by
  obtain ⟨sa, sc, e, h1⟩ := h
  exact ⟨sa, sc, e, own_ty h1 hg ht.1⟩
theorem CompC.step {lo : Nat} {w w' : World} {row : Option Nat} {cs : List Value} {r : PComp} (hg : w.grownBy w' row) (ht : TyNes w row) (h : CompC lo w cs r) : CompC lo w' cs r := by
  obtain ⟨ra, rc, ka, kc, e, h1, h2⟩ := h
  exact ⟨ra, rc, ka, kc, e, own_ty h1 hg ht.2.1, own_ty h2 hg ht.2.2.1⟩
theorem GateC.step {lo : Nat} {w w' : World} {row : Option Nat} {cs : List Value} {r : PGate} (hg : w.grownBy w' row) (ht : TyNes w row) (h : GateC lo w cs r) : GateC lo w' cs r := by
  obtain ⟨xa, xc, ya, yc, e, h1, h2⟩ := h
  exact ⟨xa, xc, ya, yc, e, own_ty h1 hg ht.2.2.2, own_ty h2 hg ht.2.2.2⟩
theorem nes_box {w : World} {k : Nat} {cs : Array Value} {t : TypeId} (h : Box w k cs t) (h1 : t ≠ 69) (h2 : t ≠ 71) (h3 : t ≠ 74) (h4 : t ≠ 67) : TyNes w (some k) := ⟨tyNe_box h h1, tyNe_box h h2, tyNe_box h h3, tyNe_box h h4⟩
theorem nes_own {w : World} {base e size n : Nat} {v : Value} {xs : List Value} (h : w.ownsRow base e size v n xs) (h1 : e ≠ 69) (h2 : e ≠ 71) (h3 : e ≠ 74) (h4 : e ≠ 67) : TyNes w v.ownBlock := ⟨tyNe_own h h1, tyNe_own h h2, tyNe_own h h3, tyNe_own h h4⟩
theorem nes_none (w : World) : TyNes w none := ⟨tyNe_none w _, tyNe_none w _, tyNe_none w _, tyNe_none w _⟩
theorem infoRegion : (Tryd.prog.info? 47).map (fun i => (i.zero, i.size, i.bytes)) = some (some (.agg #[.int .u64 0, .int .u64 0, .string ⟨#[]⟩, .slice none 0 0]), 4, 56) := by kernel_rfl
theorem flat_snoc2 (css : List (List Value)) (cs : List Value) : (css ++ [cs]).flatten = css.flatten ++ cs := by simp
set_option maxRecDepth 10000 in
set_option maxHeartbeats 4000000 in
theorem listRegion_any (S : List UInt8) (kr : Nat) (n : Nat) (σ : RS) (w : World) (h : RIn w kr S σ) (hi : σ.In S) (hS : S.length ≤ 1000000) (hn : n ≤ 65535) :
    Calls Tryd.prog 49 #[.pointer (some ⟨kr, 0, none⟩), .int .i64 n, .func (.func 50) #[.pointer (some ⟨kr, 0, none⟩)] #[]] w fun x w' => ∃ v, x = .returned v ∧ ∃ css, w'.ownsRow w.heap.size 47 4 v (listF (regP S) n σ []).1.length css.flatten ∧ All2 (RegC w.heap.size w') css (listF (regP S) n σ []).1 ∧ RIn w' kr S (listF (regP S) n σ []).2 ∧ w.grownBy w' (some kr) := by
  have hc := fun σ W h1 h2 => rregion_any S kr σ W h1 h2 hS
  have hnn := Nat.le_refl n
  go_enter Tryd.func49, Tryd.ntmps49
  go_wp2_with fail
  go_loopw [7, 10] (fun l i wr => ∃ (j : Nat) (css : List (List Value)) (L : List PReg) (τ : RS), i = .int .i64 j ∧ j ≤ n ∧ Hid (wr.ownsRow w.heap.size 47 4 l L.length css.flatten ∧ All2 (RegC w.heap.size wr) css L ∧ L.length = j ∧ RIn wr kr S τ ∧ τ.In S ∧ w.grownBy wr (some kr) ∧ listF (regP S) (n - j) τ L = listF (regP S) n σ [])) (fun _ i _ => n - (intOf i).toNat)
  case atStart => exact ⟨0, [], [], σ, rfl, by omega, ⟨⟨rfl, .inl ⟨rfl, rfl⟩⟩, trivial, rfl, h, hi, grown_of (Below.refl _ _) _, rfl⟩⟩
  case round =>
    clear h hi
    obtain ⟨j, css, L, τ, rfl, hj, ⟨hO, hE, hL, h, hi, hg, hF⟩⟩ := hrel
    obtain ⟨la, lc, rfl⟩ := own_slice hO
    by_cases hlt : j < n
    · have jl : (j : Int) < n := by omega
      have c1 := hc τ wr h hi
      have hi1 := regP_in hi
      obtain ⟨q, hq⟩ : ∃ q, n - j = q + 1 := ⟨n - j - 1, by omega⟩
      have hq2 : n - (j + 1) = q := by omega
      rw [hq, listF] at hF
      have hO2 : ∀ W, wr.grownBy W (some kr) → W.ownsRow w.heap.size 47 4 (.slice la L.length lc) L.length css.flatten ∧ All2 (RegC w.heap.size W) css L := fun W hW => ⟨own_kept hO hW (own_ne hO h (by decide)), hE.imp fun _ _ q => q.step hW (nes_box h (by decide) (by decide) (by decide) (by decide))⟩
      clear hO hE
      generalize (regP S τ).1 = x at *
      generalize (regP S τ).2 = τ' at *
      replace hF := Hid.mk hF
      replace h := Hid.mk h
      replace hg := Hid.mk hg
      replace hO2 := Hid.mk hO2
      replace hL := Hid.mk hL
      have hsz := Hid.mk hg.out.size
      go_wp2_with fail
      refine c1.mono ?_
      rintro z w1 ⟨sa, sc, rfl, hn1, h1, hg1⟩
      obtain ⟨hO, hE⟩ := hO2.out w1 hg1
      have hN : RegC w.heap.size w1 [.int .u64 x.b, .int .u64 x.n, .string (str x.data), .slice sa x.slots.length sc] x := ⟨sa, sc, rfl, own_base hn1 hsz.out⟩
      replace hg := Hid.mk (hg.out.trans hg1)
      clear hg1 h hO2 c1 hc hn1
      have ⟨z0, p0, f0⟩ := (h1.alloc (.cells #[.int .u64 x.b, .int .u64 x.n, .string (str x.data), .slice sa x.slots.length sc] 47)).at
      have hG : Gr w1 ((w1.alloc (.cells #[.int .u64 x.b, .int .u64 x.n, .string (str x.data), .slice sa x.slots.length sc] 47)).alloc (.cells #[.int .u64 x.b, .int .u64 x.n, .string (str x.data), .slice sa x.slots.length sc] 47)) := ((Gr.refl w1).alloc _).alloc _
      by_cases he : τ'.e = 0
      · have he' : (τ'.e != 0) = false := by simpa using he
        replace hF := Hid.mk ((if_pos he).symm.trans hF.out)
        have hA : At ((w1.alloc (.cells #[.int .u64 x.b, .int .u64 x.n, .string (str x.data), .slice sa x.slots.length sc] 47)).alloc (.cells #[.int .u64 x.b, .int .u64 x.n, .string (str x.data), .slice sa x.slots.length sc] 47)) (w1.heap.size + 1) [Value.int .u64 x.b, .int .u64 x.n, .string (str x.data), .slice sa x.slots.length sc].toArray := At.next _ _ _ _
        replace hO := Hid.mk (own_below hO hG.below)
        replace hE := Hid.mk ((hE.snoc hN).imp fun _ _ q => q.step (grown_of hG.below none) (nes_none _))
        replace h1 := Hid.mk (h1.gr hG)
        replace hg := Hid.mk (hg.out.trans (grown_of hG.below _))
        have hs := Hid.mk hg.out.size
        replace hA := Hid.mk hA
        replace he := Hid.mk he
        clear hG hN
        go_wp2_with (at_builtin; refine wpList_append_el rfl (.tmp 19) (.tmp 21) 22 47 _ 4 56 rfl Tryd.underlying22 infoRegion rfl (by decide) (by decide) w.heap.size (.slice la L.length lc) L.length css.flatten [Value.int .u64 x.b, .int .u64 x.n, .string (str x.data), .slice sa x.slots.length sc] rfl hO.out (w1.heap.size + 1) rfl hA.out rfl (by simp [Value.oneCell']) (by have := hL.out; omega) hs.out ?_)
        intro g c w5 hrow hgr
        have hk5 := own_ne hO.out h1.out (by decide)
        replace hE := Hid.mk (hE.out.imp fun _ _ q => q.step hgr (nes_own hO.out (by decide) (by decide) (by decide) (by decide)))
        replace h1 := Hid.mk (Box.keptRow h1.out hgr hk5)
        replace hg := Hid.mk (hg.out.andThen hgr (fun i hq => .inl (own_block hO.out i hq).1))
        replace hrow := Hid.mk hrow
        clear hgr z0 p0 f0 hO hk5
        go_wp2_with fail
        go_roundw
        case rel => exact ⟨j + 1, css ++ [[.int .u64 x.b, .int .u64 x.n, .string (str x.data), .slice sa x.slots.length sc]], L ++ [x], τ', by simp, by omega, ⟨by rw [List.length_append, flat_snoc2]; exact hrow.out, hE.out, by rw [List.length_append, hL.out]; rfl, h1.out, hi1, hg.out, by rw [hq2]; exact hF.out⟩⟩
        case measure => simp [intOf]; omega
      · have he' : (τ'.e != 0) = true := by simpa using he
        replace hF := Hid.mk ((if_neg he).symm.trans hF.out)
        replace he := Hid.mk he
        replace h1 := Hid.mk (h1.alloc (.cells #[.int .u64 x.b, .int .u64 x.n, .string (str x.data), .slice sa x.slots.length sc] 47))
        replace hg := Hid.mk (hg.out.trans (grown_of ((Gr.refl w1).alloc (.cells #[.int .u64 x.b, .int .u64 x.n, .string (str x.data), .slice sa x.slots.length sc] 47)).below _))
        clear hG hO hE hN
        go_wp2_with fail
        go_ret
        refine ⟨_, rfl, [], ?_⟩
        rw [← hF.out]
        exact ⟨⟨rfl, .inl ⟨rfl, rfl⟩⟩, trivial, h1.out, hg.out⟩
    · have jl : ¬ (j : Int) < n := by omega
      have hq : n - j = 0 := by omega
      rw [hq, listF] at hF
      replace hF := Hid.mk hF
      replace hO := Hid.mk hO
      replace hE := Hid.mk hE
      replace h := Hid.mk h
      replace hg := Hid.mk hg
      clear hc hL
      go_wp2_with fail
      go_ret
      refine ⟨_, rfl, css, ?_⟩
      rw [← hF.out]
      exact ⟨hO.out, hE.out, h.out, hg.out⟩
set_option maxRecDepth 10000 in
set_option maxHeartbeats 4000000 in
theorem listComp_any (S : List UInt8) (kr : Nat) (n : Nat) (σ : RS) (w : World) (ht : TabIn w) (hk : 2 ≤ kr) (h : RIn w kr S σ) (hi : σ.In S) (hS : S.length ≤ 1000000) (hn : n ≤ 65535) :
    Calls Tryd.prog 51 #[.pointer (some ⟨kr, 0, none⟩), .int .i64 n, .func (.func 52) #[.pointer (some ⟨kr, 0, none⟩)] #[]] w fun x w' => ∃ v, x = .returned v ∧ ∃ css, w'.ownsRow w.heap.size 52 2 v (listF (compP S) n σ []).1.length css.flatten ∧ All2 (CompC w.heap.size w') css (listF (compP S) n σ []).1 ∧ RIn w' kr S (listF (compP S) n σ []).2 ∧ w.grownBy w' (some kr) := by
  have hTI : ∀ W, w.grownBy W (some kr) → TabIn W := fun W hg => ht.below (n := kr) (Below.of_grown hg (Nat.le_of_lt h.lt) (fun g e => by cases e; omega)) hk
  replace hTI := Hid.mk hTI
  clear ht
  have hc := fun σ W h0 h1 h2 => rcomp_any S kr σ W h0 hk h1 h2 hS
  have hnn := Nat.le_refl n
  go_enter Tryd.func51, Tryd.ntmps51
  go_wp2_with fail
  go_loopw [7, 10] (fun l i wr => ∃ (j : Nat) (css : List (List Value)) (L : List PComp) (τ : RS), i = .int .i64 j ∧ j ≤ n ∧ Hid (wr.ownsRow w.heap.size 52 2 l L.length css.flatten ∧ All2 (CompC w.heap.size wr) css L ∧ L.length = j ∧ RIn wr kr S τ ∧ τ.In S ∧ w.grownBy wr (some kr) ∧ listF (compP S) (n - j) τ L = listF (compP S) n σ [])) (fun _ i _ => n - (intOf i).toNat)
  case atStart => exact ⟨0, [], [], σ, rfl, by omega, ⟨⟨rfl, .inl ⟨rfl, rfl⟩⟩, trivial, rfl, h, hi, grown_of (Below.refl _ _) _, rfl⟩⟩
  case round =>
    clear h hi
    obtain ⟨j, css, L, τ, rfl, hj, ⟨hO, hE, hL, h, hi, hg, hF⟩⟩ := hrel
    obtain ⟨la, lc, rfl⟩ := own_slice hO
    by_cases hlt : j < n
    · have jl : (j : Int) < n := by omega
      have c1 := hc τ wr (hTI.out _ hg) h hi
      have hi1 := compP_in hi
      obtain ⟨q, hq⟩ : ∃ q, n - j = q + 1 := ⟨n - j - 1, by omega⟩
      have hq2 : n - (j + 1) = q := by omega
      rw [hq, listF] at hF
      have hO2 : ∀ W, wr.grownBy W (some kr) → W.ownsRow w.heap.size 52 2 (.slice la L.length lc) L.length css.flatten ∧ All2 (CompC w.heap.size W) css L := fun W hW => ⟨own_kept hO hW (own_ne hO h (by decide)), hE.imp fun _ _ q => q.step hW (nes_box h (by decide) (by decide) (by decide) (by decide))⟩
      clear hO hE
      generalize (compP S τ).1 = x at *
      generalize (compP S τ).2 = τ' at *
      replace hF := Hid.mk hF
      replace h := Hid.mk h
      replace hg := Hid.mk hg
      replace hO2 := Hid.mk hO2
      replace hL := Hid.mk hL
      have hsz := Hid.mk hg.out.size
      go_wp2_with fail
      refine c1.mono ?_
      rintro z w1 ⟨ra, rc, ka, kc, rfl, hn1, hn2, h1, hg1⟩
      obtain ⟨hO, hE⟩ := hO2.out w1 hg1
      have hN : CompC w.heap.size w1 [.slice ra x.roots.length rc, .slice ka x.code.length kc] x := ⟨ra, rc, ka, kc, rfl, own_base hn1 hsz.out, own_base hn2 hsz.out⟩
      replace hg := Hid.mk (hg.out.trans hg1)
      clear hg1 h hO2 c1 hc hn1 hn2
      have ⟨z0, p0, f0⟩ := (h1.alloc (.cells #[.slice ra x.roots.length rc, .slice ka x.code.length kc] 52)).at
      have hG : Gr w1 ((w1.alloc (.cells #[.slice ra x.roots.length rc, .slice ka x.code.length kc] 52)).alloc (.cells #[.slice ra x.roots.length rc, .slice ka x.code.length kc] 52)) := ((Gr.refl w1).alloc _).alloc _
      by_cases he : τ'.e = 0
      · have he' : (τ'.e != 0) = false := by simpa using he
        replace hF := Hid.mk ((if_pos he).symm.trans hF.out)
        have hA : At ((w1.alloc (.cells #[.slice ra x.roots.length rc, .slice ka x.code.length kc] 52)).alloc (.cells #[.slice ra x.roots.length rc, .slice ka x.code.length kc] 52)) (w1.heap.size + 1) [Value.slice ra x.roots.length rc, .slice ka x.code.length kc].toArray := At.next _ _ _ _
        replace hO := Hid.mk (own_below hO hG.below)
        replace hE := Hid.mk ((hE.snoc hN).imp fun _ _ q => q.step (grown_of hG.below none) (nes_none _))
        replace h1 := Hid.mk (h1.gr hG)
        replace hg := Hid.mk (hg.out.trans (grown_of hG.below _))
        have hs := Hid.mk hg.out.size
        replace hA := Hid.mk hA
        replace he := Hid.mk he
        clear hG hN
        go_wp2_with (at_builtin; refine wpList_append_el rfl (.tmp 19) (.tmp 21) 23 52 _ 2 48 rfl Tryd.underlying23 infoComp rfl (by decide) (by decide) w.heap.size (.slice la L.length lc) L.length css.flatten [Value.slice ra x.roots.length rc, .slice ka x.code.length kc] rfl hO.out (w1.heap.size + 1) rfl hA.out rfl (by simp [Value.oneCell']) (by have := hL.out; omega) hs.out ?_)
        intro g c w5 hrow hgr
        have hk5 := own_ne hO.out h1.out (by decide)
        replace hE := Hid.mk (hE.out.imp fun _ _ q => q.step hgr (nes_own hO.out (by decide) (by decide) (by decide) (by decide)))
        replace h1 := Hid.mk (Box.keptRow h1.out hgr hk5)
        replace hg := Hid.mk (hg.out.andThen hgr (fun i hq => .inl (own_block hO.out i hq).1))
        replace hrow := Hid.mk hrow
        clear hgr z0 p0 f0 hO hk5
        go_wp2_with fail
        go_roundw
        case rel => exact ⟨j + 1, css ++ [[.slice ra x.roots.length rc, .slice ka x.code.length kc]], L ++ [x], τ', by simp, by omega, ⟨by rw [List.length_append, flat_snoc2]; exact hrow.out, hE.out, by rw [List.length_append, hL.out]; rfl, h1.out, hi1, hg.out, by rw [hq2]; exact hF.out⟩⟩
        case measure => simp [intOf]; omega
      · have he' : (τ'.e != 0) = true := by simpa using he
        replace hF := Hid.mk ((if_neg he).symm.trans hF.out)
        replace he := Hid.mk he
        replace h1 := Hid.mk (h1.alloc (.cells #[.slice ra x.roots.length rc, .slice ka x.code.length kc] 52))
        replace hg := Hid.mk (hg.out.trans (grown_of ((Gr.refl w1).alloc (.cells #[.slice ra x.roots.length rc, .slice ka x.code.length kc] 52)).below _))
        clear hG hO hE hN
        go_wp2_with fail
        go_ret
        refine ⟨_, rfl, [], ?_⟩
        rw [← hF.out]
        exact ⟨⟨rfl, .inl ⟨rfl, rfl⟩⟩, trivial, h1.out, hg.out⟩
    · have jl : ¬ (j : Int) < n := by omega
      have hq : n - j = 0 := by omega
      rw [hq, listF] at hF
      replace hF := Hid.mk hF
      replace hO := Hid.mk hO
      replace hE := Hid.mk hE
      replace h := Hid.mk h
      replace hg := Hid.mk hg
      clear hc hL
      go_wp2_with fail
      go_ret
      refine ⟨_, rfl, css, ?_⟩
      rw [← hF.out]
      exact ⟨hO.out, hE.out, h.out, hg.out⟩
set_option maxRecDepth 10000 in
set_option maxHeartbeats 4000000 in
theorem listGate_any (S : List UInt8) (kr : Nat) (n : Nat) (σ : RS) (w : World) (h : RIn w kr S σ) (hi : σ.In S) (hS : S.length ≤ 1000000) (hn : n ≤ 65535) :
    Calls Tryd.prog 53 #[.pointer (some ⟨kr, 0, none⟩), .int .i64 n, .func (.func 54) #[.pointer (some ⟨kr, 0, none⟩)] #[]] w fun x w' => ∃ v, x = .returned v ∧ ∃ css, w'.ownsRow w.heap.size 55 4 v (listF (gateP S) n σ []).1.length css.flatten ∧ All2 (GateC w.heap.size w') css (listF (gateP S) n σ []).1 ∧ RIn w' kr S (listF (gateP S) n σ []).2 ∧ w.grownBy w' (some kr) := by
  have hc := fun σ W h1 h2 => rgate_any S kr σ W h1 h2 hS
  have hnn := Nat.le_refl n
  go_enter Tryd.func53, Tryd.ntmps53
  go_wp2_with fail
  go_loopw [7, 10] (fun l i wr => ∃ (j : Nat) (css : List (List Value)) (L : List PGate) (τ : RS), i = .int .i64 j ∧ j ≤ n ∧ Hid (wr.ownsRow w.heap.size 55 4 l L.length css.flatten ∧ All2 (GateC w.heap.size wr) css L ∧ L.length = j ∧ RIn wr kr S τ ∧ τ.In S ∧ w.grownBy wr (some kr) ∧ listF (gateP S) (n - j) τ L = listF (gateP S) n σ [])) (fun _ i _ => n - (intOf i).toNat)
  case atStart => exact ⟨0, [], [], σ, rfl, by omega, ⟨⟨rfl, .inl ⟨rfl, rfl⟩⟩, trivial, rfl, h, hi, grown_of (Below.refl _ _) _, rfl⟩⟩
  case round =>
    clear h hi
    obtain ⟨j, css, L, τ, rfl, hj, ⟨hO, hE, hL, h, hi, hg, hF⟩⟩ := hrel
    obtain ⟨la, lc, rfl⟩ := own_slice hO
    by_cases hlt : j < n
    · have jl : (j : Int) < n := by omega
      have c1 := hc τ wr h hi
      have hi1 := gateP_in hi
      obtain ⟨q, hq⟩ : ∃ q, n - j = q + 1 := ⟨n - j - 1, by omega⟩
      have hq2 : n - (j + 1) = q := by omega
      rw [hq, listF] at hF
      have hO2 : ∀ W, wr.grownBy W (some kr) → W.ownsRow w.heap.size 55 4 (.slice la L.length lc) L.length css.flatten ∧ All2 (GateC w.heap.size W) css L := fun W hW => ⟨own_kept hO hW (own_ne hO h (by decide)), hE.imp fun _ _ q => q.step hW (nes_box h (by decide) (by decide) (by decide) (by decide))⟩
      clear hO hE
      generalize (gateP S τ).1 = x at *
      generalize (gateP S τ).2 = τ' at *
      replace hF := Hid.mk hF
      replace h := Hid.mk h
      replace hg := Hid.mk hg
      replace hO2 := Hid.mk hO2
      replace hL := Hid.mk hL
      have hsz := Hid.mk hg.out.size
      go_wp2_with fail
      refine c1.mono ?_
      rintro z w1 ⟨xa, xc, ya, yc, rfl, hn1, hn2, h1, hg1⟩
      obtain ⟨hO, hE⟩ := hO2.out w1 hg1
      have hN : GateC w.heap.size w1 [.int .i64 x.c, .int .i64 x.e, .slice xa x.args.length xc, .slice ya x.res.length yc] x := ⟨xa, xc, ya, yc, rfl, own_base hn1 hsz.out, own_base hn2 hsz.out⟩
      replace hg := Hid.mk (hg.out.trans hg1)
      clear hg1 h hO2 c1 hc hn1 hn2
      have ⟨z0, p0, f0⟩ := (h1.alloc (.cells #[.int .i64 x.c, .int .i64 x.e, .slice xa x.args.length xc, .slice ya x.res.length yc] 55)).at
      have hG : Gr w1 ((w1.alloc (.cells #[.int .i64 x.c, .int .i64 x.e, .slice xa x.args.length xc, .slice ya x.res.length yc] 55)).alloc (.cells #[.int .i64 x.c, .int .i64 x.e, .slice xa x.args.length xc, .slice ya x.res.length yc] 55)) := ((Gr.refl w1).alloc _).alloc _
      by_cases he : τ'.e = 0
      · have he' : (τ'.e != 0) = false := by simpa using he
        replace hF := Hid.mk ((if_pos he).symm.trans hF.out)
        have hA : At ((w1.alloc (.cells #[.int .i64 x.c, .int .i64 x.e, .slice xa x.args.length xc, .slice ya x.res.length yc] 55)).alloc (.cells #[.int .i64 x.c, .int .i64 x.e, .slice xa x.args.length xc, .slice ya x.res.length yc] 55)) (w1.heap.size + 1) [Value.int .i64 x.c, .int .i64 x.e, .slice xa x.args.length xc, .slice ya x.res.length yc].toArray := At.next _ _ _ _
        replace hO := Hid.mk (own_below hO hG.below)
        replace hE := Hid.mk ((hE.snoc hN).imp fun _ _ q => q.step (grown_of hG.below none) (nes_none _))
        replace h1 := Hid.mk (h1.gr hG)
        replace hg := Hid.mk (hg.out.trans (grown_of hG.below _))
        have hs := Hid.mk hg.out.size
        replace hA := Hid.mk hA
        replace he := Hid.mk he
        clear hG hN
        go_wp2_with (at_builtin; refine wpList_append_el rfl (.tmp 19) (.tmp 21) 24 55 _ 4 64 rfl Tryd.underlying24 infoGate rfl (by decide) (by decide) w.heap.size (.slice la L.length lc) L.length css.flatten [Value.int .i64 x.c, .int .i64 x.e, .slice xa x.args.length xc, .slice ya x.res.length yc] rfl hO.out (w1.heap.size + 1) rfl hA.out rfl (by simp [Value.oneCell']) (by have := hL.out; omega) hs.out ?_)
        intro g c w5 hrow hgr
        have hk5 := own_ne hO.out h1.out (by decide)
        replace hE := Hid.mk (hE.out.imp fun _ _ q => q.step hgr (nes_own hO.out (by decide) (by decide) (by decide) (by decide)))
        replace h1 := Hid.mk (Box.keptRow h1.out hgr hk5)
        replace hg := Hid.mk (hg.out.andThen hgr (fun i hq => .inl (own_block hO.out i hq).1))
        replace hrow := Hid.mk hrow
        clear hgr z0 p0 f0 hO hk5
        go_wp2_with fail
        go_roundw
        case rel => exact ⟨j + 1, css ++ [[.int .i64 x.c, .int .i64 x.e, .slice xa x.args.length xc, .slice ya x.res.length yc]], L ++ [x], τ', by simp, by omega, ⟨by rw [List.length_append, flat_snoc2]; exact hrow.out, hE.out, by rw [List.length_append, hL.out]; rfl, h1.out, hi1, hg.out, by rw [hq2]; exact hF.out⟩⟩
        case measure => simp [intOf]; omega
      · have he' : (τ'.e != 0) = true := by simpa using he
        replace hF := Hid.mk ((if_neg he).symm.trans hF.out)
        replace he := Hid.mk he
        replace h1 := Hid.mk (h1.alloc (.cells #[.int .i64 x.c, .int .i64 x.e, .slice xa x.args.length xc, .slice ya x.res.length yc] 55))
        replace hg := Hid.mk (hg.out.trans (grown_of ((Gr.refl w1).alloc (.cells #[.int .i64 x.c, .int .i64 x.e, .slice xa x.args.length xc, .slice ya x.res.length yc] 55)).below _))
        clear hG hO hE hN
        go_wp2_with fail
        go_ret
        refine ⟨_, rfl, [], ?_⟩
        rw [← hF.out]
        exact ⟨⟨rfl, .inl ⟨rfl, rfl⟩⟩, trivial, h1.out, hg.out⟩
    · have jl : ¬ (j : Int) < n := by omega
      have hq : n - j = 0 := by omega
      rw [hq, listF] at hF
      replace hF := Hid.mk hF
      replace hO := Hid.mk hO
      replace hE := Hid.mk hE
      replace h := Hid.mk h
      replace hg := Hid.mk hg
      clear hc hL
      go_wp2_with fail
      go_ret
      refine ⟨_, rfl, css, ?_⟩
      rw [← hF.out]
      exact ⟨hO.out, hE.out, h.out, hg.out⟩
end Go.Proofs.YtcljibdikhpnlaaDoor
