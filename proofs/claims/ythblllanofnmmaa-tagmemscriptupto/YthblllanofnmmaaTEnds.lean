import Derived.Test.YthblllanofnmmaaTDocN
import Derived.Test.YthblllanofnmmaaP35
import Derived.Deep.RegionHeld3
/-
  Stage 6, tagmem: both memories are alike at the end.
-/
namespace Go.Proofs.Ythblllanofnmmaa
namespace T
open Go.RowKit

set_option maxRecDepth 100000 in
set_option maxHeartbeats 2000000 in
theorem ends_any (S S2 : Nat → Prop) (a d : Nat) (b : Nat → UInt8) (t : Nat → Option Cp) (tg : Nat → Bool) (cp : Nat → Cp) (w : World) (h : TgIn S w a b t) (h2 : DIn S2 w d b tg cp) (hr : Rel t tg cp) :
    Calls Try.prog 11 #[.agg #[.pointer (some ⟨a, 0, none⟩), .pointer (some ⟨d, 0, none⟩)]] w fun x w' => x = .returned (.bool true) ∧ Below w.heap.size w w' := by
  have hT := fun W (q : Below w.heap.size w W) => tgTags_any S a b t W (h.gr q)
  have hD := fun W (q : Below w.heap.size w W) => dTags_any S2 d b t tg cp W (h2.gr q) hr
  have hB1 := fun W (q : Below w.heap.size w W) => tgBytes_any S a b t W (h.gr q)
  have hB2 := fun W (q : Below w.heap.size w W) => dBytes_any S2 d b tg cp W (h2.gr q)
  have hl := tagsL_len t 4096
  generalize tagsL t 4096 = R at *
  have eN : (⟨(rowB b 0 65536).toArray⟩ : ByteArray) = allB b := rfl
  rw [eN] at hB1
  generalize allB b = N at *
  have hS := fun ad bd c1 c2 W q1 q2 => same_eq R ad bd c1 c2 W q1 q2 (by omega)
  have hlt : w.heap.size < (w.alloc (.cells #[.pointer (some ⟨a, 0, none⟩), .pointer (some ⟨d, 0, none⟩)] 35)).heap.size := by simp
  have KB : ∀ W, Below (w.heap.size + 1) (w.alloc (.cells #[.pointer (some ⟨a, 0, none⟩), .pointer (some ⟨d, 0, none⟩)] 35)) W → W.cell? ⟨w.heap.size, 0, none⟩ = some (.pointer (some ⟨a, 0, none⟩)) ∧ W.cell? ⟨w.heap.size, 1, none⟩ = some (.pointer (some ⟨d, 0, none⟩)) := fun W q =>
    have A := at_below (At.new w #[.pointer (some ⟨a, 0, none⟩), .pointer (some ⟨d, 0, none⟩)] 35) q (Nat.lt_succ_self _)
    ⟨A.2.1 0, A.2.1 1⟩
  replace h := Hid.mk h
  replace h2 := Hid.mk h2
  replace hT := Hid.mk hT
  replace hD := Hid.mk hD
  replace hB1 := Hid.mk hB1
  replace hB2 := Hid.mk hB2
  replace hS := Hid.mk hS
  replace KB := Hid.mk KB
  replace hr := Hid.mk hr
  clear eN hlt
  go_enter Try.func11, Try.ntmps11
  go_wp2_with fail
  refine (hT.out _ (by (repeat (first | assumption | with_reducible exact Below.refl _ _ | with_reducible refine Below.drew ?_ | with_reducible refine Below.alloc ?_ (by simp <;> omega) _ | with_reducible refine Below.setCell ?_ (by simp <;> omega) _)))).mono ?_
  rintro x w1 ⟨v1, rfl, o1, q1⟩
  have Q1 : Below (w.heap.size + 1) (w.alloc (.cells #[.pointer (some ⟨a, 0, none⟩), .pointer (some ⟨d, 0, none⟩)] 35)) w1 := q1.mono (by simp)
  have P1 : Below w.heap.size w w1 := ((Below.refl _ w).alloc (Nat.le_refl _) _).trans (Q1.mono (by omega))
  obtain ⟨z0, z1⟩ := KB.out _ Q1
  obtain ⟨a1, k1, rfl, u1⟩ := o1.uin
  replace o1 := Hid.mk o1
  replace u1 := Hid.mk u1
  replace q1 := Hid.mk q1
  replace Q1 := Hid.mk Q1
  go_wp2_with fail
  refine (hD.out _ P1).mono ?_
  rintro x w2 ⟨v2, rfl, o2, q2⟩
  have Q2 := Q1.out.trans (q2.mono (by have := Q1.out.size; simp at this; omega))
  have P2 : Below w.heap.size w w2 := ((Below.refl _ w).alloc (Nat.le_refl _) _).trans (Q2.mono (by omega))
  obtain ⟨y0, y1⟩ := KB.out _ Q2
  obtain ⟨a2, k2, rfl, u2⟩ := o2.uin
  have hS2 := hS.out a1 a2 k1 k2 w2 (u1.out.below q2) u2
  replace q2 := Hid.mk q2
  replace o2 := Hid.mk o2
  replace u2 := Hid.mk u2
  replace Q2 := Hid.mk Q2
  replace P1 := Hid.mk P1
  go_wp2_with fail
  refine hS2.mono ?_
  rintro x w3 ⟨rfl, q3⟩
  have Q3 := Q2.out.trans (q3.mono (by have := Q2.out.size; simp at this; omega))
  have P3 : Below w.heap.size w w3 := ((Below.refl _ w).alloc (Nat.le_refl _) _).trans (Q3.mono (by omega))
  obtain ⟨x0, x1⟩ := KB.out _ Q3
  replace q3 := Hid.mk q3
  replace Q3 := Hid.mk Q3
  replace P2 := Hid.mk P2
  clear hS2 z0 z1 y0 y1
  go_wp2_with fail
  go_region_held3 (fun W => W.cell? ⟨w.heap.size, 0, none⟩ = some (.pointer (some ⟨a, 0, none⟩)) ∧ W.cell? ⟨w.heap.size, 1, none⟩ = some (.pointer (some ⟨d, 0, none⟩))) (first | (refine KB.out _ ?_; (repeat (first | exact Q3.out | assumption | with_reducible exact Below.refl _ _ | with_reducible refine Below.drew ?_)); done)) (first | (go_at_call 27; refine (hB1.out _ (by (repeat (first | assumption | with_reducible refine Below.drew ?_)))).mono ?_; rintro x w4 ⟨rfl, q4⟩; have Q4 : Below (w.heap.size + 1) (w.alloc (.cells #[.pointer (some ⟨a, 0, none⟩), .pointer (some ⟨d, 0, none⟩)] 35)) w4 := Below.trans (Below.drew Q3.out) (q4.mono (by have := Q3.out.size; simp at this ⊢; omega)); have P4 : Below w.heap.size w w4 := ((Below.refl _ w).alloc (Nat.le_refl _) _).trans (Q4.mono (by omega))) | (go_at_call 28; refine (hB2.out _ P4).mono ?_; rintro x w5 ⟨rfl, q5⟩; have Q5 : Below (w.heap.size + 1) (w.alloc (.cells #[.pointer (some ⟨a, 0, none⟩), .pointer (some ⟨d, 0, none⟩)] 35)) w5 := Q4.trans (q5.mono (by have := Q4.size; simp at this; omega)); have P5 : Below w.heap.size w w5 := ((Below.refl _ w).alloc (Nat.le_refl _) _).trans (Q5.mono (by omega))))
  all_goals
    go_wp2_with fail
    go_ret
    exact ⟨rfl, P5⟩
end T
end Go.Proofs.Ythblllanofnmmaa
