/-
  Stage 8, flow: the book's ownAll, walked.
-/
import Derived.Test.YtjmknpkmbghgdaaFBookF
import Derived.Deep.RegionLaw
namespace Go.Proofs.Ytjmknpkmbghgdaa
namespace F
open Go.RowKit
open T

set_option maxRecDepth 100000 in
set_option maxHeartbeats 16000000 in
theorem ownAll_any (w : World) (bB : Nat) (V : Value) (vs : List Value) (c : Nat → Int) (h : Sh w bB V vs c (fun _ => 0) w) (hB : c bB = -3) (hV : Cl c V 0) (hc : ∀ k, c k ≠ -1 ∧ c k ≠ -2) (hN : vs.length ≤ 4100000) :
    Calls Try.prog 19 #[.pointer (some ⟨bB, 0, none⟩), V] w fun e w' => e = .returned (.tuple #[]) ∧ Ow w bB vs.length c w' := by
  obtain ⟨Va, Vc, rfl⟩ := row_slice h.row
  have h0 : Hid (Sh w bB (.slice Va vs.length Vc) vs c (fu 0 0) w) := Hid.mk (h.congr (fun j _ q => by simpa [fu] using q))
  have hrow : Hid (∀ W f i (hi : i < vs.length), Sh w bB (.slice Va vs.length Vc) vs c f W → ∃ gV, Va = some ⟨gV, 0, none⟩ ∧ W.cell? ⟨gV, i, none⟩ = some vs[i]) := Hid.mk (fun W f i hi q => by
    obtain ⟨g, cap, e, _, z⟩ := row_cell q.row i hi
    simp only [Value.slice.injEq] at e
    exact ⟨g, e.1, z⟩)
  have hst := Hid.mk (fun f f' W (q : Sh w bB (.slice Va vs.length Vc) vs c f W) => Sh.store (f' := f') q hB hV)
  obtain ⟨i0, hi0, hz0, hz1, hz2⟩ := info_parts' (t := 23) (z := .slice none 0 0) (s := 1) (b := 24) (by kernel_rfl)
  obtain ⟨j0, hj0, jz0, jz1, jz2⟩ := info_parts' (t := 3) (z := .int .i64 0) (s := 1) (b := 8) (by kernel_rfl)
  clear h
  replace hB := Hid.mk hB
  replace hV := Hid.mk hV
  replace hc := Hid.mk hc
  go_enter Try.func19, Try.ntmps19
  go_wp2_with fail
  go_loopw [4] (fun x wr => ∃ i : Nat, x = .int .i64 i ∧ i ≤ vs.length ∧ Hid (Sh w bB (.slice Va vs.length Vc) vs c (fu i 0) wr)) (fun x _ => vs.length - (intOf x).toNat)
  case atStart => exact ⟨0, rfl, by omega, h0⟩
  case round =>
    clear h0
    obtain ⟨i, rfl, hi, hI⟩ := hrel
    by_cases hlt : i < vs.length
    · have hi1 : (i : Int) < vs.length := by omega
      obtain ⟨a, n, cp, ev, hn⟩ := (hI.out.ls i hlt).slice
      obtain ⟨gV, rfl, zV⟩ := hrow.out _ _ i hlt hI.out
      rw [ev] at zV
      replace ev := Hid.mk ev
      go_wp2_with fail
      clear zV
      go_loopw [5] (fun x wr => ∃ k : Nat, x = .int .i64 k ∧ k ≤ n ∧ Hid (Sh w bB (.slice (some ⟨gV, 0, none⟩) vs.length Vc) vs c (fu i k) wr)) (fun x _ => n - (intOf x).toNat)
      case atStart => exact ⟨0, rfl, by omega, hI⟩
      case round =>
        clear hI
        obtain ⟨k, rfl, hk, hI⟩ := hrel
        obtain ⟨gV', egV, zV⟩ := hrow.out _ _ i hlt hI.out
        have : gV = gV' := by simpa using egV
        subst this
        clear egV
        rw [ev.out] at zV
        by_cases hkl : k < n
        · have hk1 : (k : Int) < n := by omega
          have z0 := hI.out.box.2.1 0
          have zl := hI.out.box.1
          simp only [List.getElem?_toArray, List.getElem?_cons_zero] at z0
          obtain ⟨g, rfl, g1, ⟨y, g2⟩, g3, g4⟩ := hst.out (fu i k) (fu i (k + 1)) _ hI.out i hlt a n cp ev.out k hkl (fu_here i k) (fu_here i (k + 1)) (fun j q => fu_other i _ _ j q)
          rw [show (i : Int) + 1 = 1 + i by omega] at g4
          replace g4 := Hid.mk (g4.drewN ((Below.refl _ _).drew))
          go_wp2_with fail
          go_region
          all_goals go_wp2_with fail
          all_goals go_roundw
          all_goals first | exact ⟨k + 1, by simp, by omega, g4⟩ | (simp only [intOf]; omega)
        · have hk1 : ¬ (k : Int) < n := by omega
          have hnw : Hid (Sh w bB (.slice (some ⟨gV, 0, none⟩) vs.length Vc) vs c (fu (i + 1) 0) wr) := Hid.mk (hI.out.congr (fun j hj q => by
            by_cases e : j = i
            · subst e
              rw [ev.out] at q ⊢
              rw [fu_here] at q
              exact q.more (by omega)
            · have : fu (i + 1) 0 j = fu i k j := by
                by_cases r : j < i
                · simp [fu, r, show j < i + 1 by omega]
                · simp [fu, r, e, show ¬ j < i + 1 by omega]
              rw [this]
              exact q))
          go_wp2_with fail
          go_roundw
          all_goals first | exact ⟨i + 1, by simp, by omega, hnw⟩ | (simp only [intOf]; omega)
    · have hi1 : ¬ (i : Int) < vs.length := by omega
      have h2 : Hid (∃ v1 v2 T c', Sc w bB (.slice Va vs.length Vc) vs c 0 v1 v2 (T.map (·.1)) (T.map (·.2)) c' wr ∧ T.length = 3 * 0 ∧ Rds (0 : Nat) T c' wr) := Hid.mk ⟨_, _, [], c, (hI.out.congr (f' := fun _ => 2000000) (fun j hj q => by simpa [fu, show j < i by omega] using q)).second hB.out hV.out, rfl, fun t ht => by cases ht⟩
      clear hI
      go_wp2_with fail
      go_loopw [6] (fun x wr => ∃ i : Nat, x = .int .i64 i ∧ i ≤ vs.length ∧ Hid (∃ v1 v2 T c', Sc w bB (.slice Va vs.length Vc) vs c i v1 v2 (T.map (·.1)) (T.map (·.2)) c' wr ∧ T.length = 3 * i ∧ Rds i T c' wr)) (fun x _ => vs.length - (intOf x).toNat)
      case atStart => exact ⟨0, rfl, by omega, h2⟩
      case round =>
        clear h2 hlt hi hi1
        obtain ⟨i, rfl, hi, ⟨v1, v2, T, c', s1, sT, sR⟩⟩ := hrel
        have z0 := s1.box.2.1 0
        have zl := s1.box.1
        simp only [List.getElem?_toArray, List.getElem?_cons_zero] at z0
        by_cases hlt : i < vs.length
        · have hi1 : (i : Int) < vs.length := by omega
          obtain ⟨a, n, cp, ev, hn⟩ := (s1.ls i hlt (Nat.le_refl _)).slice
          obtain ⟨gV, cV, eV, _, zV⟩ := row_cell s1.row i hlt
          simp only [Value.slice.injEq] at eV
          obtain ⟨rfl, _, rfl⟩ := eV
          have hx := s1.ls i hlt (Nat.le_refl _)
          rw [ev] at hx zV
          obtain ⟨x1, x2⟩ := hx.full (by omega)
          clear hx
          rw [show (i : Int) + 1 = 1 + i by omega] at x1 x2
          replace ev := Hid.mk ev
          replace x1 := Hid.mk x1
          replace x2 := Hid.mk x2
          replace s1 := Hid.mk s1
          replace sT := Hid.mk sT
          replace sR := Hid.mk sR
          go_wp2_with (at_builtin; refine wpList_append_x rfl (.tmp 56) (.tmp 59) rfl 0 (.slice a n cp) n (-(1 + (i : Int))) rfl (own_below x1.out ((Below.refl _ wr).alloc (Nat.le_refl _) _)) wr.heap.size rfl (At.new _ _ _) (by omega) (Nat.zero_le _) ?_)
          intro g1 cx w1 k1 k2 k3 k4 k5
          have h3 : Hid (∃ c2, XI 0 w1 (.slice (some ⟨g1, 0, none⟩) (n + 1) cx) (n + 1 + 0) (-(1 + (i : Int))) ∧ Cl c2 (.slice (some ⟨g1, 0, none⟩) (n + 1) cx) (1 + (i : Int)) ∧ Stp (1 + (i : Int)) wr w1 c' c2 ∧ Mine (-(1 + (i : Int))) wr w1 ∧ Rd w1 c2 (.slice (some ⟨g1, 0, none⟩) (n + 1) cx) (1 + (i : Int))) := Hid.mk (by
            obtain ⟨c1, t1, t2⟩ := Stp.grown (m := 1 + (i : Int)) (c := c') k2 x2.out (k3.imp_right (fun e => by rw [e]; simp))
            have ha : Below wr.heap.size wr (wr.alloc (.cells #[.int .i64 (-(1 + (i : Int)))] 3)) := (Below.refl _ wr).alloc (Nat.le_refl _) _
            exact ⟨c1, k1, cl_some t2, (Stp.of_below ha).trans t1, (Mine.below ha).trans k5, Rd.of k1 (cl_some t2) (by omega)⟩)
          clear k1 k2 k3 k4 k5
          go_wp2_with fail
          go_loopw [9, 10] (fun v x w2 => ∃ j : Nat, x = .int .i64 j ∧ j ≤ 40 ∧ Hid (∃ c2, XI 0 w2 v (n + 1 + j) (-(1 + (i : Int))) ∧ Cl c2 v (1 + (i : Int)) ∧ Stp (1 + (i : Int)) wr w2 c' c2 ∧ Mine (-(1 + (i : Int))) wr w2 ∧ Rd w2 c2 (.slice (some ⟨g1, 0, none⟩) (n + 1) cx) (1 + (i : Int)))) (fun _ x _ => 40 - (intOf x).toNat)
          case atStart => exact ⟨0, rfl, by omega, h3⟩
          case round =>
            clear h3
            rename World => w2
            obtain ⟨j, rfl, hj, ⟨c2, i1, i2, i3, i4, i5⟩⟩ := hrel
            obtain ⟨va, vc, rfl⟩ := row_slice i1
            by_cases hjl : j < 40
            · have hj1 : (j : Int) < 40 := by omega
              replace i1 := Hid.mk i1
              replace i2 := Hid.mk i2
              replace i3 := Hid.mk i3
              replace i4 := Hid.mk i4
              replace i5 := Hid.mk i5
              go_wp2_with (at_builtin; refine wpList_append_x rfl (.tmp 66) (.tmp 69) rfl 0 (.slice va (n + 1 + j) vc) (n + 1 + j) (-(1 + (i : Int))) rfl (own_below i1.out ((Below.refl _ w2).alloc (Nat.le_refl _) _)) w2.heap.size rfl (At.new _ _ _) (by omega) (Nat.zero_le _) ?_)
              intro g2 cy w3 k1 k2 k3 k4 k5
              have h3 : Hid (∃ c2, XI 0 w3 (.slice (some ⟨g2, 0, none⟩) (n + 1 + (j + 1)) cy) (n + 1 + (j + 1)) (-(1 + (i : Int))) ∧ Cl c2 (.slice (some ⟨g2, 0, none⟩) (n + 1 + (j + 1)) cy) (1 + (i : Int)) ∧ Stp (1 + (i : Int)) wr w3 c' c2 ∧ Mine (-(1 + (i : Int))) wr w3 ∧ Rd w3 c2 (.slice (some ⟨g1, 0, none⟩) (n + 1) cx) (1 + (i : Int))) := Hid.mk (by
                obtain ⟨c3, t1, t2⟩ := Stp.grown (m := 1 + (i : Int)) (c := c2) k2 i2.out (k3.imp_right (fun e => by rw [e]; simp))
                have ha : Below w2.heap.size w2 (w2.alloc (.cells #[.int .i64 (-(1 + (i : Int)))] 3)) := (Below.refl _ w2).alloc (Nat.le_refl _) _
                have hst := (Stp.of_below (m := 1 + (i : Int)) (c := c2) ha).trans t1
                have hmi := (Mine.below (m := -(1 + (i : Int))) ha).trans k5
                exact ⟨c3, k1, cl_some t2, i3.out.trans hst, i4.out.trans hmi, i5.out.mine hst hmi⟩)
              clear k1 k2 k3 k4 k5
              go_wp2_with fail
              go_roundw
              all_goals first | exact ⟨j + 1, by simp, by omega, h3⟩ | (simp only [intOf]; omega)
            · have hj1 : ¬ (j : Int) < 40 := by omega
              have hnn : n + 1 + j ≤ 2000000 := by omega
              have d1 := Hid.mk ((s1.out.skip (Nat.le_succ i)).stp i3 (by omega) (fun j' q => by omega))
              have d2 := Hid.mk ((sR.out.stp i3 (.inr (by omega))).more ((Rd.of x1.out x2.out (by omega)).mine i3 i4) i5 (Rd.of i1 i2 hnn))
              have y1 := d1.out.box.2.1 1
              simp only [List.getElem?_toArray, List.getElem?_cons_succ, List.getElem?_cons_zero] at y1
              have yl := d1.out.box.1
              obtain ⟨gV', cV', eV, ygl, y2⟩ := row_cell d1.out.row i hlt
              simp only [Value.slice.injEq, Option.some.injEq, Addr.mk.injEq, and_true, true_and] at eV
              obtain ⟨rfl, rfl⟩ := eV
              rw [ev.out] at y2
              have lA : Hid ((T.map (·.1)).length = 3 * i) := Hid.mk (by rw [List.length_map]; exact sT.out)
              have lB : Hid ((T.map (·.2)).length = 3 * i) := Hid.mk (by rw [List.length_map]; exact sT.out)
              have eA : Hid ((T ++ [(Value.slice a n cp, 1 + (i : Int)), (.slice (some ⟨g1, 0, none⟩) (n + 1) cx, 1 + (i : Int)), (.slice va (n + 1 + j) vc, 1 + (i : Int))]).map (·.1) = T.map (·.1) ++ [.slice a n cp, .slice (some ⟨g1, 0, none⟩) (n + 1) cx, .slice va (n + 1 + j) vc]) := Hid.mk (by simp)
              have eB : Hid ((T ++ [(Value.slice a n cp, 1 + (i : Int)), (.slice (some ⟨g1, 0, none⟩) (n + 1) cx, 1 + (i : Int)), (.slice va (n + 1 + j) vc, 1 + (i : Int))]).map (·.2) = T.map (·.2) ++ [1 + (i : Int), 1 + (i : Int), 1 + (i : Int)]) := Hid.mk (by simp)
              have eT : Hid ((T ++ [(Value.slice a n cp, 1 + (i : Int)), (.slice (some ⟨g1, 0, none⟩) (n + 1) cx, 1 + (i : Int)), (.slice va (n + 1 + j) vc, 1 + (i : Int))]).length = 3 * (i + 1)) := Hid.mk (by rw [List.length_append, sT.out]; simp; omega)
              generalize T ++ [(Value.slice a n cp, 1 + (i : Int)), (Value.slice (some ⟨g1, 0, none⟩) (n + 1) cx, 1 + (i : Int)), (Value.slice va (n + 1 + j) vc, 1 + (i : Int))] = T' at *
              generalize T.map (·.1) = A at *
              generalize T.map (·.2) = B at *
              have dB := Hid.mk (fun W (q : Below w2.heap.size w2 W) => d1.out.below q)
              have kB : Hid (∀ W, Below w2.heap.size w2 W → W.cell? ⟨gV, i, none⟩ = some (.slice a n cp)) := Hid.mk (fun W q => by
                obtain ⟨gV', cV', eV, _, y2⟩ := row_cell (d1.out.below q).row i hlt
                simp only [Value.slice.injEq, Option.some.injEq, Addr.mk.injEq, and_true, true_and] at eV
                obtain ⟨rfl, rfl⟩ := eV
                rw [ev.out] at y2
                exact y2)
              clear i1 i2 i3 i4 i5 z0 zl zV x1 x2 s1 sR
              go_wp2_with fail
              go_region_law ((refine step_append_lies _ (by rfl) (.tmp 75) (.tmp 82) 39 (by rfl) 0 23 i0 (.slice none 0 0) 1 24 Try.underlying39 hi0 hz0 hz1 hz2 rfl (by decide) v1 _ _ (by rfl) (dB.out _ (by (repeat (first | assumption | with_reducible exact Below.refl _ _ | with_reducible refine Below.alloc ?_ (by simp <;> omega) _ | with_reducible refine Below.setCell ?_ (by simp <;> omega) _ | with_reducible refine Below.drew ?_)))).r1 ⟨w2.heap.size, 0, none⟩ 3 3 [.slice a n cp, .slice (some ⟨g1, 0, none⟩) (n + 1) cx, .slice va (n + 1 + j) vc] (by rfl) (by rfl) (World.news_of_block (cs := #[.slice a n cp, .slice (some ⟨g1, 0, none⟩) (n + 1) cx, .slice va (n + 1 + j) vc]) (t := 23) (fr := (0, 0)) (heap_alloc_new w2 _)) (by simp [Value.oneCell']) (by decide) (by unfold maxLen; rw [lA.out]; omega) (by rw [lA.out]; omega) (Nat.zero_le _) (w2.heap.size + 1) (by simp) ?_; intro g3 c3 w3 k1 k2 k3 k4; obtain ⟨q1, q2, c4, q3, q4⟩ := Sc.grow1 (dB.out _ (by (repeat (first | assumption | with_reducible exact Below.refl _ _ | with_reducible refine Below.alloc ?_ (by simp <;> omega) _ | with_reducible refine Below.setCell ?_ (by simp <;> omega) _ | with_reducible refine Below.drew ?_)))) hc.out k1 k2 (k3.imp_right (fun e => by rw [e]; simp)); have y3 := q1.2.1 1; have y4 := q1.2.2; have y5 := q1.1; simp only [List.getElem?_toArray, List.getElem?_cons_succ, List.getElem?_cons_zero] at y3; replace k1 := Hid.mk k1; replace k2 := Hid.mk k2; replace k3 := Hid.mk k3; replace q1 := Hid.mk q1; replace q2 := Hid.mk q2; replace q3 := Hid.mk q3; replace q4 := Hid.mk q4))
              all_goals
                have d3 := Hid.mk (q4.out _ _ (d2.out.below (by (repeat (first | assumption | with_reducible exact Below.refl _ _ | with_reducible refine Below.alloc ?_ (by simp <;> omega) _ | with_reducible refine Below.setCell ?_ (by simp <;> omega) _ | with_reducible refine Below.drew ?_)))))
                clear k1 k2 k3 k4 q1 q2 q4 d2 dB d1 y1 y2 y3 y4 y5 yl ygl
                generalize w3.setCell ⟨bB, 1, none⟩ (.slice (some ⟨g3, 0, none⟩) (A.length + 3) c3) = w4 at *
                have r1 := q3.out.box.2.1 2
                have rl := q3.out.box.1
                simp only [List.getElem?_toArray, List.getElem?_cons_succ, List.getElem?_cons_zero] at r1
                have hal : Hid (Below w4.heap.size w4 (w4.alloc (.cells #[.int .i64 (1 + (i : Int)), .int .i64 (1 + (i : Int)), .int .i64 (1 + (i : Int))] 3))) := Hid.mk ((Below.refl _ w4).alloc (Nat.le_refl _) _)
                have hq := Hid.mk (q3.out.below hal.out)
                go_wp2_with (at_builtin; refine wpList_append_lies _ rfl (.tmp 90) (.tmp 94) 23 rfl 0 3 j0 (.int .i64 0) 1 8 Try.underlying23 hj0 jz0 jz1 jz2 rfl (by decide) v2 B.length (B.map (Value.int .i64)) rfl hq.out.r2 ⟨w4.heap.size, 0, none⟩ 3 3 [.int .i64 (1 + (i : Int)), .int .i64 (1 + (i : Int)), .int .i64 (1 + (i : Int))] rfl rfl (World.news_of_block (cs := #[.int .i64 (1 + (i : Int)), .int .i64 (1 + (i : Int)), .int .i64 (1 + (i : Int))]) (t := 3) (fr := (0, 0)) (heap_alloc_new w4 _)) (by simp [Value.oneCell']) (by decide) (by unfold maxLen; rw [lB.out]; omega) (by rw [lB.out]; omega) (Nat.zero_le _) _ rfl ?_)
                intro g5 c5 w5 l1 l2 l3 l4
                obtain ⟨t1, c6, t3, t4⟩ := Sc.grow2 (B' := B ++ [1 + (i : Int), 1 + (i : Int), 1 + (i : Int)]) hq.out hc.out (by rw [List.map_append]; exact l1) l2 (l3.imp_right (fun e => by rw [e]; simp))
                have hnw : Hid (∃ v1 v2 T c', Sc w bB (.slice (some ⟨gV, 0, none⟩) vs.length Vc) vs c (i + 1) v1 v2 (T.map (·.1)) (T.map (·.2)) c' (w5.setCell ⟨bB, 2, none⟩ (.slice (some ⟨g5, 0, none⟩) (B.length + 3) c5)) ∧ T.length = 3 * (i + 1) ∧ Rds ((i + 1 : Nat) : Int) T c' (w5.setCell ⟨bB, 2, none⟩ (.slice (some ⟨g5, 0, none⟩) (B.length + 3) c5))) := Hid.mk ⟨_, _, T', c6, by rw [eA.out, eB.out]; exact t3, eT.out, t4 _ _ (d3.out.below hal.out)⟩
                have y3 := t1.2.1 2
                have y4 := t1.2.2
                have y5 := t1.1
                simp only [List.getElem?_toArray, List.getElem?_cons_succ, List.getElem?_cons_zero] at y3
                clear l1 l2 l3 l4 t1 t3 t4 q3 d3 hq hal r1 rl
                go_wp2_with fail
                go_roundw
                all_goals first | exact ⟨i + 1, by simp, by omega, hnw⟩ | (simp only [intOf]; omega)
        · have hi1 : ¬ (i : Int) < vs.length := by omega
          have ei : i = vs.length := by omega
          subst ei
          have hbs : Hid (Ow w bB vs.length c (wr.setCell ⟨bB, 0, none⟩ (.int .i64 vs.length))) := Hid.mk (by
            have ht := Stp.set (m := -3) wr ⟨bB, 0, none⟩ (.int .i64 vs.length) c' s1.cB
            have e1 := (ht.own s1.r1 s1.c1 (by omega)).1
            have e2 := (ht.own s1.r2 s1.c2 (by omega)).1
            rw [List.length_map] at e1 e2
            rw [List.map_map] at e2
            exact ⟨v1, v2, T, c', ⟨box_set s1.box 0 _ (by omega) rfl, e1, e2, s1.c1, s1.c2, fun t ht' => by
              obtain ⟨r1, r2, r3⟩ := sR t ht'
              exact ⟨r1, by omega, r3.stp ht (by omega)⟩⟩, sT, s1.kp.trans (Kp.set (S := fun k => k = bB) wr _ _ rfl) (fun k q => .inl (.inl q))⟩)
          have zf := s1.box.2.2
          clear s1 sR sT
          go_wp2_with fail
          go_end0
          exact ⟨rfl, hbs.out⟩
end F
end Go.Proofs.Ytjmknpkmbghgdaa
