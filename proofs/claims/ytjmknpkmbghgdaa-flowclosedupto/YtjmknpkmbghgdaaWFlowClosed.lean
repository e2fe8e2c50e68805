/-
  Stage 8, flow: FlowClosed, walked (mkclosed8.py).
-/
import Derived.Test.YtjmknpkmbghgdaaFCloM
namespace Go.Proofs.Ytjmknpkmbghgdaa
namespace F
open Go.RowKit
open T

set_option maxRecDepth 100000 in
set_option maxHeartbeats 8000000 in
theorem walk_FlowClosed (L : List Ins) (cc : Nat) (ca : Option Addr) (E : List Int) (ec : Nat) (ea : Option Addr) (mo : Int) (w : World) (hL : LIn w.heap.size w ca L) (hE : NIn w.heap.size w ea E) (hnil : NilOk ea E.length ec) (_ : -9223372036854775808 ≤ mo ∧ mo < 9223372036854775808) (hn : L.length < 2000000) (he : E.length ≤ 2000000) :
    Calls Try.prog 3 #[.slice ca L.length cc, .slice ea E.length ec, .int .i64 mo] w fun e w' => e = .returned (.bool true) ∧ Below w.heap.size w w' := by
  have hH := head_any w
  have hR := fun W (q : Below w.heap.size w W) => Reached_any L E cc ec ca ea W ((hL.below q).mono q.size) ((hE.below q).mono q.size) hnil hn (by omega)
  have hR2 := fun W g c (q : Below w.heap.size w W) (h : NIn W.heap.size W (some ⟨g, 0, none⟩) (E ++ [mo])) => Reached_any L (E ++ [mo]) cc c ca (some ⟨g, 0, none⟩) W ((hL.below q).mono q.size) h (fun e => by cases e) hn (by simp; omega)
  have hX := fun p W (q : Below w.heap.size w W) => Next_any L ca cc p W ((hL.below q).mono q.size) hn
  have hm := make_bools L.length (by omega)
  have hc1 := fun e h1 h2 => clo1 (L := L) (E := E) (e := e) h1 h2
  have hc2 := fun p q h1 h2 => clo2 (L := L) (E := E) (p := p) (q := q) h1 h2
  have hc3 : ∀ q, q < L.length → rchB L E (-1) q = true → rchB L (E ++ [mo]) (-1) q = true := fun q _ h => clo3 h
  have hc4 : ∀ q, q < L.length → rchB L E (-1) q = true → wC L E (rchB L E (-1)) L.length q = true := fun q _ h => clo4 h
  have e1 : (E ++ [mo]).length = E.length + 1 := by simp
  rw [e1] at hR2
  generalize rchB L E (-1) = r at *
  generalize rchB L (E ++ [mo]) (-1) = rm at *
  replace hL := Hid.mk hL
  replace hE := Hid.mk hE
  replace hnil := Hid.mk hnil
  replace hH := Hid.mk hH
  replace hR := Hid.mk hR
  replace hR2 := Hid.mk hR2
  replace hX := Hid.mk hX
  replace hc1 := Hid.mk hc1
  replace hc2 := Hid.mk hc2
  replace hc3 := Hid.mk hc3
  replace hc4 := Hid.mk hc4
  clear e1
  go_enter Try.func3, Try.ntmps3
  go_wp2_with (first | (go_at_call 9; refine hH.out.mono ?_; rintro x w1 ⟨rfl, q1⟩; replace q1 := Hid.mk q1) | (go_at_call 10; refine (hR.out _ q1.out).mono ?_; rintro x w2 ⟨gl, rfl, l1, l2, l3⟩; have c2 := Hid.mk (q1.out.trans (l3.mono q1.out.size)); have hgl2 := l2.1; replace l2 := Hid.mk l2; clear l1 l3 q1) | (at_builtin; refine wpList_append_came rfl (.tmp 23) (.tmp 24) rfl w2.heap.size (.slice (some ⟨w2.heap.size, 0, none⟩) 0 0) [] E rfl ⟨rfl, .inr ⟨w2.heap.size, 0, #[], rfl, Nat.le_refl _, (MapKept.heap_alloc w2 _).1, Nat.le_refl _, by simp [maxLen], rfl, rfl⟩⟩ ea ec rfl w.heap.size (hE.out.below (c2.out.alloc c2.out.size _)) (by simp; omega) (by simp) ?_))
  intro v1 w3 g1 g2 g3
  obtain ⟨va, vc, rfl⟩ := own_slice g1
  have B3 : Below w2.heap.size w2 w3 := Below.trans (by (repeat (first | assumption | with_reducible exact Below.refl _ _ | with_reducible refine Below.alloc ?_ (by simp <;> omega) _ | with_reducible refine Below.setCell ?_ (by simp <;> omega) _ | with_reducible refine Below.drew ?_))) (Below.of_grown g2 (by simp) (fun k r => by simp [Value.ownBlock] at r; omega))
  have hb3 := B3.size
  have g1' : IOwn (w3.alloc (.cells #[.int .i64 mo] 3)) w2.heap.size (.slice va E.length vc) E := own_below g1 (by (repeat (first | assumption | with_reducible exact Below.refl _ _ | with_reducible refine Below.alloc ?_ (by simp <;> omega) _ | with_reducible refine Below.setCell ?_ (by simp <;> omega) _ | with_reducible refine Below.drew ?_)))
  have hlk := World.ownsRow.lt g1
  replace g1' := Hid.mk g1'
  replace B3 := Hid.mk B3
  replace hlk := Hid.mk hlk
  clear g1 g2 g3
  go_wp2_with (first | (at_builtin; refine wpList_append_int rfl (.tmp 25) (.tmp 27) rfl w2.heap.size (.slice va E.length vc) E mo rfl g1'.out w3.heap.size rfl (At.new w3 _ _) (by omega) (by simp; omega) ?_))
  intro g4 cap4 w4 k1 k2 k3 k4
  have B4 : Below w2.heap.size w2 w4 := (B3.out.trans ((Below.refl _ _).alloc hb3 _)).trans (Below.of_grown k2 (by simp; omega) (fun k r => (hlk.out k r).1))
  have c4 := Hid.mk (c2.out.trans (B4.mono c2.out.size))
  have hn4 := Hid.mk (own_nin k1)
  have l4 := Hid.mk (at_below l2.out B4 hgl2)
  have hgl4 := Nat.lt_of_lt_of_le hgl2 B4.size
  clear k1 k2 k3 k4 B4 B3 g1' hlk l2
  go_wp2_with (first | (go_at_call 10; refine (hR2.out _ g4 cap4 c4.out hn4.out).mono ?_; rintro x w5 ⟨gm, rfl, m1, m2, m3⟩; have c5 := Hid.mk (c4.out.trans (m3.mono c4.out.size)); have hAl5 := Hid.mk (at_below l4.out m3 hgl4); have hgl5 := hAl5.out.1; have hgm5 := m2.1; have hAm5 := Hid.mk m2; clear m1 m2 m3 c4 hn4 l4))
  have hat := Hid.mk (fun (y : Int) W (h : At W gl (boolA L.length r)) => at_any gl L.length L.length r y W h)
  go_loopw [10] (fun x wr => ∃ j : Nat, x = .int .i64 j ∧ j ≤ E.length ∧ wr = w5) (fun x _ => E.length - (intOf x).toNat)
  case atStart => exact ⟨0, rfl, by omega, rfl⟩
  case round =>
    obtain ⟨j, rfl, hj, rfl⟩ := hrel
    by_cases hlt : j < E.length
    · obtain ⟨b', off, rfl, hb0', hb1, hcj⟩ := hE.out j hlt
      have hcj' := (c5.out.cell (p := ⟨b', off + j, none⟩) hb0').trans hcj
      have hi1 : (j : Int) < E.length := by omega
      have hmem := List.getElem_mem hlt
      have hc1' := hc1.out E[j] hmem
      generalize E[j] = y at *
      clear hcj
      cases et : thB L.length y with
      | true =>
        have hry := hc1' et
        obtain ⟨q, rfl, hq⟩ := thB_elim et
        have hz := boolA_at hAl5.out q hq
        simp only [Int.toNat_natCast] at hry
        rw [hry] at hz
        have hq1 : (q : Int) < L.length := by omega
        replace hry := Hid.mk hry
        replace hmem := Hid.mk hmem
        clear hc1' et
        go_wp2_with fail
        go_roundw
        all_goals first | exact ⟨j + 1, by simp, by omega, trivial⟩ | (simp only [intOf]; omega)
      | false =>
        have hno : ¬ 0 ≤ y ∨ (0 ≤ y ∧ ¬ y < L.length) := by
          simp only [thB, Bool.and_eq_false_iff, decide_eq_false_iff_not] at et
          omega
        replace hmem := Hid.mk hmem
        clear hc1' et
        rcases hno with r1 | ⟨r1, r2⟩
        · go_wp2_with fail
          go_roundw
          all_goals first | exact ⟨j + 1, by simp, by omega, trivial⟩ | (simp only [intOf]; omega)
        · go_wp2_with fail
          go_roundw
          all_goals first | exact ⟨j + 1, by simp, by omega, trivial⟩ | (simp only [intOf]; omega)
    · have hi1 : ¬ (j : Int) < E.length := by omega
      go_wp2_with fail
      rename World => w5
      have hB0 : Hid (At (w5.alloc (.cells (Array.replicate L.length (.bool false)) 4)) w5.heap.size (boolA L.length (fun q => decide ((q : Int) ∈ E.take 0))) ∧ Below w5.heap.size w5 (w5.alloc (.cells (Array.replicate L.length (.bool false)) 4))) := Hid.mk ⟨by
        rw [boolA_congr (g := fun _ => false) (fun z _ => by simp)]
        exact boolA_new w5 L.length 4, by (repeat (first | assumption | with_reducible exact Below.refl _ _ | with_reducible refine Below.alloc ?_ (by simp <;> omega) _ | with_reducible refine Below.setCell ?_ (by simp <;> omega) _ | with_reducible refine Below.drew ?_))⟩
      go_loopw [12] (fun x wr => ∃ j : Nat, x = .int .i64 j ∧ j ≤ E.length ∧ Hid (At wr w5.heap.size (boolA L.length (fun q => decide ((q : Int) ∈ E.take j))) ∧ Below w5.heap.size w5 wr)) (fun x _ => E.length - (intOf x).toNat)
      case atStart => exact ⟨0, rfl, by omega, hB0⟩
      case round =>
        clear hB0
        obtain ⟨j, rfl, hj, ⟨j1, j2⟩⟩ := hrel
        by_cases hlt : j < E.length
        · obtain ⟨b', off, rfl, hb0', hb1, hcj⟩ := hE.out j hlt
          have hcj' := ((c5.out.trans (j2.mono c5.out.size)).cell (p := ⟨b', off + j, none⟩) hb0').trans hcj
          have hi1 : (j : Int) < E.length := by omega
          have htk := take_snoc E j hlt
          generalize hyE : E[j] = y at *
          clear hcj
          cases et : thB L.length y with
          | true =>
            obtain ⟨q, rfl, hq⟩ := thB_elim et
            have hz := boolA_at j1 q hq
            have hfy := j1.2.2
            have hgy := j1.1
            have hq1 : (q : Int) < L.length := by omega
            have hnew : Hid (At (wr.setCell ⟨w5.heap.size, q, none⟩ (.bool true)) w5.heap.size (boolA L.length (fun q => decide ((q : Int) ∈ E.take (j + 1)))) ∧ Below w5.heap.size w5 (wr.setCell ⟨w5.heap.size, q, none⟩ (.bool true))) := Hid.mk ⟨boolA_put j1 q true hq (fun z _ => by
              rw [htk]
              by_cases ez : z = q
              · subst ez; simp
              · have : ¬ (z : Int) = q := by omega
                simp [ez, this]), j2.setCell (Nat.le_refl _) _⟩
            replace j1 := Hid.mk j1
            replace j2 := Hid.mk j2
            replace htk := Hid.mk htk
            replace hyE := Hid.mk hyE
            clear et
            go_wp2_with fail
            go_roundw
            all_goals first | exact ⟨j + 1, by simp, by omega, hnew⟩ | (simp only [intOf]; omega)
          | false =>
            have hno : ¬ 0 ≤ y ∨ (0 ≤ y ∧ ¬ y < L.length) := by
              simp only [thB, Bool.and_eq_false_iff, decide_eq_false_iff_not] at et
              omega
            have hnew : Hid (At wr w5.heap.size (boolA L.length (fun q => decide ((q : Int) ∈ E.take (j + 1)))) ∧ Below w5.heap.size w5 wr) := Hid.mk ⟨by
              rw [boolA_congr (g := fun q => decide ((q : Int) ∈ E.take j)) (fun z hz => by
                rw [htk]
                have : ¬ (z : Int) = y := by omega
                simp [this])]
              exact j1, j2⟩
            replace j1 := Hid.mk j1
            replace j2 := Hid.mk j2
            replace htk := Hid.mk htk
            replace hyE := Hid.mk hyE
            clear et
            rcases hno with r1 | ⟨r1, r2⟩
            · go_wp2_with fail
              go_roundw
              all_goals first | exact ⟨j + 1, by simp, by omega, hnew⟩ | (simp only [intOf]; omega)
            · go_wp2_with fail
              go_roundw
              all_goals first | exact ⟨j + 1, by simp, by omega, hnew⟩ | (simp only [intOf]; omega)
        · have hi1 : ¬ (j : Int) < E.length := by omega
          have hC0 : Hid (At wr w5.heap.size (boolA L.length (wC L E r 0)) ∧ Below w5.heap.size w5 wr) := Hid.mk ⟨by
            rw [boolA_congr (g := fun q => decide ((q : Int) ∈ E.take j)) (fun z _ => by
              rw [List.take_of_length_le (by omega)]
              simp [wC])]
            exact j1, j2⟩
          clear j1 j2
          go_wp2_with fail
          rename World => w5b
          go_loopw [13] (fun x wr => ∃ p : Nat, x = .int .i64 p ∧ p ≤ L.length ∧ Hid (At wr w5.heap.size (boolA L.length (wC L E r p)) ∧ Below w5.heap.size w5 wr)) (fun x _ => L.length - (intOf x).toNat)
          case atStart => exact ⟨0, rfl, by omega, hC0⟩
          case round =>
            clear hC0
            obtain ⟨p, rfl, hp, ⟨i1, i2⟩⟩ := hrel
            by_cases hpl : p < L.length
            · have hp1 : (p : Int) < L.length := by omega
              have zl := (i2.cell (p := ⟨gl, p, none⟩) hgl5).trans (boolA_at hAl5.out p hpl)
              have zm := (i2.cell (p := ⟨gm, p, none⟩) hgm5).trans (boolA_at hAm5.out p hpl)
              have hXp := Hid.mk (hX.out (p : Int) wr (c5.out.trans (i2.mono c5.out.size)))
              have hall := Hid.mk (fun z => wD_all (E := E) (r := r) hpl z)
              have hyq : Hid (∀ y ∈ nxtI L (p : Int), ∃ q : Nat, y = q ∧ q < L.length) := Hid.mk (fun y hy => by
                obtain ⟨q, rfl, hf⟩ := (mem_nxt hpl y).1 hy
                exact ⟨q, rfl, folB_lt hf⟩)
              have hNl : (nxtI L (p : Int)).length ≤ L.length := by
                unfold nxtI
                split
                · rw [List.length_map]
                  have := List.length_filter_le (folB L (p : Int).toNat) (List.range L.length)
                  simpa using this
                · simp
              have hcl : Hid (∀ y ∈ nxtI L (p : Int), r p = true → (thB L.length y && r y.toNat) = true) := Hid.mk (fun y hy h => by
                obtain ⟨q, rfl, hf⟩ := (mem_nxt hpl y).1 hy
                have h1 := hc2.out p q h hf
                have h2 := thB_nat.2 (folB_lt hf)
                simp [h1, h2])
              generalize nxtI L (p : Int) = N at *
              have hAw := Hid.mk i1
              have hBw := Hid.mk i2
              have hbC : w5.heap.size < wr.heap.size := i1.1
              generalize hbc : wr.heap.size = bC at *
              replace hbc := Hid.mk hbc
              clear i1 i2
              cases hrp : r p with
              | true =>
                replace hcl := Hid.mk (fun y hy => hcl.out y hy hrp)
                rw [hrp] at zl
                have hrm := hc3.out p hpl hrp
                rw [hrm] at zm
                go_wp2_with fail
                refine hXp.out.mono ?_
                rintro z w6 ⟨v', rfl, n1, n2⟩
                obtain ⟨na, nc, rfl⟩ := own_slice n1
                have hD0 : Hid (At w6 w5.heap.size (boolA L.length (wD L E r p (N.take 0))) ∧ IOwn w6 bC (.slice na N.length nc) N ∧ Below w5.heap.size w5 w6) := Hid.mk ⟨by rw [boolA_congr (g := wC L E r p) (fun z _ => by rw [List.take_zero]; exact wD_zero z)]; exact at_below hAw.out n2 hbC, n1, hBw.out.trans (n2.mono (Nat.le_of_lt hbC))⟩
                clear n1 n2 zl zm
                go_wp2_with fail
                go_loopw [15] (fun x wr => ∃ k : Nat, x = .int .i64 k ∧ k ≤ N.length ∧ Hid (At wr w5.heap.size (boolA L.length (wD L E r p (N.take k))) ∧ IOwn wr bC (.slice na N.length nc) N ∧ Below w5.heap.size w5 wr)) (fun x _ => N.length - (intOf x).toNat)
                case atStart => exact ⟨0, rfl, by omega, hD0⟩
                case round =>
                  clear hD0
                  obtain ⟨k, rfl, hk, ⟨j1, j3, j2⟩⟩ := hrel
                  have zl' := (j2.cell (p := ⟨gl, p, none⟩) hgl5).trans (boolA_at hAl5.out p hpl)
                  rw [hrp] at zl'
                  have hlt5 := j2.size
                  by_cases hkl : k < N.length
                  · obtain ⟨b', off, ena, hb0', hb1, hck⟩ := own_nin j3 k hkl
                    have ki1 : (k : Int) < N.length := by omega
                    have hym := List.getElem_mem hkl
                    generalize hyk : N[k] = y at *
                    cases ena
                    have hon := hcl.out y hym
                    obtain ⟨q, ey, hql⟩ := hyq.out y hym
                    subst ey
                    have hat' := hat.out q _ (at_below hAl5.out j2 hgl5)
                    rw [hon] at hat'
                    replace hat' := Hid.mk hat'
                    have hn5 := take_snoc N k hkl
                    by_cases eqp : q = p
                    · subst eqp
                      have eqp' : ((q : Int) != (q : Int)) = false := by simp
                      have hnew : Hid (At wr w5.heap.size (boolA L.length (wD L E r q (N.take (k + 1)))) ∧ IOwn wr bC (.slice (some ⟨b', off, none⟩) N.length nc) N ∧ Below w5.heap.size w5 wr) := Hid.mk ⟨by rw [boolA_congr (g := wD L E r q (N.take k)) (fun z _ => by rw [hn5, hyk]; exact wD_self _ z)]; exact j1, j3, j2⟩
                      replace j1 := Hid.mk j1
                      replace j2 := Hid.mk j2
                      replace j3 := Hid.mk j3
                      replace hn5 := Hid.mk hn5
                      replace hyk := Hid.mk hyk
                      go_wp2_with (first | (go_at_call 12; refine hat'.out.mono ?_; rintro z w7 ⟨rfl, rfl⟩))
                      go_roundw
                      all_goals first | exact ⟨k + 1, by simp, by omega, hnew⟩ | (simp only [intOf]; omega)
                    · have eqp' : ((q : Int) != (p : Int)) = true := by simp; omega
                      have hcy := boolA_at j1 q hql
                      have hfy := j1.2.2
                      have hgy := j1.1
                      have hqi : (q : Int) < L.length := by omega
                      have hnew : Hid (At (wr.setCell ⟨w5.heap.size, q, none⟩ (.bool true)) w5.heap.size (boolA L.length (wD L E r p (N.take (k + 1)))) ∧ IOwn (wr.setCell ⟨w5.heap.size, q, none⟩ (.bool true)) bC (.slice (some ⟨b', off, none⟩) N.length nc) N ∧ Below w5.heap.size w5 (wr.setCell ⟨w5.heap.size, q, none⟩ (.bool true))) := Hid.mk ⟨boolA_put j1 q true hql (fun z _ => by rw [hn5, hyk]; exact wD_put hrp eqp _ z), own_kp j3 (Kp.set (S := fun b => b = w5.heap.size) wr _ _ rfl) (fun b hb e => by have := (World.ownsRow.lt j3 b hb).1; omega), j2.setCell (Nat.le_refl _) _⟩
                      replace j1 := Hid.mk j1
                      replace j2 := Hid.mk j2
                      replace j3 := Hid.mk j3
                      replace hn5 := Hid.mk hn5
                      replace hyk := Hid.mk hyk
                      go_wp2_with (first | (go_at_call 12; refine hat'.out.mono ?_; rintro z w7 ⟨rfl, rfl⟩))
                      go_roundw
                      all_goals first | exact ⟨k + 1, by simp, by omega, hnew⟩ | (simp only [intOf]; omega)
                  · have ki1 : ¬ (k : Int) < N.length := by omega
                    have ek : N.take k = N := List.take_of_length_le (by omega)
                    rw [ek] at j1
                    have hnew : Hid (At wr w5.heap.size (boolA L.length (wC L E r (p + 1))) ∧ Below w5.heap.size w5 wr) := Hid.mk ⟨by rw [boolA_congr (fun z _ => hall.out z)]; exact j1, j2⟩
                    replace j1 := Hid.mk j1
                    replace j2 := Hid.mk j2
                    replace j3 := Hid.mk j3
                    go_wp2_with fail
                    go_roundw
                    all_goals first | exact ⟨p + 1, by simp, by omega, hnew⟩ | (simp only [intOf]; omega)
              | false =>
                clear hcl
                rw [hrp] at zl
                go_wp2_with fail
                refine hXp.out.mono ?_
                rintro z w6 ⟨v', rfl, n1, n2⟩
                obtain ⟨na, nc, rfl⟩ := own_slice n1
                have hD0 : Hid (At w6 w5.heap.size (boolA L.length (wD L E r p (N.take 0))) ∧ IOwn w6 bC (.slice na N.length nc) N ∧ Below w5.heap.size w5 w6) := Hid.mk ⟨by rw [boolA_congr (g := wC L E r p) (fun z _ => by rw [List.take_zero]; exact wD_zero z)]; exact at_below hAw.out n2 hbC, n1, hBw.out.trans (n2.mono (Nat.le_of_lt hbC))⟩
                clear n1 n2 zl zm
                go_wp2_with fail
                go_loopw [15] (fun x wr => ∃ k : Nat, x = .int .i64 k ∧ k ≤ N.length ∧ Hid (At wr w5.heap.size (boolA L.length (wD L E r p (N.take k))) ∧ IOwn wr bC (.slice na N.length nc) N ∧ Below w5.heap.size w5 wr)) (fun x _ => N.length - (intOf x).toNat)
                case atStart => exact ⟨0, rfl, by omega, hD0⟩
                case round =>
                  clear hD0
                  obtain ⟨k, rfl, hk, ⟨j1, j3, j2⟩⟩ := hrel
                  have zl' := (j2.cell (p := ⟨gl, p, none⟩) hgl5).trans (boolA_at hAl5.out p hpl)
                  rw [hrp] at zl'
                  have hlt5 := j2.size
                  by_cases hkl : k < N.length
                  · obtain ⟨b', off, ena, hb0', hb1, hck⟩ := own_nin j3 k hkl
                    have ki1 : (k : Int) < N.length := by omega
                    have hym := List.getElem_mem hkl
                    generalize N[k] = y at *
                    cases ena
                    have hat' := Hid.mk (hat.out y _ (at_below hAl5.out j2 hgl5))
                    have hnew : Hid (At wr w5.heap.size (boolA L.length (wD L E r p (N.take (k + 1)))) ∧ IOwn wr bC (.slice (some ⟨b', off, none⟩) N.length nc) N ∧ Below w5.heap.size w5 wr) := Hid.mk ⟨by rw [boolA_congr (g := wD L E r p (N.take k)) (fun z _ => wD_off hrp _ _ z)]; exact j1, j3, j2⟩
                    replace j1 := Hid.mk j1
                    replace j2 := Hid.mk j2
                    replace j3 := Hid.mk j3
                    go_wp2_with (first | (go_at_call 12; refine hat'.out.mono ?_; rintro z w7 ⟨rfl, rfl⟩))
                    go_roundw
                    all_goals first | exact ⟨k + 1, by simp, by omega, hnew⟩ | (simp only [intOf]; omega)
                  · have ki1 : ¬ (k : Int) < N.length := by omega
                    have ek : N.take k = N := List.take_of_length_le (by omega)
                    rw [ek] at j1
                    have hnew : Hid (At wr w5.heap.size (boolA L.length (wC L E r (p + 1))) ∧ Below w5.heap.size w5 wr) := Hid.mk ⟨by rw [boolA_congr (fun z _ => hall.out z)]; exact j1, j2⟩
                    replace j1 := Hid.mk j1
                    replace j2 := Hid.mk j2
                    replace j3 := Hid.mk j3
                    go_wp2_with fail
                    go_roundw
                    all_goals first | exact ⟨p + 1, by simp, by omega, hnew⟩ | (simp only [intOf]; omega)
            · have hp1 : ¬ (p : Int) < L.length := by omega
              have ep : p = L.length := by omega
              subst ep
              have cE := Hid.mk (c5.out.trans (i2.mono c5.out.size))
              have hAw := Hid.mk i1
              have hBw := Hid.mk i2
              have hgyl := i1.1
              clear i1 i2
              go_wp2_with fail
              rename World => w8
              go_loopw [17] (fun x wr => ∃ p : Nat, x = .int .i64 p ∧ p ≤ L.length ∧ wr = w8) (fun x _ => L.length - (intOf x).toNat)
              case atStart => exact ⟨0, rfl, by omega, rfl⟩
              case round =>
                obtain ⟨p, rfl, hpp, rfl⟩ := hrel
                by_cases hpl : p < L.length
                · have hp2 : (p : Int) < L.length := by omega
                  have zl := (hBw.out.cell (p := ⟨gl, p, none⟩) hgl5).trans (boolA_at hAl5.out p hpl)
                  have zw := boolA_at hAw.out p hpl
                  cases hrp : r p with
                  | true =>
                    rw [hrp] at zl
                    rw [hc4.out p hpl hrp] at zw
                    go_wp2_with fail
                    go_roundw
                    all_goals first | exact ⟨p + 1, by simp, by omega, trivial⟩ | (simp only [intOf]; omega)
                  | false =>
                    rw [hrp] at zl
                    go_wp2_with fail
                    go_roundw
                    all_goals first | exact ⟨p + 1, by simp, by omega, trivial⟩ | (simp only [intOf]; omega)
                · have hp2 : ¬ (p : Int) < L.length := by omega
                  go_wp2_with fail
                  go_ret
                  exact ⟨rfl, cE.out⟩
end F
end Go.Proofs.Ytjmknpkmbghgdaa
