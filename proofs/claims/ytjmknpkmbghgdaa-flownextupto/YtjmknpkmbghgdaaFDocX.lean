/-
  Stage 8, flow: the document's 'without', Reached, Dominates.
-/
import Derived.Test.YtjmknpkmbghgdaaFDocW
namespace Go.Proofs.Ytjmknpkmbghgdaa
namespace F
open Go.RowKit
open T

set_option maxRecDepth 100000 in
set_option maxHeartbeats 8000000 in
theorem without_any (L : List Ins) (E : List Int) (cc ec : Nat) (ca ea : Option Addr) (out : Int) (w : World) (hL : LIn w.heap.size w ca L) (hE : NIn w.heap.size w ea E) (hn : L.length < 2000000) (he : E.length ≤ 4000000) :
    Calls Try.prog 42 #[.slice ca L.length cc, .slice ea E.length ec, .int .i64 out] w fun e w' => ∃ g, e = .returned (.slice (some ⟨g, 0, none⟩) L.length L.length) ∧ w.heap.size ≤ g ∧ At w' g (boolA L.length (rchB L E out)) ∧ Below w.heap.size w w' := by
  have hm := make_bools L.length (by omega)
  have hT := thereD_any ca L.length cc
  have hX := fun p W (q : Below w.heap.size w W) => NextD_any L ca cc p W ((hL.below q).mono q.size) hn
  have h0 : Hid (At (w.alloc (.cells (Array.replicate L.length (.bool false)) 4)) w.heap.size (boolA L.length (wE (E.take 0) out)) ∧ Below w.heap.size w (w.alloc (.cells (Array.replicate L.length (.bool false)) 4))) := Hid.mk ⟨by
    rw [boolA_congr (g := fun _ => false) (fun z _ => by simp [wE])]
    exact boolA_new w L.length 4, by (repeat (first | assumption | with_reducible exact Below.refl _ _ | with_reducible refine Below.alloc ?_ (by simp <;> omega) _ | with_reducible refine Below.setCell ?_ (by simp <;> omega) _ | with_reducible refine Below.drew ?_))⟩
  replace hL := Hid.mk hL
  replace hE := Hid.mk hE
  replace hT := Hid.mk hT
  replace hX := Hid.mk hX
  go_enter Try.func42, Try.ntmps42
  go_wp2_with fail
  go_loopw [8] (fun x wr => ∃ j : Nat, x = .int .i64 j ∧ j ≤ E.length ∧ Hid (At wr w.heap.size (boolA L.length (wE (E.take j) out)) ∧ Below w.heap.size w wr)) (fun x _ => E.length - (intOf x).toNat)
  case atStart => exact ⟨0, rfl, by omega, h0⟩
  case round =>
    clear h0
    obtain ⟨j, rfl, hj, ⟨j1, j2⟩⟩ := hrel
    by_cases hlt : j < E.length
    · obtain ⟨b', off, rfl, hb0', hb1, hcj⟩ := hE.out j hlt
      have hcj' := (j2.cell (p := ⟨b', off + j, none⟩) hb0').trans hcj
      have hi1 : (j : Int) < E.length := by omega
      have htk := take_snoc E j hlt
      generalize hyE : E[j] = y at *
      clear hcj
      have hput : (∃ q : Nat, y = q ∧ q < L.length ∧ thB L.length y = true ∧ (y != out) = true) ∨ (thB L.length y = false ∨ (thB L.length y = true ∧ (y != out) = false)) := by
        cases et : thB L.length y with
        | false => exact .inr (.inl rfl)
        | true =>
          obtain ⟨q, e1, hq⟩ := thB_elim et
          by_cases eo : y = out
          · exact .inr (.inr ⟨rfl, by simp [eo]⟩)
          · exact .inl ⟨q, e1, hq, rfl, by simpa using eo⟩
      rcases hput with ⟨q, rfl, hq, et, eo⟩ | hno
      · have hz := boolA_at j1 q hq
        have hfy := j1.2.2
        have hgy := j1.1
        have hq1 : (q : Int) < L.length := by omega
        have heo : (q : Int) ≠ out := by simpa using eo
        have hnew : Hid (At (wr.setCell ⟨w.heap.size, q, none⟩ (.bool true)) w.heap.size (boolA L.length (wE (E.take (j + 1)) out)) ∧ Below w.heap.size w (wr.setCell ⟨w.heap.size, q, none⟩ (.bool true))) := Hid.mk ⟨boolA_put j1 q true hq (fun z _ => by rw [htk]; exact wE_put heo z), j2.setCell (Nat.le_refl _) _⟩
        replace j1 := Hid.mk j1
        replace j2 := Hid.mk j2
        replace htk := Hid.mk htk
        replace hyE := Hid.mk hyE
        replace heo := Hid.mk heo
        go_wp2_with (first | (go_at_call 41; refine (hT.out _ _).mono ?_; rintro x w1 ⟨rfl, rfl⟩; rw [et]))
        go_roundw
        all_goals first | exact ⟨j + 1, by simp, by omega, hnew⟩ | (simp only [intOf]; omega)
      · have hnew : Hid (At wr w.heap.size (boolA L.length (wE (E.take (j + 1)) out)) ∧ Below w.heap.size w wr) := Hid.mk ⟨by
          rw [boolA_congr (g := wE (E.take j) out) (fun z hz => by
            rw [htk]
            refine wE_same (fun e => ?_)
            rcases hno with r | ⟨_, r⟩
            · rw [← e, thB_nat.2 hz] at r; cases r
            · simpa using r)]
          exact j1, j2⟩
        replace j1 := Hid.mk j1
        replace j2 := Hid.mk j2
        replace htk := Hid.mk htk
        replace hyE := Hid.mk hyE
        rcases hno with et | ⟨et, eo⟩
        · go_wp2_with (first | (go_at_call 41; refine (hT.out _ _).mono ?_; rintro x w1 ⟨rfl, rfl⟩; rw [et]))
          go_roundw
          all_goals first | exact ⟨j + 1, by simp, by omega, hnew⟩ | (simp only [intOf]; omega)
        · go_wp2_with (first | (go_at_call 41; refine (hT.out _ _).mono ?_; rintro x w1 ⟨rfl, rfl⟩; rw [et]))
          go_roundw
          all_goals first | exact ⟨j + 1, by simp, by omega, hnew⟩ | (simp only [intOf]; omega)
    · have hi1 : ¬ (j : Int) < E.length := by omega
      have hW0 : Hid (At wr w.heap.size (boolA L.length (wE E out)) ∧ Ws L E out (wE E out) true ∧ Below w.heap.size w wr) := Hid.mk ⟨by rw [List.take_of_length_le (by omega)] at j1; exact j1, Ws.start L E out, j2⟩
      clear j1 j2
      go_wp2_with fail
      rename World => wo
      go_loopw [10] (fun b wr => ∃ (a : Bool) (s : Nat → Bool), b = .bool a ∧ Hid (At wr w.heap.size (boolA L.length s) ∧ Ws L E out s a ∧ Below w.heap.size w wr)) (fun b wr => 2 * (L.length - cnt L.length (setB wr w.heap.size)) + aN b)
      case atStart => exact ⟨true, _, rfl, hW0⟩
      case round =>
        clear hW0
        obtain ⟨a, s0, rfl, ⟨i1, i2, i3⟩⟩ := hrel
        cases a with
        | false =>
          have hfin : Hid (At wr w.heap.size (boolA L.length (rchB L E out))) := Hid.mk (by rw [boolA_congr (g := s0) (fun z hz => (i2.done z hz).symm)]; exact i1)
          replace i1 := Hid.mk i1
          replace i2 := Hid.mk i2
          replace i3 := Hid.mk i3
          go_wp2_with fail
          go_ret
          exact ⟨_, rfl, Nat.le_refl _, hfin.out, i3.out⟩
        | true =>
          have hS0 : Hid (At wr w.heap.size (boolA L.length s0) ∧ Sw L E out s0 s0 false 0 [] ∧ Below w.heap.size w wr) := Hid.mk ⟨i1, Sw.start i2.snd, i3⟩
          have hm0 := cnt_setB i1
          replace i1 := Hid.mk i1
          replace i2 := Hid.mk i2
          replace i3 := Hid.mk i3
          go_wp2_with fail
          rename World => wp
          go_loopw [10, 11] (fun b x wr => ∃ (a : Bool) (s : Nat → Bool) (p : Nat), b = .bool a ∧ x = .int .i64 p ∧ p ≤ L.length ∧ Hid (At wr w.heap.size (boolA L.length s) ∧ Sw L E out s0 s a p [] ∧ Below w.heap.size w wr)) (fun _ x _ => L.length - (intOf x).toNat)
          case atStart => exact ⟨false, s0, 0, rfl, rfl, by omega, hS0⟩
          case round =>
            clear hS0
            obtain ⟨a, s, p, rfl, rfl, hp, ⟨k1, k2, k3⟩⟩ := hrel
            by_cases hpl : p < L.length
            · have hp1 : (p : Int) < L.length := by omega
              have zp := boolA_at k1 p hpl
              cases hsp : s p with
              | false =>
                rw [hsp] at zp
                have hnew : Hid (At wr w.heap.size (boolA L.length s) ∧ Sw L E out s0 s a (p + 1) [] ∧ Below w.heap.size w wr) := Hid.mk ⟨k1, k2.skip hpl hsp, k3⟩
                replace k1 := Hid.mk k1
                replace k2 := Hid.mk k2
                replace k3 := Hid.mk k3
                go_wp2_with fail
                go_roundw
                all_goals first | exact ⟨a, s, p + 1, rfl, by simp, by omega, hnew⟩ | (simp only [intOf]; omega)
              | true =>
                rw [hsp] at zp
                have hXp := Hid.mk (hX.out (p : Int) wr k3)
                have hyq : Hid (∀ y ∈ nxtI L (p : Int), ∃ q : Nat, y = q ∧ folB L p q = true) := Hid.mk (fun y hy => (mem_nxt hpl y).1 hy)
                have hNl : (nxtI L (p : Int)).length ≤ L.length := by
                  have := nxK_len L (p : Int) L.length
                  rwa [nxK_all] at this
                have hnx := Hid.mk (fun (s : Nat → Bool) (a : Bool) (h : Sw L E out s0 s a p (nxtI L (p : Int))) => h.next hpl)
                generalize nxtI L (p : Int) = N at *
                have hbC : w.heap.size < wr.heap.size := k1.1
                replace k1 := Hid.mk k1
                replace k2 := Hid.mk k2
                replace k3 := Hid.mk k3
                go_wp2_with fail
                refine hXp.out.mono ?_
                rintro z w6 ⟨v', rfl, n1, n2⟩
                obtain ⟨na, nc, rfl⟩ := own_slice n1
                generalize hbc : wr.heap.size = bC at *
                have hD0 : Hid (At w6 w.heap.size (boolA L.length s) ∧ Sw L E out s0 s a p (N.take 0) ∧ s p = true ∧ IOwn w6 bC (.slice na N.length nc) N ∧ Below w.heap.size w w6) := Hid.mk ⟨at_below k1.out n2 hbC, k2.out, hsp, n1, k3.out.trans (n2.mono (Nat.le_of_lt hbC))⟩
                clear n1 n2 zp k1 k2 hsp
                go_wp2_with fail
                rename World => w6
                go_loopw [10, 13] (fun b x wr => ∃ (a : Bool) (s : Nat → Bool) (k : Nat), b = .bool a ∧ x = .int .i64 k ∧ k ≤ N.length ∧ Hid (At wr w.heap.size (boolA L.length s) ∧ Sw L E out s0 s a p (N.take k) ∧ s p = true ∧ IOwn wr bC (.slice na N.length nc) N ∧ Below w.heap.size w wr)) (fun _ x _ => N.length - (intOf x).toNat)
                case atStart => exact ⟨a, s, 0, rfl, rfl, by omega, hD0⟩
                case round =>
                  clear hD0
                  obtain ⟨a, s, k, rfl, rfl, hk, ⟨m1, m2, m3, m4, m5⟩⟩ := hrel
                  by_cases hkl : k < N.length
                  · obtain ⟨b', off, ena, hb0', hb1, hck⟩ := own_nin m4 k hkl
                    have ki1 : (k : Int) < N.length := by omega
                    obtain ⟨q, eyq, hfq⟩ := hyq.out N[k] (List.getElem_mem hkl)
                    have htk := take_snoc N k hkl
                    rw [eyq] at hck htk
                    have hql := folB_lt hfq
                    have hqi : (q : Int) < L.length := by omega
                    have zq := boolA_at m1 q hql
                    cases ena
                    cases hsq : s q with
                    | true =>
                      rw [hsq] at zq
                      have hnew : Hid (At wr w.heap.size (boolA L.length s) ∧ Sw L E out s0 s a p (N.take (k + 1)) ∧ s p = true ∧ IOwn wr bC (.slice (some ⟨b', off, none⟩) N.length nc) N ∧ Below w.heap.size w wr) := Hid.mk ⟨m1, by rw [htk]; exact m2.keep (fun _ => by simpa using hsq), m3, m4, m5⟩
                      replace m1 := Hid.mk m1
                      replace m2 := Hid.mk m2
                      replace m3 := Hid.mk m3
                      replace m4 := Hid.mk m4
                      replace m5 := Hid.mk m5
                      replace htk := Hid.mk htk
                      replace eyq := Hid.mk eyq
                      replace hfq := Hid.mk hfq
                      go_wp2_with fail
                      go_roundw
                      all_goals first | exact ⟨a, s, k + 1, rfl, by simp, by omega, hnew⟩ | (simp only [intOf]; omega)
                    | false =>
                      rw [hsq] at zq
                      by_cases heo : (q : Int) = out
                      · have heo' : ((q : Int) != out) = false := by simp [heo]
                        have hnew : Hid (At wr w.heap.size (boolA L.length s) ∧ Sw L E out s0 s a p (N.take (k + 1)) ∧ s p = true ∧ IOwn wr bC (.slice (some ⟨b', off, none⟩) N.length nc) N ∧ Below w.heap.size w wr) := Hid.mk ⟨m1, by rw [htk]; exact m2.keep (fun h => absurd heo h), m3, m4, m5⟩
                        replace m1 := Hid.mk m1
                        replace m2 := Hid.mk m2
                        replace m3 := Hid.mk m3
                        replace m4 := Hid.mk m4
                        replace m5 := Hid.mk m5
                        replace htk := Hid.mk htk
                        replace eyq := Hid.mk eyq
                        replace hfq := Hid.mk hfq
                        replace heo := Hid.mk heo
                        go_wp2_with fail
                        go_roundw
                        all_goals first | exact ⟨a, s, k + 1, rfl, by simp, by omega, hnew⟩ | (simp only [intOf]; omega)
                      · have heo' : ((q : Int) != out) = true := by simpa using heo
                        have hfy := m1.2.2
                        have hgy := m1.1
                        have hnew : Hid (At (wr.setCell ⟨w.heap.size, q, none⟩ (.bool true)) w.heap.size (boolA L.length (fun z => if z = q then true else s z)) ∧ Sw L E out s0 (fun z => if z = q then true else s z) true p (N.take (k + 1)) ∧ (fun z => if z = q then true else s z) p = true ∧ IOwn (wr.setCell ⟨w.heap.size, q, none⟩ (.bool true)) bC (.slice (some ⟨b', off, none⟩) N.length nc) N ∧ Below w.heap.size w (wr.setCell ⟨w.heap.size, q, none⟩ (.bool true))) := Hid.mk ⟨boolA_put m1 q true hql (fun z _ => rfl), m2.put hpl m3 hfq heo hsq (fun z _ => rfl) _, by show (if p = q then true else s p) = true; rw [m3]; simp, own_kp m4 (Kp.set (S := fun b => b = w.heap.size) wr _ _ rfl) (fun b hb e => by have := (World.ownsRow.lt m4 b hb).1; omega), m5.setCell (Nat.le_refl _) _⟩
                        replace m1 := Hid.mk m1
                        replace m2 := Hid.mk m2
                        replace m3 := Hid.mk m3
                        replace m4 := Hid.mk m4
                        replace m5 := Hid.mk m5
                        replace htk := Hid.mk htk
                        replace eyq := Hid.mk eyq
                        replace hfq := Hid.mk hfq
                        replace heo := Hid.mk heo
                        go_wp2_with fail
                        go_roundw
                        all_goals first | exact ⟨true, _, k + 1, rfl, by simp, by omega, hnew⟩ | (simp only [intOf]; omega)
                  · have ki1 : ¬ (k : Int) < N.length := by omega
                    rw [List.take_of_length_le (by omega)] at m2
                    have hnew : Hid (At wr w.heap.size (boolA L.length s) ∧ Sw L E out s0 s a (p + 1) [] ∧ Below w.heap.size w wr) := Hid.mk ⟨m1, hnx.out s a m2, m5⟩
                    replace m1 := Hid.mk m1
                    replace m2 := Hid.mk m2
                    replace m3 := Hid.mk m3
                    replace m4 := Hid.mk m4
                    replace m5 := Hid.mk m5
                    go_wp2_with fail
                    go_roundw
                    all_goals first | exact ⟨a, s, p + 1, rfl, by simp, by omega, hnew⟩ | (simp only [intOf]; omega)
            · have hp1 : ¬ (p : Int) < L.length := by omega
              have ep : p = L.length := by omega
              subst ep
              have hnew : Hid (At wr w.heap.size (boolA L.length s) ∧ Ws L E out s a ∧ Below w.heap.size w wr) := Hid.mk ⟨k1, i2.out.sweep k2, k3⟩
              have hm1 := cnt_setB k1
              have hm2 := cnt_le L.length s
              have hm3 : a = true → cnt L.length s0 + 1 ≤ cnt L.length s := k2.on
              have hm4 : a = false → cnt L.length s = cnt L.length s0 := fun e => cnt_congr L.length (k2.off e)
              have hme : 2 * (L.length - cnt L.length (setB wr w.heap.size)) + aN (.bool a) < 2 * (L.length - cnt L.length (setB wp w.heap.size)) + aN (.bool true) := by
                rw [hm1, hm0]
                cases a with
                | true => have := hm3 rfl; simp only [aN]; omega
                | false => have := hm4 rfl; simp only [aN]; omega
              replace k1 := Hid.mk k1
              replace k2 := Hid.mk k2
              replace k3 := Hid.mk k3
              replace hme := Hid.mk hme
              replace hm3 := Hid.mk hm3
              replace hm4 := Hid.mk hm4
              go_wp2_with fail
              go_roundw
              all_goals first | exact ⟨a, s, rfl, hnew⟩ | exact hme.out
end F
end Go.Proofs.Ytjmknpkmbghgdaa
