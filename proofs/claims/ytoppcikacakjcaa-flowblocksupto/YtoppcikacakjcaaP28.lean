import Derived.Test.YtoppcikacakjcaaP27
/-
  Stage 8, flow: the document's first.
-/
namespace Go.Proofs.Ytoppcikacakjcaa
namespace F
open Go.RowKit
open T

/-- So far nothing but the one ahead comes to it. -/
def Fo (L : List Ins) (q p : Nat) : Prop := ∀ p', p' < p → folB L p' q = true → p' + 1 = q
theorem way_nine {op : Int} (h : op = 20 ∨ op = 21 ∨ op = 22 ∨ op = 23 ∨ op = 24 ∨ op = 26 ∨ op = 27 ∨ op = 28 ∨ op = 32) : wayN op ≠ 0 := by
  rcases h with rfl | rfl | rfl | rfl | rfl | rfl | rfl | rfl | rfl <;> decide
set_option maxRecDepth 100000 in
set_option maxHeartbeats 8000000 in
theorem first_any (L : List Ins) (E : List Int) (ca ea : Option Addr) (cc ec : Nat) (q : Nat) (w : World) (hL : LIn w.heap.size w ca L) (hE : NIn w.heap.size w ea E) (hn : L.length < 2000000) (he : E.length ≤ 4000000) (hq : q < L.length) :
    Calls Try.prog 23 #[.slice ca L.length cc, .slice ea E.length ec, .int .i64 q] w fun e w' => e = .returned (.bool (firF L E q)) ∧ Below w.heap.size w w' := by
  by_cases h0 : q = 0
  · subst h0
    rw [fir_zero]
    replace hL := Hid.mk hL
    replace hE := Hid.mk hE
    go_enter Try.func23, Try.ntmps23
    go_wp2_with fail
    go_ret
    exact ⟨rfl, Below.refl _ _⟩
  · have hq0 : ((q : Int) == 0) = false := by simp; omega
    have hF := fun p W (r : Below w.heap.size w W) => Follows_any L ca cc (p : Nat) q W ((hL.below r).mono r.size) hn hq
    have hp : q - 1 < L.length := by omega
    obtain ⟨b, off, rfl, hb0, hb, five⟩ := hL (q - 1) hp
    have c0 := five.1
    have fE := fun h => fir_entry (L := L) (E := E) (q := q) h
    have fP := fun h => fir_prev (L := L) (E := E) (q := q) h0 hp h
    have fF := fun p h1 h2 => fir_fol (L := L) (E := E) (p := p) (q := q) h1 h2
    have fN := fun h1 h2 h3 => fir_false (L := L) (E := E) hq h0 h1 h2 h3
    replace hL := Hid.mk hL
    replace five := Hid.mk five
    replace hE := Hid.mk hE
    replace hF := Hid.mk hF
    replace fE := Hid.mk fE
    replace fP := Hid.mk fP
    replace fF := Hid.mk fF
    replace fN := Hid.mk fN
    generalize hop : L[q - 1].op = op at *
    obtain ⟨q', rfl⟩ : ∃ q', q = q' + 1 := ⟨q - 1, by omega⟩
    simp only [Nat.add_sub_cancel] at *
    generalize hfv : firF L E (q' + 1) = fv at *
    replace hfv := Hid.mk hfv
    replace hop := Hid.mk hop
    clear h0
    have hc : ((q' + 1 : Nat) : Int) = (q' : Int) + 1 := by omega
    rw [hc] at hq0 ⊢
    go_enter Try.func23, Try.ntmps23
    go_wp2_with fail
    go_loopw [7] (fun x wr => ∃ i : Nat, x = .int .i64 i ∧ i ≤ E.length ∧ Hid (∀ k (h : k < E.length), k < i → E[k] ≠ (q' : Int) + 1) ∧ w = wr) (fun x _ => E.length - (intOf x).toNat)
    case atStart => exact ⟨0, rfl, by omega, Hid.mk (fun k _ h => by omega), rfl⟩
    case round =>
      obtain ⟨i, rfl, hi, hI, rfl⟩ := hrel
      by_cases hlt : i < E.length
      · have hi1 : (i : Int) < E.length := by omega
        obtain ⟨b1, o1, rfl, _, _, y1⟩ := hE.out i hlt
        by_cases hEi : E[i] = (q' : Int) + 1
        · have hv : fv = true := fE.out (by rw [hc, ← hEi]; exact List.getElem_mem hlt)
          subst hv
          rw [hEi] at y1
          replace hEi := Hid.mk hEi
          go_wp2_with fail
          go_ret
          exact ⟨rfl, Below.refl _ _⟩
        · have hx : (E[i] == (q' : Int) + 1) = false := by simpa using hEi
          have hnw : Hid (∀ k (h : k < E.length), k < i + 1 → E[k] ≠ (q' : Int) + 1) := Hid.mk (fun k h hk => by
            by_cases e : k = i
            · subst e; exact hEi
            · exact hI.out k h (by omega))
          replace hEi := Hid.mk hEi
          generalize E[i] = x at *
          go_wp2_with fail
          go_roundw
          all_goals first | exact ⟨i + 1, by simp, by omega, hnw, trivial⟩ | (simp only [intOf]; omega)
      · have hi1 : ¬ (i : Int) < E.length := by omega
        have hqi : (q' : Int) < L.length := by omega
        have hnE : Hid (((q' + 1 : Nat) : Int) ∉ E) := Hid.mk (fun h => by
          obtain ⟨k, hk, e⟩ := List.getElem_of_mem h
          exact hI.out k hk (by omega) (by omega))
        rcases op_cases op with r | r | r | r | r | r | r | r | r | ⟨o1, o2, o3, o4, o5, o6, o7, o8, o9, o0⟩
        iterate 9
          · have hv : fv = true := fP.out (way_nine (by simp [r]))
            subst hv
            subst r
            go_wp2_with fail
            go_ret
            exact ⟨rfl, Below.refl _ _⟩
        · have hF1 := Hid.mk hF.out
          replace o0 := Hid.mk o0
          go_wp2_with fail
          go_loopw [8] (fun x wr => ∃ p : Nat, x = .int .i64 p ∧ p ≤ L.length ∧ Hid (Below w.heap.size w wr ∧ Fo L (q' + 1) p)) (fun x _ => L.length - (intOf x).toNat)
          case atStart => exact ⟨0, rfl, by omega, Hid.mk ⟨Below.refl _ _, fun p' h => by omega⟩⟩
          case round =>
            obtain ⟨p, rfl, hp, ⟨j1, j2⟩⟩ := hrel
            by_cases hpl : p < L.length
            · have hp1 : (p : Int) < L.length := by omega
              have et : thB L.length (p : Int) = true := thB_nat.2 hpl
              have hFp := hF.out p wr j1
              simp only [et, Bool.true_and, Int.toNat_natCast] at hFp
              rw [hc] at hFp
              cases ef : folB L p (q' + 1) with
              | false =>
                rw [ef] at hFp
                have hnw : ∀ W, Below wr.heap.size wr W → Hid (Below w.heap.size w W ∧ Fo L (q' + 1) (p + 1)) := fun W d => Hid.mk ⟨j1.trans (d.mono j1.size), fun p' h1 h2 => by
                  by_cases e : p' = p
                  · subst e; rw [ef] at h2; cases h2
                  · exact j2 p' (by omega) h2⟩
                replace hFp := Hid.mk hFp
                replace hnw := Hid.mk hnw
                replace j1 := Hid.mk j1
                replace j2 := Hid.mk j2
                replace ef := Hid.mk ef
                replace et := Hid.mk et
                go_wp2_with (first | (go_at_call 38; refine hFp.out.mono ?_; rintro y w1 ⟨rfl, d⟩; have hnx := hnw.out w1 d; replace d := Hid.mk d))
                go_roundw
                all_goals first | exact ⟨p + 1, by simp, by omega, hnx⟩ | (simp only [intOf]; omega)
              | true =>
                rw [ef] at hFp
                by_cases epq : p = q'
                · subst epq
                  have hnn : ((p : Int) != (p : Int)) = false := by simp
                  have hnw : ∀ W, Below wr.heap.size wr W → Hid (Below w.heap.size w W ∧ Fo L (p + 1) (p + 1)) := fun W d => Hid.mk ⟨j1.trans (d.mono j1.size), fun p' h1 h2 => by
                    by_cases e : p' = p
                    · omega
                    · exact j2 p' (by omega) h2⟩
                  replace hFp := Hid.mk hFp
                  replace hnw := Hid.mk hnw
                  replace j1 := Hid.mk j1
                  replace j2 := Hid.mk j2
                  replace ef := Hid.mk ef
                  replace et := Hid.mk et
                  go_wp2_with (first | (go_at_call 38; refine hFp.out.mono ?_; rintro y w1 ⟨rfl, d⟩; have hnx := hnw.out w1 d; replace d := Hid.mk d))
                  go_roundw
                  all_goals first | exact ⟨p + 1, by simp, by omega, hnx⟩ | (simp only [intOf]; omega)
                · have hv : fv = true := fF.out p ef (by omega)
                  subst hv
                  have hnn : ((p : Int) != (q' : Int)) = true := by simp; omega
                  replace hFp := Hid.mk hFp
                  replace j1 := Hid.mk j1
                  replace j2 := Hid.mk j2
                  replace ef := Hid.mk ef
                  replace et := Hid.mk et
                  replace epq := Hid.mk epq
                  go_wp2_with (first | (go_at_call 38; refine hFp.out.mono ?_; rintro y w1 ⟨rfl, d⟩; replace d := Hid.mk d))
                  go_ret
                  exact ⟨rfl, j1.out.trans (d.out.mono j1.out.size)⟩
            · have hp1 : ¬ (p : Int) < L.length := by omega
              have hv : fv = false := fN.out hnE.out (fun h => by rw [← o0.out, ← hop.out]) (fun p' h1 h2 => j2 p' (by omega) h2)
              subst hv
              replace j1 := Hid.mk j1
              replace j2 := Hid.mk j2
              go_wp2_with fail
              go_ret
              exact ⟨rfl, j1.out⟩
end F
end Go.Proofs.Ytoppcikacakjcaa


/-
  Stage 8, flow: the document's Blocks.
-/
namespace Go.Proofs.Ytoppcikacakjcaa
namespace F
open Go.RowKit
open T

set_option maxRecDepth 100000 in
set_option maxHeartbeats 4000000 in
theorem BlocksD_any (L : List Ins) (E : List Int) (ca ea : Option Addr) (cc ec : Nat) (w : World) (hL : LIn w.heap.size w ca L) (hE : NIn w.heap.size w ea E) (hn : L.length < 2000000) (he : E.length ≤ 4000000) :
    Calls Try.prog 8 #[.slice ca L.length cc, .slice ea E.length ec] w fun e w' => ∃ v R, e = .returned v ∧ Bs L R.length w' w.heap.size v R ∧ R.map Bk.fl = blF (firF L E) L.length ∧ Below w.heap.size w w' := by
  have hF := fun j W (q : Below w.heap.size w W) hj => first_any L E ca ea cc ec j W ((hL.below q).mono q.size) ((hE.below q).mono q.size) hn he hj
  have hX := fun W (q : Below w.heap.size w W) pc => NextD_any L ca cc pc W ((hL.below q).mono q.size) hn
  have hfz := fir_zero L E
  generalize firF L E = f at *
  replace hF := Hid.mk hF
  replace hX := Hid.mk hX
  replace hL := Hid.mk hL
  replace hE := Hid.mk hE
  replace hfz := Hid.mk hfz
  have hst := L1.start L f w
  go_enter Try.func8, Try.ntmps8
  go_wp2_with fail
  go_loopw [5, 6] (fun v x wr => ∃ j : Nat, x = .int .i64 j ∧ j ≤ L.length ∧ L1 L f w j v wr) (fun _ x _ => L.length - (intOf x).toNat)
  case atStart => exact ⟨0, rfl, by omega, hst⟩
  case round =>
    clear hst
    obtain ⟨j, rfl, hj, hI⟩ := hrel
    obtain ⟨R, h1, h2, h3⟩ := hI.out
    clear hI
    by_cases hlt : j < L.length
    · have hh := Hid.mk (hF.out j wr h3 hlt)
      have hi1 : (j : Int) < L.length := by omega
      have hRl : R.length ≤ j := by have := blF_len f j; rw [← h2, List.length_map] at this; exact this
      cases ef : f j with
      | true =>
        rw [ef] at hh
        have hsz := h3.size
        obtain ⟨va, vc, rfl⟩ := h1.row.slice
        have hap := fun w3 w4 g cap (q1 : Below wr.heap.size wr w3) ho hg => L1.app (w3 := w3) (w4 := w4) (g := g) (cap := cap) h1 h2 h3 ef q1 ho hg
        have hrw := fun W (q : Below wr.heap.size wr W) => (h1.below q).row
        replace hap := Hid.mk hap
        replace hrw := Hid.mk hrw
        replace h1 := Hid.mk h1
        replace h2 := Hid.mk h2
        replace h3 := Hid.mk h3
        replace hRl := Hid.mk hRl
        go_wp2_with (first | (go_at_call 23; refine hh.out.mono ?_; rintro x w3 ⟨rfl, q1⟩; have hs3 := q1.size; replace q1 := Hid.mk q1) | (at_builtin; refine wpList_append_blk rfl (.tmp 20) (.tmp 23) rfl w.heap.size (.slice va R.length vc) R ⟨j, 0, .slice none 0 0⟩ rfl (hrw.out _ (q1.out.alloc hs3 _)) w3.heap.size rfl (At.new _ _ _) rfl (by have := hRl.out; omega) (by simp; omega) ?_))
        intro g cap w4 g1 g2 g3 g4
        obtain ⟨k1, ⟨y, k2⟩, k3, k4⟩ := hap.out _ w4 g cap (q1.out.alloc hs3 _) g1 g2
        have hRi : (R.length : Int) ≤ 3000000 := by have := hRl.out; omega
        replace g1 := Hid.mk g1
        replace g2 := Hid.mk g2
        go_wp2_with fail
        go_roundw
        all_goals first | exact ⟨j + 1, by simp, by omega, k1⟩ | (simp only [intOf]; omega)
      | false =>
        rw [ef] at hh
        have hj0 : 0 < j := by
          rcases Nat.eq_zero_or_pos j with r | r
          · subst r; rw [hfz.out] at ef; cases ef
          · exact r
        have hne := blF_ne f hfz.out j hj0
        rcases List.eq_nil_or_concat R with r | ⟨R0, x, r⟩
        · subst r; exact absurd h2.symm (by simpa using hne)
        · rw [List.concat_eq_append] at r
          subst r
          have hon := fun w3 (q1 : Below wr.heap.size wr w3) => L1.on (w3 := w3) h1 h2 h3 ef q1
          obtain ⟨g, cap, rfl, hlo, hgl⟩ := h1.row.here (by simp)
          have hRi : (R0.length : Int) ≤ 3000000 := by simp at hRl; omega
          simp only [List.length_append, List.length_singleton] at hon ⊢
          replace hon := Hid.mk hon
          replace h1 := Hid.mk h1
          replace h2 := Hid.mk h2
          replace h3 := Hid.mk h3
          replace hRl := Hid.mk hRl
          replace hne := Hid.mk hne
          go_wp2_with (first | (go_at_call 23; refine hh.out.mono ?_; rintro x w3 ⟨rfl, q1⟩; obtain ⟨g', cap', eg, k1, ⟨y, k2⟩, k3, k4⟩ := hon.out w3 q1; injection eg with eg1 eg2 eg3; injection eg1 with eg1; injection eg1 with eg1; subst eg1 eg3; replace q1 := Hid.mk q1))
          go_roundw
          all_goals first | exact ⟨j + 1, by simp, by omega, k1⟩ | (simp only [intOf]; omega)
    · have hi1 : ¬ (j : Int) < L.length := by omega
      have ej : j = L.length := by omega
      subst ej
      have hRl : R.length ≤ L.length := by have := blF_len f L.length; rw [← h2, List.length_map] at this; exact this
      have h0 : L2 L f w 0 u5 wr := Hid.mk ⟨R, h1, h2, h3⟩
      obtain ⟨va, vc, rfl⟩ := h1.row.slice
      have hlen : (blF f L.length).length = R.length := by rw [← h2, List.length_map]
      clear h1 h2 h3
      generalize R.length = m at *
      clear R
      replace hlen := Hid.mk hlen
      go_wp2_with fail
      rename World => wo
      go_loopw [8] (fun x wr => ∃ k : Nat, x = .int .i64 k ∧ k ≤ m ∧ L2 L f w k (.slice va m vc) wr) (fun x _ => m - (intOf x).toNat)
      case atStart => exact ⟨0, rfl, by omega, h0⟩
      case round =>
        clear h0
        obtain ⟨k, rfl, hk, hI⟩ := hrel
        obtain ⟨R, h1, h2, h3⟩ := hI.out
        clear hI
        have hm : R.length = m := by rw [← hlen.out, ← h2, List.length_map]
        by_cases hlt : k < m
        · have hkl : k < R.length := by omega
          obtain ⟨R0, x, R1, rfl, hk0⟩ : ∃ R0 x R1, R = R0 ++ x :: R1 ∧ R0.length = k := ⟨R.take k, R[k], R.drop (k + 1), by rw [List.getElem_cons_drop, List.take_append_drop], by simp; omega⟩
          subst hk0
          obtain ⟨g, cap, ev, hlo, hgl⟩ := h1.row.here (by simp)
          rw [hm] at ev
          injection ev with ev1 ev2 ev3
          subst ev1 ev3
          rw [← hm] at h1
          have hnx := fun w3 (q1 : Below wr.heap.size wr w3) v' hv' => h1.next q1 v' hv' h3.size
          have c1 : wr.cell? ⟨g, R0.length * 3 + 1, none⟩ = some (.int .i64 x.l) := BR.cell h1.row 1 (by omega)
          have c2 := fun w3 (q1 : Below wr.heap.size wr w3) => BR.cell (h1.below q1).row 2 (by omega)
          have fr := fun w3 (q1 : Below wr.heap.size wr w3) => World.ownsRow.frozenAt (h1.below q1).row (R0.length * 3 + 2)
          have hXx := hX.out wr h3 (x.l : Int)
          have hi1 : (R0.length : Int) < m := by omega
          have hfl : (R0 ++ (⟨x.f, x.l, .slice none 0 0⟩ : Bk) :: R1).map Bk.fl = blF f L.length := by rw [← h2]; simp [Bk.fl]
          rw [hm] at hnx
          have hB3 : ∀ (w3 : World) (a : Addr) (v' : Value), Below wr.heap.size wr w3 → w.heap.size ≤ a.block → Below w.heap.size w (w3.setCell a v') := fun w3 a v' q1 q2 => (h3.trans (q1.mono h3.size)).setCell q2 _
          replace h1 := Hid.mk h1
          replace h2 := Hid.mk h2
          replace h3 := Hid.mk h3
          replace hnx := Hid.mk hnx
          replace c2 := Hid.mk c2
          replace fr := Hid.mk fr
          replace hXx := Hid.mk hXx
          replace hfl := Hid.mk hfl
          replace hB3 := Hid.mk hB3
          replace hm := Hid.mk hm
          go_wp2_with (first | (go_at_call 24; refine hXx.out.mono ?_; rintro y w3 ⟨v', rfl, q1, q2⟩; obtain ⟨va', vc', rfl⟩ := own_slice q1; have d1 := c2.out w3 q2; have d2 := fr.out w3 q2; have d3 := Nat.lt_of_lt_of_le hgl q2.size; simp only [Bk.vals, List.getElem?_cons_succ, List.getElem?_cons_zero] at d1; have d4 := Hid.mk (hnx.out w3 q2 _ q1); have d5 := Hid.mk (hB3.out w3 ⟨g, R0.length * 3 + 2, none⟩ (.slice va' (nxtI L (x.l : Int)).length vc') q2 hlo); replace q1 := Hid.mk q1; replace q2 := Hid.mk q2))
          go_roundw
          all_goals first | exact ⟨R0.length + 1, by simp, by omega, Hid.mk ⟨_, d4.out, by rw [← hfl.out]; simp [Bk.fl], d5.out⟩⟩ | (simp only [intOf]; omega)
        · have hi1 : ¬ (k : Int) < m := by omega
          have ek : k = R.length := by omega
          subst ek
          replace h1 := Hid.mk h1
          replace h2 := Hid.mk h2
          replace h3 := Hid.mk h3
          replace hm := Hid.mk hm
          go_wp2_with fail
          go_ret
          exact ⟨_, rfl, R, h1.out, h2.out, h3.out⟩
end F
end Go.Proofs.Ytoppcikacakjcaa
