/-
  Stage 8, flow: FlowRows, walked.
-/
import Derived.Test.YtjmknpkmbghgdaaFRowM
namespace Go.Proofs.Ytjmknpkmbghgdaa
namespace F
open Go.RowKit
open T

def RI (f : Nat → Bool) (R : List Bk) (i m n : Nat) : Prop := CutsTo f ((R.drop i).map Bk.fl) m n
set_option maxRecDepth 100000 in
set_option maxHeartbeats 8000000 in
theorem walk_FlowRows (L : List Ins) (cc : Nat) (ca : Option Addr) (E : List Int) (ec : Nat) (ea : Option Addr) (w : World) (hL : LIn w.heap.size w ca L) (hE : NIn w.heap.size w ea E) (hnil : NilOk ea E.length ec) (hn : L.length < 2000000) (he : E.length ≤ 2000000) :
    Calls Try.prog 4 #[.slice ca L.length cc, .slice ea E.length ec] w fun e w' => e = .returned (.bool true) ∧ Below w.heap.size w w' := by
  have hH := head_any w
  have hB := fun W (q : Below w.heap.size w W) => Blocks_any L E ca ea cc ec W ((hL.below q).mono q.size) ((hE.below q).mono q.size) hn (by omega)
  have hX := fun p W (q : Below w.heap.size w W) => Next_any L ca cc p W ((hL.below q).mono q.size) hn
  have hm := make_bools L.length (by omega)
  have hct := cuts_bl (firF L E) (fir_zero L E) L.length
  have hen : ∀ x ∈ E, (thB L.length x && (decide (x.toNat < L.length) && !firF L E x.toNat)) = false := fun x hx => by
    cases e : thB L.length x with
    | false => rfl
    | true =>
      obtain ⟨q, rfl, hq⟩ := thB_elim e
      have := fir_entry (L := L) hx
      simp [this]
  have hmN : ∀ p : Nat, p < L.length → ∀ y ∈ nxtI L p, (thB L.length y && (decide (y.toNat < L.length) && !firF L E y.toNat)) = true → y = (p : Int) + 1 := fun p hp y hy h => by
    obtain ⟨q, rfl, hf⟩ := (mem_nxt hp y).1 hy
    simp at h
    have := inner_fol hf h.2.2
    omega
  have hn1 := fun p => inner_next (L := L) (E := E) (p := p)
  have hxl : ∀ p : Nat, (nxtI L p).length ≤ L.length := fun p => by
    unfold nxtI
    split
    · rw [List.length_map]
      have := List.length_filter_le (folB L (p : Int).toNat) (List.range L.length)
      simpa using this
    · simp
  generalize firF L E = f at *
  have hat := fun g y W (h : At W g (boolA L.length (fun q => decide (q < L.length) && !f q))) => at_any g L.length L.length _ y W h
  replace hL := Hid.mk hL
  replace hE := Hid.mk hE
  replace hnil := Hid.mk hnil
  replace hH := Hid.mk hH
  replace hB := Hid.mk hB
  replace hX := Hid.mk hX
  replace hct := Hid.mk hct
  replace hen := Hid.mk hen
  replace hmN := Hid.mk hmN
  replace hn1 := Hid.mk hn1
  replace hxl := Hid.mk hxl
  replace hat := Hid.mk hat
  go_enter Try.func4, Try.ntmps4
  go_wp2_with (first | (go_at_call 9; refine hH.out.mono ?_; rintro x w1 ⟨rfl, q1⟩; replace q1 := Hid.mk q1) | (go_at_call 13; refine (hB.out _ q1.out).mono ?_; rintro x w2 ⟨v, R, rfl, k1, k2, k3⟩; obtain ⟨va, vc, rfl⟩ := k1.row.slice; have c2 := Hid.mk (q1.out.trans (k3.mono q1.out.size)); clear k3; replace k1 := Hid.mk k1; replace k2 := Hid.mk k2))
  have hct' : CutsTo f ((R.drop 0).map Bk.fl) 0 L.length := by rw [List.drop_zero, k2.out]; exact hct.out
  have h0 : Hid (RI f R 0 0 L.length ∧ At (w2.alloc (.cells (Array.replicate L.length (.bool false)) 4)) w2.heap.size (boolA L.length (fun q => decide (q < 0) && !f q)) ∧ Below w2.heap.size w2 (w2.alloc (.cells (Array.replicate L.length (.bool false)) 4))) := Hid.mk ⟨hct', by
    have := boolA_new w2 L.length 4
    rw [boolA_congr (g := fun _ => false) (fun k _ => by simp)]
    exact this, by (repeat (first | assumption | with_reducible exact Below.refl _ _ | with_reducible refine Below.alloc ?_ (by simp <;> omega) _ | with_reducible refine Below.setCell ?_ (by simp <;> omega) _ | with_reducible refine Below.drew ?_))⟩
  have hRl : R.length ≤ L.length := by have := blF_len f L.length; rw [← k2.out, List.length_map] at this; exact this
  clear hct' q1 hct
  go_loopw [7, 9] (fun fr x wr => ∃ i m : Nat, fr = .int .i64 m ∧ x = .int .i64 i ∧ i ≤ R.length ∧ m ≤ L.length ∧ Hid (RI f R i m L.length ∧ At wr w2.heap.size (boolA L.length (fun q => decide (q < m) && !f q)) ∧ Below w2.heap.size w2 wr)) (fun _ x _ => R.length - (intOf x).toNat)
  case atStart => exact ⟨0, 0, rfl, rfl, by omega, by omega, h0⟩
  case round =>
    clear h0
    obtain ⟨i, m, rfl, rfl, hi, hml, ⟨i1, i2, i3⟩⟩ := hrel
    by_cases hlt : i < R.length
    · obtain ⟨R0, x, R1, rfl, hi0⟩ : ∃ R0 x R1, R = R0 ++ x :: R1 ∧ R0.length = i := ⟨R.take i, R[i], R.drop (i + 1), by rw [List.getElem_cons_drop, List.take_append_drop], by simp; omega⟩
      subst hi0
      have hd : (R0 ++ x :: R1).drop R0.length = x :: R1 := by simp
      unfold RI at i1
      rw [hd] at i1
      obtain ⟨e1, e2, e3, e4, e5, e6⟩ := i1
      obtain ⟨gb, cb, ev, hlo, hgl⟩ := k1.out.row.here (by simp)
      injection ev with ev1 ev2 ev3
      subst ev1 ev3
      have c0 : wr.cell? ⟨gb, R0.length * 3, none⟩ = some (.int .i64 x.f) := (i3.cell (p := ⟨gb, _, none⟩) hgl).trans (BR.cell k1.out.row 0 (by omega))
      have c1 : wr.cell? ⟨gb, R0.length * 3 + 1, none⟩ = some (.int .i64 x.l) := (i3.cell (p := ⟨gb, _, none⟩) hgl).trans (BR.cell k1.out.row 1 (by omega))
      have hi1 : (R0.length : Int) < ((R0 ++ x :: R1).length : Int) := by omega
      have f1 : ((x.f : Int) != (m : Int)) = false := by simp [← e1]
      have f2 : ¬ (x.l : Int) < m := by have : x.f = m := e1; have : x.f ≤ x.l := e2; omega
      have f3 : ¬ (L.length : Int) ≤ x.l := by have : x.l < L.length := e3; omega
      have f4 : x.l < L.length := e3
      have f5 : x.f = m := e1
      have f6 : x.f ≤ x.l := e2
      have hstart : At wr w2.heap.size (boolA L.length (fun q => decide (q < x.f + 1) && !f q)) := by
        rw [boolA_congr (g := fun q => decide (q < m) && !f q) (fun q _ => ?_)]
        · exact i2
        · by_cases eq : q = x.f
          · have : f x.f = true := e4
            simp [eq, this]
          · have : (q < x.f + 1) = (q < m) := by apply propext; omega
            simp only [this]
      have e5' : ∀ p, x.f < p → p ≤ x.l → f p = false := e5
      have e6' : CutsTo f (R1.map Bk.fl) (x.l + 1) L.length := e6
      have hd2 : (R0 ++ x :: R1).drop (R0.length + 1) = R1 := by simp
      replace hd := Hid.mk hd
      replace hd2 := Hid.mk hd2
      replace e5' := Hid.mk e5'
      replace e6' := Hid.mk e6'
      replace hstart := Hid.mk hstart
      replace i2 := Hid.mk i2
      replace i3 := Hid.mk i3
      clear e1 e2 e3 e4 e5 e6
      go_wp2_with fail
      rename World => wo
      go_loopw [10] (fun y wr => ∃ p : Nat, y = .int .i64 p ∧ x.f + 1 ≤ p ∧ p ≤ x.l + 1 ∧ Hid (At wr w2.heap.size (boolA L.length (fun q => decide (q < p) && !f q)) ∧ Below w2.heap.size w2 wr)) (fun y _ => x.l + 1 - (intOf y).toNat)
      case atStart => exact ⟨x.f + 1, (by first | rfl | (simp; done) | (simp; omega)), by omega, by omega, Hid.mk ⟨hstart.out, i3.out⟩⟩
      case round =>
        obtain ⟨p, rfl, hp1, hp2, ⟨j1, j2⟩⟩ := hrel
        have d0 : wr.cell? ⟨gb, R0.length * 3, none⟩ = some (.int .i64 x.f) := (j2.cell (p := ⟨gb, _, none⟩) hgl).trans (BR.cell k1.out.row 0 (by omega))
        have d1 : wr.cell? ⟨gb, R0.length * 3 + 1, none⟩ = some (.int .i64 x.l) := (j2.cell (p := ⟨gb, _, none⟩) hgl).trans (BR.cell k1.out.row 1 (by omega))
        clear c0 c1
        by_cases hpl : p ≤ x.l
        · have hq1 : (p : Int) ≤ x.l := by omega
          have hq2 : (p : Int) < L.length := by omega
          have hc := boolA_at j1 p (by omega)
          have hfz := j1.2.2
          have hgi := j1.1
          have hnew : Hid (At (wr.setCell ⟨w2.heap.size, p, none⟩ (.bool true)) w2.heap.size (boolA L.length (fun q => decide (q < p + 1) && !f q)) ∧ Below w2.heap.size w2 (wr.setCell ⟨w2.heap.size, p, none⟩ (.bool true))) := Hid.mk ⟨boolA_put j1 p true (by omega) (fun q _ => by
              by_cases eq : q = p
              · subst eq
                simp [e5'.out q (by omega) hpl]
              · have : (q < p + 1) = (q < p) := by apply propext; omega
                simp only [this, eq, if_false]), j2.setCell (Nat.le_refl _) _⟩
          replace j1 := Hid.mk j1
          replace j2 := Hid.mk j2
          go_wp2_with fail
          go_roundw
          all_goals first | exact ⟨p + 1, by simp, by omega, by omega, hnew⟩ | (simp only [intOf]; omega)
        · have hq1 : ¬ (p : Int) ≤ x.l := by omega
          have ep : p = x.l + 1 := by omega
          subst ep
          have hnew : Hid (RI f (R0 ++ x :: R1) (R0.length + 1) (x.l + 1) L.length ∧ At wr w2.heap.size (boolA L.length (fun q => decide (q < x.l + 1) && !f q)) ∧ Below w2.heap.size w2 wr) := Hid.mk ⟨by unfold RI; rw [hd2.out]; exact e6'.out, j1, j2⟩
          replace j1 := Hid.mk j1
          replace j2 := Hid.mk j2
          go_wp2_with fail
          go_roundw
          all_goals first | exact ⟨R0.length + 1, x.l + 1, (by first | rfl | simp), (by first | rfl | simp), by omega, by omega, hnew⟩ | exact ⟨_, _, _, ⟨R0.length + 1, x.l + 1, rfl, rfl, by omega, by omega, hnew⟩, rfl, by simp, by simp⟩ | (simp only [intOf]; omega)
    · have hi1 : ¬ (i : Int) < R.length := by omega
      have hdn : R.drop i = [] := by rw [List.drop_eq_nil_iff]; omega
      unfold RI at i1
      rw [hdn] at i1
      have em : m = L.length := i1
      subst em
      have hAr := Hid.mk i2
      have hBl := Hid.mk i3
      have hgi := i2.1
      have cW := Hid.mk (c2.out.trans (i3.mono c2.out.size))
      clear i1 i2 i3 hdn hRl
      have hfm : ((L.length : Int) != (L.length : Int)) = false := by simp
      go_wp2_with fail
      rename World => w5
      go_loopw [11] (fun x wr => ∃ j : Nat, x = .int .i64 j ∧ j ≤ E.length ∧ wr = w5) (fun x _ => E.length - (intOf x).toNat)
      case atStart => exact ⟨0, rfl, by omega, rfl⟩
      case round =>
        obtain ⟨j, rfl, hj, rfl⟩ := hrel
        by_cases hlt2 : j < E.length
        · obtain ⟨b', off, rfl, hb0', hb1, hcj⟩ := hE.out j hlt2
          have hcj' := (cW.out.cell (p := ⟨b', off + j, none⟩) hb0').trans hcj
          have hi2 : (j : Int) < E.length := by omega
          have hfalse := hen.out E[j] (List.getElem_mem hlt2)
          have hat' := hat.out w2.heap.size E[j] _ hAr.out
          rw [hfalse] at hat'
          replace hat' := Hid.mk hat'
          replace hfalse := Hid.mk hfalse
          clear hcj
          go_wp2_with (first | (go_at_call 12; refine hat'.out.mono ?_; rintro z w7 ⟨rfl, rfl⟩))
          go_roundw
          all_goals first | exact ⟨j + 1, by simp, by omega, trivial⟩ | (simp only [intOf]; omega)
        · have hi2 : ¬ (j : Int) < E.length := by omega
          go_wp2_with fail
          rename World => w5
          go_loopw [13] (fun x wr => ∃ p : Nat, x = .int .i64 p ∧ p ≤ L.length ∧ Hid (Below w5.heap.size w5 wr)) (fun x _ => L.length - (intOf x).toNat)
          case atStart => exact ⟨0, rfl, by omega, Hid.mk (Below.refl _ _)⟩
          case round =>
            obtain ⟨p, rfl, hp, hI⟩ := hrel
            by_cases hpl : p < L.length
            · have hp1 : (p : Int) < L.length := by omega
              have hXp := Hid.mk (hX.out (p : Int) wr (cW.out.trans (hI.out.mono cW.out.size)))
              have hmN' := Hid.mk (hmN.out p hpl)
              have hNl := hxl.out p
              have hn1' := hn1.out p
              generalize nxtI L (p : Int) = N at *
              have hW6 : ∀ w6, Below wr.heap.size wr w6 → Hid (Below w5.heap.size w5 w6) := fun w6 q => Hid.mk (hI.out.trans (q.mono hI.out.size))
              replace hW6 := Hid.mk hW6
              have hwz := hI.out.size
              by_cases hA1 : p + 1 < L.length
              · have hA1' : (p : Int) + 1 < L.length := by omega
                cases hf1 : f (p + 1) with
                | true =>
                  clear hn1'
                  go_wp2_with fail
                  refine hXp.out.mono ?_
                  rintro z w6 ⟨v', rfl, n1, n2⟩
                  obtain ⟨na, nc, rfl⟩ := own_slice n1
                  have hNin := Hid.mk (own_nin n1)
                  have hI6 := hW6.out w6 n2
                  have hA6 := Hid.mk (at_below hAr.out hI6.out hgi)
                  have hin := fun q (h : q < L.length) => boolA_at hA6.out q h
                  have hgi6 := hA6.out.1
                  have hz := hin (p + 1) hA1
                  rw [hf1] at hz
                  simp only [hA1, decide_true, Bool.true_and, Bool.not_true] at hz
                  clear hin
                  replace n1 := Hid.mk n1
                  replace n2 := Hid.mk n2
                  go_wp2_with fail
                  go_loopw [15] (fun x wr => ∃ k : Nat, x = .int .i64 k ∧ k ≤ N.length ∧ wr = w6) (fun x _ => N.length - (intOf x).toNat)
                  case atStart => exact ⟨0, rfl, by omega, rfl⟩
                  case round =>
                    obtain ⟨k, rfl, hk, rfl⟩ := hrel
                    by_cases hkl : k < N.length
                    · obtain ⟨b', off, ena, hb0', hb1, hck⟩ := hNin.out k hkl
                      cases ena
                      (try simp only [Nat.zero_add] at hck)
                      have ki1 : (k : Int) < N.length := by omega
                      have hmem := hmN'.out N[k] (List.getElem_mem hkl)
                      have hat' := Hid.mk (hat.out w2.heap.size N[k] _ hA6.out)
                      generalize N[k] = y at *
                      cases ev : (thB L.length y && (decide (y.toNat < L.length) && !f y.toNat)) with
                      | false =>
                        rw [ev] at hat'
                        go_wp2_with (first | (go_at_call 12; refine hat'.out.mono ?_; rintro z w7 ⟨rfl, rfl⟩))
                        go_roundw
                        all_goals first | exact ⟨k + 1, by simp, by omega, trivial⟩ | (simp only [intOf]; omega)
                      | true =>
                        have ey := hmem ev
                        subst ey
                        rw [ev] at hat'
                        go_wp2_with (first | (go_at_call 12; refine hat'.out.mono ?_; rintro z w7 ⟨rfl, rfl⟩))
                        go_roundw
                        all_goals first | exact ⟨k + 1, by simp, by omega, trivial⟩ | (simp only [intOf]; omega)
                    · have ki1 : ¬ (k : Int) < N.length := by omega
                      go_wp2_with fail
                      go_roundw
                      all_goals first | exact ⟨p + 1, by simp, by omega, hI6⟩ | (simp only [intOf]; omega)
                | false =>
                  have eN := hn1' hA1 hf1
                  have hl1 : ((N.length : Int) != 1) = false := by rw [eN]; rfl
                  have hl0 : (0 : Int) < N.length := by rw [eN]; simp
                  replace eN := Hid.mk eN
                  clear hn1'
                  go_wp2_with fail
                  refine hXp.out.mono ?_
                  rintro z w6 ⟨v', rfl, n1, n2⟩
                  obtain ⟨na, nc, rfl⟩ := own_slice n1
                  have hNin := Hid.mk (own_nin n1)
                  have hI6 := hW6.out w6 n2
                  have hA6 := Hid.mk (at_below hAr.out hI6.out hgi)
                  have hin := fun q (h : q < L.length) => boolA_at hA6.out q h
                  have hgi6 := hA6.out.1
                  have hz := hin (p + 1) hA1
                  rw [hf1] at hz
                  simp only [hA1, decide_true, Bool.true_and, Bool.not_false] at hz
                  obtain ⟨gn, cn, en, _, hgn⟩ := own_here n1 (by rw [eN.out]; simp)
                  injection en with en1 en2 en3
                  subst en1 en3
                  have hz2 := own_cell n1 0 (by rw [eN.out]; simp)
                  have hz3 : N[0]'(by rw [eN.out]; simp) = (p : Int) + 1 := by simp [eN.out]
                  rw [hz3] at hz2
                  replace hz3 := Hid.mk hz3
                  clear hin
                  replace n1 := Hid.mk n1
                  replace n2 := Hid.mk n2
                  go_wp2_with fail
                  go_loopw [15] (fun x wr => ∃ k : Nat, x = .int .i64 k ∧ k ≤ N.length ∧ wr = w6) (fun x _ => N.length - (intOf x).toNat)
                  case atStart => exact ⟨0, rfl, by omega, rfl⟩
                  case round =>
                    obtain ⟨k, rfl, hk, rfl⟩ := hrel
                    by_cases hkl : k < N.length
                    · obtain ⟨b', off, ena, hb0', hb1, hck⟩ := hNin.out k hkl
                      cases ena
                      (try simp only [Nat.zero_add] at hck)
                      have ki1 : (k : Int) < N.length := by omega
                      have hmem := hmN'.out N[k] (List.getElem_mem hkl)
                      have hat' := Hid.mk (hat.out w2.heap.size N[k] _ hA6.out)
                      generalize N[k] = y at *
                      cases ev : (thB L.length y && (decide (y.toNat < L.length) && !f y.toNat)) with
                      | false =>
                        rw [ev] at hat'
                        go_wp2_with (first | (go_at_call 12; refine hat'.out.mono ?_; rintro z w7 ⟨rfl, rfl⟩))
                        go_roundw
                        all_goals first | exact ⟨k + 1, by simp, by omega, trivial⟩ | (simp only [intOf]; omega)
                      | true =>
                        have ey := hmem ev
                        subst ey
                        rw [ev] at hat'
                        go_wp2_with (first | (go_at_call 12; refine hat'.out.mono ?_; rintro z w7 ⟨rfl, rfl⟩))
                        go_roundw
                        all_goals first | exact ⟨k + 1, by simp, by omega, trivial⟩ | (simp only [intOf]; omega)
                    · have ki1 : ¬ (k : Int) < N.length := by omega
                      go_wp2_with fail
                      go_roundw
                      all_goals first | exact ⟨p + 1, by simp, by omega, hI6⟩ | (simp only [intOf]; omega)
              · have hA1' : ¬ (p : Int) + 1 < L.length := by omega
                clear hn1'
                go_wp2_with fail
                refine hXp.out.mono ?_
                rintro z w6 ⟨v', rfl, n1, n2⟩
                obtain ⟨na, nc, rfl⟩ := own_slice n1
                have hNin := Hid.mk (own_nin n1)
                have hI6 := hW6.out w6 n2
                have hA6 := Hid.mk (at_below hAr.out hI6.out hgi)
                have hin := fun q (h : q < L.length) => boolA_at hA6.out q h
                have hgi6 := hA6.out.1
                clear hin
                replace n1 := Hid.mk n1
                replace n2 := Hid.mk n2
                go_wp2_with fail
                go_loopw [15] (fun x wr => ∃ k : Nat, x = .int .i64 k ∧ k ≤ N.length ∧ wr = w6) (fun x _ => N.length - (intOf x).toNat)
                case atStart => exact ⟨0, rfl, by omega, rfl⟩
                case round =>
                  obtain ⟨k, rfl, hk, rfl⟩ := hrel
                  by_cases hkl : k < N.length
                  · obtain ⟨b', off, ena, hb0', hb1, hck⟩ := hNin.out k hkl
                    cases ena
                    (try simp only [Nat.zero_add] at hck)
                    have ki1 : (k : Int) < N.length := by omega
                    have hmem := hmN'.out N[k] (List.getElem_mem hkl)
                    have hat' := Hid.mk (hat.out w2.heap.size N[k] _ hA6.out)
                    generalize N[k] = y at *
                    cases ev : (thB L.length y && (decide (y.toNat < L.length) && !f y.toNat)) with
                    | false =>
                      rw [ev] at hat'
                      go_wp2_with (first | (go_at_call 12; refine hat'.out.mono ?_; rintro z w7 ⟨rfl, rfl⟩))
                      go_roundw
                      all_goals first | exact ⟨k + 1, by simp, by omega, trivial⟩ | (simp only [intOf]; omega)
                    | true =>
                      have ey := hmem ev
                      subst ey
                      rw [ev] at hat'
                      go_wp2_with (first | (go_at_call 12; refine hat'.out.mono ?_; rintro z w7 ⟨rfl, rfl⟩))
                      go_roundw
                      all_goals first | exact ⟨k + 1, by simp, by omega, trivial⟩ | (simp only [intOf]; omega)
                  · have ki1 : ¬ (k : Int) < N.length := by omega
                    go_wp2_with fail
                    go_roundw
                    all_goals first | exact ⟨p + 1, by simp, by omega, hI6⟩ | (simp only [intOf]; omega)
            · have hp1 : ¬ (p : Int) < L.length := by omega
              go_wp2_with fail
              go_ret
              exact ⟨rfl, cW.out.trans (hI.out.mono cW.out.size)⟩
end F
end Go.Proofs.Ytjmknpkmbghgdaa
