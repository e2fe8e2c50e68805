/-
  Stage 8, flow: Blocks, its walk.
-/
import Derived.Test.YtjmknpkmbghgdaaFBlkB
namespace Go.Proofs.Ytjmknpkmbghgdaa
namespace F
open Go.RowKit
open T

theorem Bs.lower {L : List Ins} {k : Nat} {w : World} {lo lo' : Nat} {v : Value} {R : List Bk} (h : Bs L k w lo v R) (hb : lo' ≤ lo) : Bs L k w lo' v R := by
  refine ⟨⟨h.row.1, ?_⟩, fun i hi e => own_lower (h.nxs i hi e) hb, h.nil, h.ne, h.pw⟩
  rcases h.row.2 with h2 | ⟨g, cap, cur, hv, hbg, rest⟩
  · exact .inl h2
  · exact .inr ⟨g, cap, cur, hv, by omega, rest⟩
set_option maxRecDepth 100000 in
set_option maxHeartbeats 4000000 in
theorem Blocks_any (L : List Ins) (E : List Int) (ca ea : Option Addr) (cc ec : Nat) (w : World) (hL : LIn w.heap.size w ca L) (hE : NIn w.heap.size w ea E) (hn : L.length < 2000000) (he : E.length ≤ 4000000) :
    Calls Try.prog 13 #[.slice ca L.length cc, .slice ea E.length ec] w fun e w' => ∃ v R, e = .returned v ∧ Bs L R.length w' w.heap.size v R ∧ R.map Bk.fl = blF (firF L E) L.length ∧ Below w.heap.size w w' := by
  have hF := firstsOf_any L E ca ea cc ec w hL hE hn he
  have hX := fun W (q : Below w.heap.size w W) pc => Next_any L ca cc pc W ((hL.below q).mono q.size) hn
  have hfz := fir_zero L E
  generalize firF L E = f at *
  have hH := fun X W (h : SIn W X L.length f) j hj => has_any X L.length j f W h hn hj
  unfold sv at *
  replace hF := Hid.mk hF
  replace hX := Hid.mk hX
  replace hH := Hid.mk hH
  replace hL := Hid.mk hL
  replace hE := Hid.mk hE
  replace hfz := Hid.mk hfz
  go_enter Try.func13, Try.ntmps13
  go_wp2_with (first | (go_at_call 38; refine hF.out.mono ?_; rintro x w1 ⟨X, rfl, a1, a2, a3⟩; replace a1 := Hid.mk a1; replace a3 := Hid.mk a3))
  have hB := At.new w1 #[.slice (some ⟨X, 0, none⟩) ((L.length + 63) / 64) ((L.length + 63) / 64), .int .i64 L.length] 55
  have hX2 := a1.out.below ((Below.refl _ w1).alloc (Nat.le_refl _) (.cells #[.slice (some ⟨X, 0, none⟩) ((L.length + 63) / 64) ((L.length + 63) / 64), .int .i64 L.length] 55)) a1.out.lt
  have hW2 := a3.out.alloc a3.out.size (.cells #[.slice (some ⟨X, 0, none⟩) ((L.length + 63) / 64) ((L.length + 63) / 64), .int .i64 L.length] 55)
  generalize hbx : w1.heap.size = bx at *
  generalize (w1.alloc (.cells #[.slice (some ⟨X, 0, none⟩) ((L.length + 63) / 64) ((L.length + 63) / 64), .int .i64 L.length] 55)) = w2 at *
  generalize (L.length + 63) / 64 = nw at *
  have hst := L1.start L f w2
  have hbl := hB.1
  have hbs := hW2.size
  clear a1 a3 a2 hbx
  replace hB := Hid.mk hB
  replace hX2 := Hid.mk hX2
  replace hW2 := Hid.mk hW2
  clear w1
  go_loopw [6, 14] (fun v x wr => ∃ j : Nat, x = .int .i64 j ∧ j ≤ L.length ∧ L1 L f w2 j v wr) (fun _ x _ => L.length - (intOf x).toNat)
  case atStart => exact ⟨0, rfl, by omega, hst⟩
  case round =>
    clear hst
    obtain ⟨j, rfl, hj, hI⟩ := hrel
    obtain ⟨R, h1, h2, h3⟩ := hI.out
    clear hI
    by_cases hlt : j < L.length
    · have z0 : wr.cell? ⟨bx, 0, none⟩ = some (.slice (some ⟨X, 0, none⟩) nw nw) := (h3.cell (p := ⟨bx, 0, none⟩) hbl).trans (hB.out.2.1 0)
      have z1 : wr.cell? ⟨bx, 1, none⟩ = some (.int .i64 L.length) := (h3.cell (p := ⟨bx, 1, none⟩) hbl).trans (hB.out.2.1 1)
      have hh := Hid.mk (hH.out X wr (hX2.out.below h3 hX2.out.lt) j hlt)
      have hi1 : (j : Int) < L.length := by omega
      have hRl : R.length ≤ j := by have := blF_len f j; rw [← h2, List.length_map] at this; exact this
      cases ef : f j with
      | true =>
        rw [ef] at hh
        have hsz := h3.size
        obtain ⟨va, vc, rfl⟩ := h1.row.slice
        have hap := fun w3 w4 g cap (q1 : Below wr.heap.size wr w3) ho hg => L1.app (w3 := w3) (w4 := w4) (g := g) (cap := cap) h1 h2 h3 ef q1 ho hg
        have hrw := fun W (q : Below wr.heap.size wr W) => (h1.below q).row
        replace hap := Hid.mk hap
        replace hrw := Hid.mk hrw
        replace h1 := Hid.mk h1
        replace h2 := Hid.mk h2
        replace h3 := Hid.mk h3
        replace hRl := Hid.mk hRl
        go_wp2_with (first | (go_at_call 39; refine hh.out.mono ?_; rintro x w3 ⟨rfl, q1⟩; have hs3 := q1.size; replace q1 := Hid.mk q1) | (at_builtin; refine wpList_append_blk rfl (.tmp 20) (.tmp 23) rfl w2.heap.size (.slice va R.length vc) R ⟨j, 0, .slice none 0 0⟩ rfl (hrw.out _ (q1.out.alloc hs3 _)) w3.heap.size rfl (At.new _ _ _) rfl (by have := hRl.out; omega) (by simp; omega) ?_))
        intro g cap w4 g1 g2 g3 g4
        obtain ⟨k1, ⟨y, k2⟩, k3, k4⟩ := hap.out _ w4 g cap (q1.out.alloc hs3 _) g1 g2
        have hRi : (R.length : Int) ≤ 3000000 := by have := hRl.out; omega
        replace g1 := Hid.mk g1
        replace g2 := Hid.mk g2
        go_wp2_with fail
        go_roundw
        all_goals first | exact ⟨j + 1, by simp, by omega, k1⟩ | (simp only [intOf]; omega)
      | false =>
        rw [ef] at hh
        have hj0 : 0 < j := by
          rcases Nat.eq_zero_or_pos j with r | r
          · subst r; rw [hfz.out] at ef; cases ef
          · exact r
        have hne := blF_ne f hfz.out j hj0
        rcases List.eq_nil_or_concat R with r | ⟨R0, x, r⟩
        · subst r; exact absurd h2.symm (by simpa using hne)
        · rw [List.concat_eq_append] at r
          subst r
          have hon := fun w3 (q1 : Below wr.heap.size wr w3) => L1.on (w3 := w3) h1 h2 h3 ef q1
          obtain ⟨g, cap, rfl, hlo, hgl⟩ := h1.row.here (by simp)
          have hRi : (R0.length : Int) ≤ 3000000 := by simp at hRl; omega
          simp only [List.length_append, List.length_singleton] at hon ⊢
          replace hon := Hid.mk hon
          replace h1 := Hid.mk h1
          replace h2 := Hid.mk h2
          replace h3 := Hid.mk h3
          replace hRl := Hid.mk hRl
          replace hne := Hid.mk hne
          go_wp2_with (first | (go_at_call 39; refine hh.out.mono ?_; rintro x w3 ⟨rfl, q1⟩; obtain ⟨g', cap', eg, k1, ⟨y, k2⟩, k3, k4⟩ := hon.out w3 q1; injection eg with eg1 eg2 eg3; injection eg1 with eg1; injection eg1 with eg1; subst eg1 eg3; replace q1 := Hid.mk q1))
          go_roundw
          all_goals first | exact ⟨j + 1, by simp, by omega, k1⟩ | (simp only [intOf]; omega)
    · have hi1 : ¬ (j : Int) < L.length := by omega
      have ej : j = L.length := by omega
      subst ej
      have hRl : R.length ≤ L.length := by have := blF_len f L.length; rw [← h2, List.length_map] at this; exact this
      have h0 : L2 L f w2 0 u6 wr := Hid.mk ⟨R, h1, h2, h3⟩
      obtain ⟨va, vc, rfl⟩ := h1.row.slice
      have hlen : (blF f L.length).length = R.length := by rw [← h2, List.length_map]
      clear h1 h2 h3
      generalize R.length = m at *
      clear R
      replace hlen := Hid.mk hlen
      go_wp2_with fail
      rename World => wo
      go_loopw [35] (fun x wr => ∃ k : Nat, x = .int .i64 k ∧ k ≤ m ∧ L2 L f w2 k (.slice va m vc) wr) (fun x _ => m - (intOf x).toNat)
      case atStart => exact ⟨0, rfl, by omega, h0⟩
      case round =>
        clear h0
        obtain ⟨k, rfl, hk, hI⟩ := hrel
        obtain ⟨R, h1, h2, h3⟩ := hI.out
        clear hI
        have hm : R.length = m := by rw [← hlen.out, ← h2, List.length_map]
        by_cases hlt : k < m
        · have hkl : k < R.length := by omega
          obtain ⟨R0, x, R1, rfl, hk0⟩ : ∃ R0 x R1, R = R0 ++ x :: R1 ∧ R0.length = k := ⟨R.take k, R[k], R.drop (k + 1), by rw [List.getElem_cons_drop, List.take_append_drop], by simp; omega⟩
          subst hk0
          obtain ⟨g, cap, ev, hlo, hgl⟩ := h1.row.here (by simp)
          rw [hm] at ev
          injection ev with ev1 ev2 ev3
          subst ev1 ev3
          rw [← hm] at h1
          have hnx := fun w3 (q1 : Below wr.heap.size wr w3) v' hv' => h1.next q1 v' hv' h3.size
          have c1 : wr.cell? ⟨g, R0.length * 3 + 1, none⟩ = some (.int .i64 x.l) := BR.cell h1.row 1 (by omega)
          have c2 := fun w3 (q1 : Below wr.heap.size wr w3) => BR.cell (h1.below q1).row 2 (by omega)
          have fr := fun w3 (q1 : Below wr.heap.size wr w3) => World.ownsRow.frozenAt (h1.below q1).row (R0.length * 3 + 2)
          have hXx := hX.out wr (hW2.out.trans (h3.mono hbs)) (x.l : Int)
          have hi1 : (R0.length : Int) < m := by omega
          have hfl : (R0 ++ (⟨x.f, x.l, .slice none 0 0⟩ : Bk) :: R1).map Bk.fl = blF f L.length := by rw [← h2]; simp [Bk.fl]
          rw [hm] at hnx
          have hB3 : ∀ (w3 : World) (a : Addr) (v' : Value), Below wr.heap.size wr w3 → w2.heap.size ≤ a.block → Below w2.heap.size w2 (w3.setCell a v') := fun w3 a v' q1 q2 => (h3.trans (q1.mono h3.size)).setCell q2 _
          replace h1 := Hid.mk h1
          replace h2 := Hid.mk h2
          replace h3 := Hid.mk h3
          replace hnx := Hid.mk hnx
          replace c2 := Hid.mk c2
          replace fr := Hid.mk fr
          replace hXx := Hid.mk hXx
          replace hfl := Hid.mk hfl
          replace hB3 := Hid.mk hB3
          replace hm := Hid.mk hm
          go_wp2_with (first | (go_at_call 11; refine hXx.out.mono ?_; rintro y w3 ⟨v', rfl, q1, q2⟩; obtain ⟨va', vc', rfl⟩ := own_slice q1; have d1 := c2.out w3 q2; have d2 := fr.out w3 q2; have d3 := Nat.lt_of_lt_of_le hgl q2.size; simp only [Bk.vals, List.getElem?_cons_succ, List.getElem?_cons_zero] at d1; have d4 := Hid.mk (hnx.out w3 q2 _ q1); have d5 := Hid.mk (hB3.out w3 ⟨g, R0.length * 3 + 2, none⟩ (.slice va' (nxtI L (x.l : Int)).length vc') q2 hlo); replace q1 := Hid.mk q1; replace q2 := Hid.mk q2))
          go_roundw
          all_goals first | exact ⟨R0.length + 1, by simp, by omega, Hid.mk ⟨_, d4.out, by rw [← hfl.out]; simp [Bk.fl], d5.out⟩⟩ | (simp only [intOf]; omega)
        · have hi1 : ¬ (k : Int) < m := by omega
          have ek : k = R.length := by omega
          subst ek
          replace h1 := Hid.mk h1
          replace h2 := Hid.mk h2
          replace h3 := Hid.mk h3
          replace hm := Hid.mk hm
          go_wp2_with fail
          go_ret
          exact ⟨_, rfl, R, h1.out.lower hbs, h2.out, hW2.out.trans (h3.out.mono hbs)⟩
end F
end Go.Proofs.Ytjmknpkmbghgdaa
