/-
  Stage 8, flow: FlowNext, walked.
-/
import Derived.Test.YtjmknpkmbghgdaaFAl
namespace Go.Proofs.Ytjmknpkmbghgdaa
namespace F
open Go.RowKit
open T

theorem nxt_len (L : List Ins) (pc : Int) : (nxtI L pc).length ≤ L.length := by
  have := nxK_len L pc L.length
  rwa [nxK_all] at this
theorem al_new {w w3 : World} {bB gl : Nat} {L : List Ins} (hb : Below w.heap.size w w3) (h1 : At w3 bB #[.int .i64 0, .slice none 0 0, .slice none 0 0]) (h2 : At w3 gl (insA (L ++ mkI8))) (lB : w.heap.size ≤ bB) (lG : w.heap.size ≤ gl) (hne : gl ≠ bB) :
    ∃ c, Al w bB gl L (.slice none 0 0) [] c w3 :=
  ⟨fun k => if k = bB then -3 else if k = gl then -5 else 0, ⟨hb, h1, by simp, lB, h2, by simp [hne], lG, ⟨rfl, .inl ⟨rfl, rfl⟩⟩, (fun g q => by cases q), (fun j hj => by simp at hj), (fun k => by (repeat' split) <;> omega), (fun k q => by (repeat' split at q) <;> omega)⟩⟩
set_option maxRecDepth 100000 in
set_option maxHeartbeats 16000000 in
theorem walk_FlowNext (L : List Ins) (cc : Nat) (ca : Option Addr) (pc : Int) (w : World) (hL : LIn w.heap.size w ca L) (hcn : NilOk ca L.length cc) (_hpc : -9223372036854775808 ≤ pc ∧ pc < 9223372036854775808) (hn : L.length ≤ 1900000) :
    Calls Try.prog 6 #[.slice ca L.length cc, .int .i64 pc] w fun e w' => e = .returned (.bool true) ∧ Below w.heap.size w w' := by
  have hH := head_any w
  have hl := fun W (q : Below w.heap.size w W) => lent_any L ca cc W ((hL.below q).mono q.size) hcn hn
  have hX := fun gl M p W (h : At W gl (insA (M ++ mkI8))) (hm : M.length = L.length) => Next_any M (some ⟨gl, 0, none⟩) (L.length + 8) p W ((lin_front h).mono h.1) (by omega)
  have hD := fun p W (q : Below w.heap.size w W) => NextD_any L ca cc p W ((hL.below q).mono q.size) (by omega)
  have hT := fun p va vc W (h : LIn W.heap.size W va L.reverse) => NextD_any L.reverse va vc p W h (by simp; omega)
  have hE := fun M (hm : M.length = L.length) p a b ka kb W (h1 : NIn W.heap.size W a (nxtI M p)) (h2 : NIn W.heap.size W b (nxtI M p)) => ints_any (nxtI M p) a b ka kb W h1 h2 (by have := nxt_len M p; omega)
  have hg := fun W g (q : Below w.heap.size w W) (h : At W g (insA (L ++ mkI8))) => given_any L ca cc g W ((hL.below q).mono q.size) h hn
  have hbk := fun W (q : Below w.heap.size w W) => backwards_any L ca cc W ((hL.below q).mono q.size) hn
  have hrl : L.reverse.length = L.length := List.length_reverse
  have hNl := fun p => nxt_len L p
  obtain ⟨i0, hi0, hz0, hz1, hz2⟩ := info_parts' (t := 23) (z := .slice none 0 0) (s := 1) (b := 24) (by kernel_rfl)
  replace hL := Hid.mk hL
  replace hcn := Hid.mk hcn
  replace hH := Hid.mk hH
  replace hl := Hid.mk hl
  replace hX := Hid.mk hX
  replace hD := Hid.mk hD
  replace hT := Hid.mk hT
  replace hE := Hid.mk hE
  replace hg := Hid.mk hg
  replace hbk := Hid.mk hbk
  replace hrl := Hid.mk hrl
  replace hNl := Hid.mk hNl
  go_enter Try.func6, Try.ntmps6
  go_wp2_with fail
  refine hH.out.mono ?_
  rintro x w1 ⟨rfl, q1⟩
  have hlo := q1.size
  replace q1 := Hid.mk q1
  have b1 : Hid (At (w1.alloc (.cells #[.int .i64 0, .slice none 0 0, .slice none 0 0] 41)) w1.heap.size #[.int .i64 0, .slice none 0 0, .slice none 0 0] ∧ Below w.heap.size w (w1.alloc (.cells #[.int .i64 0, .slice none 0 0, .slice none 0 0] 41))) := Hid.mk ⟨At.new w1 _ _, q1.out.alloc hlo _⟩
  go_wp2_with fail
  generalize w1.alloc (.cells #[.int .i64 0, .slice none 0 0, .slice none 0 0] 41) = w2 at *
  generalize w1.heap.size = bB at *
  refine (hl.out _ b1.out.2).mono ?_
  rintro x w3 ⟨rfl, l1, l2⟩
  have hA0 : Hid (∃ vs c, Al w bB w2.heap.size L (.slice none 0 0) vs c w3 ∧ vs.length = 0 * (L.length + 2)) := Hid.mk (by
    have h1 := b1.out.1
    have h2 := b1.out.2
    obtain ⟨c, hc⟩ := al_new (h2.trans (l2.mono h2.size)) (at_below h1 l2 h1.1) l1 hlo h2.size (Nat.ne_of_gt h1.1)
    exact ⟨[], c, hc, by simp⟩)
  have hlg := b1.out.2.size
  clear l1 l2 b1 q1
  generalize w2.heap.size = gl at *
  go_wp2_with fail
  go_loopw [8, 9] (fun V x wr => ∃ k : Nat, x = .int .i64 k ∧ k ≤ 2 ∧ Hid (∃ vs c, Al w bB gl L V vs c wr ∧ vs.length = k * (L.length + 2))) (fun _ x _ => 2 - (intOf x).toNat)
  case atStart => exact ⟨0, rfl, by omega, hA0⟩
  case round =>
    clear hA0
    obtain ⟨k, rfl, hk, hI⟩ := hrel
    by_cases hk2 : k < 2
    · have hk1 : (k : Int) < 2 := by omega
      have hI2 : Hid (∃ vs c, Al w bB gl L u8 vs c wr ∧ vs.length = k * (L.length + 2) + 0) := hI
      clear hI
      go_wp2_with fail
      go_loopw [8, 10] (fun V x wr => ∃ i : Nat, x = .int .i64 ((i : Int) - 1) ∧ i ≤ L.length + 2 ∧ Hid (∃ vs c, Al w bB gl L V vs c wr ∧ vs.length = k * (L.length + 2) + i)) (fun _ x _ => L.length + 2 - (intOf x + 1).toNat)
      case atStart => exact ⟨0, rfl, by omega, hI2⟩
      case round =>
        clear hI2
        obtain ⟨i, rfl, hi, hI⟩ := hrel
        obtain ⟨vs, c, s1, s2⟩ := hI.out
        obtain ⟨Va, Vc, rfl⟩ := row_slice s1.row
        have s2' : vs.length ≤ 8000000 := by
          have : k * (L.length + 2) ≤ 2 * (L.length + 2) := Nat.mul_le_mul_right _ (by omega)
          omega
        replace s2 := Hid.mk s2
        clear hI
        by_cases hil : i ≤ L.length + 1
        · have hi1 : (i : Int) - 1 ≤ L.length := by omega
          have hX1 := Hid.mk (hX.out gl L ((i : Int) - 1) _ s1.cl rfl)
          have hD1 := Hid.mk (fun W (q : Below w.heap.size w W) => hD.out ((i : Int) - 1) W q)
          have hE1 := Hid.mk (hE.out L rfl ((i : Int) - 1))
          have hN1 := hNl.out ((i : Int) - 1)
          generalize nxtI L ((i : Int) - 1) = N at *
          replace s1 := Hid.mk s1
          go_wp2_with fail
          refine hX1.out.mono ?_
          rintro x w4 ⟨v, rfl, n1, n2⟩
          obtain ⟨c', s3, s4⟩ := s1.out.new n2 n1 (by omega)
          obtain ⟨na, nc, rfl⟩ := own_slice n1
          replace n1 := Hid.mk n1
          clear n2
          replace s3 := Hid.mk s3
          replace s4 := Hid.mk s4
          go_wp2_with fail
          refine (hD1.out _ s3.out.be).mono ?_
          rintro x w5 ⟨v, rfl, d1, d2⟩
          obtain ⟨da, dc, rfl⟩ := own_slice d1
          replace s3 := Hid.mk (s3.out.below d2)
          replace s4 := Hid.mk (s4.out.below d2)
          replace n1 := Hid.mk (own_below n1.out d2)
          clear d2
          replace d1 := Hid.mk d1
          go_wp2_with fail
          refine (hE1.out na da nc dc _ (own_nin n1.out) (own_nin d1.out)).mono ?_
          rintro x w6 ⟨rfl, d2⟩
          replace s3 := Hid.mk (s3.out.below d2)
          replace s4 := Hid.mk (s4.out.below d2)
          clear d2 d1 n1
          have s5 := Hid.mk (s3.out.below ((Below.refl _ w6).alloc (Nat.le_refl _) (.cells #[.slice na N.length nc] 23)))
          have s6 := Hid.mk (s4.out.below ((Below.refl _ w6).alloc (Nat.le_refl _) (.cells #[.slice na N.length nc] 23)))
          have hsz := s3.out.be.size
          go_wp2_with (at_builtin; refine wpList_append_lies _ rfl (.tmp 46) (.tmp 48) 39 rfl w.heap.size 23 i0 (.slice none 0 0) 1 24 Try.underlying39 hi0 hz0 hz1 hz2 rfl (by decide) (.slice Va vs.length Vc) vs.length vs rfl s5.out.row ⟨w6.heap.size, 0, none⟩ 1 1 [.slice na N.length nc] rfl rfl (World.news_of_block (cs := #[.slice na N.length nc]) (t := 23) (fr := (0, 0)) (heap_alloc_new w6 _)) (by simp [Value.oneCell']) (by decide) (by unfold maxLen; omega) (by omega) (by simp; omega) _ rfl ?_)
          intro g3 c3 w7 k1 k2 k3 k4
          have hnw : Hid (∃ vs' c, Al w bB gl L (.slice (some ⟨g3, 0, none⟩) (vs.length + 1) c3) vs' c w7 ∧ vs'.length = k * (L.length + 2) + (i + 1)) := Hid.mk (by
            obtain ⟨c4, h4⟩ := s5.out.app s6.out k1 k2 (k3.imp_right (fun e => by rw [e]; simp))
            exact ⟨_, c4, h4, by rw [List.length_append, s2.out]; rfl⟩)
          clear k1 k2 k3 k4 s3 s4 s5 s6
          go_wp2_with fail
          go_roundw
          all_goals first | exact ⟨i + 1, by congr 1; omega, by omega, hnw⟩ | (simp only [intOf]; omega)
        · have hi1 : ¬ (i : Int) - 1 ≤ L.length := by omega
          have hnw : Hid (∃ vs' c, Al w bB gl L (.slice Va vs.length Vc) vs' c wr ∧ vs'.length = (k + 1) * (L.length + 2)) := Hid.mk ⟨vs, c, s1, by
            have ei : i = L.length + 2 := by omega
            rw [s2.out, ei, Nat.succ_mul]⟩
          clear s1
          go_wp2_with fail
          go_roundw
          all_goals first | exact ⟨k + 1, by simp, by omega, hnw⟩ | (simp only [intOf]; omega)
    · have hk1 : ¬ (k : Int) < 2 := by omega
      have ek : k = 2 := by omega
      subst ek
      obtain ⟨vs, c, s1, s2⟩ := hI.out
      have hO := Hid.mk (ownAll_any wr bB u8 vs c s1.sh s1.cB s1.cV s1.hc (by omega))
      obtain ⟨Va, Vc, rfl⟩ := row_slice s1.row
      replace s1 := Hid.mk s1
      have s2' : vs.length ≤ 4000000 := by omega
      replace s2 := Hid.mk s2
      clear hI
      go_wp2_with fail
      refine hO.out.mono ?_
      rintro x w4 ⟨rfl, o1⟩
      obtain ⟨f1, v1, v2, T, c', f2, f3⟩ := s1.out.owned o1
      clear o1 hO s1
      have hSt := Hid.mk (fun W (q : Below w4.heap.size w4 W) => still_any W bB vs.length v1 v2 T c' (f2.below q) (by omega))
      have hlo4 := f1.be.size
      have st : Hid (Fc w gl L w4 ∧ Below w4.heap.size w4 w4) := Hid.mk ⟨f1, Below.refl _ _⟩
      clear f1 f2 f3
      have hX1 := Hid.mk (fun W (h : Fc w gl L W) => hX.out gl L pc W h.cl rfl)
      have hD1 := Hid.mk (fun W (q : Below w.heap.size w W) => hD.out pc W q)
      have hE1 := Hid.mk (hE.out L rfl pc)
      generalize nxtI L pc = N at *
      go_wp2_with fail
      refine (hX1.out _ st.out.1).mono ?_
      rintro x w5 ⟨v, rfl, n1, n2⟩
      obtain ⟨na, nc, rfl⟩ := own_slice n1
      replace n1 := Hid.mk n1
      replace st := Hid.mk (show Fc w gl L w5 ∧ Below w4.heap.size w4 w5 from ⟨st.out.1.below n2, st.out.2.trans (n2.mono st.out.2.size)⟩)
      clear n2
      go_wp2_with fail
      refine (hD1.out _ st.out.1.be).mono ?_
      rintro x w6 ⟨v, rfl, d1, d2⟩
      obtain ⟨da, dc, rfl⟩ := own_slice d1
      replace n1 := Hid.mk (own_below n1.out d2)
      replace st := Hid.mk (show Fc w gl L w6 ∧ Below w4.heap.size w4 w6 from ⟨st.out.1.below d2, st.out.2.trans (d2.mono st.out.2.size)⟩)
      replace d1 := Hid.mk d1
      clear d2
      go_wp2_with fail
      refine (hE1.out na da nc dc _ (own_nin n1.out) (own_nin d1.out)).mono ?_
      rintro x w7 ⟨rfl, d2⟩
      replace st := Hid.mk (show Fc w gl L w7 ∧ Below w4.heap.size w4 w7 from ⟨st.out.1.below d2, st.out.2.trans (d2.mono st.out.2.size)⟩)
      clear d2 d1 n1
      go_wp2_with fail
      refine (hg.out _ gl st.out.1.be st.out.1.cl).mono ?_
      rintro x w8 ⟨rfl, d2⟩
      replace st := Hid.mk (show Fc w gl L w8 ∧ Below w4.heap.size w4 w8 from ⟨st.out.1.below d2, st.out.2.trans (d2.mono st.out.2.size)⟩)
      clear d2
      go_wp2_with fail
      refine (hSt.out _ st.out.2).mono ?_
      rintro x w9 ⟨rfl, d2⟩
      replace st := Hid.mk (st.out.1.below d2)
      clear d2 hSt hX1 hD1 hE1
      go_wp2_with fail
      refine (hbk.out _ st.out.be).mono ?_
      rintro x wa ⟨v, rfl, b1, d2⟩
      have hglp : gl < w9.heap.size := st.out.cl.1
      replace st := Hid.mk (st.out.below d2)
      clear d2
      obtain ⟨va, vc, rfl, b2⟩ := b1.form
      have b3 : NilOk va L.reverse.length vc := fun e => by
        rcases b1.2 with ⟨r, _⟩ | ⟨g', c', cur, r, _⟩
        · injection r with r1 r2 r3; exact ⟨r2, r3⟩
        · injection r with r1 r2 r3; rw [e] at r1; cases r1
      have hcp := copy_turn (c := L.length + 8) 3 st.out.cl b2 b3 (by simp)
      have b4 : LOwn (wa.setCells gl 0 (flat L.reverse)) w9.heap.size (.slice va L.reverse.length vc) L.reverse := own_kp b1 (kp_setCells (fun k => k = gl) gl rfl _ 0 wa) (fun k r => by have := (World.ownsRow.lt b1 k r).1; omega)
      have st2 : Hid (Fc w gl L.reverse (wa.setCells gl 0 (flat L.reverse))) := Hid.mk (st.out.turn hrl.out hlg)
      obtain ⟨va', vc', ev, b5⟩ := b4.form
      injection ev with ev1 ev2 ev3
      subst ev1 ev3
      have hR : Hid (∀ W, Below (wa.setCells gl 0 (flat L.reverse)).heap.size (wa.setCells gl 0 (flat L.reverse)) W → LIn W.heap.size W va L.reverse) := Hid.mk (fun W q => (b5.below q).mono q.size)
      have st3 : Hid (Fc w gl L.reverse (wa.setCells gl 0 (flat L.reverse)) ∧ Below (wa.setCells gl 0 (flat L.reverse)).heap.size (wa.setCells gl 0 (flat L.reverse)) (wa.setCells gl 0 (flat L.reverse))) := Hid.mk ⟨st2.out, Below.refl _ _⟩
      clear st b1 b2 b3 b4 b5 hglp st2
      rw [hrl.out] at hcp ⊢
      generalize wa.setCells gl 0 (flat L.reverse) = wb at *
      have hX1 := Hid.mk (fun p W (h : Fc w gl L.reverse W) => by have := hX.out gl L.reverse p W h.cl hrl.out; rw [hrl.out] at this; exact this)
      have hT1 := Hid.mk (fun p W (q : Below wb.heap.size wb W) => by have := hT.out p va vc W (hR.out W q); rw [hrl.out] at this; exact this)
      have hE1 := Hid.mk (hE.out L.reverse hrl.out)
      have hst := Hid.mk (fun W W1 (h : Fc w gl L.reverse W ∧ Below wb.heap.size wb W) (d : Below W.heap.size W W1) => (show Fc w gl L.reverse W1 ∧ Below wb.heap.size wb W1 from ⟨h.1.below d, h.2.trans (d.mono h.2.size)⟩))
      clear hX hT hE hg hbk hD hl hH
      go_wp2_with fail
      refine (hX1.out pc _ st3.out.1).mono ?_
      rintro x wc ⟨v, rfl, n1, n2⟩
      obtain ⟨na, nc, rfl⟩ := own_slice n1
      replace n1 := Hid.mk n1
      replace st3 := Hid.mk (hst.out _ _ st3.out n2)
      clear n2
      go_wp2_with fail
      refine (hT1.out pc _ st3.out.2).mono ?_
      rintro x wd ⟨v, rfl, d1, d2⟩
      obtain ⟨da, dc, rfl⟩ := own_slice d1
      replace n1 := Hid.mk (own_below n1.out d2)
      replace st3 := Hid.mk (hst.out _ _ st3.out d2)
      replace d1 := Hid.mk d1
      clear d2
      go_wp2_with fail
      refine (hE1.out pc na da nc dc _ (own_nin n1.out) (own_nin d1.out)).mono ?_
      rintro x we ⟨rfl, d2⟩
      replace st3 := Hid.mk (hst.out _ _ st3.out d2)
      clear d2 d1 n1
      go_wp2_with fail
      go_loopw [20] (fun x wr => ∃ i : Nat, x = .int .i64 i ∧ i ≤ L.length + 1 ∧ Hid (Fc w gl L.reverse wr ∧ Below wb.heap.size wb wr)) (fun x _ => L.length + 1 - (intOf x).toNat)
      case atStart => exact ⟨0, rfl, by omega, st3⟩
      case round =>
        clear st3
        obtain ⟨i, rfl, hi, st⟩ := hrel
        by_cases hil : i ≤ L.length
        · have hi1 : (i : Int) ≤ L.length := by omega
          have hE2 := Hid.mk (hE1.out (i : Int))
          have hX2 := Hid.mk (hX1.out (i : Int))
          have hT2 := Hid.mk (hT1.out (i : Int))
          generalize nxtI L.reverse (i : Int) = N' at *
          go_wp2_with fail
          refine (hX2.out _ st.out.1).mono ?_
          rintro x wc ⟨v, rfl, n1, n2⟩
          obtain ⟨na, nc, rfl⟩ := own_slice n1
          replace n1 := Hid.mk n1
          replace st := Hid.mk (hst.out _ _ st.out n2)
          clear n2
          go_wp2_with fail
          refine (hT2.out _ st.out.2).mono ?_
          rintro x wd ⟨v, rfl, d1, d2⟩
          obtain ⟨da, dc, rfl⟩ := own_slice d1
          replace n1 := Hid.mk (own_below n1.out d2)
          replace st := Hid.mk (hst.out _ _ st.out d2)
          replace d1 := Hid.mk d1
          clear d2
          go_wp2_with fail
          refine (hE2.out na da nc dc _ (own_nin n1.out) (own_nin d1.out)).mono ?_
          rintro x we ⟨rfl, d2⟩
          replace st := Hid.mk (hst.out _ _ st.out d2)
          clear d2 d1 n1
          go_wp2_with fail
          go_roundw
          all_goals first | exact ⟨i + 1, by simp, by omega, st⟩ | (simp only [intOf]; omega)
        · have hi1 : ¬ (i : Int) ≤ L.length := by omega
          go_wp2_with fail
          go_ret
          exact ⟨rfl, st.out.1.be⟩
end F
end Go.Proofs.Ytjmknpkmbghgdaa
