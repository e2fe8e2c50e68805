/-
  Stage 3, instr: the walk of the statement on a field that may not be so.
-/
import Derived.Test.YtehjikjpgdnjdaaDoorIFieldsM
import Derived.Test.YtehjikjpgdnjdaaDoorIOpenR
namespace Go.Proofs.YtehjikjpgdnjdaaDoor
open Go.RowKit

set_option maxRecDepth 100000 in
set_option maxHeartbeats 4000000 in
theorem walk_InstrFields (ro ra rb rc rm f y : Int) (w : World) (ht : TabIn w) (hr : InRaw ⟨ro, ra, rb, rc, rm⟩) (hf : I64 f) (hy : I64 y) :
    Calls Tryd.prog 5 #[.agg #[.int .i64 ro, .int .i64 ra, .int .i64 rb, .int .i64 rc, .int .i64 rm], .int .i64 f, .int .i64 y] w fun x w' => x = .returned (.bool true) ∧ Below w.heap.size w w' := by
  have ss := str_size
  have hm := made_one ⟨ro, ra, rb, rc, rm⟩ (w.alloc (.cells #[.int .i64 ro, .int .i64 ra, .int .i64 rb, .int .i64 rc, .int .i64 rm] 32)) (ht.gr ((Gr.refl w).alloc _)) hr
  rw [World.size_alloc] at hm
  obtain ⟨⟨o0, o1⟩, hn⟩ := opK_in ro
  have hop : (madeR ⟨ro, ra, rb, rc, rm⟩).op = opK ro := made_op _ _
  clear hr
  generalize madeR ⟨ro, ra, rb, rc, rm⟩ = k at *
  have hpu := fun W => pick_any y 1000 W hy (by omega) (by omega)
  have hpf := fun W => pick_any f 4 W hf (by omega) (by omega)
  obtain ⟨u0, u1⟩ := pickF_range y 1000 (by omega)
  obtain ⟨p0, p1⟩ := pickF_range f 4 (by omega)
  generalize pickF y 1000 = u at *
  generalize pickF f 4 = p at *
  have hbad := fun a b c m => bads (opK ro) a b c m (1 + u) (shapeOf (opK ro)) (shape_in _ o1) (fun e => by rw [e]; rfl) (by omega)
  obtain ⟨hl3, -⟩ := letters_small _ (shape_in (opK ro) o1)
  go_enter Tryd.func5, Tryd.ntmps5
  go_wp2_with fail
  refine hm.mono ?_
  rintro x w1 ⟨a, cc, rfl, hLi, hB1⟩
  clear hm
  obtain ⟨b, off, rfl, hb, hb2, c0, c1, c2, c3, c4⟩ := hLi 0 (by simp)
  simp only [Nat.zero_mul, Nat.add_zero, List.getElem_cons_zero] at c0 c1 c2 c3 c4
  rw [hop] at c0
  replace hB1 : Below w.heap.size w w1 := (((Gr.refl w).alloc _).below).trans (hB1.mono (by simp))
  have tab1 := ht.below hB1 ht.size
  have hws := hB1.size
  have ht2 := ht.size
  clear hLi hop
  generalize opK ro = op at *
  have hsh := fun W tab => Shape_any op W tab o0 o1
  have hrt := fun a b c m (h : fR op (shapeOf op) 0 a b c m = false) => bad_right (op := op) hn h
  have hRi := fun a b c m => Right_any op a b c m
  generalize shapeOf op = s at *
  clear hn
  replace hB1 := Hid.mk hB1
  replace hbad := Hid.mk hbad
  replace hrt := Hid.mk hrt
  replace tab1 := Hid.mk tab1
  go_wp2_with fail
  refine (hsh _ (tab1.out.gr ((Gr.refl w1).alloc _))).mono ?_
  rintro x w' ⟨rfl, rfl⟩
  clear hsh
  go_wp2_with fail
  go_loop [11, 12, 13, 14] (fun n c m k => ∃ (n0 : Int) (c0 m0 : Bool) (k0 : Nat), n = .int .i64 n0 ∧ c = .bool c0 ∧ m = .bool m0 ∧ k = .int .i64 k0 ∧ 0 ≤ n0 ∧ n0 ≤ k0 ∧ k0 ≤ s.length ∧ Hid (cntN (s.drop k0) n0 = cntN s 0 ∧ cntC op (s.drop k0) c0 = cntC op s false ∧ cntM (s.drop k0) m0 = cntM s (decide (op = 28)))) (fun _ _ _ k => s.length - (intOf k).toNat)
  case atStart => exact ⟨0, false, (op == 28), 0, rfl, rfl, rfl, rfl, by omega, by omega, by omega, ⟨rfl, rfl, rfl⟩⟩
  case round =>
    obtain ⟨n0, c0', m0, k0, rfl, rfl, rfl, rfl, hn0, hnk, hkl, ⟨hN, hC, hM⟩⟩ := hrel
    by_cases hlt : k0 < s.length
    · obtain ⟨l, hl⟩ : ∃ l, s[k0] = l := ⟨_, rfl⟩
      obtain ⟨L, hL⟩ : ∃ L, (l.toNat : Int) = L := ⟨_, rfl⟩
      have ix : ∀ h, ((((str s)[k0]'h).toNat : Nat) : Int) = L := fun h => by rw [str_at s k0 h hlt, hl, hL]
      obtain ⟨r', hr', hr2⟩ := drop_cons (s := s) (pos := k0) rfl hlt
      rw [hl] at hr'
      rw [hr', cntN, hL] at hN
      rw [hr', cntC, hL] at hC
      rw [hr', cntM, hL] at hM
      rw [← hr2] at hN hC hM
      clear hr' hl hr2 hL
      have lt1 : (k0 : Int) < s.length := by omega
      by_cases e114 : L = 114
      · have b1 : (L == 114) = true := by simpa using e114
        rw [if_pos e114] at hN
        rw [if_neg (by omega)] at hC
        have hM2 : cntM (s.drop (k0 + 1)) m0 = cntM s (decide (op = 28)) := by simpa [e114] using hM
        clear hM
        replace e114 := Hid.mk e114
        replace hN := Hid.mk hN
        replace hC := Hid.mk hC
        replace hM2 := Hid.mk hM2
        go_wp2_with fail
        go_round
        case rel => exact ⟨n0 + 1, c0', m0, k0 + 1, rfl, rfl, rfl, by simp, by omega, by omega, by omega, ⟨hN.out, hC.out, hM2.out⟩⟩
        case measure => simp [intOf]; omega
      · have b1 : (L == 114) = false := by simpa using e114
        rw [if_neg e114] at hN
        by_cases e99 : L = 99
        · have b2 : (L == 99) = true := by simpa using e99
          rw [if_pos e99] at hC
          have hM2 : cntM (s.drop (k0 + 1)) m0 = cntM s (decide (op = 28)) := by simpa [e99] using hM
          clear hM
          replace e114 := Hid.mk e114
          replace e99 := Hid.mk e99
          replace hN := Hid.mk hN
          replace hC := Hid.mk hC
          replace hM2 := Hid.mk hM2
          go_wp2_with fail
          go_round
          case rel => exact ⟨n0, op != 28, m0, k0 + 1, rfl, rfl, rfl, by simp, by omega, by omega, by omega, ⟨hN.out, by rw [← hC.out]; congr 1; simp [bne, BEq.beq], hM2.out⟩⟩
          case measure => simp [intOf]; omega
        · have b2 : (L == 99) = false := by simpa using e99
          rw [if_neg e99] at hC
          have hM2 : cntM (s.drop (k0 + 1)) true = cntM s (decide (op = 28)) := by simpa [e99, e114] using hM
          clear hM
          replace e114 := Hid.mk e114
          replace e99 := Hid.mk e99
          replace hN := Hid.mk hN
          replace hC := Hid.mk hC
          replace hM2 := Hid.mk hM2
          go_wp2_with fail
          go_round
          case rel => exact ⟨n0, c0', true, k0 + 1, rfl, rfl, rfl, by simp, by omega, by omega, by omega, ⟨hN.out, hC.out, hM2.out⟩⟩
          case measure => simp [intOf]; omega
    · have ge1 : decide ((k0 : Int) < s.length) = false := by simp; omega
      have hd : s.drop k0 = [] := by rw [List.drop_eq_nil_iff]; omega
      rw [hd] at hN hC hM
      clear hd
      have hN2 : n0 = cntN s 0 := hN
      have hC2 : c0' = cntC op s false := hC
      have hM2 : m0 = cntM s (decide (op = 28)) := hM
      replace hbad := hbad.out
      rw [← hN2, ← hC2, ← hM2] at hbad
      replace hbad := Hid.mk hbad
      clear hN hC hM hN2 hC2 hM2 hl3
      go_upto_region 19 with (first | (go_at_call 18; refine (hpu _).mono ?_; rintro x w' ⟨rfl, rfl⟩))
      have hq : p = 0 ∨ p = 1 ∨ p = 2 ∨ p = 3 := by omega
      go_upto_region 23 with (first | (go_at_call 18; refine (hpf _).mono ?_; rintro x w' ⟨rfl, rfl⟩))
      clear hpu hpf
      by_cases h0 : p = 0
      · have e0 : (p == 0) = true := by simpa using h0
        clear hq h0 p0 p1
        by_cases hn1 : n0 < 1
        · have g1 : decide (n0 < 1) = true := by simpa using hn1
          have en : newA n0 (1 + u) = 1 + u := by unfold newA; rw [if_pos hn1]
          rw [en] at hbad
          clear en
          replace hn1 := Hid.mk hn1
          go_wp2_with fail
          refine (hRi _ _ _ _ _ (tab1.out.gr ((Gr.refl w1).alloc _)) o0 o1).mono ?_
          rintro x w2 ⟨rfl, hG⟩
          have h32 : rightF op (1 + u) k.b k.c k.m = 32 := hrt.out _ _ _ _ (hbad.out 0 k.b k.c k.m).1
          have bel := Hid.mk (hB1.out.trans (hG.of_alloc.below.mono hws))
          rw [h32]
          clear h32 hG
          go_wp2_with fail
          go_ret
          exact ⟨rfl, bel.out⟩
        · have g1 : decide (n0 < 1) = false := by simpa using hn1
          have en : newA n0 (1 + u) = 15 + (1 + u) := by unfold newA; rw [if_neg hn1]
          rw [en] at hbad
          clear en
          replace hn1 := Hid.mk hn1
          go_wp2_with fail
          refine (hRi _ _ _ _ _ (tab1.out.gr ((Gr.refl w1).alloc _)) o0 o1).mono ?_
          rintro x w2 ⟨rfl, hG⟩
          have h32 : rightF op (15 + (1 + u)) k.b k.c k.m = 32 := hrt.out _ _ _ _ (hbad.out 0 k.b k.c k.m).1
          have bel := Hid.mk (hB1.out.trans (hG.of_alloc.below.mono hws))
          rw [h32]
          clear h32 hG
          go_wp2_with fail
          go_ret
          exact ⟨rfl, bel.out⟩
      · have e0 : (p == 0) = false := by simpa using h0
        by_cases h1 : p = 1
        · have e1 : (p == 1) = true := by simpa using h1
          clear hq h0 h1 p0 p1
          go_wp2_with fail
          refine (hRi _ _ _ _ _ (tab1.out.gr ((Gr.refl w1).alloc _)) o0 o1).mono ?_
          rintro x w2 ⟨rfl, hG⟩
          have h32 : rightF op k.a (-(1 + u)) k.c k.m = 32 := hrt.out _ _ _ _ (hbad.out k.a (-(1 + u)) k.c k.m).2.1
          have bel := Hid.mk (hB1.out.trans (hG.of_alloc.below.mono hws))
          rw [h32]
          clear h32 hG
          go_wp2_with fail
          go_ret
          exact ⟨rfl, bel.out⟩
        · have e1 : (p == 1) = false := by simpa using h1
          by_cases h2 : p = 2
          · have e2 : (p == 2) = true := by simpa using h2
            clear hq h0 h1 h2 p0 p1
            by_cases hn3 : n0 < 3
            · have g1 : decide (n0 < 3) = true := by simpa using hn3
              cases c0'
              · have en : newC n0 (1 + u) false = -(1 + u) := by unfold newC; rw [if_pos ⟨hn3, rfl⟩]
                rw [en] at hbad
                clear en
                replace hn3 := Hid.mk hn3
                go_wp2_with fail
                refine (hRi _ _ _ _ _ (tab1.out.gr ((Gr.refl w1).alloc _)) o0 o1).mono ?_
                rintro x w2 ⟨rfl, hG⟩
                have h32 : rightF op k.a k.b (-(1 + u)) k.m = 32 := hrt.out _ _ _ _ (hbad.out k.a k.b (-(1 + u)) k.m).2.2.1
                have bel := Hid.mk (hB1.out.trans (hG.of_alloc.below.mono hws))
                rw [h32]
                clear h32 hG
                go_wp2_with fail
                go_ret
                exact ⟨rfl, bel.out⟩
              · have en : newC n0 (1 + u) true = 255 + (1 + u) := by unfold newC; rw [if_neg (by simp)]
                rw [en] at hbad
                clear en
                replace hn3 := Hid.mk hn3
                go_wp2_with fail
                refine (hRi _ _ _ _ _ (tab1.out.gr ((Gr.refl w1).alloc _)) o0 o1).mono ?_
                rintro x w2 ⟨rfl, hG⟩
                have h32 : rightF op k.a k.b (255 + (1 + u)) k.m = 32 := hrt.out _ _ _ _ (hbad.out k.a k.b (255 + (1 + u)) k.m).2.2.1
                have bel := Hid.mk (hB1.out.trans (hG.of_alloc.below.mono hws))
                rw [h32]
                clear h32 hG
                go_wp2_with fail
                go_ret
                exact ⟨rfl, bel.out⟩
            · have g1 : decide (n0 < 3) = false := by simpa using hn3
              have en : newC n0 (1 + u) c0' = 255 + (1 + u) := by unfold newC; rw [if_neg (fun h => hn3 h.1)]
              rw [en] at hbad
              clear en
              replace hn3 := Hid.mk hn3
              go_wp2_with fail
              refine (hRi _ _ _ _ _ (tab1.out.gr ((Gr.refl w1).alloc _)) o0 o1).mono ?_
              rintro x w2 ⟨rfl, hG⟩
              have h32 : rightF op k.a k.b (255 + (1 + u)) k.m = 32 := hrt.out _ _ _ _ (hbad.out k.a k.b (255 + (1 + u)) k.m).2.2.1
              have bel := Hid.mk (hB1.out.trans (hG.of_alloc.below.mono hws))
              rw [h32]
              clear h32 hG
              go_wp2_with fail
              go_ret
              exact ⟨rfl, bel.out⟩
          · have e2 : (p == 2) = false := by simpa using h2
            clear hq h0 h1 h2 p0 p1
            cases m0
            · have en : newM (1 + u) false = 1 + u := rfl
              rw [en] at hbad
              clear en
              go_wp2_with fail
              refine (hRi _ _ _ _ _ (tab1.out.gr ((Gr.refl w1).alloc _)) o0 o1).mono ?_
              rintro x w2 ⟨rfl, hG⟩
              have h32 : rightF op k.a k.b k.c (1 + u) = 32 := hrt.out _ _ _ _ (hbad.out k.a k.b k.c (1 + u)).2.2.2
              have bel := Hid.mk (hB1.out.trans (hG.of_alloc.below.mono hws))
              rw [h32]
              clear h32 hG
              go_wp2_with fail
              go_ret
              exact ⟨rfl, bel.out⟩
            · have en : newM (1 + u) true = 2147483647 + (1 + u) := rfl
              rw [en] at hbad
              clear en
              go_wp2_with fail
              refine (hRi _ _ _ _ _ (tab1.out.gr ((Gr.refl w1).alloc _)) o0 o1).mono ?_
              rintro x w2 ⟨rfl, hG⟩
              have h32 : rightF op k.a k.b k.c (2147483647 + (1 + u)) = 32 := hrt.out _ _ _ _ (hbad.out k.a k.b k.c (2147483647 + (1 + u))).2.2.2
              have bel := Hid.mk (hB1.out.trans (hG.of_alloc.below.mono hws))
              rw [h32]
              clear h32 hG
              go_wp2_with fail
              go_ret
              exact ⟨rfl, bel.out⟩
end Go.Proofs.YtehjikjpgdnjdaaDoor
