/-
  Stage 4, image: the walk of the statement on what is of a type, and what is of none.
-/
import Derived.Test.YtkmdglnplekbaaaDoorMEx
import Derived.Test.YtkmdglnplekbaaaDoorMFitsA
namespace Go.Proofs.YtkmdglnplekbaaaDoor
open Go.RowKit

set_option maxRecDepth 10000 in
set_option maxHeartbeats 4000000 in
theorem walk_ImageFitting (tag : Bool) (n b e c p s : Int) (t : PTyp) (m : Int) (w : World) (ht : TabIn w) (_hv : W64 n ∧ W64 b ∧ W64 e ∧ W64 c ∧ B8 p ∧ J64 s) (hr : t.Rng) (hm : W64 m) :
    Calls Tryd.prog 6 #[.agg #[.bool tag, .int .u64 n, .int .u64 b, .int .u64 e, .int .u64 c, .int .u8 p, .int .i64 s], .agg #[.bool t.cap, .int .u64 t.b, .int .u64 t.e, .int .u64 t.lo, .int .u64 t.hi, .int .u8 t.p, .int .i64 t.s], .int .u64 m] w fun x w' => x = .returned (.bool true) ∧ Below w.heap.size w w' := by
  rcases t with ⟨tc, tb, te, lo, hi, tp, ts⟩
  obtain ⟨r1, r2, r3, r4, r5, r6⟩ := hr
  simp only at r1 r2 r3 r4 r5 r6 ⊢
  cases tc
  · have hF := Fits_any tag n b e c p s ⟨false, tb, te, lo, hi, tp, ts⟩
    have hq : fitsB tag b e c p s ⟨false, tb, te, lo, hi, tp, ts⟩ = !tag := by simp [fitsB]
    rw [hq] at hF
    simp only at hF
    cases tag
    · skip
      go_enter Tryd.func6, Tryd.ntmps6
      go_wp2_with fail
      have hG0 : Gr w ((w.alloc (.cells #[.bool false, .int .u64 n, .int .u64 b, .int .u64 e, .int .u64 c, .int .u8 p, .int .i64 s] 62)).alloc (.cells #[.bool false, .int .u64 tb, .int .u64 te, .int .u64 lo, .int .u64 hi, .int .u8 tp, .int .i64 ts] 54)) := ((Gr.refl w).alloc _).alloc _
      have XV : Box ((w.alloc (.cells #[.bool false, .int .u64 n, .int .u64 b, .int .u64 e, .int .u64 c, .int .u8 p, .int .i64 s] 62)).alloc (.cells #[.bool false, .int .u64 tb, .int .u64 te, .int .u64 lo, .int .u64 hi, .int .u8 tp, .int .i64 ts] 54)) w.heap.size #[.bool false, .int .u64 n, .int .u64 b, .int .u64 e, .int .u64 c, .int .u8 p, .int .i64 s] 62 := (Box.new w _ _).alloc _
      have XT : Box ((w.alloc (.cells #[.bool false, .int .u64 n, .int .u64 b, .int .u64 e, .int .u64 c, .int .u8 p, .int .i64 s] 62)).alloc (.cells #[.bool false, .int .u64 tb, .int .u64 te, .int .u64 lo, .int .u64 hi, .int .u8 tp, .int .i64 ts] 54)) (w.heap.size + 1) #[.bool false, .int .u64 tb, .int .u64 te, .int .u64 lo, .int .u64 hi, .int .u8 tp, .int .i64 ts] 54 := Box.next _ _ _ _
      refine (examples_any _ (ht.gr hG0)).mono ?_
      rintro x w1 ⟨rfl, hB1⟩
      replace XV := XV.below hB1 XV.lt
      replace XT := XT.below hB1 XT.lt
      have hB : Below w.heap.size w w1 := hG0.below.trans (hB1.mono (gr_size hG0))
      clear hB1 hG0 ht
      have ⟨z1, p1, _⟩ := XV.at
      have ⟨z2, p2, f2⟩ := XT.at
      go_wp2_with fail
      refine (hF _).mono ?_
      rintro x w2 ⟨rfl, hG⟩
      replace XV := XV.gr hG
      replace XT := XT.gr hG
      replace hB := hB.trans (hG.below.mono hB.size)
      clear hG z1 p1 z2 p2 f2
      have ⟨z1, p1, _⟩ := XV.at
      have ⟨z2, p2, f2⟩ := XT.at
      go_wp2_with fail
      go_ret
      exact ⟨rfl, hB⟩
    · skip
      go_enter Tryd.func6, Tryd.ntmps6
      go_wp2_with fail
      have hG0 : Gr w ((w.alloc (.cells #[.bool true, .int .u64 n, .int .u64 b, .int .u64 e, .int .u64 c, .int .u8 p, .int .i64 s] 62)).alloc (.cells #[.bool false, .int .u64 tb, .int .u64 te, .int .u64 lo, .int .u64 hi, .int .u8 tp, .int .i64 ts] 54)) := ((Gr.refl w).alloc _).alloc _
      have XV : Box ((w.alloc (.cells #[.bool true, .int .u64 n, .int .u64 b, .int .u64 e, .int .u64 c, .int .u8 p, .int .i64 s] 62)).alloc (.cells #[.bool false, .int .u64 tb, .int .u64 te, .int .u64 lo, .int .u64 hi, .int .u8 tp, .int .i64 ts] 54)) w.heap.size #[.bool true, .int .u64 n, .int .u64 b, .int .u64 e, .int .u64 c, .int .u8 p, .int .i64 s] 62 := (Box.new w _ _).alloc _
      have XT : Box ((w.alloc (.cells #[.bool true, .int .u64 n, .int .u64 b, .int .u64 e, .int .u64 c, .int .u8 p, .int .i64 s] 62)).alloc (.cells #[.bool false, .int .u64 tb, .int .u64 te, .int .u64 lo, .int .u64 hi, .int .u8 tp, .int .i64 ts] 54)) (w.heap.size + 1) #[.bool false, .int .u64 tb, .int .u64 te, .int .u64 lo, .int .u64 hi, .int .u8 tp, .int .i64 ts] 54 := Box.next _ _ _ _
      refine (examples_any _ (ht.gr hG0)).mono ?_
      rintro x w1 ⟨rfl, hB1⟩
      replace XV := XV.below hB1 XV.lt
      replace XT := XT.below hB1 XT.lt
      have hB : Below w.heap.size w w1 := hG0.below.trans (hB1.mono (gr_size hG0))
      clear hB1 hG0 ht
      have ⟨z1, p1, _⟩ := XV.at
      have ⟨z2, p2, f2⟩ := XT.at
      go_wp2_with fail
      refine (hF _).mono ?_
      rintro x w2 ⟨rfl, hG⟩
      replace XV := XV.gr hG
      replace XT := XT.gr hG
      replace hB := hB.trans (hG.below.mono hB.size)
      clear hG z1 p1 z2 p2 f2
      have ⟨z1, p1, _⟩ := XV.at
      have ⟨z2, p2, f2⟩ := XT.at
      go_wp2_with fail
      go_ret
      exact ⟨rfl, hB⟩
  · have hF := Fits_any tag n b e c p s ⟨true, tb, te, lo, hi, tp, ts⟩
    simp only at hF
    generalize fitsB tag b e c p s ⟨true, tb, te, lo, hi, tp, ts⟩ = q0 at hF
    go_enter Tryd.func6, Tryd.ntmps6
    go_wp2_with fail
    have hG0 : Gr w ((w.alloc (.cells #[.bool tag, .int .u64 n, .int .u64 b, .int .u64 e, .int .u64 c, .int .u8 p, .int .i64 s] 62)).alloc (.cells #[.bool true, .int .u64 tb, .int .u64 te, .int .u64 lo, .int .u64 hi, .int .u8 tp, .int .i64 ts] 54)) := ((Gr.refl w).alloc _).alloc _
    have XV : Box ((w.alloc (.cells #[.bool tag, .int .u64 n, .int .u64 b, .int .u64 e, .int .u64 c, .int .u8 p, .int .i64 s] 62)).alloc (.cells #[.bool true, .int .u64 tb, .int .u64 te, .int .u64 lo, .int .u64 hi, .int .u8 tp, .int .i64 ts] 54)) w.heap.size #[.bool tag, .int .u64 n, .int .u64 b, .int .u64 e, .int .u64 c, .int .u8 p, .int .i64 s] 62 := (Box.new w _ _).alloc _
    have XT : Box ((w.alloc (.cells #[.bool tag, .int .u64 n, .int .u64 b, .int .u64 e, .int .u64 c, .int .u8 p, .int .i64 s] 62)).alloc (.cells #[.bool true, .int .u64 tb, .int .u64 te, .int .u64 lo, .int .u64 hi, .int .u8 tp, .int .i64 ts] 54)) (w.heap.size + 1) #[.bool true, .int .u64 tb, .int .u64 te, .int .u64 lo, .int .u64 hi, .int .u8 tp, .int .i64 ts] 54 := Box.next _ _ _ _
    refine (examples_any _ (ht.gr hG0)).mono ?_
    rintro x w1 ⟨rfl, hB1⟩
    replace XV := XV.below hB1 XV.lt
    replace XT := XT.below hB1 XT.lt
    have hB : Below w.heap.size w w1 := hG0.below.trans (hB1.mono (gr_size hG0))
    clear hB1 hG0 ht
    have ⟨z1, p1, _⟩ := XV.at
    have ⟨z2, p2, f2⟩ := XT.at
    go_wp2_with fail
    refine (hF _).mono ?_
    rintro x w2 ⟨rfl, hG⟩
    replace XV := XV.gr hG
    replace XT := XT.gr hG
    replace hB := hB.trans (hG.below.mono hB.size)
    clear hG z1 p1 z2 p2 f2
    have ⟨z1, p1, _⟩ := XV.at
    have ⟨z2, p2, f2⟩ := XT.at
    have em : m.tmod 16 = m % 16 := Int.tmod_eq_emod_of_nonneg hm.1
    obtain ⟨h1, eh⟩ : ∃ h1, IntKind.u64.wrap (lo + m % 16) = h1 := ⟨_, rfl⟩
    have hw1 : W64 h1 := by rw [← eh, IntKind.wrap_u64]; unfold W64; omega
    by_cases hlt : h1 < lo
    · have hl' : decide (h1 < lo) = true := by simpa using hlt
      have h2le : lo ≤ lo := by omega
      have hc := CapOf_any ⟨true, tb, te, lo, lo, tp, ts⟩ lo
      simp only at hc
      go_wp2_with fail
      have XT2 : Box ((w2.setCell ⟨w.heap.size + 1, 4, none⟩ (.int .u64 h1)).setCell ⟨w.heap.size + 1, 4, none⟩ (.int .u64 lo)) (w.heap.size + 1) #[.bool true, .int .u64 tb, .int .u64 te, .int .u64 lo, .int .u64 lo, .int .u8 tp, .int .i64 ts] 54 := ((XT.set 4 (.int .u64 h1)).set 4 (.int .u64 lo))
      have hB2 := ((hB.setCell (p := ⟨w.heap.size + 1, 4, none⟩) (Nat.le_succ _) (.int .u64 h1)).setCell (p := ⟨w.heap.size + 1, 4, none⟩) (Nat.le_succ _) (.int .u64 lo))
      generalize ((w2.setCell ⟨w.heap.size + 1, 4, none⟩ (.int .u64 h1)).setCell ⟨w.heap.size + 1, 4, none⟩ (.int .u64 lo)) = w3 at *
      clear z1 p1 z2 p2 f2 XV XT hB
      refine (hc _).mono ?_
      rintro x w4 ⟨rfl, hG⟩
      replace XT2 := XT2.gr hG
      replace hB2 := hB2.trans (hG.below.mono hB2.size)
      clear hG
      have lm0 : ∃ lm, IntKind.u64.wrap (lo - 1) = lm ∧ (0 < lo → inLH lo lo lm = false) := ⟨_, rfl, fun h => by rw [IntKind.wrap_u64]; have := r3.1; have := r3.2; unfold inLH; simp; omega⟩
      obtain ⟨lm, elm, hlm⟩ := lm0
      have te0 : ∃ te1, IntKind.u64.wrap (te + 1) = te1 ∧ (te1 == te) = false := ⟨_, rfl, by rw [IntKind.wrap_u64]; have := r2.1; have := r2.2; simp; omega⟩
      obtain ⟨te1, ete, hte⟩ := te0
      have ts0 : ∃ ts1, IntKind.i64.wrap (ts + 1) = ts1 ∧ (ts1 == ts) = false := ⟨_, rfl, by rw [IntKind.wrap_i64]; have := r6.1; have := r6.2; simp; omega⟩
      obtain ⟨ts1, ets, hts⟩ := ts0
      have F1 := Fits_any true 0 tb te lo tp ts ⟨true, tb, te, lo, lo, tp, ts⟩
      have F2 := Fits_any true 0 tb te lm tp ts ⟨true, tb, te, lo, lo, tp, ts⟩
      have F3 := Fits_any true 0 tb te1 lo tp ts ⟨true, tb, te, lo, lo, tp, ts⟩
      have F4 := Fits_any true 0 tb te lo tp ts1 ⟨true, tb, te, lo, lo, tp, ts⟩
      have F5 := Fits_any false 0 tb te lo tp ts ⟨true, tb, te, lo, lo, tp, ts⟩
      rw [show fitsB true tb te lo tp ts ⟨true, tb, te, lo, lo, tp, ts⟩ = true by simp [fitsB, inLH] <;> omega] at F1
      rw [show fitsB true tb te lm tp ts ⟨true, tb, te, lo, lo, tp, ts⟩ = inLH lo lo lm by simp [fitsB]] at F2
      rw [show fitsB true tb te1 lo tp ts ⟨true, tb, te, lo, lo, tp, ts⟩ = false by simp [fitsB, hte]] at F3
      rw [show fitsB true tb te lo tp ts1 ⟨true, tb, te, lo, lo, tp, ts⟩ = false by simp [fitsB, hts]] at F4
      rw [show fitsB false tb te lo tp ts ⟨true, tb, te, lo, lo, tp, ts⟩ = false by simp [fitsB]] at F5
      simp only at F1 F2 F3 F4 F5
      generalize inLH lo lo lm = qo at F2 hlm
      replace hlm := Hid.mk hlm
      clear hte hts h2le
      have hn1 : ¬ w4.heap.size = w.heap.size := by have := XT2.lt; omega
      have hn2 : ¬ w.heap.size = w4.heap.size := by have := XT2.lt; omega
      have hn3 : w4.heap.size + 1 ≠ w.heap.size + 1 := by omega
      have hxb : w.heap.size ≤ w4.heap.size + 1 := by have := XT2.lt; omega
      have hGx : Gr w4 ((w4.alloc (.cells #[.int .u64 tb, .int .u64 te, .int .u64 lo, .int .u8 tp, .int .i64 ts] 58)).alloc (.cells #[.bool true, .int .u64 0, .int .u64 tb, .int .u64 te, .int .u64 lo, .int .u8 tp, .int .i64 ts] 62)) := ((Gr.refl w4).alloc _).alloc _
      have X : Box ((w4.alloc (.cells #[.int .u64 tb, .int .u64 te, .int .u64 lo, .int .u8 tp, .int .i64 ts] 58)).alloc (.cells #[.bool true, .int .u64 0, .int .u64 tb, .int .u64 te, .int .u64 lo, .int .u8 tp, .int .i64 ts] 62)) (w4.heap.size + 1) #[.bool true, .int .u64 0, .int .u64 tb, .int .u64 te, .int .u64 lo, .int .u8 tp, .int .i64 ts] 62 := Box.next _ _ _ _
      replace XT2 := XT2.gr hGx
      replace hB2 := hB2.trans (hGx.below.mono hB2.size)
      have ⟨z2, p2, f2⟩ := XT2.at
      go_wp2_with fail
      refine (F1 _).mono ?_
      rintro x w5 ⟨rfl, hG⟩
      replace X := X.gr hG
      replace XT2 := XT2.gr hG
      replace hB2 := hB2.trans (hG.below.mono hB2.size)
      clear hG z2 p2 f2
      have ⟨z2, p2, f2⟩ := XT2.at
      have ⟨z3, p3, f3⟩ := X.at
      go_wp2_with fail
      have Xs := (X.set 4 (.int .u64 lm))
      have Ts := (XT2.kept (grown_set w5 (w4.heap.size + 1) 4 (.int .u64 lm)) (Ne.symm hn3))
      have hBs := (hB2.setCell (p := ⟨w4.heap.size + 1, 4, none⟩) hxb (.int .u64 lm))
      generalize (w5.setCell ⟨w4.heap.size + 1, 4, none⟩ (.int .u64 lm)) = ws2 at *
      replace X := Xs
      replace XT2 := Ts
      replace hB2 := hBs
      clear Xs Ts hBs z2 p2 f2 z3 p3 f3
      refine (F2 _).mono ?_
      rintro x w6 ⟨rfl, hG⟩
      replace X := X.gr hG
      replace XT2 := XT2.gr hG
      replace hB2 := hB2.trans (hG.below.mono hB2.size)
      clear hG
      have ⟨z2, p2, f2⟩ := XT2.at
      have ⟨z3, p3, f3⟩ := X.at
      go_wp2_with fail
      have Xs := ((X.set 4 (.int .u64 lo)).set 3 (.int .u64 te1))
      have Ts := ((XT2.kept (grown_set w6 (w4.heap.size + 1) 4 (.int .u64 lo)) (Ne.symm hn3)).kept (grown_set (w6.setCell ⟨w4.heap.size + 1, 4, none⟩ (.int .u64 lo)) (w4.heap.size + 1) 3 (.int .u64 te1)) (Ne.symm hn3))
      have hBs := ((hB2.setCell (p := ⟨w4.heap.size + 1, 4, none⟩) hxb (.int .u64 lo)).setCell (p := ⟨w4.heap.size + 1, 3, none⟩) hxb (.int .u64 te1))
      generalize ((w6.setCell ⟨w4.heap.size + 1, 4, none⟩ (.int .u64 lo)).setCell ⟨w4.heap.size + 1, 3, none⟩ (.int .u64 te1)) = ws3 at *
      replace X := Xs
      replace XT2 := Ts
      replace hB2 := hBs
      clear Xs Ts hBs z2 p2 f2 z3 p3 f3
      refine (F3 _).mono ?_
      rintro x w7 ⟨rfl, hG⟩
      replace X := X.gr hG
      replace XT2 := XT2.gr hG
      replace hB2 := hB2.trans (hG.below.mono hB2.size)
      clear hG
      have ⟨z2, p2, f2⟩ := XT2.at
      have ⟨z3, p3, f3⟩ := X.at
      go_wp2_with fail
      have Xs := ((X.set 3 (.int .u64 te)).set 6 (.int .i64 ts1))
      have Ts := ((XT2.kept (grown_set w7 (w4.heap.size + 1) 3 (.int .u64 te)) (Ne.symm hn3)).kept (grown_set (w7.setCell ⟨w4.heap.size + 1, 3, none⟩ (.int .u64 te)) (w4.heap.size + 1) 6 (.int .i64 ts1)) (Ne.symm hn3))
      have hBs := ((hB2.setCell (p := ⟨w4.heap.size + 1, 3, none⟩) hxb (.int .u64 te)).setCell (p := ⟨w4.heap.size + 1, 6, none⟩) hxb (.int .i64 ts1))
      generalize ((w7.setCell ⟨w4.heap.size + 1, 3, none⟩ (.int .u64 te)).setCell ⟨w4.heap.size + 1, 6, none⟩ (.int .i64 ts1)) = ws4 at *
      replace X := Xs
      replace XT2 := Ts
      replace hB2 := hBs
      clear Xs Ts hBs z2 p2 f2 z3 p3 f3
      refine (F4 _).mono ?_
      rintro x w8 ⟨rfl, hG⟩
      replace X := X.gr hG
      replace XT2 := XT2.gr hG
      replace hB2 := hB2.trans (hG.below.mono hB2.size)
      clear hG
      have ⟨z2, p2, f2⟩ := XT2.at
      have ⟨z3, p3, f3⟩ := X.at
      go_wp2_with fail
      have Xs := ((X.set 6 (.int .i64 ts)).set 0 (.bool false))
      have Ts := ((XT2.kept (grown_set w8 (w4.heap.size + 1) 6 (.int .i64 ts)) (Ne.symm hn3)).kept (grown_set (w8.setCell ⟨w4.heap.size + 1, 6, none⟩ (.int .i64 ts)) (w4.heap.size + 1) 0 (.bool false)) (Ne.symm hn3))
      have hBs := ((hB2.setCell (p := ⟨w4.heap.size + 1, 6, none⟩) hxb (.int .i64 ts)).setCell (p := ⟨w4.heap.size + 1, 0, none⟩) hxb (.bool false))
      generalize ((w8.setCell ⟨w4.heap.size + 1, 6, none⟩ (.int .i64 ts)).setCell ⟨w4.heap.size + 1, 0, none⟩ (.bool false)) = ws5 at *
      replace X := Xs
      replace XT2 := Ts
      replace hB2 := hBs
      clear Xs Ts hBs z2 p2 f2 z3 p3 f3
      refine (F5 _).mono ?_
      rintro x w9 ⟨rfl, hG⟩
      replace X := X.gr hG
      replace XT2 := XT2.gr hG
      replace hB2 := hB2.trans (hG.below.mono hB2.size)
      clear hG
      have ⟨z2, p2, f2⟩ := XT2.at
      have ⟨z3, p3, f3⟩ := X.at
      have hfin : qo = false ∨ ¬ 0 < lo := by
        by_cases h0 : 0 < lo
        · exact .inl (hlm.out h0)
        · exact .inr h0
      rcases hfin with rfl | hn0
      · go_wp2_with fail
        all_goals
          go_ret
          exact ⟨rfl, hB2⟩
      · cases qo
        all_goals
          go_wp2_with fail
          go_ret
          exact ⟨rfl, hB2⟩
    · have hl' : decide (h1 < lo) = false := by simpa using hlt
      have h2le : lo ≤ h1 := by omega
      have hc := CapOf_any ⟨true, tb, te, lo, h1, tp, ts⟩ h1
      simp only at hc
      go_wp2_with fail
      have XT2 : Box (w2.setCell ⟨w.heap.size + 1, 4, none⟩ (.int .u64 h1)) (w.heap.size + 1) #[.bool true, .int .u64 tb, .int .u64 te, .int .u64 lo, .int .u64 h1, .int .u8 tp, .int .i64 ts] 54 := (XT.set 4 (.int .u64 h1))
      have hB2 := (hB.setCell (p := ⟨w.heap.size + 1, 4, none⟩) (Nat.le_succ _) (.int .u64 h1))
      generalize (w2.setCell ⟨w.heap.size + 1, 4, none⟩ (.int .u64 h1)) = w3 at *
      clear z1 p1 z2 p2 f2 XV XT hB
      refine (hc _).mono ?_
      rintro x w4 ⟨rfl, hG⟩
      replace XT2 := XT2.gr hG
      replace hB2 := hB2.trans (hG.below.mono hB2.size)
      clear hG
      have lm0 : ∃ lm, IntKind.u64.wrap (lo - 1) = lm ∧ (0 < lo → inLH lo h1 lm = false) := ⟨_, rfl, fun h => by rw [IntKind.wrap_u64]; have := r3.1; have := r3.2; unfold inLH; simp; omega⟩
      obtain ⟨lm, elm, hlm⟩ := lm0
      have te0 : ∃ te1, IntKind.u64.wrap (te + 1) = te1 ∧ (te1 == te) = false := ⟨_, rfl, by rw [IntKind.wrap_u64]; have := r2.1; have := r2.2; simp; omega⟩
      obtain ⟨te1, ete, hte⟩ := te0
      have ts0 : ∃ ts1, IntKind.i64.wrap (ts + 1) = ts1 ∧ (ts1 == ts) = false := ⟨_, rfl, by rw [IntKind.wrap_i64]; have := r6.1; have := r6.2; simp; omega⟩
      obtain ⟨ts1, ets, hts⟩ := ts0
      have F1 := Fits_any true 0 tb te h1 tp ts ⟨true, tb, te, lo, h1, tp, ts⟩
      have F2 := Fits_any true 0 tb te lm tp ts ⟨true, tb, te, lo, h1, tp, ts⟩
      have F3 := Fits_any true 0 tb te1 lo tp ts ⟨true, tb, te, lo, h1, tp, ts⟩
      have F4 := Fits_any true 0 tb te lo tp ts1 ⟨true, tb, te, lo, h1, tp, ts⟩
      have F5 := Fits_any false 0 tb te lo tp ts ⟨true, tb, te, lo, h1, tp, ts⟩
      rw [show fitsB true tb te h1 tp ts ⟨true, tb, te, lo, h1, tp, ts⟩ = true by simp [fitsB, inLH] <;> omega] at F1
      rw [show fitsB true tb te lm tp ts ⟨true, tb, te, lo, h1, tp, ts⟩ = inLH lo h1 lm by simp [fitsB]] at F2
      rw [show fitsB true tb te1 lo tp ts ⟨true, tb, te, lo, h1, tp, ts⟩ = false by simp [fitsB, hte]] at F3
      rw [show fitsB true tb te lo tp ts1 ⟨true, tb, te, lo, h1, tp, ts⟩ = false by simp [fitsB, hts]] at F4
      rw [show fitsB false tb te lo tp ts ⟨true, tb, te, lo, h1, tp, ts⟩ = false by simp [fitsB]] at F5
      simp only at F1 F2 F3 F4 F5
      generalize inLH lo h1 lm = qo at F2 hlm
      replace hlm := Hid.mk hlm
      clear hte hts h2le
      have hn1 : ¬ w4.heap.size = w.heap.size := by have := XT2.lt; omega
      have hn2 : ¬ w.heap.size = w4.heap.size := by have := XT2.lt; omega
      have hn3 : w4.heap.size + 1 ≠ w.heap.size + 1 := by omega
      have hxb : w.heap.size ≤ w4.heap.size + 1 := by have := XT2.lt; omega
      have hGx : Gr w4 ((w4.alloc (.cells #[.int .u64 tb, .int .u64 te, .int .u64 h1, .int .u8 tp, .int .i64 ts] 58)).alloc (.cells #[.bool true, .int .u64 0, .int .u64 tb, .int .u64 te, .int .u64 h1, .int .u8 tp, .int .i64 ts] 62)) := ((Gr.refl w4).alloc _).alloc _
      have X : Box ((w4.alloc (.cells #[.int .u64 tb, .int .u64 te, .int .u64 h1, .int .u8 tp, .int .i64 ts] 58)).alloc (.cells #[.bool true, .int .u64 0, .int .u64 tb, .int .u64 te, .int .u64 h1, .int .u8 tp, .int .i64 ts] 62)) (w4.heap.size + 1) #[.bool true, .int .u64 0, .int .u64 tb, .int .u64 te, .int .u64 h1, .int .u8 tp, .int .i64 ts] 62 := Box.next _ _ _ _
      replace XT2 := XT2.gr hGx
      replace hB2 := hB2.trans (hGx.below.mono hB2.size)
      have ⟨z2, p2, f2⟩ := XT2.at
      go_wp2_with fail
      refine (F1 _).mono ?_
      rintro x w5 ⟨rfl, hG⟩
      replace X := X.gr hG
      replace XT2 := XT2.gr hG
      replace hB2 := hB2.trans (hG.below.mono hB2.size)
      clear hG z2 p2 f2
      have ⟨z2, p2, f2⟩ := XT2.at
      have ⟨z3, p3, f3⟩ := X.at
      go_wp2_with fail
      have Xs := (X.set 4 (.int .u64 lm))
      have Ts := (XT2.kept (grown_set w5 (w4.heap.size + 1) 4 (.int .u64 lm)) (Ne.symm hn3))
      have hBs := (hB2.setCell (p := ⟨w4.heap.size + 1, 4, none⟩) hxb (.int .u64 lm))
      generalize (w5.setCell ⟨w4.heap.size + 1, 4, none⟩ (.int .u64 lm)) = ws2 at *
      replace X := Xs
      replace XT2 := Ts
      replace hB2 := hBs
      clear Xs Ts hBs z2 p2 f2 z3 p3 f3
      refine (F2 _).mono ?_
      rintro x w6 ⟨rfl, hG⟩
      replace X := X.gr hG
      replace XT2 := XT2.gr hG
      replace hB2 := hB2.trans (hG.below.mono hB2.size)
      clear hG
      have ⟨z2, p2, f2⟩ := XT2.at
      have ⟨z3, p3, f3⟩ := X.at
      go_wp2_with fail
      have Xs := ((X.set 4 (.int .u64 lo)).set 3 (.int .u64 te1))
      have Ts := ((XT2.kept (grown_set w6 (w4.heap.size + 1) 4 (.int .u64 lo)) (Ne.symm hn3)).kept (grown_set (w6.setCell ⟨w4.heap.size + 1, 4, none⟩ (.int .u64 lo)) (w4.heap.size + 1) 3 (.int .u64 te1)) (Ne.symm hn3))
      have hBs := ((hB2.setCell (p := ⟨w4.heap.size + 1, 4, none⟩) hxb (.int .u64 lo)).setCell (p := ⟨w4.heap.size + 1, 3, none⟩) hxb (.int .u64 te1))
      generalize ((w6.setCell ⟨w4.heap.size + 1, 4, none⟩ (.int .u64 lo)).setCell ⟨w4.heap.size + 1, 3, none⟩ (.int .u64 te1)) = ws3 at *
      replace X := Xs
      replace XT2 := Ts
      replace hB2 := hBs
      clear Xs Ts hBs z2 p2 f2 z3 p3 f3
      refine (F3 _).mono ?_
      rintro x w7 ⟨rfl, hG⟩
      replace X := X.gr hG
      replace XT2 := XT2.gr hG
      replace hB2 := hB2.trans (hG.below.mono hB2.size)
      clear hG
      have ⟨z2, p2, f2⟩ := XT2.at
      have ⟨z3, p3, f3⟩ := X.at
      go_wp2_with fail
      have Xs := ((X.set 3 (.int .u64 te)).set 6 (.int .i64 ts1))
      have Ts := ((XT2.kept (grown_set w7 (w4.heap.size + 1) 3 (.int .u64 te)) (Ne.symm hn3)).kept (grown_set (w7.setCell ⟨w4.heap.size + 1, 3, none⟩ (.int .u64 te)) (w4.heap.size + 1) 6 (.int .i64 ts1)) (Ne.symm hn3))
      have hBs := ((hB2.setCell (p := ⟨w4.heap.size + 1, 3, none⟩) hxb (.int .u64 te)).setCell (p := ⟨w4.heap.size + 1, 6, none⟩) hxb (.int .i64 ts1))
      generalize ((w7.setCell ⟨w4.heap.size + 1, 3, none⟩ (.int .u64 te)).setCell ⟨w4.heap.size + 1, 6, none⟩ (.int .i64 ts1)) = ws4 at *
      replace X := Xs
      replace XT2 := Ts
      replace hB2 := hBs
      clear Xs Ts hBs z2 p2 f2 z3 p3 f3
      refine (F4 _).mono ?_
      rintro x w8 ⟨rfl, hG⟩
      replace X := X.gr hG
      replace XT2 := XT2.gr hG
      replace hB2 := hB2.trans (hG.below.mono hB2.size)
      clear hG
      have ⟨z2, p2, f2⟩ := XT2.at
      have ⟨z3, p3, f3⟩ := X.at
      go_wp2_with fail
      have Xs := ((X.set 6 (.int .i64 ts)).set 0 (.bool false))
      have Ts := ((XT2.kept (grown_set w8 (w4.heap.size + 1) 6 (.int .i64 ts)) (Ne.symm hn3)).kept (grown_set (w8.setCell ⟨w4.heap.size + 1, 6, none⟩ (.int .i64 ts)) (w4.heap.size + 1) 0 (.bool false)) (Ne.symm hn3))
      have hBs := ((hB2.setCell (p := ⟨w4.heap.size + 1, 6, none⟩) hxb (.int .i64 ts)).setCell (p := ⟨w4.heap.size + 1, 0, none⟩) hxb (.bool false))
      generalize ((w8.setCell ⟨w4.heap.size + 1, 6, none⟩ (.int .i64 ts)).setCell ⟨w4.heap.size + 1, 0, none⟩ (.bool false)) = ws5 at *
      replace X := Xs
      replace XT2 := Ts
      replace hB2 := hBs
      clear Xs Ts hBs z2 p2 f2 z3 p3 f3
      refine (F5 _).mono ?_
      rintro x w9 ⟨rfl, hG⟩
      replace X := X.gr hG
      replace XT2 := XT2.gr hG
      replace hB2 := hB2.trans (hG.below.mono hB2.size)
      clear hG
      have ⟨z2, p2, f2⟩ := XT2.at
      have ⟨z3, p3, f3⟩ := X.at
      have hfin : qo = false ∨ ¬ 0 < lo := by
        by_cases h0 : 0 < lo
        · exact .inl (hlm.out h0)
        · exact .inr h0
      rcases hfin with rfl | hn0
      · go_wp2_with fail
        all_goals
          go_ret
          exact ⟨rfl, hB2⟩
      · cases qo
        all_goals
          go_wp2_with fail
          go_ret
          exact ⟨rfl, hB2⟩
end Go.Proofs.YtkmdglnplekbaaaDoor
