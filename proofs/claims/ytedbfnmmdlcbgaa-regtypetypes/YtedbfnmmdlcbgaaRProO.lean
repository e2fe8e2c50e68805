/-
  Stage 9, regtype: the program's Of, Exact.
-/
import Derived.Test.YtedbfnmmdlcbgaaRProH
import Derived.Test.YtedbfnmmdlcbgaaRProU
import Derived.Test.YtedbfnmmdlcbgaaRNum
import Derived.Test.YtedbfnmmdlcbgaaSSet
import Derived.Deep.RegionHeld3
namespace Go.Proofs.Ytedbfnmmdlcbgaa
namespace R
open Go.RowKit

theorem mk_seal {b e p : Sp} {pm : Nat} {s : Int} (hb : b.lo ≤ b.hi) (he : e.lo ≤ e.hi) (h : ¬ s = -1) : mkCap b e p pm pm s = mkCap b e p pm pm (kn s) := by
  rw [mk_kn hb he]
  unfold mkCap
  by_cases q : p.lo ≤ p.hi ∧ pm < 128 ∧ 0 ≤ s ∧ s ≤ 15
  · rw [if_pos q, if_pos ⟨hb, he, q.1, amg_refl _, amg_of_lt q.2.1, by omega, q.2.2.2⟩]
  · rw [if_neg q, if_neg]
    rintro ⟨_, _, h0, _, h1, h2, h3⟩
    have := amg_lt h1
    omega
theorem ofT_cap {b e lo hi : Int} {pm : Nat} {s : Int} : ofT ⟨true, b, e, lo, hi, pm, s⟩ = if s = -1 then .any else mkCap (on b) (on e) ⟨lo, hi⟩ pm pm s := by
  unfold ofT
  rw [if_pos rfl]
  by_cases h : s = -1
  · rw [if_pos h]
    show mkCap (on b) (on e) ⟨lo, hi⟩ pm pm (kn s) = .any
    rw [mk_kn (Int.le_refl _) (Int.le_refl _), if_neg (by omega)]
  · rw [if_neg h]
    show mkCap (on b) (on e) ⟨lo, hi⟩ pm pm (kn s) = _
    rw [← mk_seal (Int.le_refl _) (Int.le_refl _) h]
theorem full_u64 : (⟨0, 18446744073709551615⟩ : Sp).u64 := by unfold Sp.u64; decide
theorem Of_gr (n : Int) (w : World) : Calls Try.prog 25 #[.int .u64 n] w fun x w' => x = .returned (.agg #[.int .u64 n, .int .u64 n]) ∧ Gr w w' :=
  (Of_any n w).mono fun x w' h => ⟨h.1, by rw [← h.2]; exact (Gr.refl _).alloc _⟩
set_option maxHeartbeats 400000 in
theorem pCursors_any (g : Bool) (b e lo hi p s : Int) (w : World) : Calls Try.prog 26 #[.agg #[.bool g, .int .u64 b, .int .u64 e, .int .u64 lo, .int .u64 hi, .int .u8 p, .int .i64 s]] w fun x w' => x = .returned (.agg #[.int .u64 lo, .int .u64 hi]) ∧ Gr w w' := by
  have L1 := grow_cell
  have L2 := grow_frozen
  have L3 := grow_set
  have L4 := grow_lt
  have L5 := glt1
  have L6 := glt2
  have L7 := lt1
  have L8 := lt2
  have L9 := lt3
  go_enter Try.func26, Try.ntmps26
  go_wp2_with fail
  simp [bodyPost, results, Try.results26, go_sem, *]
  repeat (first | exact Gr.refl _ | refine Gr.alloc ?_ _ | refine Gr.grow ?_ _ | refine Gr.drew ?_)
def Tt.agg (t : Tt) : Value := .agg #[.bool t.cap, .int .u64 t.b, .int .u64 t.e, .int .u64 t.lo, .int .u64 t.hi, .int .u8 t.pm, .int .i64 t.s]
set_option maxHeartbeats 16000000 in
theorem pOf_any (t : Tt) (w : World) (ht : t.Rng) : Calls Try.prog 7 #[t.agg] w fun x w' => x = .returned (ofT t).rt.agg ∧ Gr w w' := by
  obtain ⟨tg, tb, te, tl, th, tp, ts⟩ := t
  obtain ⟨r1, r2, r3, r4, r5⟩ := ht
  cases tg
  · have hI : T.Hid (∀ W, Calls Try.prog 22 #[.agg #[.int .u64 0, .int .u64 18446744073709551615]] W fun x w' => x = .returned (RV.int ⟨0, 18446744073709551615⟩).rt.agg ∧ Gr W w') := T.Hid.mk (fun W => by have := pInt_any ⟨0, 18446744073709551615⟩ W full_u64; rw [show mkInt ⟨0, 18446744073709551615⟩ = .int ⟨0, 18446744073709551615⟩ from if_pos (by decide)] at this; exact this)
    rw [show ofT ⟨false, tb, te, tl, th, tp, ts⟩ = .int ⟨0, 18446744073709551615⟩ from rfl]
    simp only [Tt.agg, RT.agg, RV.rt, Sp.no, Int.cast_ofNat_Int] at hI ⊢
    clear r1 r2 r3 r4 r5
    have L1 := grow_cell
    have L2 := grow_frozen
    have L3 := grow_set
    have L4 := grow_lt
    have L5 := glt1
    have L6 := glt2
    have L7 := glt3
    have L8 := glt4
    have L9 := lt1
    have L10 := lt2
    have L11 := lt3
    have L12 := lt4
    have L13 := lt5
    go_enter Try.func7, Try.ntmps7
    go_wp2_with (first | (go_at_call 23; refine (Full_any _).mono ?_; rintro x w' ⟨rfl, qf⟩; first | subst qf | (obtain ⟨lf, rfl⟩ := qf)) | (go_at_call 22; refine (hI.out _).mono ?_; rintro x w' ⟨rfl, l, rfl⟩; (try (rw [← grow_app]; generalize _ ++ l = lm))))
    clear hI
    simp [bodyPost, results, Try.results7, go_sem, *]
    repeat (first | exact Gr.refl _ | refine Gr.alloc ?_ _ | refine Gr.grow ?_ _ | refine Gr.drew ?_)
  · by_cases hs : ts = -1
    · rw [ofT_cap, if_pos hs]
      subst hs
      simp only [Tt.agg, RT.agg, RV.rt, Sp.no, Int.cast_ofNat_Int]
      clear r1 r2 r3 r4 r5
      have L1 := grow_cell
      have L2 := grow_frozen
      have L3 := grow_set
      have L4 := grow_lt
      have L5 := glt1
      have L6 := glt2
      have L7 := glt3
      have L8 := lt1
      have L9 := lt2
      have L10 := lt3
      have L11 := lt4
      go_enter Try.func7, Try.ntmps7
      go_wp2_with fail
      simp [bodyPost, results, Try.results7, go_sem, *]
      repeat (first | exact Gr.refl _ | refine Gr.alloc ?_ _ | refine Gr.grow ?_ _ | refine Gr.drew ?_)
    · rw [ofT_cap, if_neg hs]
      have hK := T.Hid.mk (fun W => pKnown_any ⟨2, Sp.no, on tb, on te, ⟨tl, th⟩, tp, tp, ts⟩ W ⟨no_u64, on_u64 r1, on_u64 r2, ⟨r3.1, r3.2, r4.1, r4.2⟩, r5, r5⟩)
      rw [nm_cap] at hK
      generalize (mkCap (on tb) (on te) ⟨tl, th⟩ tp tp ts).rt = C at *
      obtain ⟨ck, ⟨cn1, cn2⟩, ⟨cb1, cb2⟩, ⟨ce1, ce2⟩, ⟨cp1, cp2⟩, cmu, cma, csl⟩ := C
      simp only [Tt.agg, RT.agg, Sp.no, on] at hK ⊢
      clear r1 r2 r3 r4 r5
      go_enter Try.func7, Try.ntmps7
      go_upto_region 5 with fail
      have A0 : At (w.alloc (.cells #[.bool true, .int .u64 tb, .int .u64 te, .int .u64 tl, .int .u64 th, .int .u8 (tp : Nat), .int .i64 ts] 30)) w.heap.size #[.bool true, .int .u64 tb, .int .u64 te, .int .u64 tl, .int .u64 th, .int .u8 (tp : Nat), .int .i64 ts] := At.new w _ _
      have X0 : At ((w.alloc (.cells #[.bool true, .int .u64 tb, .int .u64 te, .int .u64 tl, .int .u64 th, .int .u8 (tp : Nat), .int .i64 ts] 30)).alloc (.cells #[.int .i64 0, .int .u64 0, .int .u64 0, .int .u64 0, .int .u64 0, .int .u64 0, .int .u64 0, .int .u64 0, .int .u64 0, .int .u8 0, .int .u8 0, .int .i64 0] 28)) (w.heap.size + 1) #[.int .i64 0, .int .u64 0, .int .u64 0, .int .u64 0, .int .u64 0, .int .u64 0, .int .u64 0, .int .u64 0, .int .u64 0, .int .u8 0, .int .u8 0, .int .i64 0] := At.next w _ _ _
      have KS : ∀ W, Gr (w.alloc (.cells #[.bool true, .int .u64 tb, .int .u64 te, .int .u64 tl, .int .u64 th, .int .u8 (tp : Nat), .int .i64 ts] 30)) W → W.cell? ⟨w.heap.size, 0, none⟩ = some (.bool true) ∧ W.cell? ⟨w.heap.size, 1, none⟩ = some (.int .u64 tb) ∧ W.cell? ⟨w.heap.size, 2, none⟩ = some (.int .u64 te) ∧ W.cell? ⟨w.heap.size, 3, none⟩ = some (.int .u64 tl) ∧ W.cell? ⟨w.heap.size, 4, none⟩ = some (.int .u64 th) ∧ W.cell? ⟨w.heap.size, 5, none⟩ = some (.int .u8 (tp : Nat)) ∧ W.cell? ⟨w.heap.size, 6, none⟩ = some (.int .i64 ts) := fun W g => by
        have a := (A0.gr g).2.1
        exact ⟨a 0, a 1, a 2, a 3, a 4, a 5, a 6⟩
      have hn : (w.alloc (.cells #[.bool true, .int .u64 tb, .int .u64 te, .int .u64 tl, .int .u64 th, .int .u8 (tp : Nat), .int .i64 ts] 30)).heap.size ≤ w.heap.size + 1 := by simp
      generalize hR1 : w.alloc (.cells #[.bool true, .int .u64 tb, .int .u64 te, .int .u64 tl, .int .u64 th, .int .u8 (tp : Nat), .int .i64 ts] 30) = R1 at KS hn X0 ⊢
      generalize hR0 : R1.alloc (.cells #[.int .i64 0, .int .u64 0, .int .u64 0, .int .u64 0, .int .u64 0, .int .u64 0, .int .u64 0, .int .u64 0, .int .u64 0, .int .u8 0, .int .u8 0, .int .i64 0] 28) = R0 at X0 ⊢
      have gR := T.Hid.mk (show Gr R1 R0 by rw [← hR0]; exact (Gr.refl _).alloc _)
      clear A0
      replace KS := T.Hid.mk KS
      replace hR0 := T.Hid.mk hR0
      replace hR1 := T.Hid.mk hR1
      replace X0 := T.Hid.mk X0
      apply cut_rule
      · intro key
        go_region_held3 (fun W => W.cell? ⟨w.heap.size, 0, none⟩ = some (.bool true) ∧ W.cell? ⟨w.heap.size, 1, none⟩ = some (.int .u64 tb) ∧ W.cell? ⟨w.heap.size, 2, none⟩ = some (.int .u64 te) ∧ W.cell? ⟨w.heap.size, 3, none⟩ = some (.int .u64 tl) ∧ W.cell? ⟨w.heap.size, 4, none⟩ = some (.int .u64 th) ∧ W.cell? ⟨w.heap.size, 5, none⟩ = some (.int .u8 (tp : Nat)) ∧ W.cell? ⟨w.heap.size, 6, none⟩ = some (.int .i64 ts)) ((refine KS.out _ ?_; first | with_reducible exact gR.out | with_reducible exact gR.out.drew | (repeat (first | with_reducible assumption | with_reducible exact Gr.refl _ | with_reducible refine Gr.drew ?_ | with_reducible refine Gr.alloc ?_ _ | with_reducible refine Gr.setCell ?_ _ _ _ (by with_reducible assumption))))) (first | (go_at_call 25; refine (Of_gr _ _).mono ?_; rintro x w1 ⟨rfl, q1⟩; have d1 : Gr R0 w1 := Gr.trans (by (repeat (first | with_reducible assumption | with_reducible exact Gr.refl _ | with_reducible refine Gr.drew ?_ | with_reducible refine Gr.alloc ?_ _ | with_reducible refine Gr.setCell ?_ _ _ _ (by with_reducible assumption)))) q1; have c1 : Gr R1 w1 := gR.out.trans d1; clear q1) | (go_at_call 26; refine (pCursors_any _ _ _ _ _ _ _ _).mono ?_; rintro x w1 ⟨rfl, q1⟩; have d1 : Gr R0 w1 := Gr.trans (by (repeat (first | with_reducible assumption | with_reducible exact Gr.refl _ | with_reducible refine Gr.drew ?_ | with_reducible refine Gr.alloc ?_ _ | with_reducible refine Gr.setCell ?_ _ _ _ (by with_reducible assumption)))) q1; have c1 : Gr R1 w1 := gR.out.trans d1; clear q1) | (go_at_call 24; refine (hK.out _).mono ?_; rintro x w1 ⟨rfl, q1⟩; have d1 : Gr R0 w1 := Gr.trans (by (repeat (first | with_reducible assumption | with_reducible exact Gr.refl _ | with_reducible refine Gr.drew ?_ | with_reducible refine Gr.alloc ?_ _ | with_reducible refine Gr.setCell ?_ _ _ _ (by with_reducible assumption)))) q1; have c1 : Gr R1 w1 := gR.out.trans d1; clear q1; have ⟨z1, p1, f1⟩ := X0.out.gr d1))
        · obtain ⟨lz, rfl⟩ := d1
          clear z1 p1 f1 c1
          revert lz
          exact key.out
      intro lz hz
      have e0 := hR0.out
      subst e0
      have e1 := hR1.out
      subst e1
      clear hz hR0 hR1 KS X0 gR
      have L1 := grow_cell
      have L2 := grow_frozen
      have L3 := grow_set
      have L4 := grow_lt
      have L5 := glt1
      have L6 := glt2
      have L7 := glt3
      have L8 := glt4
      have L9 := lt1
      have L10 := lt2
      have L11 := lt3
      have L12 := lt4
      have L13 := lt5
      go_wp2_with fail
      simp [bodyPost, results, Try.results7, go_sem, *]
      repeat (first | exact Gr.refl _ | refine Gr.alloc ?_ _ | refine Gr.grow ?_ _ | refine Gr.drew ?_)
end R
end Go.Proofs.Ytedbfnmmdlcbgaa
