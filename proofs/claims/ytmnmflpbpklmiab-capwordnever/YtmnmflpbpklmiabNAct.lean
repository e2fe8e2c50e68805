/-
  Stage 1, capword: what the statement's helper act does.
-/
import Derived.Test.YtmnmflpbpklmiabNMade
import Derived.Test.YtmnmflpbpklmiabCapsB
namespace Go.Proofs.Ytmnmflpbpklmiab
open Go.RowKit

/-- One derivation of two of a list. -/
def ActR (L : List Kap) (n p b' e' c' p' s' f : Int) : Prop := ∃ k ∈ L, ∃ y ∈ L,
  SetB k.b k.e k.c k.p k.s (n % 40) b' e' c' p' s' f ∨ AndP k.b k.e k.c k.p k.s p b' e' c' p' s' f ∨ IncR k.b k.e k.c k.p k.s (IntKind.u64.wrap (n % 24 - 8)) b' e' c' p' s' f ∨
  SealR k.b k.e k.c k.p k.s y.b y.e y.c y.p y.s b' e' c' p' s' f ∨ UnsealR k.b k.e k.c k.p k.s y.b y.e y.c y.p y.s b' e' c' p' s' f

set_option maxHeartbeats 4000000 in
theorem act_any (base g cp : Nat) (L : List Kap) (kd of by_ n p : Int) (w : World) (hL : LAt w base g cp L) (hl0 : 1 ≤ L.length) (hlen : L.length < 1000) (hR : ∀ k ∈ L, Rk k)
    (hkd : -9223372036854775808 ≤ kd ∧ kd < 9223372036854775808) (hof : -9223372036854775808 ≤ of ∧ of < 9223372036854775808) (hby : -9223372036854775808 ≤ by_ ∧ by_ < 9223372036854775808) (hn : 0 ≤ n ∧ n < 18446744073709551616) :
    Calls Try.prog 23 #[.slice (some ⟨g, 0, none⟩) L.length cp, .agg #[.int .i64 kd, .int .i64 of, .int .i64 by_, .int .u64 n, .int .u8 p]] w fun x w' =>
      ∃ b' e' c' p' s' f, x = .returned (.tuple #[.agg #[.int .u64 b', .int .u64 e', .int .u64 c', .int .u8 p', .int .i64 s'], .int .i64 f]) ∧ ActR L n p b' e' c' p' s' f ∧ Below w.heap.size w w' := by
  obtain ⟨hn0, hn1⟩ := hn
  have zg := hL.lt.2
  have zg1 : g < w.heap.size + 1 := by omega
  have zg2 : g < w.heap.size + 1 + 1 := by omega
  have zg3 : g < w.heap.size + 1 + 1 + 1 := by omega
  go_enter Try.func23, Try.ntmps23
  go_wp2_with fail
  refine (place_any _ _ _ hof ⟨by omega, by omega⟩).mono ?_
  rintro x w' ⟨r1, hr1, rfl, rfl⟩
  have hr1' : r1 < L.length := by omega
  obtain ⟨kk, hkk⟩ : ∃ kk, L[r1] = kk := ⟨_, rfl⟩
  have hkm : kk ∈ L := hkk ▸ List.getElem_mem hr1'
  obtain ⟨y0, y1, y2, y3, y4⟩ := hL.five r1 hr1' hkk
  clear hkk
  have hks := (hR kk hkm).2.2.2
  go_wp2_with fail
  refine (place_any _ _ _ hby ⟨by omega, by omega⟩).mono ?_
  rintro x w' ⟨r2, hr2, rfl, rfl⟩
  have hr2' : r2 < L.length := by omega
  obtain ⟨yy, hyy⟩ : ∃ yy, L[r2] = yy := ⟨_, rfl⟩
  have hym : yy ∈ L := hyy ▸ List.getElem_mem hr2'
  obtain ⟨u0, u1, u2, u3, u4⟩ := hL.five r2 hr2' hyy
  clear hyy
  go_wp2_with fail
  refine (place_any kd 6 _ hkd ⟨by omega, by omega⟩).mono ?_
  rintro x w' ⟨r3, hr3, rfl, rfl⟩
  have hA : At ((((w.alloc (.cells #[.int .i64 kd, .int .i64 of, .int .i64 by_, .int .u64 n, .int .u8 p] 47)).alloc (.cells #[.int .u64 0, .int .u64 0, .int .u64 0, .int .u8 0, .int .i64 0] 25)).alloc (.cells #[.int .u64 kk.b, .int .u64 kk.e, .int .u64 kk.c, .int .u8 kk.p, .int .i64 kk.s] 25)).alloc (.cells #[.int .u64 yy.b, .int .u64 yy.e, .int .u64 yy.c, .int .u8 yy.p, .int .i64 yy.s] 25)) (w.heap.size + 1) #[.int .u64 0, .int .u64 0, .int .u64 0, .int .u8 0, .int .i64 0] :=
    ((size_one w _ ▸ At.new (w.alloc _) _ _ : At _ (w.heap.size + 1) _).alloc _).alloc _
  have hB : Below w.heap.size w ((((w.alloc (.cells #[.int .i64 kd, .int .i64 of, .int .i64 by_, .int .u64 n, .int .u8 p] 47)).alloc (.cells #[.int .u64 0, .int .u64 0, .int .u64 0, .int .u8 0, .int .i64 0] 25)).alloc (.cells #[.int .u64 kk.b, .int .u64 kk.e, .int .u64 kk.c, .int .u8 kk.p, .int .i64 kk.s] 25)).alloc (.cells #[.int .u64 yy.b, .int .u64 yy.e, .int .u64 yy.c, .int .u8 yy.p, .int .i64 yy.s] 25)) :=
    (below_three w _ _ _).alloc (by simp; omega) _
  have h6 : r3 = 0 ∨ r3 = 1 ∨ r3 = 2 ∨ r3 = 3 ∨ r3 = 4 ∨ r3 = 5 := by omega
  clear hr1 hr2 hr3
  rcases h6 with rfl | rfl | rfl | rfl | rfl | rfl
  · go_wp2_with fail
    refine (setBounds_any _ _ _ _ _ _ _).mono ?_
    rintro x w5 ⟨b', e', c', p', s', f', rfl, hS, hb⟩
    clear y0 y1 y2 y3 y4 u0 u1 u2 u3 u4
    have hA5 := hA.below hb
    have q5 := hA5.2.1
    have z5 := hA5.1
    have f5 := hA5.2.2
    have hB5 := bstep hB hb
    clear hb hA hB
    go_wp2
    have hA6 : At _ (w.heap.size + 1) #[.int .u64 b', .int .u64 e', .int .u64 c', .int .u8 p', .int .i64 s'] := ((((hA5.set 0 (.int .u64 b') (by simp)).set 1 (.int .u64 e') (by simp)).set 2 (.int .u64 c') (by simp)).set 3 (.int .u8 p') (by simp)).set 4 (.int .i64 s') (by simp)
    have q6 := hA6.2.1
    clear q5 z5 f5
    refine bodyPost_ret (v := .tuple #[.agg #[.int .u64 b', .int .u64 e', .int .u64 c', .int .u8 p', .int .i64 s'], .int .i64 f']) (by simp [results, Try.results23, go_sem, q6]) rfl ⟨_, _, _, _, _, _, rfl, ⟨kk, hkm, yy, hym, .inl hS⟩, ?_⟩
    exact ((((hB5.setCell (by simp) _).setCell (by simp) _).setCell (by simp) _).setCell (by simp) _).setCell (by simp) _
  · go_wp2_with fail
    refine (andPerm_any _ _ _ _ _ _ _).mono ?_
    rintro x w5 ⟨b', e', c', p', s', f', rfl, hS, hb⟩
    clear y0 y1 y2 y3 y4 u0 u1 u2 u3 u4
    have hA5 := hA.below hb
    have q5 := hA5.2.1
    have z5 := hA5.1
    have f5 := hA5.2.2
    have hB5 := bstep hB hb
    clear hb hA hB
    go_wp2
    have hA6 : At _ (w.heap.size + 1) #[.int .u64 b', .int .u64 e', .int .u64 c', .int .u8 p', .int .i64 s'] := ((((hA5.set 0 (.int .u64 b') (by simp)).set 1 (.int .u64 e') (by simp)).set 2 (.int .u64 c') (by simp)).set 3 (.int .u8 p') (by simp)).set 4 (.int .i64 s') (by simp)
    have q6 := hA6.2.1
    clear q5 z5 f5
    refine bodyPost_ret (v := .tuple #[.agg #[.int .u64 b', .int .u64 e', .int .u64 c', .int .u8 p', .int .i64 s'], .int .i64 f']) (by simp [results, Try.results23, go_sem, q6]) rfl ⟨_, _, _, _, _, _, rfl, ⟨kk, hkm, yy, hym, .inr (.inl hS)⟩, ?_⟩
    exact ((((hB5.setCell (by simp) _).setCell (by simp) _).setCell (by simp) _).setCell (by simp) _).setCell (by simp) _
  · go_wp2_with fail
    refine (inc_any _ _ _ _ _ _ _).mono ?_
    rintro x w5 ⟨b', e', c', p', s', f', rfl, hS, hb⟩
    clear y0 y1 y2 y3 y4 u0 u1 u2 u3 u4
    have hA5 := hA.below hb
    have q5 := hA5.2.1
    have z5 := hA5.1
    have f5 := hA5.2.2
    have hB5 := bstep hB hb
    clear hb hA hB
    go_wp2
    have hA6 : At _ (w.heap.size + 1) #[.int .u64 b', .int .u64 e', .int .u64 c', .int .u8 p', .int .i64 s'] := ((((hA5.set 0 (.int .u64 b') (by simp)).set 1 (.int .u64 e') (by simp)).set 2 (.int .u64 c') (by simp)).set 3 (.int .u8 p') (by simp)).set 4 (.int .i64 s') (by simp)
    have q6 := hA6.2.1
    clear q5 z5 f5
    refine bodyPost_ret (v := .tuple #[.agg #[.int .u64 b', .int .u64 e', .int .u64 c', .int .u8 p', .int .i64 s'], .int .i64 f']) (by simp [results, Try.results23, go_sem, q6]) rfl ⟨_, _, _, _, _, _, rfl, ⟨kk, hkm, yy, hym, .inr (.inr (.inl hS))⟩, ?_⟩
    exact ((((hB5.setCell (by simp) _).setCell (by simp) _).setCell (by simp) _).setCell (by simp) _).setCell (by simp) _
  · go_wp2_with fail
    refine (inc_any _ _ _ _ _ _ _).mono ?_
    rintro x w5 ⟨b', e', c', p', s', f', rfl, hS, hb⟩
    clear y0 y1 y2 y3 y4 u0 u1 u2 u3 u4
    have hA5 := hA.below hb
    have q5 := hA5.2.1
    have z5 := hA5.1
    have f5 := hA5.2.2
    have hB5 := bstep hB hb
    clear hb hA hB
    go_wp2
    have hA6 : At _ (w.heap.size + 1) #[.int .u64 b', .int .u64 e', .int .u64 c', .int .u8 p', .int .i64 s'] := ((((hA5.set 0 (.int .u64 b') (by simp)).set 1 (.int .u64 e') (by simp)).set 2 (.int .u64 c') (by simp)).set 3 (.int .u8 p') (by simp)).set 4 (.int .i64 s') (by simp)
    have q6 := hA6.2.1
    clear q5 z5 f5
    refine bodyPost_ret (v := .tuple #[.agg #[.int .u64 b', .int .u64 e', .int .u64 c', .int .u8 p', .int .i64 s'], .int .i64 f']) (by simp [results, Try.results23, go_sem, q6]) rfl ⟨_, _, _, _, _, _, rfl, ⟨kk, hkm, yy, hym, .inr (.inr (.inl hS))⟩, ?_⟩
    exact ((((hB5.setCell (by simp) _).setCell (by simp) _).setCell (by simp) _).setCell (by simp) _).setCell (by simp) _
  · go_wp2_with fail
    refine (sealBy_any _ _ _ _ _ _ _ _ _ _ _).mono ?_
    rintro x w5 ⟨b', e', c', p', s', f', rfl, hS, hb⟩
    clear y0 y1 y2 y3 y4 u0 u1 u2 u3 u4
    have hA5 := hA.below hb
    have q5 := hA5.2.1
    have z5 := hA5.1
    have f5 := hA5.2.2
    have hB5 := bstep hB hb
    clear hb hA hB
    go_wp2
    have hA6 : At _ (w.heap.size + 1) #[.int .u64 b', .int .u64 e', .int .u64 c', .int .u8 p', .int .i64 s'] := ((((hA5.set 0 (.int .u64 b') (by simp)).set 1 (.int .u64 e') (by simp)).set 2 (.int .u64 c') (by simp)).set 3 (.int .u8 p') (by simp)).set 4 (.int .i64 s') (by simp)
    have q6 := hA6.2.1
    clear q5 z5 f5
    refine bodyPost_ret (v := .tuple #[.agg #[.int .u64 b', .int .u64 e', .int .u64 c', .int .u8 p', .int .i64 s'], .int .i64 f']) (by simp [results, Try.results23, go_sem, q6]) rfl ⟨_, _, _, _, _, _, rfl, ⟨kk, hkm, yy, hym, .inr (.inr (.inr (.inl hS)))⟩, ?_⟩
    exact ((((hB5.setCell (by simp) _).setCell (by simp) _).setCell (by simp) _).setCell (by simp) _).setCell (by simp) _
  · go_wp2_with fail
    refine (unsealBy_any _ _ _ _ _ _ _ _ _ _ _ (by omega)).mono ?_
    rintro x w5 ⟨b', e', c', p', s', f', rfl, hS, hb⟩
    clear y0 y1 y2 y3 y4 u0 u1 u2 u3 u4
    have hA5 := hA.below hb
    have q5 := hA5.2.1
    have z5 := hA5.1
    have f5 := hA5.2.2
    have hB5 := bstep hB hb
    clear hb hA hB
    go_wp2
    have hA6 : At _ (w.heap.size + 1) #[.int .u64 b', .int .u64 e', .int .u64 c', .int .u8 p', .int .i64 s'] := ((((hA5.set 0 (.int .u64 b') (by simp)).set 1 (.int .u64 e') (by simp)).set 2 (.int .u64 c') (by simp)).set 3 (.int .u8 p') (by simp)).set 4 (.int .i64 s') (by simp)
    have q6 := hA6.2.1
    clear q5 z5 f5
    refine bodyPost_ret (v := .tuple #[.agg #[.int .u64 b', .int .u64 e', .int .u64 c', .int .u8 p', .int .i64 s'], .int .i64 f']) (by simp [results, Try.results23, go_sem, q6]) rfl ⟨_, _, _, _, _, _, rfl, ⟨kk, hkm, yy, hym, .inr (.inr (.inr (.inr hS)))⟩, ?_⟩
    exact ((((hB5.setCell (by simp) _).setCell (by simp) _).setCell (by simp) _).setCell (by simp) _).setCell (by simp) _
end Go.Proofs.Ytmnmflpbpklmiab
