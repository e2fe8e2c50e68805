/-
  Stage 9, regtype: the program's Join, Widen.
-/
import Derived.Test.YtbbpbfbifgfjdaaRSt12
import Derived.Deep.RegionHeld3
namespace Go.Proofs.Ytbbpbfbifgfjdaa
namespace R
open Go.RowKit

/-- What both have in common, with spans grown so. -/
def mrgS (lo hi : Int → Int → Int → Int → Int) (a b : Sp) : Sp := ⟨lo a.lo a.hi b.lo b.hi, hi a.lo a.hi b.lo b.hi⟩
def mrgRT (lo hi : Int → Int → Int → Int → Int) (a b : RT) : RT :=
  if a.k = b.k then ⟨a.k, mrgS lo hi a.n b.n, mrgS lo hi a.b b.b, mrgS lo hi a.e b.e, mrgS lo hi a.p b.p, a.mu &&& b.mu, a.ma ||| b.ma, if a.s = b.s then a.s else -1⟩ else RT.zero
theorem mrg_jn {a b : RV} (ha : a.ok) (hb : b.ok) : mrgRT jLo jHi a.rt b.rt = (a.jn b).rt := by
  have z : mrgS jLo jHi Sp.no Sp.no = Sp.no := Sp.ext' ((jn_told no_ok no_ok).1.trans (by decide)) ((jn_told no_ok no_ok).2.trans (by decide))
  have e : ∀ {x y : Sp}, x.ok → y.ok → mrgS jLo jHi x y = x.jn y := fun hx hy => Sp.ext' (jn_told hx hy).1 (jn_told hx hy).2
  cases a with
  | any =>
    cases b with
    | any => simp only [mrgRT, RV.rt, RV.jn, z]; simp
    | int => simp [mrgRT, RV.rt, RV.jn, RT.zero]
    | cap => simp [mrgRT, RV.rt, RV.jn, RT.zero]
  | int n =>
    cases b with
    | any => simp [mrgRT, RV.rt, RV.jn, RT.zero]
    | cap => simp [mrgRT, RV.rt, RV.jn, RT.zero]
    | int m => simp only [mrgRT, RV.rt, RV.jn, z, e ha hb]; simp
  | cap b1 e1 p1 mu1 ma1 s1 =>
    cases b with
    | any => simp [mrgRT, RV.rt, RV.jn, RT.zero]
    | int => simp [mrgRT, RV.rt, RV.jn, RT.zero]
    | cap b2 e2 p2 mu2 ma2 s2 => simp only [mrgRT, RV.rt, RV.jn, z, e ha.1 hb.1, e ha.2.1 hb.2.1, e ha.2.2.1 hb.2.2.1]; rfl
set_option maxHeartbeats 40000000 in
theorem pMerge_jn (a b : RT) (w : World) (ha : a.Rng) (hb : b.Rng) : Calls Try.prog 28 #[a.agg, b.agg, .func (.func 29) #[] #[]] w fun x w' => x = .returned (a.nm.jn b.nm).rt.agg ∧ Gr w w' := by
  have hK1 := T.Hid.mk (fun W => pKnown_any a W ha)
  have hK2 := T.Hid.mk (fun W => pKnown_any b W hb)
  have hM := mrg_jn (RT.nm_ok ha) (RT.nm_ok hb)
  have rA := RV.rt_rng (RT.nm_ok ha)
  have rB := RV.rt_rng (RT.nm_ok hb)
  generalize a.nm.rt = A at *
  generalize b.nm.rt = B at *
  generalize (a.nm.jn b.nm).rt = C at *
  have u1 := u8_and_nat A.mu B.mu rA.2.2.2.2.1 rB.2.2.2.2.1
  have u2 := u8_or_nat A.ma B.ma rA.2.2.2.2.2 rB.2.2.2.2.2
  replace u1 := T.Hid.mk u1
  replace u2 := T.Hid.mk u2
  clear ha hb rA rB
  replace hM := T.Hid.mk hM
  obtain ⟨k, ⟨n1, n2⟩, ⟨b1, b2⟩, ⟨e1, e2⟩, ⟨p1, p2⟩, mu, ma, s⟩ := a
  obtain ⟨k', ⟨n1', n2'⟩, ⟨b1', b2'⟩, ⟨e1', e2'⟩, ⟨p1', p2'⟩, mu', ma', s'⟩ := b
  obtain ⟨ak, ⟨an1, an2⟩, ⟨ab1, ab2⟩, ⟨ae1, ae2⟩, ⟨ap1, ap2⟩, amu, ama, asl⟩ := A
  obtain ⟨bk, ⟨bn1, bn2⟩, ⟨bb1, bb2⟩, ⟨be1, be2⟩, ⟨bp1, bp2⟩, bmu, bma, bsl⟩ := B
  obtain ⟨ck, ⟨cn1, cn2⟩, ⟨cb1, cb2⟩, ⟨ce1, ce2⟩, ⟨cp1, cp2⟩, cmu, cma, csl⟩ := C
  simp only [RT.agg] at hK1 hK2 u1 u2 ⊢
  have L1 := grow_cell
  have L2 := grow_frozen
  have L3 := grow_set
  have L4 := grow_lt
  have L5 := glt1
  have L6 := glt2
  have L7 := glt3
  have L8 := glt4
  have L9 := lt1
  have L10 := lt2
  have L11 := lt3
  have L12 := lt4
  have L13 := lt5
  go_enter Try.func28, Try.ntmps28
  go_upto_region 1 with fail
  apply cut_rule
  · intro key
    go_region_with (first | (have _ := mk1; go_at_call 24; refine (hK2.out _).mono ?_; rintro x w' ⟨rfl, l2, rfl⟩; rw [← grow_app]; generalize _ ++ l2 = lm; clear mk1) | (go_at_call 24; refine (hK1.out _).mono ?_; rintro x w' ⟨rfl, l, rfl⟩; have mk1 := True.intro))
    · revert lm
      exact key.out
    all_goals exact key.out _
  intro lm
  clear hK1 hK2
  replace hM := hM.out
  unfold mrgRT at hM
  by_cases hk : ak = bk
  · subst hk
    rw [if_pos rfl] at hM
    simp only [mrgS, RT.mk.injEq, Sp.mk.injEq] at hM
    obtain ⟨rfl, ⟨rfl, rfl⟩, ⟨rfl, rfl⟩, ⟨rfl, rfl⟩, ⟨rfl, rfl⟩, rfl, rfl, hs⟩ := hM
    replace hs := T.Hid.mk hs
    generalize Value.agg #[.int .i64 k, .int .u64 n1, .int .u64 n2, .int .u64 b1, .int .u64 b2, .int .u64 e1, .int .u64 e2, .int .u64 p1, .int .u64 p2, .int .u8 mu, .int .u8 ma, .int .i64 s] = va
    generalize Value.agg #[.int .i64 k', .int .u64 n1', .int .u64 n2', .int .u64 b1', .int .u64 b2', .int .u64 e1', .int .u64 e2', .int .u64 p1', .int .u64 p2', .int .u8 mu', .int .u8 ma', .int .i64 s'] = vb
    generalize Value.agg #[.int .i64 ak, .int .u64 an1, .int .u64 an2, .int .u64 ab1, .int .u64 ab2, .int .u64 ae1, .int .u64 ae2, .int .u64 ap1, .int .u64 ap2, .int .u8 (amu : Nat), .int .u8 (ama : Nat), .int .i64 asl] = vc
    generalize Value.agg #[.int .i64 ak, .int .u64 bn1, .int .u64 bn2, .int .u64 bb1, .int .u64 bb2, .int .u64 be1, .int .u64 be2, .int .u64 bp1, .int .u64 bp2, .int .u8 (bmu : Nat), .int .u8 (bma : Nat), .int .i64 bsl] = vd
    go_upto_region 4 with fail
    have A0 : At (grow (((w.alloc (.cells #[.int .i64 ak, .int .u64 an1, .int .u64 an2, .int .u64 ab1, .int .u64 ab2, .int .u64 ae1, .int .u64 ae2, .int .u64 ap1, .int .u64 ap2, .int .u8 (amu : Nat), .int .u8 (ama : Nat), .int .i64 asl] 28)).alloc (.cells #[.int .i64 ak, .int .u64 bn1, .int .u64 bn2, .int .u64 bb1, .int .u64 bb2, .int .u64 be1, .int .u64 be2, .int .u64 bp1, .int .u64 bp2, .int .u8 (bmu : Nat), .int .u8 (bma : Nat), .int .i64 bsl] 28)).alloc (.cells #[.int .i64 0, .int .u64 0, .int .u64 0, .int .u64 0, .int .u64 0, .int .u64 0, .int .u64 0, .int .u64 0, .int .u64 0, .int .u8 0, .int .u8 0, .int .i64 0] 28)).drew lm) w.heap.size #[.int .i64 ak, .int .u64 an1, .int .u64 an2, .int .u64 ab1, .int .u64 ab2, .int .u64 ae1, .int .u64 ae2, .int .u64 ap1, .int .u64 ap2, .int .u8 (amu : Nat), .int .u8 (ama : Nat), .int .i64 asl] := (((At.new w _ _).alloc _).alloc _).drew.gr ((Gr.refl _).grow _)
    have B0 : At (grow (((w.alloc (.cells #[.int .i64 ak, .int .u64 an1, .int .u64 an2, .int .u64 ab1, .int .u64 ab2, .int .u64 ae1, .int .u64 ae2, .int .u64 ap1, .int .u64 ap2, .int .u8 (amu : Nat), .int .u8 (ama : Nat), .int .i64 asl] 28)).alloc (.cells #[.int .i64 ak, .int .u64 bn1, .int .u64 bn2, .int .u64 bb1, .int .u64 bb2, .int .u64 be1, .int .u64 be2, .int .u64 bp1, .int .u64 bp2, .int .u8 (bmu : Nat), .int .u8 (bma : Nat), .int .i64 bsl] 28)).alloc (.cells #[.int .i64 0, .int .u64 0, .int .u64 0, .int .u64 0, .int .u64 0, .int .u64 0, .int .u64 0, .int .u64 0, .int .u64 0, .int .u8 0, .int .u8 0, .int .i64 0] 28)).drew lm) (w.heap.size + 1) #[.int .i64 ak, .int .u64 bn1, .int .u64 bn2, .int .u64 bb1, .int .u64 bb2, .int .u64 be1, .int .u64 be2, .int .u64 bp1, .int .u64 bp2, .int .u8 (bmu : Nat), .int .u8 (bma : Nat), .int .i64 bsl] := ((At.next w _ _ _).alloc _).drew.gr ((Gr.refl _).grow _)
    have KS : ∀ W, Gr (grow (((w.alloc (.cells #[.int .i64 ak, .int .u64 an1, .int .u64 an2, .int .u64 ab1, .int .u64 ab2, .int .u64 ae1, .int .u64 ae2, .int .u64 ap1, .int .u64 ap2, .int .u8 (amu : Nat), .int .u8 (ama : Nat), .int .i64 asl] 28)).alloc (.cells #[.int .i64 ak, .int .u64 bn1, .int .u64 bn2, .int .u64 bb1, .int .u64 bb2, .int .u64 be1, .int .u64 be2, .int .u64 bp1, .int .u64 bp2, .int .u8 (bmu : Nat), .int .u8 (bma : Nat), .int .i64 bsl] 28)).alloc (.cells #[.int .i64 0, .int .u64 0, .int .u64 0, .int .u64 0, .int .u64 0, .int .u64 0, .int .u64 0, .int .u64 0, .int .u64 0, .int .u8 0, .int .u8 0, .int .i64 0] 28)).drew lm) W → W.cell? ⟨w.heap.size, 0, none⟩ = some (.int .i64 ak) ∧ W.cell? ⟨w.heap.size, 1, none⟩ = some (.int .u64 an1) ∧ W.cell? ⟨w.heap.size, 2, none⟩ = some (.int .u64 an2) ∧ W.cell? ⟨w.heap.size, 3, none⟩ = some (.int .u64 ab1) ∧ W.cell? ⟨w.heap.size, 4, none⟩ = some (.int .u64 ab2) ∧ W.cell? ⟨w.heap.size, 5, none⟩ = some (.int .u64 ae1) ∧ W.cell? ⟨w.heap.size, 6, none⟩ = some (.int .u64 ae2) ∧ W.cell? ⟨w.heap.size, 7, none⟩ = some (.int .u64 ap1) ∧ W.cell? ⟨w.heap.size, 8, none⟩ = some (.int .u64 ap2) ∧ W.cell? ⟨w.heap.size, 9, none⟩ = some (.int .u8 (amu : Nat)) ∧ W.cell? ⟨w.heap.size, 10, none⟩ = some (.int .u8 (ama : Nat)) ∧ W.cell? ⟨w.heap.size, 11, none⟩ = some (.int .i64 asl) ∧ W.cell? ⟨w.heap.size + 1, 1, none⟩ = some (.int .u64 bn1) ∧ W.cell? ⟨w.heap.size + 1, 2, none⟩ = some (.int .u64 bn2) ∧ W.cell? ⟨w.heap.size + 1, 3, none⟩ = some (.int .u64 bb1) ∧ W.cell? ⟨w.heap.size + 1, 4, none⟩ = some (.int .u64 bb2) ∧ W.cell? ⟨w.heap.size + 1, 5, none⟩ = some (.int .u64 be1) ∧ W.cell? ⟨w.heap.size + 1, 6, none⟩ = some (.int .u64 be2) ∧ W.cell? ⟨w.heap.size + 1, 7, none⟩ = some (.int .u64 bp1) ∧ W.cell? ⟨w.heap.size + 1, 8, none⟩ = some (.int .u64 bp2) ∧ W.cell? ⟨w.heap.size + 1, 9, none⟩ = some (.int .u8 (bmu : Nat)) ∧ W.cell? ⟨w.heap.size + 1, 10, none⟩ = some (.int .u8 (bma : Nat)) := fun W g => by
      have a := (A0.gr g).2.1
      have b := (B0.gr g).2.1
      exact ⟨a 0, a 1, a 2, a 3, a 4, a 5, a 6, a 7, a 8, a 9, a 10, a 11, b 1, b 2, b 3, b 4, b 5, b 6, b 7, b 8, b 9, b 10⟩
    have X0 : At (grow (((w.alloc (.cells #[.int .i64 ak, .int .u64 an1, .int .u64 an2, .int .u64 ab1, .int .u64 ab2, .int .u64 ae1, .int .u64 ae2, .int .u64 ap1, .int .u64 ap2, .int .u8 (amu : Nat), .int .u8 (ama : Nat), .int .i64 asl] 28)).alloc (.cells #[.int .i64 ak, .int .u64 bn1, .int .u64 bn2, .int .u64 bb1, .int .u64 bb2, .int .u64 be1, .int .u64 be2, .int .u64 bp1, .int .u64 bp2, .int .u8 (bmu : Nat), .int .u8 (bma : Nat), .int .i64 bsl] 28)).alloc (.cells #[.int .i64 0, .int .u64 0, .int .u64 0, .int .u64 0, .int .u64 0, .int .u64 0, .int .u64 0, .int .u64 0, .int .u64 0, .int .u8 0, .int .u8 0, .int .i64 0] 28)).drew lm) (w.heap.size + 1 + 1) #[.int .i64 0, .int .u64 0, .int .u64 0, .int .u64 0, .int .u64 0, .int .u64 0, .int .u64 0, .int .u64 0, .int .u64 0, .int .u8 0, .int .u8 0, .int .i64 0] := At.gr (At.drew (At.at_ _ _ _ (by simp))) ((Gr.refl _).grow _)
    have G0 : Gr w (grow (((w.alloc (.cells #[.int .i64 ak, .int .u64 an1, .int .u64 an2, .int .u64 ab1, .int .u64 ab2, .int .u64 ae1, .int .u64 ae2, .int .u64 ap1, .int .u64 ap2, .int .u8 (amu : Nat), .int .u8 (ama : Nat), .int .i64 asl] 28)).alloc (.cells #[.int .i64 ak, .int .u64 bn1, .int .u64 bn2, .int .u64 bb1, .int .u64 bb2, .int .u64 be1, .int .u64 be2, .int .u64 bp1, .int .u64 bp2, .int .u8 (bmu : Nat), .int .u8 (bma : Nat), .int .i64 bsl] 28)).alloc (.cells #[.int .i64 0, .int .u64 0, .int .u64 0, .int .u64 0, .int .u64 0, .int .u64 0, .int .u64 0, .int .u64 0, .int .u64 0, .int .u8 0, .int .u8 0, .int .i64 0] 28)).drew lm) := ((((Gr.refl w).alloc _).alloc _).alloc _).drew.grow _
    generalize hR0 : grow (((w.alloc (.cells #[.int .i64 ak, .int .u64 an1, .int .u64 an2, .int .u64 ab1, .int .u64 ab2, .int .u64 ae1, .int .u64 ae2, .int .u64 ap1, .int .u64 ap2, .int .u8 (amu : Nat), .int .u8 (ama : Nat), .int .i64 asl] 28)).alloc (.cells #[.int .i64 ak, .int .u64 bn1, .int .u64 bn2, .int .u64 bb1, .int .u64 bb2, .int .u64 be1, .int .u64 be2, .int .u64 bp1, .int .u64 bp2, .int .u8 (bmu : Nat), .int .u8 (bma : Nat), .int .i64 bsl] 28)).alloc (.cells #[.int .i64 0, .int .u64 0, .int .u64 0, .int .u64 0, .int .u64 0, .int .u64 0, .int .u64 0, .int .u64 0, .int .u64 0, .int .u8 0, .int .u8 0, .int .i64 0] 28)).drew lm = R0 at KS A0 B0 X0 G0 ⊢
    clear L1 L2 L3 L4 L5 L6 L7 L8 L9 L10 L11 L12 L13
    replace A0 := T.Hid.mk A0
    replace B0 := T.Hid.mk B0
    replace X0 := T.Hid.mk X0
    replace G0 := T.Hid.mk G0
    replace KS := T.Hid.mk KS
    replace hR0 := T.Hid.mk hR0
    apply cut_rule
    · intro key
      go_region_held3 (fun W => W.cell? ⟨w.heap.size, 0, none⟩ = some (.int .i64 ak) ∧ W.cell? ⟨w.heap.size, 1, none⟩ = some (.int .u64 an1) ∧ W.cell? ⟨w.heap.size, 2, none⟩ = some (.int .u64 an2) ∧ W.cell? ⟨w.heap.size, 3, none⟩ = some (.int .u64 ab1) ∧ W.cell? ⟨w.heap.size, 4, none⟩ = some (.int .u64 ab2) ∧ W.cell? ⟨w.heap.size, 5, none⟩ = some (.int .u64 ae1) ∧ W.cell? ⟨w.heap.size, 6, none⟩ = some (.int .u64 ae2) ∧ W.cell? ⟨w.heap.size, 7, none⟩ = some (.int .u64 ap1) ∧ W.cell? ⟨w.heap.size, 8, none⟩ = some (.int .u64 ap2) ∧ W.cell? ⟨w.heap.size, 9, none⟩ = some (.int .u8 (amu : Nat)) ∧ W.cell? ⟨w.heap.size, 10, none⟩ = some (.int .u8 (ama : Nat)) ∧ W.cell? ⟨w.heap.size, 11, none⟩ = some (.int .i64 asl) ∧ W.cell? ⟨w.heap.size + 1, 1, none⟩ = some (.int .u64 bn1) ∧ W.cell? ⟨w.heap.size + 1, 2, none⟩ = some (.int .u64 bn2) ∧ W.cell? ⟨w.heap.size + 1, 3, none⟩ = some (.int .u64 bb1) ∧ W.cell? ⟨w.heap.size + 1, 4, none⟩ = some (.int .u64 bb2) ∧ W.cell? ⟨w.heap.size + 1, 5, none⟩ = some (.int .u64 be1) ∧ W.cell? ⟨w.heap.size + 1, 6, none⟩ = some (.int .u64 be2) ∧ W.cell? ⟨w.heap.size + 1, 7, none⟩ = some (.int .u64 bp1) ∧ W.cell? ⟨w.heap.size + 1, 8, none⟩ = some (.int .u64 bp2) ∧ W.cell? ⟨w.heap.size + 1, 9, none⟩ = some (.int .u8 (bmu : Nat)) ∧ W.cell? ⟨w.heap.size + 1, 10, none⟩ = some (.int .u8 (bma : Nat))) ((refine KS.out _ ?_; (repeat (first | with_reducible assumption | with_reducible exact Gr.refl _ | with_reducible refine Gr.drew ?_ | with_reducible refine Gr.alloc ?_ _ | with_reducible refine Gr.setCell ?_ _ _ _ (by have := y1.out.2; omega))))) ((go_at_call 29; refine (Join_any _ _ _ _ _).mono ?_; rintro x w1 ⟨rfl, q1⟩; have d1 : Gr R0 w1 := Gr.trans (by (repeat (first | with_reducible assumption | with_reducible exact Gr.refl _ | with_reducible refine Gr.drew ?_ | with_reducible refine Gr.alloc ?_ _ | with_reducible refine Gr.setCell ?_ _ _ _ (by have := y1.out.2; omega)))) q1; (first | (have y1 := T.Hid.mk (And.intro (y1.out.1.gr q1) y1.out.2); have ⟨⟨z9, p9, f9⟩, y9⟩ := y1.out) | (have y1 : T.Hid (At w1 R0.heap.size #[.int .i64 0, .int .u64 0, .int .u64 0, .int .u64 0, .int .u64 0, .int .u64 0, .int .u64 0, .int .u64 0, .int .u64 0, .int .u8 0, .int .u8 0, .int .i64 0] ∧ w.heap.size + 1 + 1 < R0.heap.size ∧ R0.heap.size ≤ R0.heap.size) := T.Hid.mk (new_gr (W := R0.drew) (by (repeat (first | with_reducible assumption | with_reducible exact Gr.refl _ | with_reducible refine Gr.drew ?_ | with_reducible refine Gr.alloc ?_ _ | with_reducible refine Gr.setCell ?_ _ _ _ (by have := y1.out.2; omega)))) X0.out q1); have ⟨⟨z9, p9, f9⟩, y9⟩ := y1.out) | (have y1 := T.Hid.mk (new_gr (by (repeat (first | with_reducible assumption | with_reducible exact Gr.refl _ | with_reducible refine Gr.drew ?_ | with_reducible refine Gr.alloc ?_ _ | with_reducible refine Gr.setCell ?_ _ _ _ (by have := y1.out.2; omega)))) X0.out q1); have ⟨⟨z9, p9, f9⟩, y9⟩ := y1.out) | skip); clear q1))
      · have a1 : At (w1.alloc (.cells #[.int .i64 ak, .int .u64 (jLo an1 an2 bn1 bn2), .int .u64 (jHi an1 an2 bn1 bn2), .int .u64 (jLo ab1 ab2 bb1 bb2), .int .u64 (jHi ab1 ab2 bb1 bb2), .int .u64 (jLo ae1 ae2 be1 be2), .int .u64 (jHi ae1 ae2 be1 be2), .int .u64 (jLo ap1 ap2 bp1 bp2), .int .u64 (jHi ap1 ap2 bp1 bp2), .int .u8 (bits .and .u8 (amu : Nat) (bmu : Nat)), .int .u8 (bits .or .u8 (ama : Nat) (bma : Nat)), .int .i64 asl] 28)) w1.heap.size #[.int .i64 ak, .int .u64 (jLo an1 an2 bn1 bn2), .int .u64 (jHi an1 an2 bn1 bn2), .int .u64 (jLo ab1 ab2 bb1 bb2), .int .u64 (jHi ab1 ab2 bb1 bb2), .int .u64 (jLo ae1 ae2 be1 be2), .int .u64 (jHi ae1 ae2 be1 be2), .int .u64 (jLo ap1 ap2 bp1 bp2), .int .u64 (jHi ap1 ap2 bp1 bp2), .int .u8 (bits .and .u8 (amu : Nat) (bmu : Nat)), .int .u8 (bits .or .u8 (ama : Nat) (bma : Nat)), .int .i64 asl] := At.new _ _ _
        have a2 : At (w1.alloc (.cells #[.int .i64 ak, .int .u64 (jLo an1 an2 bn1 bn2), .int .u64 (jHi an1 an2 bn1 bn2), .int .u64 (jLo ab1 ab2 bb1 bb2), .int .u64 (jHi ab1 ab2 bb1 bb2), .int .u64 (jLo ae1 ae2 be1 be2), .int .u64 (jHi ae1 ae2 be1 be2), .int .u64 (jLo ap1 ap2 bp1 bp2), .int .u64 (jHi ap1 ap2 bp1 bp2), .int .u8 (bits .and .u8 (amu : Nat) (bmu : Nat)), .int .u8 (bits .or .u8 (ama : Nat) (bma : Nat)), .int .i64 asl] 28)) w.heap.size #[.int .i64 ak, .int .u64 an1, .int .u64 an2, .int .u64 ab1, .int .u64 ab2, .int .u64 ae1, .int .u64 ae2, .int .u64 ap1, .int .u64 ap2, .int .u8 (amu : Nat), .int .u8 (ama : Nat), .int .i64 asl] := (A0.out.gr d1).alloc _
        have a3 : At (w1.alloc (.cells #[.int .i64 ak, .int .u64 (jLo an1 an2 bn1 bn2), .int .u64 (jHi an1 an2 bn1 bn2), .int .u64 (jLo ab1 ab2 bb1 bb2), .int .u64 (jHi ab1 ab2 bb1 bb2), .int .u64 (jLo ae1 ae2 be1 be2), .int .u64 (jHi ae1 ae2 be1 be2), .int .u64 (jLo ap1 ap2 bp1 bp2), .int .u64 (jHi ap1 ap2 bp1 bp2), .int .u8 (bits .and .u8 (amu : Nat) (bmu : Nat)), .int .u8 (bits .or .u8 (ama : Nat) (bma : Nat)), .int .i64 asl] 28)) (w.heap.size + 1) #[.int .i64 ak, .int .u64 bn1, .int .u64 bn2, .int .u64 bb1, .int .u64 bb2, .int .u64 be1, .int .u64 be2, .int .u64 bp1, .int .u64 bp2, .int .u8 (bmu : Nat), .int .u8 (bma : Nat), .int .i64 bsl] := (B0.out.gr d1).alloc _
        have a4 : At (w1.alloc (.cells #[.int .i64 ak, .int .u64 (jLo an1 an2 bn1 bn2), .int .u64 (jHi an1 an2 bn1 bn2), .int .u64 (jLo ab1 ab2 bb1 bb2), .int .u64 (jHi ab1 ab2 bb1 bb2), .int .u64 (jLo ae1 ae2 be1 be2), .int .u64 (jHi ae1 ae2 be1 be2), .int .u64 (jLo ap1 ap2 bp1 bp2), .int .u64 (jHi ap1 ap2 bp1 bp2), .int .u8 (bits .and .u8 (amu : Nat) (bmu : Nat)), .int .u8 (bits .or .u8 (ama : Nat) (bma : Nat)), .int .i64 asl] 28)) (w.heap.size + 1 + 1) #[.int .i64 0, .int .u64 0, .int .u64 0, .int .u64 0, .int .u64 0, .int .u64 0, .int .u64 0, .int .u64 0, .int .u64 0, .int .u8 0, .int .u8 0, .int .i64 0] := (X0.out.gr d1).alloc _
        have a5 : Gr w (w1.alloc (.cells #[.int .i64 ak, .int .u64 (jLo an1 an2 bn1 bn2), .int .u64 (jHi an1 an2 bn1 bn2), .int .u64 (jLo ab1 ab2 bb1 bb2), .int .u64 (jHi ab1 ab2 bb1 bb2), .int .u64 (jLo ae1 ae2 be1 be2), .int .u64 (jHi ae1 ae2 be1 be2), .int .u64 (jLo ap1 ap2 bp1 bp2), .int .u64 (jHi ap1 ap2 bp1 bp2), .int .u8 (bits .and .u8 (amu : Nat) (bmu : Nat)), .int .u8 (bits .or .u8 (ama : Nat) (bma : Nat)), .int .i64 asl] 28)) := (G0.out.trans d1).alloc _
        have a6 : w.heap.size + 1 + 1 < w1.heap.size := (X0.out.gr d1).1
        generalize w1.alloc (.cells #[.int .i64 ak, .int .u64 (jLo an1 an2 bn1 bn2), .int .u64 (jHi an1 an2 bn1 bn2), .int .u64 (jLo ab1 ab2 bb1 bb2), .int .u64 (jHi ab1 ab2 bb1 bb2), .int .u64 (jLo ae1 ae2 be1 be2), .int .u64 (jHi ae1 ae2 be1 be2), .int .u64 (jLo ap1 ap2 bp1 bp2), .int .u64 (jHi ap1 ap2 bp1 bp2), .int .u8 (bits .and .u8 (amu : Nat) (bmu : Nat)), .int .u8 (bits .or .u8 (ama : Nat) (bma : Nat)), .int .i64 asl] 28) = Wz at a1 a2 a3 a4 a5 ⊢
        generalize w1.heap.size = kz at a1 a6 ⊢
        revert a6
        revert a5
        revert a4
        revert a3
        revert a2
        revert a1
        revert Wz kz
        exact key.out
      all_goals exact key.out _ _ (st12_new y1.out.1 _ _ _ _ _ _ _ _ _ _ _ _) (st12_old (A0.out.gr d1) (by have := y1.out.2; omega) _ _ _ _ _ _ _ _ _ _ _ _) (st12_old (B0.out.gr d1) (by have := y1.out.2; omega) _ _ _ _ _ _ _ _ _ _ _ _) (st12_old (X0.out.gr d1) (by have := y1.out.2; omega) _ _ _ _ _ _ _ _ _ _ _ _) (st12_gr (G0.out.trans d1) (by have := y1.out.2; omega) _ _ _ _ _ _ _ _ _ _ _ _) y1.out.2.1
    intro Wz kz a1 a2 a3 a4 a5 a6
    clear KS
    replace hs := hs.out
    have n1 : ¬ kz = w.heap.size := by omega
    have n2 : ¬ kz = w.heap.size + 1 := by omega
    have n3 : ¬ kz = w.heap.size + 1 + 1 := by omega
    have ⟨z1, p1, f1⟩ := a1
    have ⟨z2, p2, f2⟩ := a2
    have ⟨z3, p3, f3⟩ := a3
    have ⟨z4, p4, f4⟩ := a4
    have v1 := u1.out
    have v2 := u2.out
    replace a5 := T.Hid.mk a5
    clear a1 a2 a3 a4 u1 u2 f2 f3 G0 A0 B0 X0 hR0
    by_cases hq : asl = bsl
    · subst hq
      rw [if_pos rfl] at hs
      subst hs
      go_wp2_with fail
      simp [bodyPost, results, Try.results28, go_sem, *]
      exact st12_gr a5.out (by omega) _ _ _ _ _ _ _ _ _ _ _ _
    · rw [if_neg hq] at hs
      subst hs
      go_wp2_with fail
      simp [bodyPost, results, Try.results28, go_sem, *]
      exact st12_gr (a5.out.setCell kz 11 _ (by omega)) (by omega) _ _ _ _ _ _ _ _ _ _ _ _
  · rw [if_neg hk] at hM
    simp only [RT.zero, Sp.no, RT.mk.injEq, Sp.mk.injEq] at hM
    obtain ⟨rfl, ⟨rfl, rfl⟩, ⟨rfl, rfl⟩, ⟨rfl, rfl⟩, ⟨rfl, rfl⟩, rfl, rfl, rfl⟩ := hM
    clear u1 u2
    go_wp2_with fail
    simp [bodyPost, results, Try.results28, go_sem, *]
    repeat (first | exact Gr.refl _ | refine Gr.alloc ?_ _ | refine Gr.grow ?_ _ | refine Gr.drew ?_)
end R
end Go.Proofs.Ytbbpbfbifgfjdaa
