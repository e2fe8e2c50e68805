import Derived.Deep.DeepCutAuto
import Derived.Test.YtjdefacgnhkppaaGreatZGvM
/-
  Stage 13, fastvm: inputs given piece by piece: the walk.
-/
namespace Go.Proofs.YtjdefacgnhkppaaGreat
namespace Z
open Go.RowKit
open T (Sep Ob Kp Mf FlIn boxOb)

def RInB (B : Nat) (w : World) (a : Option Addr) (L : List Int) : Prop := ∀ i (h : i < L.length), ∃ b off : Nat, a = some ⟨b, off, none⟩ ∧ b < B ∧ w.cell? ⟨b, off + i, none⟩ = some (.int .i64 L[i])
theorem RInB.below {B : Nat} {w W : World} {a : Option Addr} {L : List Int} (h : RInB B w a L) (g : Below B w W) : RInB B W a L := fun i hi => by
  obtain ⟨b, off, e1, e2, e3⟩ := h i hi
  exact ⟨b, off, e1, e2, (T.cell_of_block (g.block b e2) _).trans e3⟩
theorem slLen_lt (la la2 : Option Addr) (lc lc2 n m : Nat) (h : n < m) : slLen (.slice la n lc) < slLen (.slice la2 m lc2) := h
theorem gv_next (k : Nat) : Value.int .i64 ((k : Int) + 1) = Value.int .i64 ((k + 1 : Nat) : Int) := rfl
theorem gv_meas (N k : Nat) (h : k < N) : N - (intOf (Value.int .i64 ((k : Int) + 1))).toNat < N - (intOf (Value.int .i64 (k : Int))).toNat := by
  simp [intOf]
  omega
set_option maxRecDepth 100000 in
set_option maxHeartbeats 8000000 in
theorem walk_FastvmGive (R : Rp) (ca ga : Option Addr) (cc gc : Nat) (mem : List UInt8) (gate : Int) (A : List Int) (sa : Option Addr) (sc : Nat) (ia : Option Addr) (ic : Nat) (L : List Int) (N : List Int) (ra : Option Addr) (rc : Nat) (w : World) (hb : Bgn w R ca ga mem A sa ia ic L) (hcap : ∀ a, ia = some a → L.length ≤ ic) (hR : RIn w ra N) :
    Calls Tryz.prog 3 #[.agg #[.slice ca R.code.length cc, .slice ga R.gates.length gc, .string (T.str mem), .int .i64 R.dep], .int .i64 gate, .slice sa A.length sc, .slice ia L.length ic, .slice ra N.length rc] w fun x w' => x = .returned (.bool true) ∧ Below w.heap.size w w' := by
  replace hb := Hz.mk hb
  replace hcap := Hz.mk hcap
  replace hR := Hz.mk hR
  by_cases hok : R.Ok mem.length ∧ 0 ≤ gate
  · skip
    obtain ⟨ok, h0⟩ := hok
    have pok := Hz.mk (ok.pr hb.out.wd.code)
    have rr := Hz.mk hb.out.wd.rr
    have hs := Hz.mk (hb.out.okn ok gate)
    have he0 := Hz.mk (st0_e R gate A L mem)
    replace ok := Hz.mk ok
    obtain ⟨P, hPe⟩ : ∃ P, R.pr = P := ⟨_, rfl⟩
    obtain ⟨s0, hs0⟩ : ∃ s, st0 R gate A L mem = s := ⟨_, rfl⟩
    rw [hPe] at pok rr hs
    rw [hs0] at hs he0
    replace hPe := Hz.mk hPe
    replace hs0 := Hz.mk hs0
    go_enter Tryz.func3, Tryz.ntmps3
    go_upto_region 1 with fail
    refine wp_world (fun W => At W w.heap.size #[.slice ca R.code.length cc, .slice ga R.gates.length gc, .string (T.str mem), .int .i64 R.dep] ∧ Gr w W) ⟨At.new w _ _, (Gr.refl _).alloc _⟩ ?_
    rintro W ⟨hQ, G⟩
    have hkp := hQ.1
    replace hb := Hz.mk (hb.out.below G.below)
    go_wp2_with fail
    refine (examples_any W).mono ?_
    rintro r V1 ⟨rfl, hB⟩
    replace hQ := Hz.mk (at_below hQ hB hkp)
    replace hb := Hz.mk (hb.out.below hB)
    replace G := Hz.mk (G.below.trans (hB.mono (Nat.le_of_lt hkp)))
    replace hkp := Hz.mk (Nat.lt_of_lt_of_le hkp hB.size)
    clear hB
    have hBw := Hz.mk (show w.heap.size ≤ V1.heap.size from G.out.size)
    have Gw := G
    have hLf := Hz.mk (LfIn.of hb.out.hI hcap.out V1.heap.size (Nat.le_refl _))
    have hRr : Hz (RInB V1.heap.size V1 ra N) := Hz.mk (fun i hi => by
      obtain ⟨b, off, e1, e2, e3⟩ := hR.out.below Gw.out i hi
      exact ⟨b, off, e1, e2, e3⟩)
    clear hR hcap
    have d0 : V1.cell? ⟨w.heap.size, 0, none⟩ = some (.slice ca R.code.length cc) := hQ.out.2.1 0
    have d1 : V1.cell? ⟨w.heap.size, 1, none⟩ = some (.slice ga R.gates.length gc) := hQ.out.2.1 1
    have d2 : V1.cell? ⟨w.heap.size, 2, none⟩ = some (.string (T.str mem)) := hQ.out.2.1 2
    have d3 : V1.cell? ⟨w.heap.size, 3, none⟩ = some (.int .i64 R.dep) := hQ.out.2.1 3
    have hcl := Hz.mk (hb.out.some ok.out gate h0 cc gc sc)
    rw [hs0.out, hPe.out] at hcl
    go_wp2_with fail
    refine hcl.out.mono ?_
    rintro r V2 ⟨ax, rfl, hMx, hBV2⟩
    replace hMx := Hz.mk hMx
    replace hBV2 := Hz.mk hBV2
    clear d0 d1 d2 d3 hcl
    replace hQ := Hz.mk (at_below hQ.out hBV2.out hkp.out)
    replace hb := Hz.mk (hb.out.below hBV2.out)
    replace G := Hz.mk (G.out.trans (hBV2.out.mono (Nat.le_of_lt hkp.out)))
    replace hkp := Hz.mk (Nat.lt_of_lt_of_le hkp.out hBV2.out.size)
    have d0 : V2.cell? ⟨w.heap.size, 0, none⟩ = some (.slice ca R.code.length cc) := hQ.out.2.1 0
    have d1 : V2.cell? ⟨w.heap.size, 1, none⟩ = some (.slice ga R.gates.length gc) := hQ.out.2.1 1
    have d2 : V2.cell? ⟨w.heap.size, 2, none⟩ = some (.string (T.str mem)) := hQ.out.2.1 2
    have d3 : V2.cell? ⟨w.heap.size, 3, none⟩ = some (.int .i64 R.dep) := hQ.out.2.1 3
    have hcl := Hz.mk ((bgn_nil hb.out).some ok.out gate h0 cc gc sc)
    rw [st0_nil R gate A L mem, hs0.out, hPe.out, List.length_nil] at hcl
    go_wp2_with fail
    refine hcl.out.mono ?_
    rintro r V3 ⟨ay, rfl, hMy, hBV3⟩
    replace hMy := Hz.mk hMy
    replace hBV3 := Hz.mk hBV3
    clear d0 d1 d2 d3 hcl
    obtain ⟨qy, hM0⟩ := hMx.out.both hMy.out hBV3.out
    have hM := Hz.mk (show M2 V1.heap.size V3 P ax s0 ay (wI s0 []) [] from ⟨qy, by simpa using hM0⟩)
    have hG := Hz.mk (hBV2.out.trans (hBV3.out.mono hBV2.out.size))
    replace hLf := Hz.mk (hLf.out.below hG.out)
    have hsi : Hz (s0.inp = [] ++ L) := Hz.mk (by rw [← hs0.out, st0_inp]; rfl)
    have hst : Hz (s0.e = 0 ∧ Calm s0 ∧ s0.inp.length ≤ 2000000) := Hz.mk ⟨he0.out, by rw [← hs0.out]; exact st0_calm R gate A L mem, by rw [← hs0.out, st0_inp]; exact hb.out.l⟩
    clear hM0 hMx hMy hBV2 hBV3 hQ hb hkp ok hPe hs0 he0
    generalize V1.heap.size = B at *
    go_upto_region 10 with fail
    go_loopw [14, 15] (fun v x wr => ∃ (j : Nat) (s : Fm) (I Lf : List Int) (la : Option Addr) (lc : Nat), v = .slice la Lf.length lc ∧ x = .int .i64 j ∧ j ≤ 300 ∧ Hz (LfIn B wr la lc Lf) ∧ Hz (M2 B wr P ax s ay (wI s I) []) ∧ Hz (s.inp = I ++ Lf) ∧ Hz (s.Okn P j) ∧ Hz (s.e = 0 ∧ Calm s ∧ s.inp.length ≤ 2000000) ∧ Hz (Below B V1 wr)) (fun _ x _ => 300 - (intOf x).toNat)
    case atStart => exact ⟨0, s0, [], L, ia, ic, rfl, rfl, by decide, hLf, hM, hsi, hs, hst, hG⟩
    case round =>
      clear hM hG hLf hsi hst hs
      obtain ⟨j, s, I, Lf, la, lc, rfl, rfl, hj, hLf, hM, hsi, hok, hst, hG⟩ := hrel
      by_cases hjl : j < 300
      · have hjl1 : (j : Int) < 300 := by omega
        go_upto_if 52 with fail
        go_cut [16] (fun x wx => (∃ n : Int, x = .int .i64 n) ∧ wr = wx)
        case first =>
          by_cases hjr : j < N.length
          · have hjr1 : (j : Int) < (N.length : Int) := by omega
            have hjr2 : decide ((j : Int) < (N.length : Int)) = true := decide_eq_true hjr1
            obtain ⟨rb, ro, hra, hrb, hrc⟩ := (hRr.out.below hG.out) j hjr
            subst hra
            go_wp2_with fail
            go_meet
            exact ⟨⟨_, rfl⟩, rfl⟩
          · have hjr1 : ¬ (j : Int) < (N.length : Int) := by omega
            go_wp2_with fail
            go_meet
            exact ⟨⟨_, rfl⟩, rfl⟩
        case rest =>
          obtain ⟨⟨n, hn⟩, hwx⟩ := hcut
          subst hwx
          subst hn
          go_upto_region 15 with fail
          go_cut [64] (fun c wx => (∃ g : Bool, c = .bool g ∧ Hz (g = true → Lf ≠ [])) ∧ wr = wx)
          case first =>
            by_cases h3 : Int.tmod n 3 = 1
            · have h31 : (Int.tmod n 3 == 1) = true := by simp [h3]
              cases Lf with
              | nil =>
                go_wp2_with fail
                go_meet
                exact ⟨⟨_, rfl, Hz.mk (fun q => by simp at q)⟩, rfl⟩
              | cons x Lg =>
                have hln : (0 : Int) < ((Lg.length : Int) + 1) := by omega
                go_wp2_with fail
                go_meet
                exact ⟨⟨_, rfl, Hz.mk (fun _ => by simp)⟩, rfl⟩
            · have h31 : (Int.tmod n 3 == 1) = false := beq_false_of_ne h3
              go_wp2_with fail
              go_meet
              exact ⟨⟨false, rfl, Hz.mk (fun q => by cases q)⟩, rfl⟩
          case rest =>
            obtain ⟨⟨g, hg, hgl⟩, hwx⟩ := hcut
            subst hwx
            subst hg
            go_upto_if 64 with fail
            go_cut [14] (fun v wx => ∃ (I' Lf' : List Int) (la' : Option Addr) (lc' : Nat), v = .slice la' Lf'.length lc' ∧ Hz (LfIn B wx la' lc' Lf') ∧ Hz (M2 B wx P ax s ay (wI s I') []) ∧ Hz (s.inp = I' ++ Lf') ∧ Hz (Below B V1 wx))
            case first =>
              cases g with
              | false =>
                go_wp2_with fail
                go_meet
                exact ⟨I, Lf, _, _, rfl, hLf, hM, hsi, hG⟩
              | true =>
                cases Lf with
                | nil => exact absurd rfl (hgl.out rfl)
                | cons x Lg =>
                  clear hgl
                  obtain ⟨b, off, hla, hbB, hbw, hlc, hcs⟩ := hLf.out.cons
                  subst hla
                  have hx0 : wr.cell? ⟨b, off, none⟩ = some (.int .u64 x) := hcs 0 (by simp)
                  have hle1 : (1 : Int) ≤ ((Lg.length : Int) + 1) := by omega
                  obtain ⟨hM1, hB1⟩ := hM.out.new #[.int .u64 x] 32
                  have hA1 := hM1.there (boxOb wr.heap.size #[.int .u64 x]) (by simp)
                  have hgv : Hz (Calls Tryz.prog 6 #[.pointer (some ⟨ay, 0, none⟩), .slice (some ⟨wr.heap.size, 0, none⟩) 1 1] (wr.alloc (.cells #[.int .u64 x] 32)) fun z w' => z = .returned (.tuple #[]) ∧ M2 B w' P ay (giveM (wI s I) [x]) ax s [boxOb wr.heap.size #[.int .u64 x]] ∧ Below B (wr.alloc (.cells #[.int .u64 x] 32)) w') := Hz.mk (hM1.turn.call (fun l' h => give_some B _ ay P (wI s I) l' [x] wr.heap.size 0 1 h (fun k hk => by
                    obtain rfl : k = 0 := by have : k < 1 := hk; omega
                    exact ⟨hA1.1, hA1.2.1 0⟩) (by
                    have q1 := hst.out.2.2
                    have q2 := congrArg List.length hsi.out
                    rw [List.length_append, List.length_cons] at q2
                    show I.length + 1 ≤ 3000000
                    omega)))
                  rw [give_run (wI s I) [x] hst.out.1] at hgv
                  replace hB1 := Hz.mk hB1
                  clear hM1 hA1
                  replace hcs := Hz.mk hcs
                  go_wp2_with fail
                  refine hgv.out.mono ?_
                  rintro r V4 ⟨rfl, hM2, hB2⟩
                  replace hM2 := Hz.mk hM2
                  replace hB2 := Hz.mk (hB1.out.trans hB2)
                  clear hgv hx0
                  have hLg : Hz (∀ la' lc', (la' = some ⟨b, off + 1, none⟩ ∧ lc' = lc - 1 ∨ (lc = 1 ∧ la' = some ⟨b, off, none⟩ ∧ lc' = 0)) → LfIn B V4 la' lc' Lg) := Hz.mk (fun la' lc' q => by
                    have h1 : LfIn B wr (some ⟨b, off + 1, none⟩) (lc - 1) ((x :: Lg).drop 1) := LfIn.drop hbB hbw hcs.out (by simpa using hlc)
                    rcases q with ⟨rfl, rfl⟩ | ⟨q1, rfl, rfl⟩
                    · exact h1.below hB2.out
                    · have : Lg = [] := List.eq_nil_of_length_eq_zero (by omega)
                      subst this
                      exact (LfIn.empty hbB hbw).below hB2.out)
                  have hrest : Hz (M2 B V4 P ax s ay (wI s (I ++ [x])) [] ∧ s.inp = (I ++ [x]) ++ Lg ∧ Below B V1 V4) := Hz.mk ⟨hM2.out.turn.dropG, by rw [hsi.out]; simp, hG.out.trans hB2.out⟩
                  by_cases hc1 : lc = 1
                  · subst hc1
                    obtain rfl : Lg = [] := List.eq_nil_of_length_eq_zero (by omega)
                    go_wp2_with fail
                    go_meet
                    exact ⟨I ++ [x], [], _, _, rfl, Hz.mk (hLg.out _ _ (.inr ⟨by trivial, rfl, rfl⟩)), Hz.mk hrest.out.1, Hz.mk hrest.out.2.1, Hz.mk hrest.out.2.2⟩
                  · have hc2 : ¬ lc - 1 = 0 := by omega
                    have hc3 : (1 : Int) ≤ (lc : Int) := by omega
                    go_wp2_with fail
                    go_meet
                    exact ⟨I ++ [x], Lg, _, _, rfl, Hz.mk (hLg.out _ _ (.inl ⟨rfl, rfl⟩)), Hz.mk hrest.out.1, Hz.mk hrest.out.2.1, Hz.mk hrest.out.2.2⟩
            case rest =>
              clear hLf hM hsi hG hgl
              obtain ⟨I', Lf', la', lc', hv, hLf, hM, hsi, hG⟩ := hcut
              subst hv
              obtain ⟨s1, hs1⟩ : ∃ z, stepsM P s 1 = z := ⟨_, rfl⟩
              obtain ⟨t, ht⟩ : ∃ z, stepsM P (wI s I') 1 = z := ⟨_, rfl⟩
              have hwst : Hz (Wst P s s1 Lf' t) := Hz.mk (by rw [← hs1, ← ht]; exact wst_of hst.out.1 hsi.out)
              have hok1 : Hz (s1.Okn P (j + 1)) := Hz.mk (by rw [← hs1]; exact okn_stepsM P pok.out rr.out s j hok.out 1)
              have hokt : Hz (t.Okn P (j + 1)) := Hz.mk (by rw [← ht]; exact okn_stepsM P pok.out rr.out (wI s I') j (okn_wI hok.out hsi.out) 1)
              have hcm : Hz (s1.e = 0 → Calm s1) := Hz.mk (by rw [← hs1]; exact calm_step P s hst.out.1 hst.out.2.1)
              have hil : Hz (s1.inp.length ≤ 2000000) := Hz.mk (by rw [← hs1]; exact Nat.le_trans (inp_step P s) hst.out.2.2)
              replace hs1 := Hz.mk hs1
              replace ht := Hz.mk ht
              go_wp2_with fail
              refine (hM.out.call (fun l' h => step_oc P pok.out rr.out s j hok.out (by omega) s1 hs1.out B wc ax l' h)).mono ?_
              rintro r V5 ⟨rfl, hM1, hBn⟩
              replace hG := Hz.mk (hG.out.trans hBn)
              replace hLf := Hz.mk (hLf.out.below hBn)
              replace hM := Hz.mk hM1
              clear hBn hM1
              go_upto_region 19 with fail
              refine wp_world (fun V => ∃ k, k = V5.heap.size ∧ M2 B V P ax s1 ay (wI s I') (boxOb k (List.toArray [Value.int .i64 s1.e, .int .u64 s1.v, .int .i64 s1.f, .int .i64 s1.g, .int .i64 s1.p]) :: []) ∧ Below B V5 V) ⟨_, rfl, hM.out.new _ _⟩ ?_
              rintro V6 ⟨ko, hkk, hM1, hBn⟩
              rw [← hkk]
              clear hkk
              replace hG := Hz.mk (hG.out.trans hBn)
              replace hLf := Hz.mk (hLf.out.below hBn)
              replace hM := Hz.mk hM1
              clear hBn hM1
              go_wp2_with fail
              refine (hM.out.turn.call (fun l' h => step_oc P pok.out rr.out (wI s I') j (okn_wI hok.out hsi.out) (by omega) t ht.out B V6 ay l' h)).mono ?_
              rintro r V7 ⟨rfl, hM1, hBn⟩
              replace hM1 := hM1.turn
              replace hG := Hz.mk (hG.out.trans hBn)
              replace hLf := Hz.mk (hLf.out.below hBn)
              replace hM := Hz.mk hM1
              clear hBn hM1
              go_upto_region 20 with fail
              refine wp_world (fun V => ∃ k, k = V7.heap.size ∧ M2 B V P ax s1 ay t (boxOb k (List.toArray [Value.int .i64 t.e, .int .u64 t.v, .int .i64 t.f, .int .i64 t.g, .int .i64 t.p]) :: [boxOb ko (List.toArray [Value.int .i64 s1.e, .int .u64 s1.v, .int .i64 s1.f, .int .i64 s1.g, .int .i64 s1.p])]) ∧ Below B V7 V) ⟨_, rfl, hM.out.new _ _⟩ ?_
              rintro V8 ⟨kw, hkk, hM1, hBn⟩
              rw [← hkk]
              clear hkk
              replace hG := Hz.mk (hG.out.trans hBn)
              replace hLf := Hz.mk (hLf.out.below hBn)
              replace hM := Hz.mk hM1
              clear hBn hM1
              clear hs1 ht hsi
              go_loopw [14] (fun v wr => ∃ (Lf2 : List Int) (la2 : Option Addr) (lc2 : Nat) (t : Fm), v = .slice la2 Lf2.length lc2 ∧ Hz (LfIn B wr la2 lc2 Lf2) ∧ Hz (M2 B wr P ax s1 ay t [boxOb kw (List.toArray [Value.int .i64 t.e, .int .u64 t.v, .int .i64 t.f, .int .i64 t.g, .int .i64 t.p]), boxOb ko (List.toArray [Value.int .i64 s1.e, .int .u64 s1.v, .int .i64 s1.f, .int .i64 s1.g, .int .i64 s1.p])]) ∧ Hz (Wst P s s1 Lf2 t) ∧ Hz (t.Okn P (j + 1)) ∧ Hz (Below B V1 wr)) (fun v _ => slLen v)
              case atStart => exact ⟨Lf', la', lc', t, rfl, hLf, hM, hwst, hokt, hG⟩
              case round =>
                clear hLf hM hwst hokt hG
                obtain ⟨Lf2, la2, lc2, t, rfl, hLf, hM, hwst, hokt, hG⟩ := hrel
                rcases hwst.out with ⟨I1, ht, hsi1, h6⟩ | ⟨hne, hs2, ht, hnx⟩
                · clear hwst hokt
                  subst ht
                  replace hM := Hz.mk (show M2 B wr P ax s1 ay (wI s1 I1) [boxOb kw (List.toArray [Value.int .i64 s1.e, .int .u64 s1.v, .int .i64 s1.f, .int .i64 s1.g, .int .i64 s1.p]), boxOb ko (List.toArray [Value.int .i64 s1.e, .int .u64 s1.v, .int .i64 s1.f, .int .i64 s1.g, .int .i64 s1.p])] from hM.out)
                  have A1 := hM.out.there (boxOb kw (List.toArray [Value.int .i64 s1.e, .int .u64 s1.v, .int .i64 s1.f, .int .i64 s1.g, .int .i64 s1.p])) (by simp)
                  have y0 : wr.cell? ⟨kw, 0, none⟩ = some (.int .i64 s1.e) := A1.2.1 0
                  clear A1
                  by_cases e6 : s1.e = 6
                  · have e61 : (s1.e == 6) = true := by simp [e6]
                    obtain rfl : Lf2 = [] := h6 e6
                    clear h6
                    replace hsi1 := Hz.mk hsi1
                    have A1 := hM.out.there (boxOb kw (List.toArray [Value.int .i64 s1.e, .int .u64 s1.v, .int .i64 s1.f, .int .i64 s1.g, .int .i64 s1.p])) (by simp)
                    have A3 := hM.out.there (boxOb ko (List.toArray [Value.int .i64 s1.e, .int .u64 s1.v, .int .i64 s1.f, .int .i64 s1.g, .int .i64 s1.p])) (by simp)
                    have y0 : wr.cell? ⟨kw, 0, none⟩ = some (.int .i64 s1.e) := A1.2.1 0
                    have y1 : wr.cell? ⟨kw, 1, none⟩ = some (.int .u64 s1.v) := A1.2.1 1
                    have y2 : wr.cell? ⟨kw, 2, none⟩ = some (.int .i64 s1.f) := A1.2.1 2
                    have y3 : wr.cell? ⟨kw, 3, none⟩ = some (.int .i64 s1.g) := A1.2.1 3
                    have y4 : wr.cell? ⟨kw, 4, none⟩ = some (.int .i64 s1.p) := A1.2.1 4
                    have z0 : wr.cell? ⟨ko, 0, none⟩ = some (.int .i64 s1.e) := A3.2.1 0
                    have z1 : wr.cell? ⟨ko, 1, none⟩ = some (.int .u64 s1.v) := A3.2.1 1
                    have z2 : wr.cell? ⟨ko, 2, none⟩ = some (.int .i64 s1.f) := A3.2.1 2
                    have z3 : wr.cell? ⟨ko, 3, none⟩ = some (.int .i64 s1.g) := A3.2.1 3
                    have z4 : wr.cell? ⟨ko, 4, none⟩ = some (.int .i64 s1.p) := A3.2.1 4
                    clear A1 A3
                    have hq2 := oc_ne5 s1.e s1.v s1.f s1.g s1.p
                    go_upto_region 31 with fail
                    obtain ⟨lx, hX⟩ := hM.out.one
                    go_wp2_with fail
                    refine (snap_any B wr ax P s1 lx hX).mono ?_
                    rintro r X1 ⟨rfl, hBn⟩
                    replace hBn := hBn.below
                    replace hG := Hz.mk (hG.out.trans (hBn.mono hM.out.le))
                    replace hLf := Hz.mk (hLf.out.below (hBn.mono hM.out.le))
                    replace hM := Hz.mk (hM.out.gr hBn)
                    clear hBn
                    clear hX
                    clear y0 y1 y2 y3 y4 z0 z1 z2 z3 z4
                    obtain ⟨ly, hY⟩ := hM.out.turn.one
                    go_wp2_with fail
                    refine (snap_w B X1 ay P s1 I1 ly hY).mono ?_
                    rintro r X2 ⟨rfl, hBn⟩
                    replace hBn := hBn.below
                    replace hG := Hz.mk (hG.out.trans (hBn.mono hM.out.le))
                    replace hLf := Hz.mk (hLf.out.below (hBn.mono hM.out.le))
                    replace hM := Hz.mk (hM.out.gr hBn)
                    clear hBn
                    clear hY
                    have hne := sn_neq s1.g s1.p s1.st.length s1.r
                    generalize (snV s1.g s1.p s1.st.length s1.r).toArray = sv at *
                    have A3 := hM.out.there (boxOb ko (List.toArray [Value.int .i64 s1.e, .int .u64 s1.v, .int .i64 s1.f, .int .i64 s1.g, .int .i64 s1.p])) (by simp)
                    have z0 : X2.cell? ⟨ko, 0, none⟩ = some (.int .i64 s1.e) := A3.2.1 0
                    clear A3
                    have hz1 : (s1.e != 0) = true := by rw [e6]; rfl
                    clear e6
                    go_upto_region 34 with fail
                    clear hne hq2 z0
                    have hol : Hz (s1.out.length ≤ 1000000) := Hz.mk (Nat.le_trans hok1.out.ol (by omega))
                    have htl : Hz (s1.tc.length ≤ 1000000) := Hz.mk (Nat.le_trans hok1.out.tl (by omega))
                    clear hok1 hLf hRr hok hst
                    obtain ⟨lx, hX⟩ := hM.out.one
                    go_wp2_with fail
                    refine (outs_any B X2 ax P s1 lx hX hol.out).mono ?_
                    rintro r V9 ⟨va1, c1, rfl, hW1, hBn⟩
                    replace hW1 := Hz.mk hW1
                    replace hG := Hz.mk (hG.out.trans (hBn.mono hM.out.le))
                    replace hM := Hz.mk (hM.out.gr hBn)
                    clear hBn
                    clear hX
                    obtain ⟨ly, hY⟩ := hM.out.turn.one
                    go_wp2_with fail
                    refine (outs_w B V9 ay P s1 I1 ly hY hol.out).mono ?_
                    rintro r V10 ⟨va2, c2, rfl, hW2, hBn⟩
                    replace hW2 := Hz.mk hW2
                    replace hW1 := Hz.mk (hW1.out.below hBn)
                    replace hG := Hz.mk (hG.out.trans (hBn.mono hM.out.le))
                    replace hM := Hz.mk (hM.out.gr hBn)
                    clear hBn
                    clear hY
                    go_wp2_with fail
                    refine (sameW_self s1.out va1 va2 c1 c2 V10 hW1.out hW2.out hol.out).mono ?_
                    rintro r V11 ⟨rfl, hBn⟩
                    replace hBn := hBn.below
                    replace hG := Hz.mk (hG.out.trans (hBn.mono hM.out.le))
                    replace hM := Hz.mk (hM.out.gr hBn)
                    clear hBn hW1 hW2
                    obtain ⟨lx, hX⟩ := hM.out.one
                    go_wp2_with fail
                    refine (tcs_any B V11 ax P s1 lx hX htl.out).mono ?_
                    rintro r V12 ⟨va1, c1, rfl, hW1, hBn⟩
                    replace hW1 := Hz.mk hW1
                    replace hG := Hz.mk (hG.out.trans (hBn.mono hM.out.le))
                    replace hM := Hz.mk (hM.out.gr hBn)
                    clear hBn
                    clear hX
                    obtain ⟨ly, hY⟩ := hM.out.turn.one
                    go_wp2_with fail
                    refine (tcs_w B V12 ay P s1 I1 ly hY htl.out).mono ?_
                    rintro r V13 ⟨va2, c2, rfl, hW2, hBn⟩
                    replace hW2 := Hz.mk hW2
                    replace hW1 := Hz.mk (hW1.out.below hBn)
                    replace hG := Hz.mk (hG.out.trans (hBn.mono hM.out.le))
                    replace hM := Hz.mk (hM.out.gr hBn)
                    clear hBn
                    clear hY
                    go_wp2_with fail
                    refine (sameT_self s1.tc va1 va2 c1 c2 V13 hW1.out hW2.out htl.out).mono ?_
                    rintro r V14 ⟨rfl, hBn⟩
                    replace hBn := hBn.below
                    replace hG := Hz.mk (hG.out.trans (hBn.mono hM.out.le))
                    replace hM := Hz.mk (hM.out.gr hBn)
                    clear hBn hW1 hW2
                    obtain ⟨lx, hX⟩ := hM.out.one
                    go_wp2_with fail
                    refine (memory_any B V14 ax P s1 lx hX).mono ?_
                    rintro r V15 ⟨rfl, hBn⟩
                    replace hG := Hz.mk (hG.out.trans (hBn.mono hM.out.le))
                    replace hM := Hz.mk (hM.out.gr hBn)
                    clear hBn
                    clear hX
                    obtain ⟨ly, hY⟩ := hM.out.turn.one
                    go_wp2_with fail
                    refine (memory_w B V15 ay P s1 I1 ly hY).mono ?_
                    rintro r V16 ⟨rfl, hBn⟩
                    replace hG := Hz.mk (hG.out.trans (hBn.mono hM.out.le))
                    replace hM := Hz.mk (hM.out.gr hBn)
                    clear hBn
                    clear hY
                    generalize (ByteArray.mk (T.rowB s1.m 0 65536).toArray) = mv at *
                    go_wp2_with fail
                    go_ret
                    exact ⟨rfl, Gw.out.trans (hG.out.mono hBw.out)⟩
                  · have e61 : (s1.e == 6) = false := beq_false_of_ne e6
                    clear h6 e6
                    have A1 := hM.out.there (boxOb kw (List.toArray [Value.int .i64 s1.e, .int .u64 s1.v, .int .i64 s1.f, .int .i64 s1.g, .int .i64 s1.p])) (by simp)
                    have A3 := hM.out.there (boxOb ko (List.toArray [Value.int .i64 s1.e, .int .u64 s1.v, .int .i64 s1.f, .int .i64 s1.g, .int .i64 s1.p])) (by simp)
                    have y0 : wr.cell? ⟨kw, 0, none⟩ = some (.int .i64 s1.e) := A1.2.1 0
                    have y1 : wr.cell? ⟨kw, 1, none⟩ = some (.int .u64 s1.v) := A1.2.1 1
                    have y2 : wr.cell? ⟨kw, 2, none⟩ = some (.int .i64 s1.f) := A1.2.1 2
                    have y3 : wr.cell? ⟨kw, 3, none⟩ = some (.int .i64 s1.g) := A1.2.1 3
                    have y4 : wr.cell? ⟨kw, 4, none⟩ = some (.int .i64 s1.p) := A1.2.1 4
                    have z0 : wr.cell? ⟨ko, 0, none⟩ = some (.int .i64 s1.e) := A3.2.1 0
                    have z1 : wr.cell? ⟨ko, 1, none⟩ = some (.int .u64 s1.v) := A3.2.1 1
                    have z2 : wr.cell? ⟨ko, 2, none⟩ = some (.int .i64 s1.f) := A3.2.1 2
                    have z3 : wr.cell? ⟨ko, 3, none⟩ = some (.int .i64 s1.g) := A3.2.1 3
                    have z4 : wr.cell? ⟨ko, 4, none⟩ = some (.int .i64 s1.p) := A3.2.1 4
                    clear A1 A3
                    have hq2 := oc_ne5 s1.e s1.v s1.f s1.g s1.p
                    go_upto_region 31 with fail
                    obtain ⟨lx, hX⟩ := hM.out.one
                    go_wp2_with fail
                    refine (snap_any B wr ax P s1 lx hX).mono ?_
                    rintro r X1 ⟨rfl, hBn⟩
                    replace hBn := hBn.below
                    replace hG := Hz.mk (hG.out.trans (hBn.mono hM.out.le))
                    replace hLf := Hz.mk (hLf.out.below (hBn.mono hM.out.le))
                    replace hM := Hz.mk (hM.out.gr hBn)
                    clear hBn
                    clear hX
                    clear y0 y1 y2 y3 y4 z0 z1 z2 z3 z4
                    obtain ⟨ly, hY⟩ := hM.out.turn.one
                    go_wp2_with fail
                    refine (snap_w B X1 ay P s1 I1 ly hY).mono ?_
                    rintro r X2 ⟨rfl, hBn⟩
                    replace hBn := hBn.below
                    replace hG := Hz.mk (hG.out.trans (hBn.mono hM.out.le))
                    replace hLf := Hz.mk (hLf.out.below (hBn.mono hM.out.le))
                    replace hM := Hz.mk (hM.out.gr hBn)
                    clear hBn
                    clear hY
                    have hne := sn_neq s1.g s1.p s1.st.length s1.r
                    generalize (snV s1.g s1.p s1.st.length s1.r).toArray = sv at *
                    have A3 := hM.out.there (boxOb ko (List.toArray [Value.int .i64 s1.e, .int .u64 s1.v, .int .i64 s1.f, .int .i64 s1.g, .int .i64 s1.p])) (by simp)
                    have z0 : X2.cell? ⟨ko, 0, none⟩ = some (.int .i64 s1.e) := A3.2.1 0
                    clear A3
                    by_cases hz : s1.e = 0
                    · have hz1 : (s1.e != 0) = false := by simp [hz]
                      have hst1 : Hz (s1.e = 0 ∧ Calm s1 ∧ s1.inp.length ≤ 2000000) := Hz.mk ⟨hz, hcm.out hz, hil.out⟩
                      clear hz
                      replace hM := Hz.mk (hM.out.dropG.dropG)
                      replace hsi1 := Hz.mk hsi1
                      go_wp2_with fail
                      refine And.intro ⟨j + 1, s1, I1, Lf2, la2, lc2, rfl, gv_next j, hjl, hLf, hM, hsi1, hok1, hst1, hG⟩ ?_
                      exact gv_meas _ j hjl
                    · have hz1 : (s1.e != 0) = true := by simpa using hz
                      clear hz
                      go_upto_region 34 with fail
                      clear hne hq2 z0
                      have hol : Hz (s1.out.length ≤ 1000000) := Hz.mk (Nat.le_trans hok1.out.ol (by omega))
                      have htl : Hz (s1.tc.length ≤ 1000000) := Hz.mk (Nat.le_trans hok1.out.tl (by omega))
                      clear hok1 hLf hRr hok hst
                      obtain ⟨lx, hX⟩ := hM.out.one
                      go_wp2_with fail
                      refine (outs_any B X2 ax P s1 lx hX hol.out).mono ?_
                      rintro r V9 ⟨va1, c1, rfl, hW1, hBn⟩
                      replace hW1 := Hz.mk hW1
                      replace hG := Hz.mk (hG.out.trans (hBn.mono hM.out.le))
                      replace hM := Hz.mk (hM.out.gr hBn)
                      clear hBn
                      clear hX
                      obtain ⟨ly, hY⟩ := hM.out.turn.one
                      go_wp2_with fail
                      refine (outs_w B V9 ay P s1 I1 ly hY hol.out).mono ?_
                      rintro r V10 ⟨va2, c2, rfl, hW2, hBn⟩
                      replace hW2 := Hz.mk hW2
                      replace hW1 := Hz.mk (hW1.out.below hBn)
                      replace hG := Hz.mk (hG.out.trans (hBn.mono hM.out.le))
                      replace hM := Hz.mk (hM.out.gr hBn)
                      clear hBn
                      clear hY
                      go_wp2_with fail
                      refine (sameW_self s1.out va1 va2 c1 c2 V10 hW1.out hW2.out hol.out).mono ?_
                      rintro r V11 ⟨rfl, hBn⟩
                      replace hBn := hBn.below
                      replace hG := Hz.mk (hG.out.trans (hBn.mono hM.out.le))
                      replace hM := Hz.mk (hM.out.gr hBn)
                      clear hBn hW1 hW2
                      obtain ⟨lx, hX⟩ := hM.out.one
                      go_wp2_with fail
                      refine (tcs_any B V11 ax P s1 lx hX htl.out).mono ?_
                      rintro r V12 ⟨va1, c1, rfl, hW1, hBn⟩
                      replace hW1 := Hz.mk hW1
                      replace hG := Hz.mk (hG.out.trans (hBn.mono hM.out.le))
                      replace hM := Hz.mk (hM.out.gr hBn)
                      clear hBn
                      clear hX
                      obtain ⟨ly, hY⟩ := hM.out.turn.one
                      go_wp2_with fail
                      refine (tcs_w B V12 ay P s1 I1 ly hY htl.out).mono ?_
                      rintro r V13 ⟨va2, c2, rfl, hW2, hBn⟩
                      replace hW2 := Hz.mk hW2
                      replace hW1 := Hz.mk (hW1.out.below hBn)
                      replace hG := Hz.mk (hG.out.trans (hBn.mono hM.out.le))
                      replace hM := Hz.mk (hM.out.gr hBn)
                      clear hBn
                      clear hY
                      go_wp2_with fail
                      refine (sameT_self s1.tc va1 va2 c1 c2 V13 hW1.out hW2.out htl.out).mono ?_
                      rintro r V14 ⟨rfl, hBn⟩
                      replace hBn := hBn.below
                      replace hG := Hz.mk (hG.out.trans (hBn.mono hM.out.le))
                      replace hM := Hz.mk (hM.out.gr hBn)
                      clear hBn hW1 hW2
                      obtain ⟨lx, hX⟩ := hM.out.one
                      go_wp2_with fail
                      refine (memory_any B V14 ax P s1 lx hX).mono ?_
                      rintro r V15 ⟨rfl, hBn⟩
                      replace hG := Hz.mk (hG.out.trans (hBn.mono hM.out.le))
                      replace hM := Hz.mk (hM.out.gr hBn)
                      clear hBn
                      clear hX
                      obtain ⟨ly, hY⟩ := hM.out.turn.one
                      go_wp2_with fail
                      refine (memory_w B V15 ay P s1 I1 ly hY).mono ?_
                      rintro r V16 ⟨rfl, hBn⟩
                      replace hG := Hz.mk (hG.out.trans (hBn.mono hM.out.le))
                      replace hM := Hz.mk (hM.out.gr hBn)
                      clear hBn
                      clear hY
                      generalize (ByteArray.mk (T.rowB s1.m 0 65536).toArray) = mv at *
                      go_wp2_with fail
                      go_ret
                      exact ⟨rfl, Gw.out.trans (hG.out.mono hBw.out)⟩
                · clear hwst
                  have hs2 := Hz.mk hs2
                  replace ht := Hz.mk ht
                  replace hnx := Hz.mk hnx
                  have h6e : t.e = 6 := by rw [ht.out]; rfl
                  have h61 : (t.e == 6) = true := by simp [h6e]
                  replace h6e := Hz.mk h6e
                  cases Lf2 with
                  | nil => exact absurd rfl hne
                  | cons x Lg =>
                    clear hne
                    have hln : (0 : Int) < ((Lg.length : Int) + 1) := by omega
                    have A1 := hM.out.there (boxOb kw (List.toArray [Value.int .i64 t.e, .int .u64 t.v, .int .i64 t.f, .int .i64 t.g, .int .i64 t.p])) (by simp)
                    have y0 : wr.cell? ⟨kw, 0, none⟩ = some (.int .i64 t.e) := A1.2.1 0
                    clear A1
                    have hgv : Hz (Calls Tryz.prog 6 #[.pointer (some ⟨ay, 0, none⟩), .slice none 0 0] wr fun z w' => z = .returned (.tuple #[]) ∧ M2 B w' P ay t ax s1 [boxOb kw (List.toArray [Value.int .i64 t.e, .int .u64 t.v, .int .i64 t.f, .int .i64 t.g, .int .i64 t.p]), boxOb ko (List.toArray [Value.int .i64 s1.e, .int .u64 s1.v, .int .i64 s1.f, .int .i64 s1.g, .int .i64 s1.p])] ∧ Below B wr w') := Hz.mk (hM.out.turn.call (fun l' h => by
                      have q := give_nil B wr ay P t l' h
                      rw [show giveM t [] = t by rw [ht.out]; rfl] at q
                      exact q))
                    go_wp2_with fail
                    refine hgv.out.mono ?_
                    rintro r X1 ⟨rfl, hM1, hBn⟩
                    clear hgv y0
                    replace hM := Hz.mk hM1.turn
                    replace hG := Hz.mk (hG.out.trans hBn)
                    replace hLf := Hz.mk (hLf.out.below hBn)
                    clear hM1 hBn
                    go_wp2_with fail
                    refine (hM.out.turn.call (fun l' h => step_oc P pok.out rr.out t (j + 1) hokt.out (by omega) t (stepsM_end P t 1 (by rw [h6e.out]; decide)) B X1 ay l' h)).mono ?_
                    rintro r X2 ⟨rfl, hM1, hBn⟩
                    replace hM1 := hM1.turn
                    replace hG := Hz.mk (hG.out.trans hBn)
                    replace hLf := Hz.mk (hLf.out.below hBn)
                    replace hM := Hz.mk hM1
                    clear hBn hM1
                    go_upto_region 23 with fail
                    refine wp_world (fun V => ∃ k, k = X2.heap.size ∧ M2 B V P ax s1 ay t (boxOb k (List.toArray [Value.int .i64 t.e, .int .u64 t.v, .int .i64 t.f, .int .i64 t.g, .int .i64 t.p]) :: [boxOb kw (List.toArray [Value.int .i64 t.e, .int .u64 t.v, .int .i64 t.f, .int .i64 t.g, .int .i64 t.p]), boxOb ko (List.toArray [Value.int .i64 s1.e, .int .u64 s1.v, .int .i64 s1.f, .int .i64 s1.g, .int .i64 s1.p])]) ∧ Below B X2 V) ⟨_, rfl, hM.out.new _ _⟩ ?_
                    rintro X3 ⟨k3, hkk, hM1, hBn⟩
                    rw [← hkk]
                    clear hkk
                    replace hG := Hz.mk (hG.out.trans hBn)
                    replace hLf := Hz.mk (hLf.out.below hBn)
                    replace hM := Hz.mk hM1
                    clear hBn hM1
                    have A1 := hM.out.there (boxOb k3 (List.toArray [Value.int .i64 t.e, .int .u64 t.v, .int .i64 t.f, .int .i64 t.g, .int .i64 t.p])) (by simp)
                    have A3 := hM.out.there (boxOb kw (List.toArray [Value.int .i64 t.e, .int .u64 t.v, .int .i64 t.f, .int .i64 t.g, .int .i64 t.p])) (by simp)
                    have y0 : X3.cell? ⟨k3, 0, none⟩ = some (.int .i64 t.e) := A1.2.1 0
                    have y1 : X3.cell? ⟨k3, 1, none⟩ = some (.int .u64 t.v) := A1.2.1 1
                    have y2 : X3.cell? ⟨k3, 2, none⟩ = some (.int .i64 t.f) := A1.2.1 2
                    have y3 : X3.cell? ⟨k3, 3, none⟩ = some (.int .i64 t.g) := A1.2.1 3
                    have y4 : X3.cell? ⟨k3, 4, none⟩ = some (.int .i64 t.p) := A1.2.1 4
                    have z0 : X3.cell? ⟨kw, 0, none⟩ = some (.int .i64 t.e) := A3.2.1 0
                    have z1 : X3.cell? ⟨kw, 1, none⟩ = some (.int .u64 t.v) := A3.2.1 1
                    have z2 : X3.cell? ⟨kw, 2, none⟩ = some (.int .i64 t.f) := A3.2.1 2
                    have z3 : X3.cell? ⟨kw, 3, none⟩ = some (.int .i64 t.g) := A3.2.1 3
                    have z4 : X3.cell? ⟨kw, 4, none⟩ = some (.int .i64 t.p) := A3.2.1 4
                    clear A1 A3
                    have hq2 := oc_ne5 t.e t.v t.f t.g t.p
                    go_upto_region 26 with fail
                    clear y0 y1 y2 y3 y4 z0 z1 z2 z3 z4 hq2
                    replace hM := Hz.mk hM.out.dropG
                    obtain ⟨b, off, hla, hbB, hbw, hlc, hcs⟩ := hLf.out.cons
                    subst hla
                    replace hcs := Hz.mk hcs
                    replace hlc := Hz.mk hlc
                    generalize X3 = X4 at *
                    by_cases h2 : Int.tmod n 2 = 0
                    · have h21 : (Int.tmod n 2 == 0) = true := by simp [h2]
                      by_cases hq : Lg.length = 0
                      · have hl2 : ¬ (1 : Int) < ((Lg.length : Int) + 1) := by omega
                        clear hq
                        obtain ⟨AA, hAA⟩ : ∃ z, [x] = z := ⟨_, rfl⟩
                        obtain ⟨L2, hL2⟩ : ∃ z, Lg = z := ⟨_, rfl⟩
                        have hsA : Hz (s.inp = AA ++ L2) := Hz.mk (by rw [hs2.out, ← hAA, ← hL2]; rfl)
                        have hAn : Hz (AA ≠ []) := Hz.mk (by rw [← hAA]; simp)
                        obtain ⟨I3, hi1, hi2, hi4⟩ := hnx.out AA L2 hAn.out (by rw [← hAA, ← hL2]; rfl)
                        have hI3 := Hz.mk hi1
                        have hi3 := Hz.mk hi2
                        have h63 := Hz.mk hi4
                        clear hi1 hi2 hi4
                        replace hAA := Hz.mk hAA
                        replace hL2 := Hz.mk hL2
                        have hgv : Hz (Calls Tryz.prog 6 #[.pointer (some ⟨ay, 0, none⟩), .slice (some ⟨b, off, none⟩) 1 lc2] X4 fun z w' => z = .returned (.tuple #[]) ∧ M2 B w' P ay (wI s AA) ax s1 [boxOb kw (List.toArray [Value.int .i64 t.e, .int .u64 t.v, .int .i64 t.f, .int .i64 t.g, .int .i64 t.p]), boxOb ko (List.toArray [Value.int .i64 s1.e, .int .u64 s1.v, .int .i64 s1.f, .int .i64 s1.g, .int .i64 s1.p])] ∧ Below B X4 w') := Hz.mk (by
                          have q := hM.out.turn.call (fun l' h => give_some B X4 ay P (starv s) l' AA b off lc2 (by rw [← ht.out]; exact h) (by
                            rw [← hAA.out]
                            exact (show WAtG X4 b off ((x :: Lg).take 1) from wat_take (B := B) hbw hcs.out rfl)) (by
                            rw [← hAA.out]
                            exact (show 0 + 1 ≤ 3000000 by decide)))
                          rw [show giveM (starv s) AA = wI s AA from give_starved s AA hst.out.1 hst.out.2.1 hAn.out] at q
                          rw [← hAA.out] at q ⊢
                          exact q)
                        have hk1 : 1 ≤ lc2 := by have := hlc.out; (try simp only [List.length_cons] at this); omega
                        have hk2 : (1 : Int) ≤ (lc2 : Int) := by omega
                        go_wp2_with fail
                        refine hgv.out.mono ?_
                        rintro r V9 ⟨rfl, hM1, hBn⟩
                        clear hgv
                        replace hG := Hz.mk (hG.out.trans hBn)
                        have hLg : Hz (∀ la' lc', (la' = some ⟨b, off + 1, none⟩ ∧ lc' = lc2 - 1 ∨ (lc2 = 1 ∧ la' = some ⟨b, off, none⟩ ∧ lc' = 0)) → LfIn B V9 la' lc' L2) := Hz.mk (fun la' lc' q => by
                          have h1 : LfIn B X4 (some ⟨b, off + 1, none⟩) (lc2 - 1) ((x :: Lg).drop 1) := LfIn.drop hbB hbw hcs.out (by simpa using hlc.out)
                          rcases q with ⟨rfl, rfl⟩ | ⟨q1, rfl, rfl⟩
                          · rw [← hL2.out]
                            exact h1.below hBn
                          · have : L2 = [] := List.eq_nil_of_length_eq_zero (by have := hlc.out; rw [← hL2.out]; (try simp only [List.length_cons] at this); omega)
                            rw [this]
                            exact (LfIn.empty hbB hbw).below hBn)
                        replace hM := Hz.mk hM1.turn
                        clear hM1 hBn
                        clear hLf
                        have hll : L2.length + 1 ≤ lc2 := by have := hlc.out; rw [← hL2.out]; simpa using this
                        by_cases hc1 : lc2 = 1
                        · subst hc1
                          have hL0 : L2.length = 0 := by omega
                          obtain rfl : L2 = [] := List.eq_nil_of_length_eq_zero hL0
                          have hLe : Lg.length + 1 = 1 := by rw [hL2.out]; rfl
                          clear hk1 hk2 hll hL0
                          replace hLg : Hz (LfIn B V9 (some ⟨b, off, none⟩) 0 []) := Hz.mk (hLg.out _ _ (.inr ⟨by trivial, rfl, rfl⟩))
                          have hcl := Hz.mk (hM.out.turn.call (fun l' h => step_oc P pok.out rr.out (wI s AA) j (okn_wI hok.out hsA.out) (by omega) (wI s1 I3) hI3.out B V9 ay l' h))
                          go_upto_region 30 with fail
                          refine wp_region_lit ?_
                          refine wpList_plain rfl (fun K hK => ?_)
                          go_simp
                          with_reducible refine hK _ _ ?_
                          clear hK K
                          try simp only [Act.put, List.setIfInBounds_toArray, List.set_cons_zero, List.set_cons_succ]
                          refine wpList_plain rfl (fun K' hK => ?_)
                          go_simp
                          refine hcl.out.mono ?_
                          rintro r V10 ⟨rfl, hM1, hBn⟩
                          clear hcl
                          replace hM1 := hM1.turn
                          replace hG := Hz.mk (hG.out.trans hBn)
                          replace hLg := Hz.mk (hLg.out.below hBn)
                          with_reducible refine hK _ _ ?_
                          clear hK K'
                          try simp only [Act.put, List.setIfInBounds_toArray, List.set_cons_zero, List.set_cons_succ]
                          have A1 := hM1.there (boxOb kw (List.toArray [Value.int .i64 t.e, .int .u64 t.v, .int .i64 t.f, .int .i64 t.g, .int .i64 t.p])) (by simp)
                          have hth := Hz.mk (A1.there 0 5 (by simp))
                          have hA9 := At.setAll A1 [Value.int .i64 s1.e, .int .u64 s1.v, .int .i64 s1.f, .int .i64 s1.g, .int .i64 s1.p] (by rfl)
                          have hK9 := kp_setsZ V10 kw [Value.int .i64 s1.e, .int .u64 s1.v, .int .i64 s1.f, .int .i64 s1.g, .int .i64 s1.p] 0
                          obtain ⟨hM3, hB3⟩ := hM1.side (o' := boxOb kw (List.toArray [Value.int .i64 s1.e, .int .u64 s1.v, .int .i64 s1.f, .int .i64 s1.g, .int .i64 s1.p])) hA9 hK9 (fun _ r => .inl r)
                          replace hG := Hz.mk (hG.out.trans hB3)
                          replace hLg := Hz.mk (hLg.out.below hB3)
                          replace hM := Hz.mk hM3
                          clear hM1 hM3 hA9 hK9 hB3 A1 hBn
                          refine wpList_plain rfl (fun K' hK => ?_)
                          refine wp_store_mid _ _ _ rfl _ _ (List.toArray [Value.int .i64 s1.e, .int .u64 s1.v, .int .i64 s1.f, .int .i64 s1.g, .int .i64 s1.p]) rfl rfl hth.out (by kernel_rfl) (by simp [Value.oneCell']) (hK _ _ ?_)
                          clear hK K' hth
                          try simp only [Act.put]
                          generalize hVx : V10.setCells kw 0 [Value.int .i64 s1.e, .int .u64 s1.v, .int .i64 s1.f, .int .i64 s1.g, .int .i64 s1.p] = V11 at *
                          clear hVx
                          go_wp2_with fail
                          refine And.intro ⟨([] : List Int), _, _, wI s1 I3, rfl, hLg, hM, Hz.mk (.inl ⟨I3, rfl, hi3.out, fun q => absurd q h63.out⟩), Hz.mk (okn_wI hok1.out hi3.out), hG⟩ ?_
                          exact slLen_lt _ _ _ _ _ _ (by simp only [List.length_cons]; omega)
                        · have hc2 : ¬ lc2 - 1 = 0 := by omega
                          replace hLg : Hz (LfIn B V9 (some ⟨b, off + 1, none⟩) (lc2 - 1) L2) := Hz.mk (hLg.out _ _ (.inl ⟨rfl, rfl⟩))
                          have heL := hL2.out
                          subst heL
                          have hcl := Hz.mk (hM.out.turn.call (fun l' h => step_oc P pok.out rr.out (wI s AA) j (okn_wI hok.out hsA.out) (by omega) (wI s1 I3) hI3.out B V9 ay l' h))
                          go_upto_region 30 with fail
                          refine wp_region_lit ?_
                          refine wpList_plain rfl (fun K hK => ?_)
                          go_simp
                          with_reducible refine hK _ _ ?_
                          clear hK K
                          try simp only [Act.put, List.setIfInBounds_toArray, List.set_cons_zero, List.set_cons_succ]
                          refine wpList_plain rfl (fun K' hK => ?_)
                          go_simp
                          refine hcl.out.mono ?_
                          rintro r V10 ⟨rfl, hM1, hBn⟩
                          clear hcl
                          replace hM1 := hM1.turn
                          replace hG := Hz.mk (hG.out.trans hBn)
                          replace hLg := Hz.mk (hLg.out.below hBn)
                          with_reducible refine hK _ _ ?_
                          clear hK K'
                          try simp only [Act.put, List.setIfInBounds_toArray, List.set_cons_zero, List.set_cons_succ]
                          have A1 := hM1.there (boxOb kw (List.toArray [Value.int .i64 t.e, .int .u64 t.v, .int .i64 t.f, .int .i64 t.g, .int .i64 t.p])) (by simp)
                          have hth := Hz.mk (A1.there 0 5 (by simp))
                          have hA9 := At.setAll A1 [Value.int .i64 s1.e, .int .u64 s1.v, .int .i64 s1.f, .int .i64 s1.g, .int .i64 s1.p] (by rfl)
                          have hK9 := kp_setsZ V10 kw [Value.int .i64 s1.e, .int .u64 s1.v, .int .i64 s1.f, .int .i64 s1.g, .int .i64 s1.p] 0
                          obtain ⟨hM3, hB3⟩ := hM1.side (o' := boxOb kw (List.toArray [Value.int .i64 s1.e, .int .u64 s1.v, .int .i64 s1.f, .int .i64 s1.g, .int .i64 s1.p])) hA9 hK9 (fun _ r => .inl r)
                          replace hG := Hz.mk (hG.out.trans hB3)
                          replace hLg := Hz.mk (hLg.out.below hB3)
                          replace hM := Hz.mk hM3
                          clear hM1 hM3 hA9 hK9 hB3 A1 hBn
                          refine wpList_plain rfl (fun K' hK => ?_)
                          refine wp_store_mid _ _ _ rfl _ _ (List.toArray [Value.int .i64 s1.e, .int .u64 s1.v, .int .i64 s1.f, .int .i64 s1.g, .int .i64 s1.p]) rfl rfl hth.out (by kernel_rfl) (by simp [Value.oneCell']) (hK _ _ ?_)
                          clear hK K' hth
                          try simp only [Act.put]
                          generalize hVx : V10.setCells kw 0 [Value.int .i64 s1.e, .int .u64 s1.v, .int .i64 s1.f, .int .i64 s1.g, .int .i64 s1.p] = V11 at *
                          clear hVx
                          go_wp2_with fail
                          refine And.intro ⟨Lg, _, _, wI s1 I3, rfl, hLg, hM, Hz.mk (.inl ⟨I3, rfl, hi3.out, fun q => absurd q h63.out⟩), Hz.mk (okn_wI hok1.out hi3.out), hG⟩ ?_
                          exact slLen_lt _ _ _ _ _ _ (by simp only [List.length_cons]; omega)
                      · cases Lg with
                        | nil => exact absurd rfl hq
                        | cons x2 Lh =>
                          clear hq
                          have hl2 : (1 : Int) < ((Lh.length : Int) + 1 + 1) := by omega
                          obtain ⟨AA, hAA⟩ : ∃ z, [x, x2] = z := ⟨_, rfl⟩
                          obtain ⟨L2, hL2⟩ : ∃ z, Lh = z := ⟨_, rfl⟩
                          have hsA : Hz (s.inp = AA ++ L2) := Hz.mk (by rw [hs2.out, ← hAA, ← hL2]; rfl)
                          have hAn : Hz (AA ≠ []) := Hz.mk (by rw [← hAA]; simp)
                          obtain ⟨I3, hi1, hi2, hi4⟩ := hnx.out AA L2 hAn.out (by rw [← hAA, ← hL2]; rfl)
                          have hI3 := Hz.mk hi1
                          have hi3 := Hz.mk hi2
                          have h63 := Hz.mk hi4
                          clear hi1 hi2 hi4
                          replace hAA := Hz.mk hAA
                          replace hL2 := Hz.mk hL2
                          have hgv : Hz (Calls Tryz.prog 6 #[.pointer (some ⟨ay, 0, none⟩), .slice (some ⟨b, off, none⟩) 2 lc2] X4 fun z w' => z = .returned (.tuple #[]) ∧ M2 B w' P ay (wI s AA) ax s1 [boxOb kw (List.toArray [Value.int .i64 t.e, .int .u64 t.v, .int .i64 t.f, .int .i64 t.g, .int .i64 t.p]), boxOb ko (List.toArray [Value.int .i64 s1.e, .int .u64 s1.v, .int .i64 s1.f, .int .i64 s1.g, .int .i64 s1.p])] ∧ Below B X4 w') := Hz.mk (by
                            have q := hM.out.turn.call (fun l' h => give_some B X4 ay P (starv s) l' AA b off lc2 (by rw [← ht.out]; exact h) (by
                              rw [← hAA.out]
                              exact (show WAtG X4 b off ((x :: x2 :: Lh).take 2) from wat_take (B := B) hbw hcs.out rfl)) (by
                              rw [← hAA.out]
                              exact (show 0 + 2 ≤ 3000000 by decide)))
                            rw [show giveM (starv s) AA = wI s AA from give_starved s AA hst.out.1 hst.out.2.1 hAn.out] at q
                            rw [← hAA.out] at q ⊢
                            exact q)
                          have hk1 : 2 ≤ lc2 := by have := hlc.out; (try simp only [List.length_cons] at this); omega
                          have hk2 : (2 : Int) ≤ (lc2 : Int) := by omega
                          go_wp2_with fail
                          refine hgv.out.mono ?_
                          rintro r V9 ⟨rfl, hM1, hBn⟩
                          clear hgv
                          replace hG := Hz.mk (hG.out.trans hBn)
                          have hLg : Hz (∀ la' lc', (la' = some ⟨b, off + 2, none⟩ ∧ lc' = lc2 - 2 ∨ (lc2 = 2 ∧ la' = some ⟨b, off, none⟩ ∧ lc' = 0)) → LfIn B V9 la' lc' L2) := Hz.mk (fun la' lc' q => by
                            have h1 : LfIn B X4 (some ⟨b, off + 2, none⟩) (lc2 - 2) ((x :: x2 :: Lh).drop 2) := LfIn.drop hbB hbw hcs.out (by simpa using hlc.out)
                            rcases q with ⟨rfl, rfl⟩ | ⟨q1, rfl, rfl⟩
                            · rw [← hL2.out]
                              exact h1.below hBn
                            · have : L2 = [] := List.eq_nil_of_length_eq_zero (by have := hlc.out; rw [← hL2.out]; (try simp only [List.length_cons] at this); omega)
                              rw [this]
                              exact (LfIn.empty hbB hbw).below hBn)
                          replace hM := Hz.mk hM1.turn
                          clear hM1 hBn
                          clear hLf
                          have hll : L2.length + 2 ≤ lc2 := by have := hlc.out; rw [← hL2.out]; simpa using this
                          by_cases hc1 : lc2 = 2
                          · subst hc1
                            have hL0 : L2.length = 0 := by omega
                            obtain rfl : L2 = [] := List.eq_nil_of_length_eq_zero hL0
                            have hLe : Lh.length + 2 = 2 := by rw [hL2.out]; rfl
                            clear hk1 hk2 hll hL0
                            replace hLg : Hz (LfIn B V9 (some ⟨b, off, none⟩) 0 []) := Hz.mk (hLg.out _ _ (.inr ⟨by trivial, rfl, rfl⟩))
                            have hcl := Hz.mk (hM.out.turn.call (fun l' h => step_oc P pok.out rr.out (wI s AA) j (okn_wI hok.out hsA.out) (by omega) (wI s1 I3) hI3.out B V9 ay l' h))
                            go_upto_region 30 with fail
                            refine wp_region_lit ?_
                            refine wpList_plain rfl (fun K hK => ?_)
                            go_simp
                            with_reducible refine hK _ _ ?_
                            clear hK K
                            try simp only [Act.put, List.setIfInBounds_toArray, List.set_cons_zero, List.set_cons_succ]
                            refine wpList_plain rfl (fun K' hK => ?_)
                            go_simp
                            refine hcl.out.mono ?_
                            rintro r V10 ⟨rfl, hM1, hBn⟩
                            clear hcl
                            replace hM1 := hM1.turn
                            replace hG := Hz.mk (hG.out.trans hBn)
                            replace hLg := Hz.mk (hLg.out.below hBn)
                            with_reducible refine hK _ _ ?_
                            clear hK K'
                            try simp only [Act.put, List.setIfInBounds_toArray, List.set_cons_zero, List.set_cons_succ]
                            have A1 := hM1.there (boxOb kw (List.toArray [Value.int .i64 t.e, .int .u64 t.v, .int .i64 t.f, .int .i64 t.g, .int .i64 t.p])) (by simp)
                            have hth := Hz.mk (A1.there 0 5 (by simp))
                            have hA9 := At.setAll A1 [Value.int .i64 s1.e, .int .u64 s1.v, .int .i64 s1.f, .int .i64 s1.g, .int .i64 s1.p] (by rfl)
                            have hK9 := kp_setsZ V10 kw [Value.int .i64 s1.e, .int .u64 s1.v, .int .i64 s1.f, .int .i64 s1.g, .int .i64 s1.p] 0
                            obtain ⟨hM3, hB3⟩ := hM1.side (o' := boxOb kw (List.toArray [Value.int .i64 s1.e, .int .u64 s1.v, .int .i64 s1.f, .int .i64 s1.g, .int .i64 s1.p])) hA9 hK9 (fun _ r => .inl r)
                            replace hG := Hz.mk (hG.out.trans hB3)
                            replace hLg := Hz.mk (hLg.out.below hB3)
                            replace hM := Hz.mk hM3
                            clear hM1 hM3 hA9 hK9 hB3 A1 hBn
                            refine wpList_plain rfl (fun K' hK => ?_)
                            refine wp_store_mid _ _ _ rfl _ _ (List.toArray [Value.int .i64 s1.e, .int .u64 s1.v, .int .i64 s1.f, .int .i64 s1.g, .int .i64 s1.p]) rfl rfl hth.out (by kernel_rfl) (by simp [Value.oneCell']) (hK _ _ ?_)
                            clear hK K' hth
                            try simp only [Act.put]
                            generalize hVx : V10.setCells kw 0 [Value.int .i64 s1.e, .int .u64 s1.v, .int .i64 s1.f, .int .i64 s1.g, .int .i64 s1.p] = V11 at *
                            clear hVx
                            go_wp2_with fail
                            refine And.intro ⟨([] : List Int), _, _, wI s1 I3, rfl, hLg, hM, Hz.mk (.inl ⟨I3, rfl, hi3.out, fun q => absurd q h63.out⟩), Hz.mk (okn_wI hok1.out hi3.out), hG⟩ ?_
                            exact slLen_lt _ _ _ _ _ _ (by simp only [List.length_cons]; omega)
                          · have hc2 : ¬ lc2 - 2 = 0 := by omega
                            replace hLg : Hz (LfIn B V9 (some ⟨b, off + 2, none⟩) (lc2 - 2) L2) := Hz.mk (hLg.out _ _ (.inl ⟨rfl, rfl⟩))
                            have heL := hL2.out
                            subst heL
                            have hcl := Hz.mk (hM.out.turn.call (fun l' h => step_oc P pok.out rr.out (wI s AA) j (okn_wI hok.out hsA.out) (by omega) (wI s1 I3) hI3.out B V9 ay l' h))
                            go_upto_region 30 with fail
                            refine wp_region_lit ?_
                            refine wpList_plain rfl (fun K hK => ?_)
                            go_simp
                            with_reducible refine hK _ _ ?_
                            clear hK K
                            try simp only [Act.put, List.setIfInBounds_toArray, List.set_cons_zero, List.set_cons_succ]
                            refine wpList_plain rfl (fun K' hK => ?_)
                            go_simp
                            refine hcl.out.mono ?_
                            rintro r V10 ⟨rfl, hM1, hBn⟩
                            clear hcl
                            replace hM1 := hM1.turn
                            replace hG := Hz.mk (hG.out.trans hBn)
                            replace hLg := Hz.mk (hLg.out.below hBn)
                            with_reducible refine hK _ _ ?_
                            clear hK K'
                            try simp only [Act.put, List.setIfInBounds_toArray, List.set_cons_zero, List.set_cons_succ]
                            have A1 := hM1.there (boxOb kw (List.toArray [Value.int .i64 t.e, .int .u64 t.v, .int .i64 t.f, .int .i64 t.g, .int .i64 t.p])) (by simp)
                            have hth := Hz.mk (A1.there 0 5 (by simp))
                            have hA9 := At.setAll A1 [Value.int .i64 s1.e, .int .u64 s1.v, .int .i64 s1.f, .int .i64 s1.g, .int .i64 s1.p] (by rfl)
                            have hK9 := kp_setsZ V10 kw [Value.int .i64 s1.e, .int .u64 s1.v, .int .i64 s1.f, .int .i64 s1.g, .int .i64 s1.p] 0
                            obtain ⟨hM3, hB3⟩ := hM1.side (o' := boxOb kw (List.toArray [Value.int .i64 s1.e, .int .u64 s1.v, .int .i64 s1.f, .int .i64 s1.g, .int .i64 s1.p])) hA9 hK9 (fun _ r => .inl r)
                            replace hG := Hz.mk (hG.out.trans hB3)
                            replace hLg := Hz.mk (hLg.out.below hB3)
                            replace hM := Hz.mk hM3
                            clear hM1 hM3 hA9 hK9 hB3 A1 hBn
                            refine wpList_plain rfl (fun K' hK => ?_)
                            refine wp_store_mid _ _ _ rfl _ _ (List.toArray [Value.int .i64 s1.e, .int .u64 s1.v, .int .i64 s1.f, .int .i64 s1.g, .int .i64 s1.p]) rfl rfl hth.out (by kernel_rfl) (by simp [Value.oneCell']) (hK _ _ ?_)
                            clear hK K' hth
                            try simp only [Act.put]
                            generalize hVx : V10.setCells kw 0 [Value.int .i64 s1.e, .int .u64 s1.v, .int .i64 s1.f, .int .i64 s1.g, .int .i64 s1.p] = V11 at *
                            clear hVx
                            go_wp2_with fail
                            refine And.intro ⟨Lh, _, _, wI s1 I3, rfl, hLg, hM, Hz.mk (.inl ⟨I3, rfl, hi3.out, fun q => absurd q h63.out⟩), Hz.mk (okn_wI hok1.out hi3.out), hG⟩ ?_
                            exact slLen_lt _ _ _ _ _ _ (by simp only [List.length_cons]; omega)
                    · have h21 : (Int.tmod n 2 == 0) = false := beq_false_of_ne h2
                      obtain ⟨AA, hAA⟩ : ∃ z, [x] = z := ⟨_, rfl⟩
                      obtain ⟨L2, hL2⟩ : ∃ z, Lg = z := ⟨_, rfl⟩
                      have hsA : Hz (s.inp = AA ++ L2) := Hz.mk (by rw [hs2.out, ← hAA, ← hL2]; rfl)
                      have hAn : Hz (AA ≠ []) := Hz.mk (by rw [← hAA]; simp)
                      obtain ⟨I3, hi1, hi2, hi4⟩ := hnx.out AA L2 hAn.out (by rw [← hAA, ← hL2]; rfl)
                      have hI3 := Hz.mk hi1
                      have hi3 := Hz.mk hi2
                      have h63 := Hz.mk hi4
                      clear hi1 hi2 hi4
                      replace hAA := Hz.mk hAA
                      replace hL2 := Hz.mk hL2
                      have hgv : Hz (Calls Tryz.prog 6 #[.pointer (some ⟨ay, 0, none⟩), .slice (some ⟨b, off, none⟩) 1 lc2] X4 fun z w' => z = .returned (.tuple #[]) ∧ M2 B w' P ay (wI s AA) ax s1 [boxOb kw (List.toArray [Value.int .i64 t.e, .int .u64 t.v, .int .i64 t.f, .int .i64 t.g, .int .i64 t.p]), boxOb ko (List.toArray [Value.int .i64 s1.e, .int .u64 s1.v, .int .i64 s1.f, .int .i64 s1.g, .int .i64 s1.p])] ∧ Below B X4 w') := Hz.mk (by
                        have q := hM.out.turn.call (fun l' h => give_some B X4 ay P (starv s) l' AA b off lc2 (by rw [← ht.out]; exact h) (by
                          rw [← hAA.out]
                          exact (show WAtG X4 b off ((x :: Lg).take 1) from wat_take (B := B) hbw hcs.out rfl)) (by
                          rw [← hAA.out]
                          exact (show 0 + 1 ≤ 3000000 by decide)))
                        rw [show giveM (starv s) AA = wI s AA from give_starved s AA hst.out.1 hst.out.2.1 hAn.out] at q
                        rw [← hAA.out] at q ⊢
                        exact q)
                      have hk1 : 1 ≤ lc2 := by have := hlc.out; (try simp only [List.length_cons] at this); omega
                      have hk2 : (1 : Int) ≤ (lc2 : Int) := by omega
                      go_wp2_with fail
                      refine hgv.out.mono ?_
                      rintro r V9 ⟨rfl, hM1, hBn⟩
                      clear hgv
                      replace hG := Hz.mk (hG.out.trans hBn)
                      have hLg : Hz (∀ la' lc', (la' = some ⟨b, off + 1, none⟩ ∧ lc' = lc2 - 1 ∨ (lc2 = 1 ∧ la' = some ⟨b, off, none⟩ ∧ lc' = 0)) → LfIn B V9 la' lc' L2) := Hz.mk (fun la' lc' q => by
                        have h1 : LfIn B X4 (some ⟨b, off + 1, none⟩) (lc2 - 1) ((x :: Lg).drop 1) := LfIn.drop hbB hbw hcs.out (by simpa using hlc.out)
                        rcases q with ⟨rfl, rfl⟩ | ⟨q1, rfl, rfl⟩
                        · rw [← hL2.out]
                          exact h1.below hBn
                        · have : L2 = [] := List.eq_nil_of_length_eq_zero (by have := hlc.out; rw [← hL2.out]; (try simp only [List.length_cons] at this); omega)
                          rw [this]
                          exact (LfIn.empty hbB hbw).below hBn)
                      replace hM := Hz.mk hM1.turn
                      clear hM1 hBn
                      clear hLf
                      have hll : L2.length + 1 ≤ lc2 := by have := hlc.out; rw [← hL2.out]; simpa using this
                      by_cases hc1 : lc2 = 1
                      · subst hc1
                        have hL0 : L2.length = 0 := by omega
                        obtain rfl : L2 = [] := List.eq_nil_of_length_eq_zero hL0
                        have hLe : Lg.length + 1 = 1 := by rw [hL2.out]; rfl
                        clear hk1 hk2 hll hL0
                        replace hLg : Hz (LfIn B V9 (some ⟨b, off, none⟩) 0 []) := Hz.mk (hLg.out _ _ (.inr ⟨by trivial, rfl, rfl⟩))
                        have hcl := Hz.mk (hM.out.turn.call (fun l' h => step_oc P pok.out rr.out (wI s AA) j (okn_wI hok.out hsA.out) (by omega) (wI s1 I3) hI3.out B V9 ay l' h))
                        go_upto_region 30 with fail
                        refine wp_region_lit ?_
                        refine wpList_plain rfl (fun K hK => ?_)
                        go_simp
                        with_reducible refine hK _ _ ?_
                        clear hK K
                        try simp only [Act.put, List.setIfInBounds_toArray, List.set_cons_zero, List.set_cons_succ]
                        refine wpList_plain rfl (fun K' hK => ?_)
                        go_simp
                        refine hcl.out.mono ?_
                        rintro r V10 ⟨rfl, hM1, hBn⟩
                        clear hcl
                        replace hM1 := hM1.turn
                        replace hG := Hz.mk (hG.out.trans hBn)
                        replace hLg := Hz.mk (hLg.out.below hBn)
                        with_reducible refine hK _ _ ?_
                        clear hK K'
                        try simp only [Act.put, List.setIfInBounds_toArray, List.set_cons_zero, List.set_cons_succ]
                        have A1 := hM1.there (boxOb kw (List.toArray [Value.int .i64 t.e, .int .u64 t.v, .int .i64 t.f, .int .i64 t.g, .int .i64 t.p])) (by simp)
                        have hth := Hz.mk (A1.there 0 5 (by simp))
                        have hA9 := At.setAll A1 [Value.int .i64 s1.e, .int .u64 s1.v, .int .i64 s1.f, .int .i64 s1.g, .int .i64 s1.p] (by rfl)
                        have hK9 := kp_setsZ V10 kw [Value.int .i64 s1.e, .int .u64 s1.v, .int .i64 s1.f, .int .i64 s1.g, .int .i64 s1.p] 0
                        obtain ⟨hM3, hB3⟩ := hM1.side (o' := boxOb kw (List.toArray [Value.int .i64 s1.e, .int .u64 s1.v, .int .i64 s1.f, .int .i64 s1.g, .int .i64 s1.p])) hA9 hK9 (fun _ r => .inl r)
                        replace hG := Hz.mk (hG.out.trans hB3)
                        replace hLg := Hz.mk (hLg.out.below hB3)
                        replace hM := Hz.mk hM3
                        clear hM1 hM3 hA9 hK9 hB3 A1 hBn
                        refine wpList_plain rfl (fun K' hK => ?_)
                        refine wp_store_mid _ _ _ rfl _ _ (List.toArray [Value.int .i64 s1.e, .int .u64 s1.v, .int .i64 s1.f, .int .i64 s1.g, .int .i64 s1.p]) rfl rfl hth.out (by kernel_rfl) (by simp [Value.oneCell']) (hK _ _ ?_)
                        clear hK K' hth
                        try simp only [Act.put]
                        generalize hVx : V10.setCells kw 0 [Value.int .i64 s1.e, .int .u64 s1.v, .int .i64 s1.f, .int .i64 s1.g, .int .i64 s1.p] = V11 at *
                        clear hVx
                        go_wp2_with fail
                        refine And.intro ⟨([] : List Int), _, _, wI s1 I3, rfl, hLg, hM, Hz.mk (.inl ⟨I3, rfl, hi3.out, fun q => absurd q h63.out⟩), Hz.mk (okn_wI hok1.out hi3.out), hG⟩ ?_
                        exact slLen_lt _ _ _ _ _ _ (by simp only [List.length_cons]; omega)
                      · have hc2 : ¬ lc2 - 1 = 0 := by omega
                        replace hLg : Hz (LfIn B V9 (some ⟨b, off + 1, none⟩) (lc2 - 1) L2) := Hz.mk (hLg.out _ _ (.inl ⟨rfl, rfl⟩))
                        have heL := hL2.out
                        subst heL
                        have hcl := Hz.mk (hM.out.turn.call (fun l' h => step_oc P pok.out rr.out (wI s AA) j (okn_wI hok.out hsA.out) (by omega) (wI s1 I3) hI3.out B V9 ay l' h))
                        go_upto_region 30 with fail
                        refine wp_region_lit ?_
                        refine wpList_plain rfl (fun K hK => ?_)
                        go_simp
                        with_reducible refine hK _ _ ?_
                        clear hK K
                        try simp only [Act.put, List.setIfInBounds_toArray, List.set_cons_zero, List.set_cons_succ]
                        refine wpList_plain rfl (fun K' hK => ?_)
                        go_simp
                        refine hcl.out.mono ?_
                        rintro r V10 ⟨rfl, hM1, hBn⟩
                        clear hcl
                        replace hM1 := hM1.turn
                        replace hG := Hz.mk (hG.out.trans hBn)
                        replace hLg := Hz.mk (hLg.out.below hBn)
                        with_reducible refine hK _ _ ?_
                        clear hK K'
                        try simp only [Act.put, List.setIfInBounds_toArray, List.set_cons_zero, List.set_cons_succ]
                        have A1 := hM1.there (boxOb kw (List.toArray [Value.int .i64 t.e, .int .u64 t.v, .int .i64 t.f, .int .i64 t.g, .int .i64 t.p])) (by simp)
                        have hth := Hz.mk (A1.there 0 5 (by simp))
                        have hA9 := At.setAll A1 [Value.int .i64 s1.e, .int .u64 s1.v, .int .i64 s1.f, .int .i64 s1.g, .int .i64 s1.p] (by rfl)
                        have hK9 := kp_setsZ V10 kw [Value.int .i64 s1.e, .int .u64 s1.v, .int .i64 s1.f, .int .i64 s1.g, .int .i64 s1.p] 0
                        obtain ⟨hM3, hB3⟩ := hM1.side (o' := boxOb kw (List.toArray [Value.int .i64 s1.e, .int .u64 s1.v, .int .i64 s1.f, .int .i64 s1.g, .int .i64 s1.p])) hA9 hK9 (fun _ r => .inl r)
                        replace hG := Hz.mk (hG.out.trans hB3)
                        replace hLg := Hz.mk (hLg.out.below hB3)
                        replace hM := Hz.mk hM3
                        clear hM1 hM3 hA9 hK9 hB3 A1 hBn
                        refine wpList_plain rfl (fun K' hK => ?_)
                        refine wp_store_mid _ _ _ rfl _ _ (List.toArray [Value.int .i64 s1.e, .int .u64 s1.v, .int .i64 s1.f, .int .i64 s1.g, .int .i64 s1.p]) rfl rfl hth.out (by kernel_rfl) (by simp [Value.oneCell']) (hK _ _ ?_)
                        clear hK K' hth
                        try simp only [Act.put]
                        generalize hVx : V10.setCells kw 0 [Value.int .i64 s1.e, .int .u64 s1.v, .int .i64 s1.f, .int .i64 s1.g, .int .i64 s1.p] = V11 at *
                        clear hVx
                        go_wp2_with fail
                        refine And.intro ⟨Lg, _, _, wI s1 I3, rfl, hLg, hM, Hz.mk (.inl ⟨I3, rfl, hi3.out, fun q => absurd q h63.out⟩), Hz.mk (okn_wI hok1.out hi3.out), hG⟩ ?_
                        exact slLen_lt _ _ _ _ _ _ (by simp only [List.length_cons]; omega)
      · have hjl1 : ¬ (j : Int) < 300 := by omega
        have hol : Hz (s.out.length ≤ 1000000) := Hz.mk (Nat.le_trans hok.out.ol (by omega))
        have htl : Hz (s.tc.length ≤ 1000000) := Hz.mk (Nat.le_trans hok.out.tl (by omega))
        clear hok hst hsi hLf hRr
        obtain ⟨lx, hX⟩ := hM.out.one
        go_wp2_with fail
        refine (outs_any B wr ax P s lx hX hol.out).mono ?_
        rintro r V9 ⟨va1, c1, rfl, hW1, hBn⟩
        replace hW1 := Hz.mk hW1
        replace hG := Hz.mk (hG.out.trans (hBn.mono hM.out.le))
        replace hM := Hz.mk (hM.out.gr hBn)
        clear hBn
        clear hX
        obtain ⟨ly, hY⟩ := hM.out.turn.one
        go_wp2_with fail
        refine (outs_w B V9 ay P s I ly hY hol.out).mono ?_
        rintro r V10 ⟨va2, c2, rfl, hW2, hBn⟩
        replace hW2 := Hz.mk hW2
        replace hW1 := Hz.mk (hW1.out.below hBn)
        replace hG := Hz.mk (hG.out.trans (hBn.mono hM.out.le))
        replace hM := Hz.mk (hM.out.gr hBn)
        clear hBn
        clear hY
        go_wp2_with fail
        refine (sameW_self s.out va1 va2 c1 c2 V10 hW1.out hW2.out hol.out).mono ?_
        rintro r V11 ⟨rfl, hBn⟩
        replace hBn := hBn.below
        replace hG := Hz.mk (hG.out.trans (hBn.mono hM.out.le))
        replace hM := Hz.mk (hM.out.gr hBn)
        clear hBn hW1 hW2
        obtain ⟨lx, hX⟩ := hM.out.one
        go_wp2_with fail
        refine (tcs_any B V11 ax P s lx hX htl.out).mono ?_
        rintro r V12 ⟨va1, c1, rfl, hW1, hBn⟩
        replace hW1 := Hz.mk hW1
        replace hG := Hz.mk (hG.out.trans (hBn.mono hM.out.le))
        replace hM := Hz.mk (hM.out.gr hBn)
        clear hBn
        clear hX
        obtain ⟨ly, hY⟩ := hM.out.turn.one
        go_wp2_with fail
        refine (tcs_w B V12 ay P s I ly hY htl.out).mono ?_
        rintro r V13 ⟨va2, c2, rfl, hW2, hBn⟩
        replace hW2 := Hz.mk hW2
        replace hW1 := Hz.mk (hW1.out.below hBn)
        replace hG := Hz.mk (hG.out.trans (hBn.mono hM.out.le))
        replace hM := Hz.mk (hM.out.gr hBn)
        clear hBn
        clear hY
        go_wp2_with fail
        refine (sameT_self s.tc va1 va2 c1 c2 V13 hW1.out hW2.out htl.out).mono ?_
        rintro r V14 ⟨rfl, hBn⟩
        replace hBn := hBn.below
        replace hG := Hz.mk (hG.out.trans (hBn.mono hM.out.le))
        replace hM := Hz.mk (hM.out.gr hBn)
        clear hBn hW1 hW2
        obtain ⟨lx, hX⟩ := hM.out.one
        go_wp2_with fail
        refine (memory_any B V14 ax P s lx hX).mono ?_
        rintro r V15 ⟨rfl, hBn⟩
        replace hG := Hz.mk (hG.out.trans (hBn.mono hM.out.le))
        replace hM := Hz.mk (hM.out.gr hBn)
        clear hBn
        clear hX
        obtain ⟨ly, hY⟩ := hM.out.turn.one
        go_wp2_with fail
        refine (memory_w B V15 ay P s I ly hY).mono ?_
        rintro r V16 ⟨rfl, hBn⟩
        replace hG := Hz.mk (hG.out.trans (hBn.mono hM.out.le))
        replace hM := Hz.mk (hM.out.gr hBn)
        clear hBn
        clear hY
        generalize (ByteArray.mk (T.rowB s.m 0 65536).toArray) = mv at *
        go_wp2_with fail
        go_ret
        exact ⟨rfl, Gw.out.trans (hG.out.mono hBw.out)⟩
  · have hno := hok
    clear hok
    replace hno := Hz.mk hno
    clear hR hcap
    go_enter Tryz.func3, Tryz.ntmps3
    go_upto_region 1 with fail
    refine wp_world (fun W => At W w.heap.size #[.slice ca R.code.length cc, .slice ga R.gates.length gc, .string (T.str mem), .int .i64 R.dep] ∧ Gr w W) ⟨At.new w _ _, (Gr.refl _).alloc _⟩ ?_
    rintro W ⟨hQ, G⟩
    have hkp := hQ.1
    replace hb := Hz.mk (hb.out.below G.below)
    go_wp2_with fail
    refine (examples_any W).mono ?_
    rintro r V1 ⟨rfl, hB⟩
    replace hQ := Hz.mk (at_below hQ hB hkp)
    replace hb := Hz.mk (hb.out.below hB)
    replace G := Hz.mk (G.below.trans (hB.mono (Nat.le_of_lt hkp)))
    replace hkp := Hz.mk (Nat.lt_of_lt_of_le hkp hB.size)
    clear hB
    have d0 : V1.cell? ⟨w.heap.size, 0, none⟩ = some (.slice ca R.code.length cc) := hQ.out.2.1 0
    have d1 : V1.cell? ⟨w.heap.size, 1, none⟩ = some (.slice ga R.gates.length gc) := hQ.out.2.1 1
    have d2 : V1.cell? ⟨w.heap.size, 2, none⟩ = some (.string (T.str mem)) := hQ.out.2.1 2
    have d3 : V1.cell? ⟨w.heap.size, 3, none⟩ = some (.int .i64 R.dep) := hQ.out.2.1 3
    have hcl := Hz.mk (hb.out.none gate hno.out cc gc sc)
    go_wp2_with fail
    refine hcl.out.mono ?_
    rintro r V2 ⟨rfl, hB⟩
    clear d0 d1 d2 d3 hcl
    replace hQ := Hz.mk (at_below hQ.out hB hkp.out)
    replace hb := Hz.mk (hb.out.below hB)
    replace G := Hz.mk (G.out.trans (hB.mono (Nat.le_of_lt hkp.out)))
    replace hkp := Hz.mk (Nat.lt_of_lt_of_le hkp.out hB.size)
    clear hB
    have d0 : V2.cell? ⟨w.heap.size, 0, none⟩ = some (.slice ca R.code.length cc) := hQ.out.2.1 0
    have d1 : V2.cell? ⟨w.heap.size, 1, none⟩ = some (.slice ga R.gates.length gc) := hQ.out.2.1 1
    have d2 : V2.cell? ⟨w.heap.size, 2, none⟩ = some (.string (T.str mem)) := hQ.out.2.1 2
    have d3 : V2.cell? ⟨w.heap.size, 3, none⟩ = some (.int .i64 R.dep) := hQ.out.2.1 3
    have hcl := Hz.mk ((bgn_nil hb.out).none gate hno.out cc gc sc)
    rw [List.length_nil] at hcl
    go_wp2_with fail
    refine hcl.out.mono ?_
    rintro r V3 ⟨rfl, hB⟩
    clear d0 d1 d2 d3 hcl
    replace hQ := Hz.mk (at_below hQ.out hB hkp.out)
    replace hb := Hz.mk (hb.out.below hB)
    replace G := Hz.mk (G.out.trans (hB.mono (Nat.le_of_lt hkp.out)))
    replace hkp := Hz.mk (Nat.lt_of_lt_of_le hkp.out hB.size)
    clear hB
    go_wp2_with fail
    go_ret
    exact ⟨rfl, G.out⟩
end Z
end Go.Proofs.YtjdefacgnhkppaaGreat
