import Derived.Test.YtoppcikacakjcaaP11
import Derived.Test.YtoppcikacakjcaaP13
/-
  Stage 8, flow: Reached, Dominates.
-/
namespace Go.Proofs.Ytoppcikacakjcaa
namespace F
open Go.RowKit
open T

open Classical in
/-- Is it come to? -/
noncomputable def rchB (L : List Ins) (E : List Int) (out : Int) (q : Nat) : Bool := decide (Rch L E out q)
theorem rchB_iff {L : List Ins} {E : List Int} {out : Int} {q : Nat} : rchB L E out q = true ↔ Rch L E out q := by simp [rchB]
/-- A list of truths, of its own. -/
def boolA (n : Nat) (f : Nat → Bool) : Array Value := ((List.range n).map fun k => Value.bool (f k)).toArray
theorem boolA_congr {n : Nat} {f g : Nat → Bool} (h : ∀ k, k < n → f k = g k) : boolA n f = boolA n g := by
  unfold boolA
  congr 1
  apply List.map_congr_left
  intro k hk
  rw [h k (List.mem_range.1 hk)]
set_option maxHeartbeats 1000000 in
theorem Reached_any (L : List Ins) (E : List Int) (cc ec : Nat) (ca ea : Option Addr) (w : World) (hL : LIn w.heap.size w ca L) (hE : NIn w.heap.size w ea E) (hnil : NilOk ea E.length ec) (hn : L.length < 2000000) (he : E.length ≤ 4000000) :
    Calls Try.prog 18 #[.slice ca L.length cc, .slice ea E.length ec] w fun e w' => ∃ g, e = .returned (.slice (some ⟨g, 0, none⟩) L.length L.length) ∧ w.heap.size ≤ g ∧ At w' g (boolA L.length (rchB L E (-1))) ∧ Below w.heap.size w w' := by
  have hC := comeTo_any L E cc ec ca ea (-1) w hL hE hnil hn he
  have hT := fun X s W (h : SIn W X L.length s) => truths_any X L.length s W h hn
  replace hC := Hid.mk hC
  replace hT := Hid.mk hT
  replace hL := Hid.mk hL
  replace hE := Hid.mk hE
  replace hnil := Hid.mk hnil
  go_enter Try.func18, Try.ntmps18
  go_wp2_with (first | (go_at_call 30; refine hC.out.mono ?_; rintro x w1 ⟨X, s, rfl, a1, a2, a3, a4⟩; replace a1 := Hid.mk a1; replace a3 := Hid.mk a3; replace a4 := Hid.mk a4) | (go_at_call 31; refine (hT.out X s _ a1.out).mono ?_; rintro x w2 ⟨g, rfl, b1, b2, b3⟩; replace b2 := Hid.mk b2; replace b3 := Hid.mk b3))
  go_ret
  refine ⟨g, rfl, Nat.le_trans a3.out.size b1, ?_, a3.out.trans (b3.out.mono a3.out.size)⟩
  have e : boolA L.length (rchB L E (-1)) = boolA L.length s := boolA_congr (fun k hk => by
    have := a4.out k hk
    have hk1 : ¬ (k : Int) = -1 := by omega
    simp only [hk1, or_false] at this
    cases h : s k
    · cases h2 : rchB L E (-1) k
      · rfl
      · rw [rchB_iff] at h2
        rw [this.2 h2] at h
        cases h
    · exact rchB_iff.2 (this.1 h))
  rw [e]
  exact b2.out
/-- Does the one dominate the other? -/
noncomputable def domB (L : List Ins) (E : List Int) (a b : Int) : Bool :=
  thB L.length a && thB L.length b && (decide (a = b) || !rchB L E (-1) b.toNat || !rchB L E a b.toNat)
set_option maxHeartbeats 2000000 in
theorem Dominates_any (L : List Ins) (E : List Int) (cc ec : Nat) (ca ea : Option Addr) (a b : Int) (w : World) (hL : LIn w.heap.size w ca L) (hE : NIn w.heap.size w ea E) (hnil : NilOk ea E.length ec) (hn : L.length < 2000000) (he : E.length ≤ 4000000) :
    Calls Try.prog 20 #[.slice ca L.length cc, .int .i64 a, .int .i64 b, .slice ea E.length ec] w fun e w' => e = .returned (.bool (domB L E a b)) ∧ Below w.heap.size w w' := by
  have hT := there_any ca L.length cc
  have hC := fun out W (q : Below w.heap.size w W) => comeTo_any L E cc ec ca ea out W ((hL.below q).mono q.size) ((hE.below q).mono q.size) hnil hn he
  replace hL := Hid.mk hL
  replace hE := Hid.mk hE
  replace hnil := Hid.mk hnil
  unfold domB
  cases ea' : thB L.length a with
  | false =>
    simp only [Bool.false_and]
    replace hT := Hid.mk hT
    replace hC := Hid.mk hC
    go_enter Try.func20, Try.ntmps20
    go_wp2_with (go_at_call 26; refine (hT.out _ _).mono ?_; rintro x w1 ⟨rfl, rfl⟩; rw [ea'])
    go_ret
    exact ⟨rfl, Below.refl _ _⟩
  | true =>
    cases eb' : thB L.length b with
    | false =>
      simp only [Bool.false_and, Bool.and_false]
      replace hT := Hid.mk hT
      replace hC := Hid.mk hC
      go_enter Try.func20, Try.ntmps20
      go_wp2_with (go_at_call 26; (refine (hT.out _ _).mono ?_; rintro x w1 ⟨rfl, rfl⟩; (try rw [ea']); (try rw [eb'])))
      go_ret
      exact ⟨rfl, Below.refl _ _⟩
    | true =>
      simp only [Bool.true_and]
      obtain ⟨q, rfl, hq⟩ := thB_elim eb'
      simp only [Int.toNat_natCast]
      by_cases hab : a = q
      · subst hab
        simp only [decide_true, Bool.true_or]
        replace hT := Hid.mk hT
        replace hC := Hid.mk hC
        go_enter Try.func20, Try.ntmps20
        go_wp2_with (go_at_call 26; (refine (hT.out _ _).mono ?_; rintro x w1 ⟨rfl, rfl⟩; (try rw [ea']); (try rw [eb'])))
        go_ret
        exact ⟨rfl, Below.refl _ _⟩
      · have hab' : (a == (q : Int)) = false := by simpa using hab
        simp only [hab, decide_false, Bool.false_or]
        have hH := fun X s W (h : SIn W X L.length s) => has_any X L.length q s W h hn hq
        have heq : ∀ (s : Nat → Bool) (out : Int), (s q = true ↔ Rch L E out q ∨ (q : Int) = out) → out ≠ q → s q = rchB L E out q := fun s out h1 h2 => by
          have h3 : ¬ (q : Int) = out := fun r => h2 r.symm
          simp only [h3, or_false] at h1
          cases h : s q
          · cases h2 : rchB L E out q
            · rfl
            · rw [rchB_iff] at h2
              rw [h1.2 h2] at h
              cases h
          · exact (rchB_iff.2 (h1.1 h)).symm
        cases er : rchB L E (-1) q with
        | false =>
          simp only [Bool.not_false, Bool.true_or]
          replace hT := Hid.mk hT
          replace hC := Hid.mk hC
          replace hH := Hid.mk hH
          replace heq := Hid.mk heq
          replace er := Hid.mk er
          clear hab
          go_enter Try.func20, Try.ntmps20
          go_wp2_with (first | (go_at_call 26; (refine (hT.out _ _).mono ?_; rintro x w1 ⟨rfl, rfl⟩; (try rw [ea']); (try rw [eb']))) | (go_at_call 30; refine (hC.out (-1) _ (by (repeat (first | assumption | with_reducible exact Below.refl _ _ | with_reducible refine Below.alloc ?_ (by simp <;> omega) _ | with_reducible refine Below.setCell ?_ (by simp <;> omega) _ | with_reducible refine Below.drew ?_)))).mono ?_; rintro x w1 ⟨X, s, rfl, a1, a2, a3, a4⟩; have a5 := heq.out s (-1) (a4 q hq) (by omega); rw [er.out] at a5; replace a1 := Hid.mk a1; replace a3 := Hid.mk a3; replace a4 := Hid.mk a4) | (go_at_call 22; refine (hH.out X s _ a1.out).mono ?_; rintro x w2 ⟨rfl, b1⟩; rw [a5]; replace b1 := Hid.mk b1))
          go_ret
          exact ⟨rfl, a3.out.trans (b1.out.mono a3.out.size)⟩
        | true =>
          simp only [Bool.not_true, Bool.false_or]
          replace hT := Hid.mk hT
          replace hC := Hid.mk hC
          replace hH := Hid.mk hH
          replace heq := Hid.mk heq
          replace er := Hid.mk er
          replace hab := Hid.mk hab
          go_enter Try.func20, Try.ntmps20
          go_wp2_with (first | (go_at_call 26; (refine (hT.out _ _).mono ?_; rintro x w1 ⟨rfl, rfl⟩; (try rw [ea']); (try rw [eb']))) | (go_at_call 22; refine (hH.out X2 s2 _ d1.out).mono ?_; rintro x w4 ⟨rfl, d5⟩; rw [d4]; replace d5 := Hid.mk d5) | (go_at_call 30; refine (hC.out a _ c1.out).mono ?_; rintro x w3 ⟨X2, s2, rfl, d1, d2, d3, d4⟩; replace d4 := heq.out s2 a (d4 q hq) hab.out; replace d1 := Hid.mk d1; replace d3 := Hid.mk d3) | (go_at_call 22; refine (hH.out X s _ a1.out).mono ?_; rintro x w2 ⟨rfl, b1⟩; rw [a5]; have c1 := Hid.mk (a3.out.trans (b1.mono a3.out.size)); clear b1) | (go_at_call 30; refine (hC.out (-1) _ (by (repeat (first | assumption | with_reducible exact Below.refl _ _ | with_reducible refine Below.alloc ?_ (by simp <;> omega) _ | with_reducible refine Below.setCell ?_ (by simp <;> omega) _ | with_reducible refine Below.drew ?_)))).mono ?_; rintro x w1 ⟨X, s, rfl, a1, a2, a3, a4⟩; have a5 := heq.out s (-1) (a4 q hq) (by omega); rw [er.out] at a5; replace a1 := Hid.mk a1; replace a3 := Hid.mk a3; replace a4 := Hid.mk a4))
          go_ret
          exact ⟨rfl, c1.out.trans ((d3.out.trans (d5.out.mono d3.out.size)).mono c1.out.size)⟩
end F
end Go.Proofs.Ytoppcikacakjcaa


/-
  Stage 8, flow: Heads.
-/
namespace Go.Proofs.Ytoppcikacakjcaa
namespace F
open Go.RowKit
open T

/-- A set in a box. -/
structure HS (lo X bx n : Nat) (w wr : World) (s : Nat → Bool) : Prop where
  st : SIn wr X n s
  ib : At wr bx #[.slice (some ⟨X, 0, none⟩) ((n + 63) / 64) ((n + 63) / 64), .int .i64 n]
  be : Below lo w wr
  ne : X ≠ bx ∧ lo ≤ X ∧ lo ≤ wr.heap.size
theorem HS.sets {lo X bx n : Nat} {w wr w1 : World} {s s1 : Nat → Bool} (h : HS lo X bx n w wr s) (h1 : SIn w1 X n s1) (h2 : Kp (fun k => k = X) wr w1) : HS lo X bx n w w1 s1 :=
  ⟨h1, at_kp h.ib h2 (fun q => h.ne.1 q.symm), h.be.trans (h2.below h.ne.2.2 (fun k q => by have := h.ne.2.1; omega)), h.ne.1, h.ne.2.1, Nat.le_trans h.ne.2.2 h2.size⟩
theorem HS.below {lo X bx n : Nat} {w wr w1 : World} {s : Nat → Bool} (h : HS lo X bx n w wr s) (h1 : Below wr.heap.size wr w1) : HS lo X bx n w w1 s :=
  ⟨h.st.below h1 h.st.lt, at_below h.ib h1 h.ib.1, h.be.trans (h1.mono h.ne.2.2), h.ne.1, h.ne.2.1, Nat.le_trans h.ne.2.2 h1.size⟩
theorem HS.same {lo X bx n : Nat} {w wr : World} {s s1 : Nat → Bool} (h : HS lo X bx n w wr s) (e : s1 = s) : HS lo X bx n w wr s1 := e ▸ h
def hdO (i : Ins) (o : Bool) : Bool := o || decide (wayN i.op = 3)
def hdA (k : Nat) (i : Ins) (s : Nat → Bool) (o : Bool) : Nat → Bool := if hdO i o = true then adS s k else s
def hdT (k : Nat) (i : Ins) : Bool := tgtB (wayN i.op) && decide (i.m ≤ k)
def hdB (k : Nat) (i : Ins) (s : Nat → Bool) (o : Bool) : Nat → Bool := if hdT k i = true then adS (hdA k i s o) i.m else hdA k i s o
/-- So many of the last looked at. -/
def hdF (L : List Ins) : Nat → (Nat → Bool) × Bool
  | 0 => (fun _ => false, false)
  | j + 1 => match L[L.length - 1 - j]? with
    | none => hdF L j
    | some i => (hdB (L.length - 1 - j) i (hdF L j).1 (hdF L j).2, hdO i (hdF L j).2)
theorem hdF_step (L : List Ins) (k : Nat) (hk : k < L.length) : hdF L (L.length - k) = (hdB k L[k] (hdF L (L.length - (k + 1))).1 (hdF L (L.length - (k + 1))).2, hdO L[k] (hdF L (L.length - (k + 1))).2) := by
  have e : L.length - k = (L.length - (k + 1)) + 1 := by omega
  have e2 : L.length - 1 - (L.length - (k + 1)) = k := by omega
  rw [e, hdF, e2, List.getElem?_eq_getElem hk]
def HI (L : List Ins) (w : World) (k : Nat) (wr : World) : Prop := Hid (HS w.heap.size (w.heap.size + 1) (w.heap.size + 2) L.length w wr (hdF L (L.length - k)).1)
set_option maxRecDepth 100000 in
set_option maxHeartbeats 4000000 in
theorem Heads_any (L : List Ins) (ca : Option Addr) (cc : Nat) (w : World) (hL : LIn w.heap.size w ca L) (hn : L.length < 2000000) :
    Calls Try.prog 19 #[.slice ca L.length cc] w fun e w' => ∃ g, e = .returned (.slice (some ⟨g, 0, none⟩) L.length L.length) ∧ w.heap.size ≤ g ∧ At w' g (boolA L.length (hdF L L.length).1) ∧ Below w.heap.size w w' := by
  have hN := newSet_any L.length w hn
  have hA := fun s pc W (h : SIn W (w.heap.size + 1) L.length s) => add_any (w.heap.size + 1) L.length s pc W h hn
  have hU := fun s W (h : SIn W (w.heap.size + 1) L.length s) => truths_any (w.heap.size + 1) L.length s W h hn
  have hT := hasTarget_any
  have hW := wayOf_any
  have h0 : ∀ (w1 : World) (t : TypeId), SIn w1 (w.heap.size + 1) L.length (fun _ => false) → Below w.heap.size w w1 → w1.heap.size = w.heap.size + 2 → HI L w L.length (w1.alloc (.cells #[.slice (some ⟨w.heap.size + 1, 0, none⟩) ((L.length + 63) / 64) ((L.length + 63) / 64), .int .i64 L.length] t)) := fun w1 t a1 a2 a3 => by
    unfold HI
    rw [Nat.sub_self]
    refine Hid.mk ⟨?_, At.at_ w1 _ _ a3, a2.alloc (by omega) _, by omega, by omega, by simp; omega⟩
    exact a1.below ((Below.refl _ w1).alloc (Nat.le_refl _) _) a1.lt
  unfold sv at *
  replace hN := Hid.mk hN
  replace hA := Hid.mk hA
  replace hU := Hid.mk hU
  replace hT := Hid.mk hT
  replace hW := Hid.mk hW
  replace hL := Hid.mk hL
  replace h0 := Hid.mk h0
  go_enter Try.func19, Try.ntmps19
  go_wp2_with (first | (go_at_call 32; refine hN.out.mono ?_; rintro x w1 ⟨rfl, a1, a2, a3⟩; replace a1 := Hid.mk a1; replace a2 := Hid.mk a2))
  have hst := h0.out w1 52 a1.out a2.out a3
  go_loopw [4, 5] (fun o x wr => ∃ k : Nat, o = .bool (hdF L (L.length - k)).2 ∧ x = .int .i64 ((k : Int) - 1) ∧ k ≤ L.length ∧ HI L w k wr) (fun _ x _ => (intOf x + 1).toNat)
  case atStart => exact ⟨L.length, by rw [Nat.sub_self]; rfl, by simp, Nat.le_refl _, hst⟩
  case round =>
    obtain ⟨k, rfl, rfl, hk, hI⟩ := hrel
    have hS := hI.out
    have z0 : wr.cell? ⟨w.heap.size + 2, 0, none⟩ = _ := hS.ib.2.1 0
    have z1 : wr.cell? ⟨w.heap.size + 2, 1, none⟩ = _ := hS.ib.2.1 1
    simp only [List.getElem?_toArray, List.getElem?_cons_zero, List.getElem?_cons_succ] at z0 z1
    cases k with
    | zero =>
      clear h0 hst a1 a2
      rw [Nat.sub_zero] at *
      replace hS := Hid.mk hS
      generalize (L.length + 63) / 64 = nw at *
      go_wp2_with (first | (go_at_call 31; refine (hU.out _ _ hS.out.st).mono ?_; rintro x w2 ⟨g, rfl, b1, b2, b3⟩; replace b2 := Hid.mk b2; replace b3 := Hid.mk b3))
      go_ret
      exact ⟨g, rfl, Nat.le_trans hS.out.be.size b1, b2.out, hS.out.be.trans (b3.out.mono hS.out.be.size)⟩
    | succ k =>
      have ek : ((k + 1 : Nat) : Int) - 1 = k := by omega
      rw [ek]
      have hkl : k < L.length := by omega
      obtain ⟨b, off, rfl, hb0, hb, five⟩ := hL.out k hkl
      have hC : ∀ W, Below w.heap.size w W → b < W.heap.size ∧ W.cell? ⟨b, off + k * 5, none⟩ = some (.int .u8 L[k].op) ∧ W.cell? ⟨b, off + k * 5 + 1 + 1 + 1 + 1, none⟩ = some (.int .i64 L[k].m) := fun W q => ⟨Nat.lt_of_lt_of_le hb q.size, (q.cell (p := ⟨b, _, none⟩) hb0).trans five.1, (q.cell (p := ⟨b, _, none⟩) hb0).trans five.2.2.2.2⟩
      have hstp := hdF_step L k hkl
      obtain ⟨bl, c0, c4⟩ := hC wr hS.be
      have hk1 : (k : Int) < L.length := by omega
      have hk2 : ¬ (L.length : Int) ≤ k := by omega
      have hk3 : (0 : Int) ≤ k := by omega
      have hw1 : (intOf (Value.int .i64 ((k : Int) - 1)) + 1).toNat < (intOf (Value.int .i64 (k : Int)) + 1).toNat := by simp only [intOf]; omega
      have hend : ∀ W, HS w.heap.size (w.heap.size + 1) (w.heap.size + 2) L.length w W (hdB k L[k] (hdF L (L.length - (k + 1))).1 (hdF L (L.length - (k + 1))).2) → HI L w k W := fun W q => by
        unfold HI
        rw [hstp]
        exact Hid.mk q
      have hopn : (hdF L (L.length - k)).2 = hdO L[k] (hdF L (L.length - (k + 1))).2 := by rw [hstp]
      clear hstp five hI h0 hst a1 a2 ek
      unfold hdB hdA hdT at hend
      unfold hdO at hend hopn
      generalize (hdF L (L.length - (k + 1))).1 = s at *
      generalize (hdF L (L.length - (k + 1))).2 = o at *
      generalize L[k].m = im at *
      generalize hop : L[k].op = op at *
      generalize ewy : wayN op = wy at *
      generalize etg : tgtB wy = tg at *
      have key3 : wy = 3 → tg = false := fun e => by rw [← etg, e]; rfl
      have hcase : (o = true) ∨ (o = false ∧ wy = 3) ∨ (o = false ∧ wy ≠ 3) := by
        cases o
        · by_cases e : wy = 3
          · exact .inr (.inl ⟨rfl, e⟩)
          · exact .inr (.inr ⟨rfl, e⟩)
        · exact .inl rfl
      have hcas2 : (tg = false) ∨ (tg = true ∧ ¬ im ≤ (k : Int)) ∨ (tg = true ∧ im ≤ (k : Int)) := by
        cases tg
        · exact .inl rfl
        · by_cases e : im ≤ (k : Int)
          · exact .inr (.inr ⟨rfl, e⟩)
          · exact .inr (.inl ⟨rfl, e⟩)
      rcases hcase with rfl | ⟨rfl, rfl⟩ | ⟨rfl, hw3⟩
      · clear key3
        rcases hcas2 with rfl | ⟨rfl, hle⟩ | ⟨rfl, hle⟩
        · simp only [Bool.true_or, if_true] at hend hopn
          simp only [Bool.false_and, Bool.false_eq_true, if_false] at hend
          replace hS := Hid.mk hS
          replace hC := Hid.mk hC
          replace hend := Hid.mk hend
          replace hopn := Hid.mk hopn
          replace hL := Hid.mk hL.out
          replace hw1 := Hid.mk hw1
          go_wp2_with (first | (go_at_call 27; refine (hW.out _ _).mono ?_; rintro x w2 ⟨rfl, rfl⟩; rw [ewy]) | (go_at_call 34; refine (hT.out _ _).mono ?_; rintro x w5 ⟨rfl, rfl⟩; rw [etg]) | (go_at_call 33; refine (hA.out _ _ _ hS.out.st).mono ?_; rintro x w4 ⟨rfl, q1, q2⟩; have hS1 := hS.out.sets q1 q2; obtain ⟨bl', c0', c4'⟩ := hC.out w4 hS1.be; have y0 : w4.cell? ⟨w.heap.size + 2, 0, none⟩ = _ := hS1.ib.2.1 0; have y1 : w4.cell? ⟨w.heap.size + 2, 1, none⟩ = _ := hS1.ib.2.1 1; simp only [List.getElem?_toArray, List.getElem?_cons_zero, List.getElem?_cons_succ] at y0 y1; replace hS1 := Hid.mk hS1; replace q1 := Hid.mk q1; replace q2 := Hid.mk q2))
          go_roundw
          all_goals first | exact ⟨k, by rw [hopn.out], rfl, by omega, hend.out _ hS1.out⟩ | exact hw1.out
        · simp only [Bool.true_or, if_true] at hend hopn
          simp only [hle, decide_false, Bool.and_false, Bool.false_eq_true, if_false] at hend
          replace hS := Hid.mk hS
          replace hC := Hid.mk hC
          replace hend := Hid.mk hend
          replace hopn := Hid.mk hopn
          replace hL := Hid.mk hL.out
          replace hw1 := Hid.mk hw1
          go_wp2_with (first | (go_at_call 27; refine (hW.out _ _).mono ?_; rintro x w2 ⟨rfl, rfl⟩; rw [ewy]) | (go_at_call 34; refine (hT.out _ _).mono ?_; rintro x w5 ⟨rfl, rfl⟩; rw [etg]) | (go_at_call 33; refine (hA.out _ _ _ hS.out.st).mono ?_; rintro x w4 ⟨rfl, q1, q2⟩; have hS1 := hS.out.sets q1 q2; obtain ⟨bl', c0', c4'⟩ := hC.out w4 hS1.be; have y0 : w4.cell? ⟨w.heap.size + 2, 0, none⟩ = _ := hS1.ib.2.1 0; have y1 : w4.cell? ⟨w.heap.size + 2, 1, none⟩ = _ := hS1.ib.2.1 1; simp only [List.getElem?_toArray, List.getElem?_cons_zero, List.getElem?_cons_succ] at y0 y1; replace hS1 := Hid.mk hS1; replace q1 := Hid.mk q1; replace q2 := Hid.mk q2))
          go_roundw
          all_goals first | exact ⟨k, by rw [hopn.out], rfl, by omega, hend.out _ hS1.out⟩ | exact hw1.out
        · simp only [Bool.true_or, if_true] at hend hopn
          simp only [hle, decide_true, Bool.and_true, if_true] at hend
          replace hS := Hid.mk hS
          replace hC := Hid.mk hC
          replace hend := Hid.mk hend
          replace hopn := Hid.mk hopn
          replace hL := Hid.mk hL.out
          replace hw1 := Hid.mk hw1
          go_wp2_with (first | (go_at_call 27; refine (hW.out _ _).mono ?_; rintro x w2 ⟨rfl, rfl⟩; rw [ewy]) | (go_at_call 34; refine (hT.out _ _).mono ?_; rintro x w5 ⟨rfl, rfl⟩; rw [etg]) | (go_at_call 33; refine (hA.out _ _ _ hS.out.st).mono ?_; rintro x w4 ⟨rfl, q1, q2⟩; have hS1 := hS.out.sets q1 q2; obtain ⟨bl', c0', c4'⟩ := hC.out w4 hS1.be; have y0 : w4.cell? ⟨w.heap.size + 2, 0, none⟩ = _ := hS1.ib.2.1 0; have y1 : w4.cell? ⟨w.heap.size + 2, 1, none⟩ = _ := hS1.ib.2.1 1; simp only [List.getElem?_toArray, List.getElem?_cons_zero, List.getElem?_cons_succ] at y0 y1; replace hS1 := Hid.mk hS1; replace q1 := Hid.mk q1; replace q2 := Hid.mk q2))
          go_region_with (go_at_call 33; refine (hA.out _ _ _ (hS1.out.below (by (repeat (first | assumption | with_reducible exact Below.refl _ _ | with_reducible refine Below.alloc ?_ (by simp <;> omega) _ | with_reducible refine Below.setCell ?_ (by simp <;> omega) _ | with_reducible refine Below.drew ?_)))).st).mono ?_; rintro x w6 ⟨rfl, r1, r2⟩; have hS2 := Hid.mk ((hS1.out.below (by (repeat (first | assumption | with_reducible exact Below.refl _ _ | with_reducible refine Below.alloc ?_ (by simp <;> omega) _ | with_reducible refine Below.setCell ?_ (by simp <;> omega) _ | with_reducible refine Below.drew ?_)))).sets r1 r2); replace r1 := Hid.mk r1; replace r2 := Hid.mk r2)
          all_goals
            go_wp2_with fail
            go_roundw
            all_goals first | exact ⟨k, by rw [hopn.out], rfl, by omega, hend.out _ hS2.out⟩ | exact hw1.out
      · obtain rfl := key3 rfl
        clear key3
        clear hcas2
        simp only [decide_true, Bool.or_true, if_true] at hend hopn
        simp only [Bool.false_and, Bool.false_eq_true, if_false] at hend
        replace hS := Hid.mk hS
        replace hC := Hid.mk hC
        replace hend := Hid.mk hend
        replace hopn := Hid.mk hopn
        replace hL := Hid.mk hL.out
        replace hw1 := Hid.mk hw1
        go_wp2_with (first | (go_at_call 27; refine (hW.out _ _).mono ?_; rintro x w2 ⟨rfl, rfl⟩; rw [ewy]) | (go_at_call 34; refine (hT.out _ _).mono ?_; rintro x w5 ⟨rfl, rfl⟩; rw [etg]) | (go_at_call 33; refine (hA.out _ _ _ hS.out.st).mono ?_; rintro x w4 ⟨rfl, q1, q2⟩; have hS1 := hS.out.sets q1 q2; obtain ⟨bl', c0', c4'⟩ := hC.out w4 hS1.be; have y0 : w4.cell? ⟨w.heap.size + 2, 0, none⟩ = _ := hS1.ib.2.1 0; have y1 : w4.cell? ⟨w.heap.size + 2, 1, none⟩ = _ := hS1.ib.2.1 1; simp only [List.getElem?_toArray, List.getElem?_cons_zero, List.getElem?_cons_succ] at y0 y1; replace hS1 := Hid.mk hS1; replace q1 := Hid.mk q1; replace q2 := Hid.mk q2))
        go_roundw
        all_goals first | exact ⟨k, by rw [hopn.out], rfl, by omega, hend.out _ hS1.out⟩ | exact hw1.out
      · clear key3
        rcases hcas2 with rfl | ⟨rfl, hle⟩ | ⟨rfl, hle⟩
        · have e3 : (wy == 3) = false := by simpa using hw3
          simp only [hw3, decide_false, Bool.or_false, Bool.false_eq_true, if_false] at hend hopn
          simp only [Bool.false_and, Bool.false_eq_true, if_false] at hend
          replace hS := Hid.mk hS
          replace hC := Hid.mk hC
          replace hend := Hid.mk hend
          replace hopn := Hid.mk hopn
          replace hL := Hid.mk hL.out
          replace hw1 := Hid.mk hw1
          go_wp2_with (first | (go_at_call 27; refine (hW.out _ _).mono ?_; rintro x w2 ⟨rfl, rfl⟩; rw [ewy]) | (go_at_call 34; refine (hT.out _ _).mono ?_; rintro x w5 ⟨rfl, rfl⟩; rw [etg]))
          go_roundw
          all_goals first | exact ⟨k, by rw [hopn.out], rfl, by omega, hend.out _ hS.out⟩ | exact hw1.out
        · have e3 : (wy == 3) = false := by simpa using hw3
          simp only [hw3, decide_false, Bool.or_false, Bool.false_eq_true, if_false] at hend hopn
          simp only [hle, decide_false, Bool.and_false, Bool.false_eq_true, if_false] at hend
          replace hS := Hid.mk hS
          replace hC := Hid.mk hC
          replace hend := Hid.mk hend
          replace hopn := Hid.mk hopn
          replace hL := Hid.mk hL.out
          replace hw1 := Hid.mk hw1
          go_wp2_with (first | (go_at_call 27; refine (hW.out _ _).mono ?_; rintro x w2 ⟨rfl, rfl⟩; rw [ewy]) | (go_at_call 34; refine (hT.out _ _).mono ?_; rintro x w5 ⟨rfl, rfl⟩; rw [etg]))
          go_roundw
          all_goals first | exact ⟨k, by rw [hopn.out], rfl, by omega, hend.out _ hS.out⟩ | exact hw1.out
        · have e3 : (wy == 3) = false := by simpa using hw3
          simp only [hw3, decide_false, Bool.or_false, Bool.false_eq_true, if_false] at hend hopn
          simp only [hle, decide_true, Bool.and_true, if_true] at hend
          replace hS := Hid.mk hS
          replace hC := Hid.mk hC
          replace hend := Hid.mk hend
          replace hopn := Hid.mk hopn
          replace hL := Hid.mk hL.out
          replace hw1 := Hid.mk hw1
          go_wp2_with (first | (go_at_call 27; refine (hW.out _ _).mono ?_; rintro x w2 ⟨rfl, rfl⟩; rw [ewy]) | (go_at_call 34; refine (hT.out _ _).mono ?_; rintro x w5 ⟨rfl, rfl⟩; rw [etg]))
          go_region_with (go_at_call 33; refine (hA.out _ _ _ (hS.out.below (by (repeat (first | assumption | with_reducible exact Below.refl _ _ | with_reducible refine Below.alloc ?_ (by simp <;> omega) _ | with_reducible refine Below.setCell ?_ (by simp <;> omega) _ | with_reducible refine Below.drew ?_)))).st).mono ?_; rintro x w6 ⟨rfl, r1, r2⟩; have hS2 := Hid.mk ((hS.out.below (by (repeat (first | assumption | with_reducible exact Below.refl _ _ | with_reducible refine Below.alloc ?_ (by simp <;> omega) _ | with_reducible refine Below.setCell ?_ (by simp <;> omega) _ | with_reducible refine Below.drew ?_)))).sets r1 r2); replace r1 := Hid.mk r1; replace r2 := Hid.mk r2)
          all_goals
            go_wp2_with fail
            go_roundw
            all_goals first | exact ⟨k, by rw [hopn.out], rfl, by omega, hend.out _ hS2.out⟩ | exact hw1.out
end F
end Go.Proofs.Ytoppcikacakjcaa
