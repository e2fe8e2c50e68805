import Derived.Test.YtfidlchgmgmcbaaGreatDoorJ46
import Derived.Test.YtfidlchgmgmcbaaGreatDoorJ47
namespace Go.Proofs.YtfidlchgmgmcbaaGreatDoor
set_option maxRecDepth 100000
set_option maxHeartbeats 40000000
namespace F
open Go.RowKit
open T

open Classical in
noncomputable def rchB (L : List Ins) (E : List Int) (out : Int) (q : Nat) : Bool := decide (Rch L E out q)
theorem rchB_iff {L : List Ins} {E : List Int} {out : Int} {q : Nat} : rchB L E out q = true ↔ Rch L E out q := by simp [rchB]
def boolA (n : Nat) (f : Nat → Bool) : Array Value := ((List.range n).map fun k => Value.bool (f k)).toArray
theorem boolA_congr {n : Nat} {f g : Nat → Bool} (h : ∀ k, k < n → f k = g k) : boolA n f = boolA n g := by
 unfold boolA
 congr 1
 apply List.map_congr_left
 intro k hk
 rw [h k (List.mem_range.1 hk)]
theorem Reached_any (L : List Ins) (E : List Int) (cc ec : Nat) (ca ea : Option Addr) (w : World) (hL : LIn w.heap.size w ca L) (hE : NIn w.heap.size w ea E) (hnil : NilOk ea E.length ec) (hn : L.length < 2000000) (he : E.length ≤ 4000000) :
   Calls Tryz.prog 10 #[.slice ca L.length cc, .slice ea E.length ec] w fun e w' => ∃ g, e = .returned (.slice (some ⟨g, 0, none⟩) L.length L.length) ∧ w.heap.size ≤ g ∧ At w' g (boolA L.length (rchB L E (-1))) ∧ Below w.heap.size w w' := by
 have hC := comeTo_any L E cc ec ca ea (-1) w hL hE hnil hn he
 have hT := fun X s W (h : SIn W X L.length s) => truths_any X L.length s W h hn
 replace hC := Hid.mk hC
 replace hT := Hid.mk hT
 replace hL := Hid.mk hL
 replace hE := Hid.mk hE
 replace hnil := Hid.mk hnil
 go_enter Tryz.func10, Tryz.ntmps10
 go_wp2_with (first | (go_at_call 27; refine hC.out.mono ?_; rintro x w1 ⟨X, s, rfl, a1, a2, a3, a4⟩; replace a1 := Hid.mk a1; replace a3 := Hid.mk a3; replace a4 := Hid.mk a4) | (go_at_call 28; refine (hT.out X s _ a1.out).mono ?_; rintro x w2 ⟨g, rfl, b1, b2, b3⟩; replace b2 := Hid.mk b2; replace b3 := Hid.mk b3))
 go_ret
 refine ⟨g, rfl, Nat.le_trans a3.out.size b1, ?_, a3.out.trans (b3.out.mono a3.out.size)⟩
 have e : boolA L.length (rchB L E (-1)) = boolA L.length s := boolA_congr (fun k hk => by
   have := a4.out k hk
   have hk1 : ¬ (k : Int) = -1 := by omega
   simp only [hk1, or_false] at this
   cases h : s k
   · cases h2 : rchB L E (-1) k
     · rfl
     · rw [rchB_iff] at h2
       rw [this.2 h2] at h
       cases h
   · exact rchB_iff.2 (this.1 h))
 rw [e]
 exact b2.out
noncomputable def domB (L : List Ins) (E : List Int) (a b : Int) : Bool :=
 thB L.length a && thB L.length b && (decide (a = b) || !rchB L E (-1) b.toNat || !rchB L E a b.toNat)
theorem Dominates_any (L : List Ins) (E : List Int) (cc ec : Nat) (ca ea : Option Addr) (a b : Int) (w : World) (hL : LIn w.heap.size w ca L) (hE : NIn w.heap.size w ea E) (hnil : NilOk ea E.length ec) (hn : L.length < 2000000) (he : E.length ≤ 4000000) :
   Calls Tryz.prog 13 #[.slice ca L.length cc, .int .i64 a, .int .i64 b, .slice ea E.length ec] w fun e w' => e = .returned (.bool (domB L E a b)) ∧ Below w.heap.size w w' := by
 have hT := there_any ca L.length cc
 have hC := fun out W (q : Below w.heap.size w W) => comeTo_any L E cc ec ca ea out W ((hL.below q).mono q.size) ((hE.below q).mono q.size) hnil hn he
 replace hL := Hid.mk hL
 replace hE := Hid.mk hE
 replace hnil := Hid.mk hnil
 unfold domB
 cases ea' : thB L.length a with
 | false =>
   simp only [Bool.false_and]
   replace hT := Hid.mk hT
   replace hC := Hid.mk hC
   go_enter Tryz.func13, Tryz.ntmps13
   go_wp2_with (go_at_call 23; refine (hT.out _ _).mono ?_; rintro x w1 ⟨rfl, rfl⟩; rw [ea'])
   go_ret
   exact ⟨rfl, Below.refl _ _⟩
 | true =>
   cases eb' : thB L.length b with
   | false =>
     simp only [Bool.false_and, Bool.and_false]
     replace hT := Hid.mk hT
     replace hC := Hid.mk hC
     go_enter Tryz.func13, Tryz.ntmps13
     go_wp2_with (go_at_call 23; (refine (hT.out _ _).mono ?_; rintro x w1 ⟨rfl, rfl⟩; (try rw [ea']); (try rw [eb'])))
     go_ret
     exact ⟨rfl, Below.refl _ _⟩
   | true =>
     simp only [Bool.true_and]
     obtain ⟨q, rfl, hq⟩ := thB_elim eb'
     simp only [Int.toNat_natCast]
     by_cases hab : a = q
     · subst hab
       simp only [decide_true, Bool.true_or]
       replace hT := Hid.mk hT
       replace hC := Hid.mk hC
       go_enter Tryz.func13, Tryz.ntmps13
       go_wp2_with (go_at_call 23; (refine (hT.out _ _).mono ?_; rintro x w1 ⟨rfl, rfl⟩; (try rw [ea']); (try rw [eb'])))
       go_ret
       exact ⟨rfl, Below.refl _ _⟩
     · have hab' : (a == (q : Int)) = false := by simpa using hab
       simp only [hab, decide_false, Bool.false_or]
       have hH := fun X s W (h : SIn W X L.length s) => has_any X L.length q s W h hn hq
       have heq : ∀ (s : Nat → Bool) (out : Int), (s q = true ↔ Rch L E out q ∨ (q : Int) = out) → out ≠ q → s q = rchB L E out q := fun s out h1 h2 => by
         have h3 : ¬ (q : Int) = out := fun r => h2 r.symm
         simp only [h3, or_false] at h1
         cases h : s q
         · cases h2 : rchB L E out q
           · rfl
           · rw [rchB_iff] at h2
             rw [h1.2 h2] at h
             cases h
         · exact (rchB_iff.2 (h1.1 h)).symm
       cases er : rchB L E (-1) q with
       | false =>
         simp only [Bool.not_false, Bool.true_or]
         replace hT := Hid.mk hT
         replace hC := Hid.mk hC
         replace hH := Hid.mk hH
         replace heq := Hid.mk heq
         replace er := Hid.mk er
         clear hab
         go_enter Tryz.func13, Tryz.ntmps13
         go_wp2_with (first | (go_at_call 23; (refine (hT.out _ _).mono ?_; rintro x w1 ⟨rfl, rfl⟩; (try rw [ea']); (try rw [eb']))) | (go_at_call 27; refine (hC.out (-1) _ (by (repeat (first | assumption | with_reducible exact Below.refl _ _ | with_reducible refine Below.alloc ?_ (by simp <;> omega) _ | with_reducible refine Below.setCell ?_ (by simp <;> omega) _ | with_reducible refine Below.drew ?_)))).mono ?_; rintro x w1 ⟨X, s, rfl, a1, a2, a3, a4⟩; have a5 := heq.out s (-1) (a4 q hq) (by omega); rw [er.out] at a5; replace a1 := Hid.mk a1; replace a3 := Hid.mk a3; replace a4 := Hid.mk a4) | (go_at_call 33; refine (hH.out X s _ a1.out).mono ?_; rintro x w2 ⟨rfl, b1⟩; rw [a5]; replace b1 := Hid.mk b1))
         go_ret
         exact ⟨rfl, a3.out.trans (b1.out.mono a3.out.size)⟩
       | true =>
         simp only [Bool.not_true, Bool.false_or]
         replace hT := Hid.mk hT
         replace hC := Hid.mk hC
         replace hH := Hid.mk hH
         replace heq := Hid.mk heq
         replace er := Hid.mk er
         replace hab := Hid.mk hab
         go_enter Tryz.func13, Tryz.ntmps13
         go_wp2_with (first | (go_at_call 23; (refine (hT.out _ _).mono ?_; rintro x w1 ⟨rfl, rfl⟩; (try rw [ea']); (try rw [eb']))) | (go_at_call 33; refine (hH.out X2 s2 _ d1.out).mono ?_; rintro x w4 ⟨rfl, d5⟩; rw [d4]; replace d5 := Hid.mk d5) | (go_at_call 27; refine (hC.out a _ c1.out).mono ?_; rintro x w3 ⟨X2, s2, rfl, d1, d2, d3, d4⟩; replace d4 := heq.out s2 a (d4 q hq) hab.out; replace d1 := Hid.mk d1; replace d3 := Hid.mk d3) | (go_at_call 33; refine (hH.out X s _ a1.out).mono ?_; rintro x w2 ⟨rfl, b1⟩; rw [a5]; have c1 := Hid.mk (a3.out.trans (b1.mono a3.out.size)); clear b1) | (go_at_call 27; refine (hC.out (-1) _ (by (repeat (first | assumption | with_reducible exact Below.refl _ _ | with_reducible refine Below.alloc ?_ (by simp <;> omega) _ | with_reducible refine Below.setCell ?_ (by simp <;> omega) _ | with_reducible refine Below.drew ?_)))).mono ?_; rintro x w1 ⟨X, s, rfl, a1, a2, a3, a4⟩; have a5 := heq.out s (-1) (a4 q hq) (by omega); rw [er.out] at a5; replace a1 := Hid.mk a1; replace a3 := Hid.mk a3; replace a4 := Hid.mk a4))
         go_ret
         exact ⟨rfl, c1.out.trans ((d3.out.trans (d5.out.mono d3.out.size)).mono c1.out.size)⟩
end F
end Go.Proofs.YtfidlchgmgmcbaaGreatDoor


namespace Go.Proofs.YtfidlchgmgmcbaaGreatDoor
set_option maxRecDepth 100000
set_option maxHeartbeats 40000000
namespace F
open Go.RowKit
open T

structure HS (lo X bx n : Nat) (w wr : World) (s : Nat → Bool) : Prop where
 st : SIn wr X n s
 ib : At wr bx #[.slice (some ⟨X, 0, none⟩) ((n + 63) / 64) ((n + 63) / 64), .int .i64 n]
 be : Below lo w wr
 ne : X ≠ bx ∧ lo ≤ X ∧ lo ≤ wr.heap.size
theorem HS.sets {lo X bx n : Nat} {w wr w1 : World} {s s1 : Nat → Bool} (h : HS lo X bx n w wr s) (h1 : SIn w1 X n s1) (h2 : Kp (fun k => k = X) wr w1) : HS lo X bx n w w1 s1 :=
 ⟨h1, at_kp h.ib h2 (fun q => h.ne.1 q.symm), h.be.trans (h2.below h.ne.2.2 (fun k q => by have := h.ne.2.1; omega)), h.ne.1, h.ne.2.1, Nat.le_trans h.ne.2.2 h2.size⟩
theorem HS.below {lo X bx n : Nat} {w wr w1 : World} {s : Nat → Bool} (h : HS lo X bx n w wr s) (h1 : Below wr.heap.size wr w1) : HS lo X bx n w w1 s :=
 ⟨h.st.below h1 h.st.lt, at_below h.ib h1 h.ib.1, h.be.trans (h1.mono h.ne.2.2), h.ne.1, h.ne.2.1, Nat.le_trans h.ne.2.2 h1.size⟩
def hdO (i : Ins) (o : Bool) : Bool := o || decide (wayN i.op = 3)
def hdA (k : Nat) (i : Ins) (s : Nat → Bool) (o : Bool) : Nat → Bool := if hdO i o = true then adS s k else s
def hdT (k : Nat) (i : Ins) : Bool := tgtB (wayN i.op) && decide (i.m ≤ k)
def hdB (k : Nat) (i : Ins) (s : Nat → Bool) (o : Bool) : Nat → Bool := if hdT k i = true then adS (hdA k i s o) i.m else hdA k i s o
def hdF (L : List Ins) : Nat → (Nat → Bool) × Bool
 | 0 => (fun _ => false, false)
 | j + 1 => match L[L.length - 1 - j]? with
   | none => hdF L j
   | some i => (hdB (L.length - 1 - j) i (hdF L j).1 (hdF L j).2, hdO i (hdF L j).2)
theorem hdF_step (L : List Ins) (k : Nat) (hk : k < L.length) : hdF L (L.length - k) = (hdB k L[k] (hdF L (L.length - (k + 1))).1 (hdF L (L.length - (k + 1))).2, hdO L[k] (hdF L (L.length - (k + 1))).2) := by
 have e : L.length - k = (L.length - (k + 1)) + 1 := by omega
 have e2 : L.length - 1 - (L.length - (k + 1)) = k := by omega
 rw [e, hdF, e2, List.getElem?_eq_getElem hk]
def HI (L : List Ins) (w : World) (k : Nat) (wr : World) : Prop := Hid (HS w.heap.size (w.heap.size + 1) (w.heap.size + 2) L.length w wr (hdF L (L.length - k)).1)
theorem Heads_any (L : List Ins) (ca : Option Addr) (cc : Nat) (w : World) (hL : LIn w.heap.size w ca L) (hn : L.length < 2000000) :
   Calls Tryz.prog 11 #[.slice ca L.length cc] w fun e w' => ∃ g, e = .returned (.slice (some ⟨g, 0, none⟩) L.length L.length) ∧ w.heap.size ≤ g ∧ At w' g (boolA L.length (hdF L L.length).1) ∧ Below w.heap.size w w' := by
 have hN := newSet_any L.length w hn
 have hA := fun s pc W (h : SIn W (w.heap.size + 1) L.length s) => add_any (w.heap.size + 1) L.length s pc W h hn
 have hU := fun s W (h : SIn W (w.heap.size + 1) L.length s) => truths_any (w.heap.size + 1) L.length s W h hn
 have hT := hasTarget_any
 have hW := wayOf_any
 have h0 : ∀ (w1 : World) (t : TypeId), SIn w1 (w.heap.size + 1) L.length (fun _ => false) → Below w.heap.size w w1 → w1.heap.size = w.heap.size + 2 → HI L w L.length (w1.alloc (.cells #[.slice (some ⟨w.heap.size + 1, 0, none⟩) ((L.length + 63) / 64) ((L.length + 63) / 64), .int .i64 L.length] t)) := fun w1 t a1 a2 a3 => by
   unfold HI
   rw [Nat.sub_self]
   refine Hid.mk ⟨?_, At.at_ w1 _ _ a3, a2.alloc (by omega) _, by omega, by omega, by simp; omega⟩
   exact a1.below ((Below.refl _ w1).alloc (Nat.le_refl _) _) a1.lt
 unfold sv at *
 replace hN := Hid.mk hN
 replace hA := Hid.mk hA
 replace hU := Hid.mk hU
 replace hT := Hid.mk hT
 replace hW := Hid.mk hW
 replace hL := Hid.mk hL
 replace h0 := Hid.mk h0
 go_enter Tryz.func11, Tryz.ntmps11
 go_wp2_with (first | (go_at_call 29; refine hN.out.mono ?_; rintro x w1 ⟨rfl, a1, a2, a3⟩; replace a1 := Hid.mk a1; replace a2 := Hid.mk a2))
 have hst := h0.out w1 94 a1.out a2.out a3
 go_loopw [4, 5] (fun o x wr => ∃ k : Nat, o = .bool (hdF L (L.length - k)).2 ∧ x = .int .i64 ((k : Int) - 1) ∧ k ≤ L.length ∧ HI L w k wr) (fun _ x _ => (intOf x + 1).toNat)
 case atStart => exact ⟨L.length, by rw [Nat.sub_self]; rfl, by simp, Nat.le_refl _, hst⟩
 case round =>
   obtain ⟨k, rfl, rfl, hk, hI⟩ := hrel
   have hS := hI.out
   have z0 : wr.cell? ⟨w.heap.size + 2, 0, none⟩ = _ := hS.ib.2.1 0
   have z1 : wr.cell? ⟨w.heap.size + 2, 1, none⟩ = _ := hS.ib.2.1 1
   simp only [List.getElem?_toArray, List.getElem?_cons_zero, List.getElem?_cons_succ] at z0 z1
   cases k with
   | zero =>
     clear h0 hst a1 a2
     rw [Nat.sub_zero] at *
     replace hS := Hid.mk hS
     generalize (L.length + 63) / 64 = nw at *
     go_wp2_with (first | (go_at_call 28; refine (hU.out _ _ hS.out.st).mono ?_; rintro x w2 ⟨g, rfl, b1, b2, b3⟩; replace b2 := Hid.mk b2; replace b3 := Hid.mk b3))
     go_ret
     exact ⟨g, rfl, Nat.le_trans hS.out.be.size b1, b2.out, hS.out.be.trans (b3.out.mono hS.out.be.size)⟩
   | succ k =>
     have ek : ((k + 1 : Nat) : Int) - 1 = k := by omega
     rw [ek]
     have hkl : k < L.length := by omega
     obtain ⟨b, off, rfl, hb0, hb, five⟩ := hL.out k hkl
     have hC : ∀ W, Below w.heap.size w W → b < W.heap.size ∧ W.cell? ⟨b, off + k * 5, none⟩ = some (.int .u8 L[k].op) ∧ W.cell? ⟨b, off + k * 5 + 1 + 1 + 1 + 1, none⟩ = some (.int .i64 L[k].m) := fun W q => ⟨Nat.lt_of_lt_of_le hb q.size, (q.cell (p := ⟨b, _, none⟩) hb0).trans five.1, (q.cell (p := ⟨b, _, none⟩) hb0).trans five.2.2.2.2⟩
     have hstp := hdF_step L k hkl
     obtain ⟨bl, c0, c4⟩ := hC wr hS.be
     have hk1 : (k : Int) < L.length := by omega
     have hk2 : ¬ (L.length : Int) ≤ k := by omega
     have hk3 : (0 : Int) ≤ k := by omega
     have hw1 : (intOf (Value.int .i64 ((k : Int) - 1)) + 1).toNat < (intOf (Value.int .i64 (k : Int)) + 1).toNat := by simp only [intOf]; omega
     have hend : ∀ W, HS w.heap.size (w.heap.size + 1) (w.heap.size + 2) L.length w W (hdB k L[k] (hdF L (L.length - (k + 1))).1 (hdF L (L.length - (k + 1))).2) → HI L w k W := fun W q => by
       unfold HI
       rw [hstp]
       exact Hid.mk q
     have hopn : (hdF L (L.length - k)).2 = hdO L[k] (hdF L (L.length - (k + 1))).2 := by rw [hstp]
     clear hstp five hI h0 hst a1 a2 ek
     unfold hdB hdA hdT at hend
     unfold hdO at hend hopn
     generalize (hdF L (L.length - (k + 1))).1 = s at *
     generalize (hdF L (L.length - (k + 1))).2 = o at *
     generalize L[k].m = im at *
     generalize hop : L[k].op = op at *
     generalize ewy : wayN op = wy at *
     generalize etg : tgtB wy = tg at *
     have key3 : wy = 3 → tg = false := fun e => by rw [← etg, e]; rfl
     have hcase : (o = true) ∨ (o = false ∧ wy = 3) ∨ (o = false ∧ wy ≠ 3) := by
       cases o
       · by_cases e : wy = 3
         · exact .inr (.inl ⟨rfl, e⟩)
         · exact .inr (.inr ⟨rfl, e⟩)
       · exact .inl rfl
     have hcas2 : (tg = false) ∨ (tg = true ∧ ¬ im ≤ (k : Int)) ∨ (tg = true ∧ im ≤ (k : Int)) := by
       cases tg
       · exact .inl rfl
       · by_cases e : im ≤ (k : Int)
         · exact .inr (.inr ⟨rfl, e⟩)
         · exact .inr (.inl ⟨rfl, e⟩)
     rcases hcase with rfl | ⟨rfl, rfl⟩ | ⟨rfl, hw3⟩
     · clear key3
       rcases hcas2 with rfl | ⟨rfl, hle⟩ | ⟨rfl, hle⟩
       · simp only [Bool.true_or, if_true] at hend hopn
         simp only [Bool.false_and, Bool.false_eq_true, if_false] at hend
         replace hS := Hid.mk hS
         replace hC := Hid.mk hC
         replace hend := Hid.mk hend
         replace hopn := Hid.mk hopn
         replace hL := Hid.mk hL.out
         replace hw1 := Hid.mk hw1
         go_wp2_with (first | (go_at_call 24; refine (hW.out _ _).mono ?_; rintro x w2 ⟨rfl, rfl⟩; rw [ewy]) | (go_at_call 31; refine (hT.out _ _).mono ?_; rintro x w5 ⟨rfl, rfl⟩; rw [etg]) | (go_at_call 30; refine (hA.out _ _ _ hS.out.st).mono ?_; rintro x w4 ⟨rfl, q1, q2⟩; have hS1 := hS.out.sets q1 q2; obtain ⟨bl', c0', c4'⟩ := hC.out w4 hS1.be; have y0 : w4.cell? ⟨w.heap.size + 2, 0, none⟩ = _ := hS1.ib.2.1 0; have y1 : w4.cell? ⟨w.heap.size + 2, 1, none⟩ = _ := hS1.ib.2.1 1; simp only [List.getElem?_toArray, List.getElem?_cons_zero, List.getElem?_cons_succ] at y0 y1; replace hS1 := Hid.mk hS1; replace q1 := Hid.mk q1; replace q2 := Hid.mk q2))
         go_roundw
         all_goals first | exact ⟨k, by rw [hopn.out], rfl, by omega, hend.out _ hS1.out⟩ | exact hw1.out
       · simp only [Bool.true_or, if_true] at hend hopn
         simp only [hle, decide_false, Bool.and_false, Bool.false_eq_true, if_false] at hend
         replace hS := Hid.mk hS
         replace hC := Hid.mk hC
         replace hend := Hid.mk hend
         replace hopn := Hid.mk hopn
         replace hL := Hid.mk hL.out
         replace hw1 := Hid.mk hw1
         go_wp2_with (first | (go_at_call 24; refine (hW.out _ _).mono ?_; rintro x w2 ⟨rfl, rfl⟩; rw [ewy]) | (go_at_call 31; refine (hT.out _ _).mono ?_; rintro x w5 ⟨rfl, rfl⟩; rw [etg]) | (go_at_call 30; refine (hA.out _ _ _ hS.out.st).mono ?_; rintro x w4 ⟨rfl, q1, q2⟩; have hS1 := hS.out.sets q1 q2; obtain ⟨bl', c0', c4'⟩ := hC.out w4 hS1.be; have y0 : w4.cell? ⟨w.heap.size + 2, 0, none⟩ = _ := hS1.ib.2.1 0; have y1 : w4.cell? ⟨w.heap.size + 2, 1, none⟩ = _ := hS1.ib.2.1 1; simp only [List.getElem?_toArray, List.getElem?_cons_zero, List.getElem?_cons_succ] at y0 y1; replace hS1 := Hid.mk hS1; replace q1 := Hid.mk q1; replace q2 := Hid.mk q2))
         go_roundw
         all_goals first | exact ⟨k, by rw [hopn.out], rfl, by omega, hend.out _ hS1.out⟩ | exact hw1.out
       · simp only [Bool.true_or, if_true] at hend hopn
         simp only [hle, decide_true, Bool.and_true, if_true] at hend
         replace hS := Hid.mk hS
         replace hC := Hid.mk hC
         replace hend := Hid.mk hend
         replace hopn := Hid.mk hopn
         replace hL := Hid.mk hL.out
         replace hw1 := Hid.mk hw1
         go_wp2_with (first | (go_at_call 24; refine (hW.out _ _).mono ?_; rintro x w2 ⟨rfl, rfl⟩; rw [ewy]) | (go_at_call 31; refine (hT.out _ _).mono ?_; rintro x w5 ⟨rfl, rfl⟩; rw [etg]) | (go_at_call 30; refine (hA.out _ _ _ hS.out.st).mono ?_; rintro x w4 ⟨rfl, q1, q2⟩; have hS1 := hS.out.sets q1 q2; obtain ⟨bl', c0', c4'⟩ := hC.out w4 hS1.be; have y0 : w4.cell? ⟨w.heap.size + 2, 0, none⟩ = _ := hS1.ib.2.1 0; have y1 : w4.cell? ⟨w.heap.size + 2, 1, none⟩ = _ := hS1.ib.2.1 1; simp only [List.getElem?_toArray, List.getElem?_cons_zero, List.getElem?_cons_succ] at y0 y1; replace hS1 := Hid.mk hS1; replace q1 := Hid.mk q1; replace q2 := Hid.mk q2))
         go_region_with (go_at_call 30; refine (hA.out _ _ _ (hS1.out.below (by (repeat (first | assumption | with_reducible exact Below.refl _ _ | with_reducible refine Below.alloc ?_ (by simp <;> omega) _ | with_reducible refine Below.setCell ?_ (by simp <;> omega) _ | with_reducible refine Below.drew ?_)))).st).mono ?_; rintro x w6 ⟨rfl, r1, r2⟩; have hS2 := Hid.mk ((hS1.out.below (by (repeat (first | assumption | with_reducible exact Below.refl _ _ | with_reducible refine Below.alloc ?_ (by simp <;> omega) _ | with_reducible refine Below.setCell ?_ (by simp <;> omega) _ | with_reducible refine Below.drew ?_)))).sets r1 r2); replace r1 := Hid.mk r1; replace r2 := Hid.mk r2)
         all_goals
           go_wp2_with fail
           go_roundw
           all_goals first | exact ⟨k, by rw [hopn.out], rfl, by omega, hend.out _ hS2.out⟩ | exact hw1.out
     · obtain rfl := key3 rfl
       clear key3
       clear hcas2
       simp only [decide_true, Bool.or_true, if_true] at hend hopn
       simp only [Bool.false_and, Bool.false_eq_true, if_false] at hend
       replace hS := Hid.mk hS
       replace hC := Hid.mk hC
       replace hend := Hid.mk hend
       replace hopn := Hid.mk hopn
       replace hL := Hid.mk hL.out
       replace hw1 := Hid.mk hw1
       go_wp2_with (first | (go_at_call 24; refine (hW.out _ _).mono ?_; rintro x w2 ⟨rfl, rfl⟩; rw [ewy]) | (go_at_call 31; refine (hT.out _ _).mono ?_; rintro x w5 ⟨rfl, rfl⟩; rw [etg]) | (go_at_call 30; refine (hA.out _ _ _ hS.out.st).mono ?_; rintro x w4 ⟨rfl, q1, q2⟩; have hS1 := hS.out.sets q1 q2; obtain ⟨bl', c0', c4'⟩ := hC.out w4 hS1.be; have y0 : w4.cell? ⟨w.heap.size + 2, 0, none⟩ = _ := hS1.ib.2.1 0; have y1 : w4.cell? ⟨w.heap.size + 2, 1, none⟩ = _ := hS1.ib.2.1 1; simp only [List.getElem?_toArray, List.getElem?_cons_zero, List.getElem?_cons_succ] at y0 y1; replace hS1 := Hid.mk hS1; replace q1 := Hid.mk q1; replace q2 := Hid.mk q2))
       go_roundw
       all_goals first | exact ⟨k, by rw [hopn.out], rfl, by omega, hend.out _ hS1.out⟩ | exact hw1.out
     · clear key3
       rcases hcas2 with rfl | ⟨rfl, hle⟩ | ⟨rfl, hle⟩
       · have e3 : (wy == 3) = false := by simpa using hw3
         simp only [hw3, decide_false, Bool.or_false, Bool.false_eq_true, if_false] at hend hopn
         simp only [Bool.false_and, Bool.false_eq_true, if_false] at hend
         replace hS := Hid.mk hS
         replace hC := Hid.mk hC
         replace hend := Hid.mk hend
         replace hopn := Hid.mk hopn
         replace hL := Hid.mk hL.out
         replace hw1 := Hid.mk hw1
         go_wp2_with (first | (go_at_call 24; refine (hW.out _ _).mono ?_; rintro x w2 ⟨rfl, rfl⟩; rw [ewy]) | (go_at_call 31; refine (hT.out _ _).mono ?_; rintro x w5 ⟨rfl, rfl⟩; rw [etg]))
         go_roundw
         all_goals first | exact ⟨k, by rw [hopn.out], rfl, by omega, hend.out _ hS.out⟩ | exact hw1.out
       · have e3 : (wy == 3) = false := by simpa using hw3
         simp only [hw3, decide_false, Bool.or_false, Bool.false_eq_true, if_false] at hend hopn
         simp only [hle, decide_false, Bool.and_false, Bool.false_eq_true, if_false] at hend
         replace hS := Hid.mk hS
         replace hC := Hid.mk hC
         replace hend := Hid.mk hend
         replace hopn := Hid.mk hopn
         replace hL := Hid.mk hL.out
         replace hw1 := Hid.mk hw1
         go_wp2_with (first | (go_at_call 24; refine (hW.out _ _).mono ?_; rintro x w2 ⟨rfl, rfl⟩; rw [ewy]) | (go_at_call 31; refine (hT.out _ _).mono ?_; rintro x w5 ⟨rfl, rfl⟩; rw [etg]))
         go_roundw
         all_goals first | exact ⟨k, by rw [hopn.out], rfl, by omega, hend.out _ hS.out⟩ | exact hw1.out
       · have e3 : (wy == 3) = false := by simpa using hw3
         simp only [hw3, decide_false, Bool.or_false, Bool.false_eq_true, if_false] at hend hopn
         simp only [hle, decide_true, Bool.and_true, if_true] at hend
         replace hS := Hid.mk hS
         replace hC := Hid.mk hC
         replace hend := Hid.mk hend
         replace hopn := Hid.mk hopn
         replace hL := Hid.mk hL.out
         replace hw1 := Hid.mk hw1
         go_wp2_with (first | (go_at_call 24; refine (hW.out _ _).mono ?_; rintro x w2 ⟨rfl, rfl⟩; rw [ewy]) | (go_at_call 31; refine (hT.out _ _).mono ?_; rintro x w5 ⟨rfl, rfl⟩; rw [etg]))
         go_region_with (go_at_call 30; refine (hA.out _ _ _ (hS.out.below (by (repeat (first | assumption | with_reducible exact Below.refl _ _ | with_reducible refine Below.alloc ?_ (by simp <;> omega) _ | with_reducible refine Below.setCell ?_ (by simp <;> omega) _ | with_reducible refine Below.drew ?_)))).st).mono ?_; rintro x w6 ⟨rfl, r1, r2⟩; have hS2 := Hid.mk ((hS.out.below (by (repeat (first | assumption | with_reducible exact Below.refl _ _ | with_reducible refine Below.alloc ?_ (by simp <;> omega) _ | with_reducible refine Below.setCell ?_ (by simp <;> omega) _ | with_reducible refine Below.drew ?_)))).sets r1 r2); replace r1 := Hid.mk r1; replace r2 := Hid.mk r2)
         all_goals
           go_wp2_with fail
           go_roundw
           all_goals first | exact ⟨k, by rw [hopn.out], rfl, by omega, hend.out _ hS2.out⟩ | exact hw1.out
end F
end Go.Proofs.YtfidlchgmgmcbaaGreatDoor


namespace Go.Proofs.YtfidlchgmgmcbaaGreatDoor
set_option maxRecDepth 100000
set_option maxHeartbeats 40000000
namespace F
open Go.RowKit
open T

def fsE (E : List Int) (j : Nat) : Nat → Bool := (E.take j).foldl adS (adS (fun _ => false) 0)
theorem fsE_step (E : List Int) (j : Nat) (hj : j < E.length) : fsE E (j + 1) = adS (fsE E j) E[j] := by
 unfold fsE
 rw [List.take_add_one, List.getElem?_eq_getElem hj, Option.toList_some, List.foldl_append]
 rfl
def fs1 (i : Ins) (s : Nat → Bool) : Nat → Bool := if wayN i.op = 3 then (fun _ => true) else s
def fs2 (i : Ins) (s : Nat → Bool) : Nat → Bool := if tgtB (wayN i.op) = true then adS (fs1 i s) i.m else fs1 i s
def fs3 (k : Nat) (i : Ins) (s : Nat → Bool) : Nat → Bool := if wayN i.op = 0 then fs2 i s else adS (fs2 i s) ((k : Int) + 1)
def fsC (L : List Ins) (s : Nat → Bool) : Nat → (Nat → Bool)
 | 0 => s
 | j + 1 => match L[j]? with
   | none => fsC L s j
   | some i => fs3 j i (fsC L s j)
theorem fsC_step (L : List Ins) (s : Nat → Bool) (j : Nat) (hj : j < L.length) : fsC L s (j + 1) = fs3 j L[j] (fsC L s j) := by
 rw [fsC, List.getElem?_eq_getElem hj]
def firF (L : List Ins) (E : List Int) : Nat → Bool := fsC L (fsE E E.length) L.length
def FI (w : World) (n : Nat) (s : Nat → Bool) (wr : World) : Prop := Hid (HS (w.heap.size + 1) (w.heap.size + 2) (w.heap.size + 3) n (w.alloc (.cells #[.slice none 0 0, .int .i64 0] 94)) wr s)
theorem firstsOf_any (L : List Ins) (E : List Int) (ca ea : Option Addr) (cc ec : Nat) (w : World) (hL : LIn w.heap.size w ca L) (hE : NIn w.heap.size w ea E) (hn : L.length < 2000000) (he : E.length ≤ 4000000) :
   Calls Tryz.prog 32 #[.slice ca L.length cc, .slice ea E.length ec] w fun e w' => ∃ X, e = .returned (sv X L.length) ∧ SIn w' X L.length (firF L E) ∧ w.heap.size ≤ X ∧ Below w.heap.size w w' := by
 have hN := newSet_any L.length (w.alloc (.cells #[.slice none 0 0, .int .i64 0] 94)) hn
 simp only [World.size_alloc, Nat.add_assoc] at hN
 have hA := fun s pc W (h : SIn W (w.heap.size + 2) L.length s) => add_any (w.heap.size + 2) L.length s pc W h hn
 have hF := fun s W (h : SIn W (w.heap.size + 2) L.length s) => fill_any (w.heap.size + 2) L.length s W h hn
 have hT := hasTarget_any
 have hW := wayOf_any
 have h0 : ∀ (w1 w2 : World) (t : TypeId), SIn w1 (w.heap.size + 2) L.length (fun _ => false) → Below (w.heap.size + 1) (w.alloc (.cells #[.slice none 0 0, .int .i64 0] 94)) w1 → w1.heap.size = w.heap.size + 3 → SIn w2 (w.heap.size + 2) L.length (adS (fun _ => false) 0) → Kp (fun k => k = w.heap.size + 2) (w1.alloc (.cells #[.slice (some ⟨w.heap.size + 2, 0, none⟩) ((L.length + 63) / 64) ((L.length + 63) / 64), .int .i64 L.length] t)) w2 → FI w L.length (fsE E 0) w2 := fun w1 w2 t a1 a2 a3 b1 b2 => by
   have q : HS (w.heap.size + 1) (w.heap.size + 2) (w.heap.size + 3) L.length (w.alloc (.cells #[.slice none 0 0, .int .i64 0] 94)) (w1.alloc (.cells #[.slice (some ⟨w.heap.size + 2, 0, none⟩) ((L.length + 63) / 64) ((L.length + 63) / 64), .int .i64 L.length] t)) (fun _ => false) :=
     ⟨a1.below ((Below.refl _ w1).alloc (Nat.le_refl _) _) a1.lt, At.at_ w1 _ _ a3, a2.alloc (by omega) _, by omega, by omega, by simp; omega⟩
   exact Hid.mk (q.sets b1 b2)
 unfold sv at *
 have hB0 : Below w.heap.size w (w.alloc (.cells #[.slice none 0 0, .int .i64 0] 94)) := by (repeat (first | assumption | with_reducible exact Below.refl _ _ | with_reducible refine Below.alloc ?_ (by simp <;> omega) _ | with_reducible refine Below.setCell ?_ (by simp <;> omega) _ | with_reducible refine Below.drew ?_))
 replace hN := Hid.mk hN
 replace hA := Hid.mk hA
 replace hF := Hid.mk hF
 replace hT := Hid.mk hT
 replace hW := Hid.mk hW
 replace hL := Hid.mk hL
 replace hE := Hid.mk hE
 replace h0 := Hid.mk h0
 replace hB0 := Hid.mk hB0
 go_enter Tryz.func32, Tryz.ntmps32
 go_wp2_with (first | (go_at_call 29; refine hN.out.mono ?_; rintro x w1 ⟨rfl, a1, a2, a3⟩; replace a1 := Hid.mk a1; replace a2 := Hid.mk a2) | (go_at_call 30; refine (hA.out _ _ _ (a1.out.below ((Below.refl _ w1).alloc (Nat.le_refl _) _) a1.out.lt)).mono ?_; rintro x w2 ⟨rfl, b1, b2⟩; replace b1 := Hid.mk b1; replace b2 := Hid.mk b2))
 have hst := h0.out w1 w2 94 a1.out a2.out a3 b1.out b2.out
 go_loopw [18] (fun x wr => ∃ j : Nat, x = .int .i64 j ∧ j ≤ E.length ∧ FI w L.length (fsE E j) wr) (fun x _ => E.length - (intOf x).toNat)
 case atStart => exact ⟨0, rfl, by omega, hst⟩
 case round =>
   clear hst a1 a2 a3 b1 b2 h0
   obtain ⟨j, rfl, hj, hI⟩ := hrel
   have hS := hI.out
   have z0 : wr.cell? ⟨w.heap.size + 3, 0, none⟩ = _ := hS.ib.2.1 0
   have z1 : wr.cell? ⟨w.heap.size + 3, 1, none⟩ = _ := hS.ib.2.1 1
   simp only [List.getElem?_toArray, List.getElem?_cons_zero, List.getElem?_cons_succ] at z0 z1
   by_cases hlt : j < E.length
   · obtain ⟨b, off, rfl, hb0, hb, hc⟩ := hE.out j hlt
     have hc1 := (hS.be.cell (p := ⟨b, off + j, none⟩) (Nat.lt_succ_of_lt hb0)).trans ((hB0.out.cell (p := ⟨b, off + j, none⟩) hb0).trans hc)
     have hst := Hid.mk (fsE_step E j hlt)
     have hi1 : (j : Int) < E.length := by omega
     replace hS := Hid.mk hS
     go_wp2_with (first | (go_at_call 30; refine (hA.out _ _ _ hS.out.st).mono ?_; rintro x w3 ⟨rfl, q1, q2⟩; have hS1 := Hid.mk (hS.out.sets q1 q2); replace q1 := Hid.mk q1; replace q2 := Hid.mk q2))
     go_roundw
     all_goals first | exact ⟨j + 1, by simp, by omega, by unfold FI; rw [hst.out]; exact hS1⟩ | (simp only [intOf]; omega)
   · have hi1 : ¬ (j : Int) < E.length := by omega
     have ej : j = E.length := by omega
     subst ej
     replace hS := Hid.mk hS
     go_wp2_with fail
     clear z0 z1 hj hlt
     rename World => wo
     go_loopw [28] (fun x wr => ∃ j : Nat, x = .int .i64 j ∧ j ≤ L.length ∧ FI w L.length (fsC L (fsE E E.length) j) wr) (fun x _ => L.length - (intOf x).toNat)
     case atStart => exact ⟨0, rfl, by omega, hI⟩
     case round =>
       clear hI hS
       obtain ⟨k, rfl, hk, hI⟩ := hrel
       have hS := hI.out
       have z0 : wr.cell? ⟨w.heap.size + 3, 0, none⟩ = _ := hS.ib.2.1 0
       have z1 : wr.cell? ⟨w.heap.size + 3, 1, none⟩ = _ := hS.ib.2.1 1
       simp only [List.getElem?_toArray, List.getElem?_cons_zero, List.getElem?_cons_succ] at z0 z1
       by_cases hlt : k < L.length
       · obtain ⟨b, off, rfl, hb0, hb, five⟩ := hL.out k hlt
         have hf5 := (five.below hB0.out hb0).below hS.be (Nat.lt_succ_of_lt hb0)
         obtain ⟨c0, c1, c2, c3, c4⟩ := hf5
         have hlw : b < wr.heap.size := Nat.lt_of_lt_of_le (Nat.lt_succ_of_lt hb0) hS.ne.2.2
         have hbl := hS.ib.1
         have hstp := fsC_step L (fsE E E.length) k hlt
         have hi1 : (k : Int) < L.length := by omega
         have hi2 : ¬ (L.length : Int) ≤ k := by omega
         have hQ : ∀ (W W' : World) (s s' : Nat → Bool) , (HS (w.heap.size + 1) (w.heap.size + 2) (w.heap.size + 3) L.length (w.alloc (.cells #[.slice none 0 0, .int .i64 0] 94)) W s ∧ At W wr.heap.size #[.int .u8 L[k].op, .int .i64 L[k].a, .int .i64 L[k].b, .int .i64 L[k].c, .int .i64 L[k].m]) → SIn W' (w.heap.size + 2) L.length s' → Kp (fun q => q = w.heap.size + 2) W W' → (HS (w.heap.size + 1) (w.heap.size + 2) (w.heap.size + 3) L.length (w.alloc (.cells #[.slice none 0 0, .int .i64 0] 94)) W' s' ∧ At W' wr.heap.size #[.int .u8 L[k].op, .int .i64 L[k].a, .int .i64 L[k].b, .int .i64 L[k].c, .int .i64 L[k].m]) := fun W W' s s' h1 h2 h3 =>
           ⟨h1.1.sets h2 h3, at_kp h1.2 h3 (by omega)⟩
         have hBx : ∀ (W : World) (s : Nat → Bool), (HS (w.heap.size + 1) (w.heap.size + 2) (w.heap.size + 3) L.length (w.alloc (.cells #[.slice none 0 0, .int .i64 0] 94)) W s ∧ At W wr.heap.size #[.int .u8 L[k].op, .int .i64 L[k].a, .int .i64 L[k].b, .int .i64 L[k].c, .int .i64 L[k].m]) → W.cell? ⟨w.heap.size + 3, 0, none⟩ = some (.slice (some ⟨w.heap.size + 2, 0, none⟩) ((L.length + 63) / 64) ((L.length + 63) / 64)) ∧ W.cell? ⟨w.heap.size + 3, 1, none⟩ = some (.int .i64 L.length) ∧ W.cell? ⟨wr.heap.size, 0, none⟩ = some (.int .u8 L[k].op) ∧ W.cell? ⟨wr.heap.size, 4, none⟩ = some (.int .i64 L[k].m) := fun W s h =>
           ⟨h.1.ib.2.1 0, h.1.ib.2.1 1, h.2.2.1 0, h.2.2.1 4⟩
         have hS0 : HS (w.heap.size + 1) (w.heap.size + 2) (w.heap.size + 3) L.length (w.alloc (.cells #[.slice none 0 0, .int .i64 0] 94)) (wr.alloc (.cells #[.int .u8 L[k].op, .int .i64 L[k].a, .int .i64 L[k].b, .int .i64 L[k].c, .int .i64 L[k].m] 57)) (fsC L (fsE E E.length) k) ∧ At (wr.alloc (.cells #[.int .u8 L[k].op, .int .i64 L[k].a, .int .i64 L[k].b, .int .i64 L[k].c, .int .i64 L[k].m] 57)) wr.heap.size #[.int .u8 L[k].op, .int .i64 L[k].a, .int .i64 L[k].b, .int .i64 L[k].c, .int .i64 L[k].m] :=
           ⟨hS.below ((Below.refl _ wr).alloc (Nat.le_refl _) _), At.new wr _ _⟩
         clear hS
         have hS := Hid.mk hS0
         clear hS0
         replace hQ := Hid.mk hQ
         replace hBx := Hid.mk hBx
         replace hL := Hid.mk hL.out
         generalize fsC L (fsE E E.length) k = s at *
         clear hI five
         rcases way_cases L[k].op with hy | hy | hy | hy | hy
         · have hres : fs3 k L[k] s = adS s ((k : Int) + 1) := by simp [fs3, fs2, fs1, hy, tgtB]
           rw [hres] at hstp
           replace hstp := Hid.mk hstp
           have etg : tgtB 4 = false := rfl
           clear hres
           generalize L[k].op = op at *
           generalize L[k].a = i1 at *
           generalize L[k].b = i2 at *
           generalize L[k].c = i3 at *
           generalize L[k].m = im at *
           go_wp2_with (first | (go_at_call 24; refine (hW.out _ _).mono ?_; rintro x w2 ⟨rfl, rfl⟩; rw [hy]) | (go_at_call 31; refine (hT.out _ _).mono ?_; rintro x w2 ⟨rfl, rfl⟩; (try rw [etg])) | (go_at_call 30; refine (hA.out _ _ _ hS.out.1.st).mono ?_; rintro x w3 ⟨rfl, q1, q2⟩; have hS1 := hQ.out _ _ _ _ hS.out q1 q2; clear q1 q2; obtain ⟨d1, d2, d3, d4⟩ := hBx.out _ _ hS1; replace hS1 := Hid.mk hS1))
           go_roundw
           all_goals first | exact ⟨k + 1, by simp, by omega, by unfold FI; rw [hstp.out]; exact Hid.mk hS1.out.1⟩ | (simp only [intOf]; omega)
         · have hres : fs3 k L[k] s = adS (fun _ => true) ((k : Int) + 1) := by simp [fs3, fs2, fs1, hy, tgtB]
           rw [hres] at hstp
           replace hstp := Hid.mk hstp
           have etg : tgtB 3 = false := rfl
           clear hres
           generalize L[k].op = op at *
           generalize L[k].a = i1 at *
           generalize L[k].b = i2 at *
           generalize L[k].c = i3 at *
           generalize L[k].m = im at *
           go_wp2_with (first | (go_at_call 24; refine (hW.out _ _).mono ?_; rintro x w2 ⟨rfl, rfl⟩; rw [hy]) | (go_at_call 31; refine (hT.out _ _).mono ?_; rintro x w2 ⟨rfl, rfl⟩; (try rw [etg])) | (go_at_call 30; refine (hA.out _ _ _ hS1.out.1.st).mono ?_; rintro x w4 ⟨rfl, q1, q2⟩; have hS2 := Hid.mk (hQ.out _ _ _ _ hS1.out q1 q2); clear q1 q2) | (go_at_call 57; refine (hF.out _ _ hS.out.1.st).mono ?_; rintro x w3 ⟨rfl, q1, q2⟩; have hS1 := hQ.out _ _ _ _ hS.out q1 q2; clear q1 q2; obtain ⟨d1, d2, d3, d4⟩ := hBx.out _ _ hS1; replace hS1 := Hid.mk hS1))
           go_roundw
           all_goals first | exact ⟨k + 1, by simp, by omega, by unfold FI; rw [hstp.out]; exact Hid.mk hS2.out.1⟩ | (simp only [intOf]; omega)
         · have hres : fs3 k L[k] s = adS (adS s L[k].m) ((k : Int) + 1) := by simp [fs3, fs2, fs1, hy, tgtB]
           rw [hres] at hstp
           replace hstp := Hid.mk hstp
           have etg : tgtB 1 = true := rfl
           clear hres
           generalize L[k].op = op at *
           generalize L[k].a = i1 at *
           generalize L[k].b = i2 at *
           generalize L[k].c = i3 at *
           generalize L[k].m = im at *
           go_wp2_with (first | (go_at_call 24; refine (hW.out _ _).mono ?_; rintro x w2 ⟨rfl, rfl⟩; rw [hy]) | (go_at_call 31; refine (hT.out _ _).mono ?_; rintro x w2 ⟨rfl, rfl⟩; (try rw [etg])) | (go_at_call 30; refine (hA.out _ _ _ hS1.out.1.st).mono ?_; rintro x w4 ⟨rfl, q1, q2⟩; have hS2 := Hid.mk (hQ.out _ _ _ _ hS1.out q1 q2); clear q1 q2) | (go_at_call 30; refine (hA.out _ _ _ hS.out.1.st).mono ?_; rintro x w3 ⟨rfl, q1, q2⟩; have hS1 := hQ.out _ _ _ _ hS.out q1 q2; clear q1 q2; obtain ⟨d1, d2, d3, d4⟩ := hBx.out _ _ hS1; replace hS1 := Hid.mk hS1))
           go_roundw
           all_goals first | exact ⟨k + 1, by simp, by omega, by unfold FI; rw [hstp.out]; exact Hid.mk hS2.out.1⟩ | (simp only [intOf]; omega)
         · have hres : fs3 k L[k] s = adS (adS s L[k].m) ((k : Int) + 1) := by simp [fs3, fs2, fs1, hy, tgtB]
           rw [hres] at hstp
           replace hstp := Hid.mk hstp
           have etg : tgtB 2 = true := rfl
           clear hres
           generalize L[k].op = op at *
           generalize L[k].a = i1 at *
           generalize L[k].b = i2 at *
           generalize L[k].c = i3 at *
           generalize L[k].m = im at *
           go_wp2_with (first | (go_at_call 24; refine (hW.out _ _).mono ?_; rintro x w2 ⟨rfl, rfl⟩; rw [hy]) | (go_at_call 31; refine (hT.out _ _).mono ?_; rintro x w2 ⟨rfl, rfl⟩; (try rw [etg])) | (go_at_call 30; refine (hA.out _ _ _ hS1.out.1.st).mono ?_; rintro x w4 ⟨rfl, q1, q2⟩; have hS2 := Hid.mk (hQ.out _ _ _ _ hS1.out q1 q2); clear q1 q2) | (go_at_call 30; refine (hA.out _ _ _ hS.out.1.st).mono ?_; rintro x w3 ⟨rfl, q1, q2⟩; have hS1 := hQ.out _ _ _ _ hS.out q1 q2; clear q1 q2; obtain ⟨d1, d2, d3, d4⟩ := hBx.out _ _ hS1; replace hS1 := Hid.mk hS1))
           go_roundw
           all_goals first | exact ⟨k + 1, by simp, by omega, by unfold FI; rw [hstp.out]; exact Hid.mk hS2.out.1⟩ | (simp only [intOf]; omega)
         · have hres : fs3 k L[k] s = s := by simp [fs3, fs2, fs1, hy, tgtB]
           rw [hres] at hstp
           replace hstp := Hid.mk hstp
           have etg : tgtB 0 = false := rfl
           clear hres
           generalize L[k].op = op at *
           generalize L[k].a = i1 at *
           generalize L[k].b = i2 at *
           generalize L[k].c = i3 at *
           generalize L[k].m = im at *
           go_wp2_with (first | (go_at_call 24; refine (hW.out _ _).mono ?_; rintro x w2 ⟨rfl, rfl⟩; rw [hy]) | (go_at_call 31; refine (hT.out _ _).mono ?_; rintro x w2 ⟨rfl, rfl⟩; (try rw [etg])))
           go_roundw
           all_goals first | exact ⟨k + 1, by simp, by omega, by unfold FI; rw [hstp.out]; exact Hid.mk hS.out.1⟩ | (simp only [intOf]; omega)
       · have hi1 : ¬ (k : Int) < L.length := by omega
         have ek : k = L.length := by omega
         subst ek
         have hR := at_below (At.new w #[.slice none 0 0, .int .i64 0] 94) hS.be (Nat.lt_succ_self _)
         have r0 : wr.cell? ⟨w.heap.size, 0, none⟩ = some (.slice none 0 0) := hR.2.1 0
         have r1 : wr.cell? ⟨w.heap.size, 1, none⟩ = some (.int .i64 0) := hR.2.1 1
         have r2 := hR.2.2
         have r3 := hR.1
         have hFin : ∀ a b, SIn ((wr.setCell ⟨w.heap.size, 0, none⟩ a).setCell ⟨w.heap.size, 1, none⟩ b) (w.heap.size + 2) L.length (firF L E) ∧ Below w.heap.size w ((wr.setCell ⟨w.heap.size, 0, none⟩ a).setCell ⟨w.heap.size, 1, none⟩ b) := fun a b =>
           ⟨sin_kp (sin_kp hS.st (Kp.set (S := fun q => q = w.heap.size) wr _ a rfl) (by omega)) (Kp.set (S := fun q => q = w.heap.size) _ _ b rfl) (by omega), (((hB0.out.trans (hS.be.mono (by omega))).setCell (Nat.le_refl _) a).setCell (Nat.le_refl _) b)⟩
         replace hS := Hid.mk hS
         replace hR := Hid.mk hR
         replace hFin := Hid.mk hFin
         clear hI
         go_wp2_with fail
         simp [bodyPost, results, Tryz.results32, go_sem, r0, r1]
         exact ⟨(hFin.out _ _).1, (hFin.out _ _).2⟩
end F
end Go.Proofs.YtfidlchgmgmcbaaGreatDoor


namespace Go.Proofs.YtfidlchgmgmcbaaGreatDoor
namespace F
open Go.RowKit
open T

structure Bk where
 f : Nat
 l : Nat
 nx : Value
def Bk.vals (b : Bk) : List Value := [.int .i64 b.f, .int .i64 b.l, b.nx]
def Bk.fl (b : Bk) : Nat × Nat := (b.f, b.l)
def bfl (R : List Bk) : List Value := R.flatMap Bk.vals
theorem bfl_len (R : List Bk) : (bfl R).length = R.length * 3 := by
 induction R with
 | nil => rfl
 | cons a l ih => simp only [bfl, List.flatMap_cons, List.length_append] at ih ⊢; rw [ih]; simp [Bk.vals]; omega
theorem bfl_app (R S : List Bk) : bfl (R ++ S) = bfl R ++ bfl S := by simp [bfl]
def BR (w : World) (lo : Nat) (v : Value) (R : List Bk) : Prop := w.ownsRow lo 69 3 v R.length (bfl R)
theorem BR.slice {w : World} {lo : Nat} {v : Value} {R : List Bk} (h : BR w lo v R) : ∃ a cap, v = .slice a R.length cap := by
 rcases h.2 with ⟨rfl, h0⟩ | ⟨g, cap, cur, rfl, _⟩
 · exact ⟨none, 0, by rw [h0]⟩
 · exact ⟨_, cap, rfl⟩
theorem BR.here {w : World} {lo : Nat} {v : Value} {R : List Bk} (h : BR w lo v R) (hR : R ≠ []) : ∃ g cap, v = .slice (some ⟨g, 0, none⟩) R.length cap ∧ lo ≤ g ∧ g < w.heap.size := by
 rcases h.2 with ⟨_, h0⟩ | ⟨g, cap, cur, hv, hb, hh, _⟩
 · exact absurd (List.length_eq_zero_iff.1 h0) hR
 · exact ⟨g, cap, hv, hb, (Array.getElem?_eq_some_iff.1 hh).1⟩
theorem bfl_at (R0 : List Bk) (x : Bk) (R1 : List Bk) (j : Nat) (hj : j < 3) : (bfl (R0 ++ x :: R1))[R0.length * 3 + j]? = x.vals[j]? := by
 rw [bfl_app, List.getElem?_append_right (by rw [bfl_len]; omega), bfl_len, Nat.add_sub_cancel_left]
 show (x.vals ++ bfl R1)[j]? = _
 rw [List.getElem?_append_left (by simp [Bk.vals]; omega)]
theorem bfl_set (R0 : List Bk) (x y : Bk) (R1 : List Bk) (j : Nat) (hj : j < 3) (v : Value) (hy : y.vals = x.vals.set j v) : (bfl (R0 ++ x :: R1)).set (R0.length * 3 + j) v = bfl (R0 ++ y :: R1) := by
 rw [bfl_app, bfl_app, List.set_append_right _ _ (by rw [bfl_len]; omega), bfl_len, Nat.add_sub_cancel_left]
 congr 1
 show (x.vals ++ bfl R1).set j v = y.vals ++ bfl R1
 rw [List.set_append_left _ _ (by simp [Bk.vals]; omega), hy]
theorem BR.cell {w : World} {lo g n cap : Nat} {R0 R1 : List Bk} {x : Bk} (h : BR w lo (.slice (some ⟨g, 0, none⟩) n cap) (R0 ++ x :: R1)) (j : Nat) (hj : j < 3) : w.cell? ⟨g, R0.length * 3 + j, none⟩ = x.vals[j]? := by
 have hv : x.vals[j]? = some (x.vals[j]'(by simpa [Bk.vals] using hj)) := by simp
 have hc := World.ownsRow.cells h (g := g) rfl (R0.length * 3 + j) (x.vals[j]'(by simpa [Bk.vals] using hj)) (by rw [bfl_at R0 x R1 j hj, hv])
 rw [addr_add, Nat.zero_add] at hc
 rw [hc, hv]
theorem BR.put {w : World} {lo g cap : Nat} {R0 R1 : List Bk} {x : Bk} (h : BR w lo (.slice (some ⟨g, 0, none⟩) (R0 ++ x :: R1).length cap) (R0 ++ x :: R1)) (y : Bk) (j : Nat) (hj : j < 3) (v : Value) (hy : y.vals = x.vals.set j v) :
   BR (w.setCell ⟨g, R0.length * 3 + j, none⟩ v) lo (.slice (some ⟨g, 0, none⟩) (R0 ++ x :: R1).length cap) (R0 ++ y :: R1) := by
 have := (World.ownsRow.stored h (R0.length * 3 + j) v).1
 rw [bfl_set R0 x y R1 j hj v hy] at this
 have e : (R0 ++ y :: R1).length = (R0 ++ x :: R1).length := by simp
 unfold BR
 rw [e]
 exact this
theorem wpList_append_blk {ops : Array Oper} {rest : List Oper} {o : Oper} {a : Act} {Q : Exit → Act → World → Prop} {w : World} (hgd : o.guard = none) (s x : Operand)
   (ho : o.op = .call { callee := .builtin .append, args := #[s, x], argTypes := #[65, 65] })
   (base : Nat) (v : Value) (R : List Bk) (y : Bk) (hs : a.eval s = v) (hR : BR w base v R)
   (X : Nat) (hx : a.eval x = .slice (some ⟨X, 0, none⟩) 1 1) (hX : At w X y.vals.toArray) (h1 : y.nx.oneCell' = true) (hlen : R.length ≤ 8000000) (hbase : base ≤ w.heap.size)
   (h : ∀ g cap w', BR w' base (.slice (some ⟨g, 0, none⟩) (R.length + 1) cap) (R ++ [y]) → w.grownBy w' v.ownBlock → (v.ownBlock = some g ∨ g = w.heap.size) → g < w'.heap.size → wpList Tryz.prog ops Q rest (a.put o.dst (.slice (some ⟨g, 0, none⟩) (R.length + 1) cap)) w') :
   wpList Tryz.prog ops Q (o :: rest) a w := by
 obtain ⟨i0, hi, hz0, hz1, hz2⟩ := info_parts' (t := 69) (z := .agg #[.int .i64 0, .int .i64 0, .slice none 0 0]) (s := 3) (b := 40) (by kernel_rfl)
 have hn : ∀ j u, y.vals[j]? = some u → w.cell? ((⟨X, 0, none⟩ : Addr).add j) = some u := by
   intro j u hj
   rw [addr_add, hX.2.1]
   simpa using hj
 refine wpList_append_lies _ hgd s x 65 ho base 69 i0 (.agg #[.int .i64 0, .int .i64 0, .slice none 0 0]) 3 40 Tryz.underlying65 hi hz0 hz1 hz2 rfl (by decide) v R.length (bfl R) hs hR ⟨X, 0, none⟩ 1 1 y.vals hx rfl hn (fun u hu => by simp only [Bk.vals, List.mem_cons, List.not_mem_nil, or_false] at hu; rcases hu with rfl | rfl | rfl; (rfl); (rfl); exact h1) (by decide) (by unfold maxLen; omega) (by omega) hbase _ rfl ?_
 intro g cap w' h1 h2 h3 h4
 refine h g cap w' ?_ h2 h3 h4
 have e : bfl R ++ y.vals = bfl (R ++ [y]) := by rw [bfl_app]; simp [bfl]
 rw [e] at h1
 unfold BR
 rw [List.length_append]
 exact h1
def upL (j : Nat) : List (Nat × Nat) → List (Nat × Nat)
 | [] => []
 | [(a, _)] => [(a, j)]
 | x :: y :: r => x :: upL j (y :: r)
theorem upL_app (j : Nat) : ∀ (R : List (Nat × Nat)) (a b : Nat), upL j (R ++ [(a, b)]) = R ++ [(a, j)]
 | [], a, b => rfl
 | [x], a, b => rfl
 | x :: y :: r, a, b => by
   have := upL_app j (y :: r) a b
   show x :: upL j (y :: (r ++ [(a, b)])) = _
   rw [show y :: (r ++ [(a, b)]) = (y :: r) ++ [(a, b)] from rfl, this]
   rfl
def blF (f : Nat → Bool) : Nat → List (Nat × Nat)
 | 0 => []
 | j + 1 => if f j = true then blF f j ++ [(j, j)] else upL j (blF f j)
theorem blF_ne (f : Nat → Bool) (h0 : f 0 = true) : ∀ j, 0 < j → blF f j ≠ []
 | 1, _ => by simp [blF, h0]
 | j + 2, _ => by
   have := blF_ne f h0 (j + 1) (by omega)
   rw [blF]
   split
   · simp
   · intro e
     rcases List.eq_nil_or_concat (blF f (j + 1)) with r | ⟨R, x, r⟩
     · exact this r
     · rw [r, List.concat_eq_append] at e
       obtain ⟨a, b⟩ := x
       rw [upL_app] at e
       simp at e
theorem upL_len (j : Nat) (R : List (Nat × Nat)) : (upL j R).length = R.length := by
 rcases List.eq_nil_or_concat R with r | ⟨S, x, r⟩
 · subst r; rfl
 · subst r
   obtain ⟨a, b⟩ := x
   rw [List.concat_eq_append, upL_app]; simp
theorem blF_len (f : Nat → Bool) : ∀ j, (blF f j).length ≤ j
 | 0 => by simp [blF]
 | j + 1 => by
   have := blF_len f j
   rw [blF]
   split
   · simp; omega
   · rw [upL_len]; omega
theorem fir_zero (L : List Ins) (E : List Int) : firF L E 0 = true := by
 have h1 : ∀ (E : List Int) (s : Nat → Bool), s 0 = true → (E.foldl adS s) 0 = true := by
   intro E
   induction E with
   | nil => exact fun s h => h
   | cons x E ih => exact fun s h => ih _ (by simp [adS, h])
 have h2 : ∀ j, fsC L (fsE E E.length) j 0 = true := by
   intro j
   induction j with
   | zero => exact h1 _ _ (by simp [adS])
   | succ j ih =>
     rw [fsC]
     cases L[j]? with
     | none => exact ih
     | some i =>
       show fs3 j i (fsC L (fsE E E.length) j) 0 = true
       have g1 : fs1 i (fsC L (fsE E E.length) j) 0 = true := by unfold fs1; split <;> simp [ih]
       have g2 : fs2 i (fsC L (fsE E E.length) j) 0 = true := by unfold fs2; split <;> simp [adS, g1]
       unfold fs3
       split
       · exact g2
       · simp [adS, g2]
 exact h2 L.length
end F
end Go.Proofs.YtfidlchgmgmcbaaGreatDoor
