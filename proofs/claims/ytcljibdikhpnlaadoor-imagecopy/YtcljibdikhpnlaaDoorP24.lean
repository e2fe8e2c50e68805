import Derived.Test.YtcljibdikhpnlaaDoorP23
import Derived.Test.YtcljibdikhpnlaaDoorP18
import Derived.Test.YtcljibdikhpnlaaDoorP20
import Derived.Test.YtcljibdikhpnlaaDoorP15
/-
  Stage 4, image: the examples at the head of each statement.
-/
namespace Go.Proofs.YtcljibdikhpnlaaDoor
open Go.RowKit

theorem least_has : hasI leastP.comps 0 0 = true := by decide
set_option maxRecDepth 10000 in
set_option maxHeartbeats 1000000 in
theorem CodeCap_least (g g2 c c2 : Nat) (w : World) (hI : ImgIn w.heap.size w none (some ⟨g, 0, none⟩) (some ⟨g2, 0, none⟩) leastP) :
    Calls Tryd.prog 14 #[.agg #[.slice none 0 0, .slice (some ⟨g, 0, none⟩) 1 c, .slice (some ⟨g2, 0, none⟩) 1 c2, .int .i64 1], .int .i64 0, .int .i64 0] w fun x w' => x = .returned (.tuple #[.agg #[.int .u64 1048576, .int .u64 1048584, .int .u64 1048576, .int .u8 16, .int .i64 0], .bool true]) ∧ Gr w w' := by
  have hh := fun W (h : CompIn W.heap.size W (some ⟨g, 0, none⟩) leastP.comps) => hasInst_any leastP 0 0 none (some ⟨g, 0, none⟩) (some ⟨g2, 0, none⟩) 0 0 c 1 c2 W h
  rw [least_has] at hh
  have hg : ∀ W, Gr w W → CompIn W.heap.size W (some ⟨g, 0, none⟩) leastP.comps := fun W h => (hI.comps.below h.below).mono (gr_size h)
  obtain ⟨b, off, ra, rc, ka, kc, e, _, hb, _, c1, _, _⟩ := hI.comps 0 (by decide)
  cases e
  clear hI
  go_enter Tryd.func14, Tryd.ntmps14
  go_wp2_with fail
  have hG0 : Gr w ((w.alloc (.cells #[.slice none 0 0, .slice (some ⟨g, 0, none⟩) 1 c, .slice (some ⟨g2, 0, none⟩) 1 c2, .int .i64 1] 26)).alloc (.cells #[.int .u64 0, .int .u64 0, .int .u64 0, .int .u8 0, .int .i64 0] 41)) := ((Gr.refl w).alloc _).alloc _
  have M : Box ((w.alloc (.cells #[.slice none 0 0, .slice (some ⟨g, 0, none⟩) 1 c, .slice (some ⟨g2, 0, none⟩) 1 c2, .int .i64 1] 26)).alloc (.cells #[.int .u64 0, .int .u64 0, .int .u64 0, .int .u8 0, .int .i64 0] 41)) w.heap.size #[.slice none 0 0, .slice (some ⟨g, 0, none⟩) 1 c, .slice (some ⟨g2, 0, none⟩) 1 c2, .int .i64 1] 26 := (Box.new w _ _).alloc _
  have X : Box ((w.alloc (.cells #[.slice none 0 0, .slice (some ⟨g, 0, none⟩) 1 c, .slice (some ⟨g2, 0, none⟩) 1 c2, .int .i64 1] 26)).alloc (.cells #[.int .u64 0, .int .u64 0, .int .u64 0, .int .u8 0, .int .i64 0] 41)) (w.heap.size + 1) #[.int .u64 0, .int .u64 0, .int .u64 0, .int .u8 0, .int .i64 0] 41 := Box.next _ _ _ _
  refine (hh _ (hg _ hG0)).mono ?_
  rintro x w1 ⟨rfl, hG⟩
  replace M := M.gr hG
  replace X := X.gr hG
  replace hG := hG0.trans hG
  replace c1 := (hG.cell hb _).trans c1
  have ⟨z0, p0, f0⟩ := M.at
  have ⟨z1, p1, f1⟩ := X.at
  have hln : (0 : Int) < 1 := by omega
  clear hh hg hG0
  replace M := Hid.mk M
  replace X := Hid.mk X
  replace hG := Hid.mk hG
  have c1' : w1.cell? ⟨g, 1, none⟩ = some (.slice ka 1 kc) := c1
  clear c1
  go_wp2_with fail
  have b4 := (((((X.out.set 0 (.int .u64 1048576)).set 1 (.int .u64 1048584)).set 2 (.int .u64 1048576)).set 3 (.int .u8 16)).set 4 (.int .i64 0))
  have hG4 := (((((hG.out.setCell (w.heap.size + 1) 0 (.int .u64 1048576) (by omega)).setCell (w.heap.size + 1) 1 (.int .u64 1048584) (by omega)).setCell (w.heap.size + 1) 2 (.int .u64 1048576) (by omega)).setCell (w.heap.size + 1) 3 (.int .u8 16) (by omega)).setCell (w.heap.size + 1) 4 (.int .i64 0) (by omega))
  have ⟨_, q4, _⟩ := b4.at
  clear z0 p0 f0 z1 p1 f1 X M hG b4 c1' hb
  generalize (((((w1.setCell ⟨w.heap.size + 1, 0, none⟩ (.int .u64 1048576)).setCell ⟨w.heap.size + 1, 1, none⟩ (.int .u64 1048584)).setCell ⟨w.heap.size + 1, 2, none⟩ (.int .u64 1048576)).setCell ⟨w.heap.size + 1, 3, none⟩ (.int .u8 16)).setCell ⟨w.heap.size + 1, 4, none⟩ (.int .i64 0)) = W4 at *
  simp [bodyPost, results, Tryd.results14, go_sem, q4]
  exact hG4
set_option maxHeartbeats 400000 in
theorem num_any (e : Int) (w : World) : Calls Tryd.prog 15 #[.int .i64 e] w fun x w' => x = .returned (.int .i64 e) ∧ w = w' := by
  go_enter Tryd.func15, Tryd.ntmps15
  go_wp2_with fail
  go_ret
  exact ⟨rfl, rfl⟩
set_option maxRecDepth 10000 in
set_option maxHeartbeats 2000000 in
theorem examples_any (w : World) (ht : TabIn w) :
    Calls Tryd.prog 4 #[] w fun x w' => x = .returned (.bool true) ∧ Below w.heap.size w w' := by
  have hE := fun g g2 W h0 (h1 : ImgIn W.heap.size W none (some ⟨g, 0, none⟩) (some ⟨g2, 0, none⟩) leastP) => imgEncode_any leastP none (some ⟨g, 0, none⟩) (some ⟨g2, 0, none⟩) 0 1 1 W h0 h1 least_rng
  rw [least_enc] at hE
  have hD := Decode_least
  have ss : (str leastS).size = 26 := rfl
  have h2 := ht.size
  have hT : ∀ W, Below w.heap.size w W → TabIn W := fun W h => ht.below h h2
  go_enter Tryd.func4, Tryd.ntmps4
  go_wp2_with fail
  refine (least_any _).mono ?_
  rintro x w1 ⟨g, g2, rfl, hI, hG⟩
  go_wp2_with fail
  refine (hE g g2 _ (hT _ hG.below) hI).mono ?_
  rintro x w2 ⟨rfl, hB2⟩
  have hB : Below w.heap.size w w2 := hG.below.trans (hB2.mono (gr_size hG))
  clear hI hG hB2 hE
  go_wp2_with fail
  refine (hD _ (hT _ hB)).mono ?_
  rintro x w3 ⟨ca, cc, ga, gc, rfl, hB3⟩
  replace hB := hB.trans (hB3.mono hB.size)
  clear hB3 hD
  go_wp2_with fail
  have M : Box (w3.alloc (.cells #[.slice none 0 0, .slice ca 1 cc, .slice ga 1 gc, .int .i64 1] 26)) w3.heap.size #[.slice none 0 0, .slice ca 1 cc, .slice ga 1 gc, .int .i64 1] 26 := Box.new _ _ _
  refine (least_any _).mono ?_
  rintro x w4 ⟨k, k2, rfl, hI, hG⟩
  replace M := M.gr hG
  replace hB := hB.trans (hG.of_alloc.below.mono hB.size)
  clear hG
  go_wp2_with fail
  refine (CodeCap_least k k2 1 1 _ hI).mono ?_
  rintro x w5 ⟨rfl, hG⟩
  replace M := M.gr hG
  replace hB := hB.trans (hG.below.mono hB.size)
  clear hG hI
  have ⟨z0, p0, f0⟩ := (M.alloc (.cells #[.int .u64 1048576, .int .u64 1048584, .int .u64 1048576, .int .u8 16, .int .i64 0] 41)).at
  generalize leastS = S at *
  replace hB := Hid.mk (hB.alloc hB.size (.cells #[.int .u64 1048576, .int .u64 1048584, .int .u64 1048576, .int .u8 16, .int .i64 0] 41))
  replace hT := Hid.mk hT
  clear M
  go_wp2_with (go_at_call 15; refine (num_any _ _).mono ?_; rintro x w' ⟨rfl, rfl⟩)
  go_ret
  exact ⟨rfl, hB.out⟩
end Go.Proofs.YtcljibdikhpnlaaDoor


/-
  Stage 4, image: two programs, compared, as the document has it.
-/
namespace Go.Proofs.YtcljibdikhpnlaaDoor
open Go.RowKit

def eqL {α : Type} (f : α → α → Bool) : List α → List α → Bool
  | [], [] => true
  | a :: l, b :: m => f a b && eqL f l m
  | [], _ :: _ => false
  | _ :: _, [] => false
theorem eqL_iff {α : Type} {f : α → α → Bool} (hf : ∀ a b, f a b = true ↔ a = b) : ∀ L M : List α, eqL f L M = true ↔ L = M
  | [], [] => by simp [eqL]
  | [], _ :: _ => by simp [eqL]
  | _ :: _, [] => by simp [eqL]
  | a :: l, b :: m => by simp [eqL, hf, eqL_iff hf l m]
def PTyp.eqB (a b : PTyp) : Bool := (a.cap == b.cap) && decide (a.b = b.b) && decide (a.e = b.e) && decide (a.lo = b.lo) && decide (a.hi = b.hi) && decide (a.p = b.p) && decide (a.s = b.s)
def PSlot.eqB (a b : PSlot) : Bool := a.t.eqB b.t && decide (a.c = b.c)
def PRoot.eqB (a b : PRoot) : Bool := decide (a.r = b.r) && decide (a.b = b.b) && decide (a.e = b.e) && decide (a.c = b.c) && decide (a.p = b.p) && decide (a.s = b.s)
theorem PTyp.eqB_iff (a b : PTyp) : a.eqB b = true ↔ a = b := by
  cases a; cases b; simp [PTyp.eqB, and_assoc]
theorem PSlot.eqB_iff (a b : PSlot) : a.eqB b = true ↔ a = b := by
  cases a; cases b; simp [PSlot.eqB, PTyp.eqB_iff]
theorem PRoot.eqB_iff (a b : PRoot) : a.eqB b = true ↔ a = b := by
  cases a; cases b; simp [PRoot.eqB, and_assoc]
def PReg.eqB (a b : PReg) : Bool := decide (a.b = b.b) && decide (a.n = b.n) && decide (a.data = b.data) && eqL PSlot.eqB a.slots b.slots
def PComp.eqB (a b : PComp) : Bool := eqL PRoot.eqB a.roots b.roots && eqL Ins.eqB a.code b.code
def PGate.eqB (a b : PGate) : Bool := decide (a.c = b.c) && decide (a.e = b.e) && eqL PTyp.eqB a.args b.args && eqL PTyp.eqB a.res b.res
theorem PReg.eqB_iff (a b : PReg) : a.eqB b = true ↔ a = b := by
  cases a; cases b; simp [PReg.eqB, eqL_iff PSlot.eqB_iff, and_assoc]
theorem PComp.eqB_iff (a b : PComp) : a.eqB b = true ↔ a = b := by
  cases a; cases b; simp [PComp.eqB, eqL_iff PRoot.eqB_iff, eqL_iff Ins.eqB_iff]
theorem PGate.eqB_iff (a b : PGate) : a.eqB b = true ↔ a = b := by
  cases a; cases b; simp [PGate.eqB, eqL_iff PTyp.eqB_iff, and_assoc]
def PImg.eqB (a b : PImg) : Bool := eqL PReg.eqB a.regs b.regs && eqL PComp.eqB a.comps b.comps && eqL PGate.eqB a.gates b.gates && decide (a.depth = b.depth)
theorem PImg.eqB_iff (a b : PImg) : a.eqB b = true ↔ a = b := by
  cases a; cases b; simp [PImg.eqB, eqL_iff PReg.eqB_iff, eqL_iff PComp.eqB_iff, eqL_iff PGate.eqB_iff, and_assoc]
theorem eqb_yes {α : Type} {f : α → α → Bool} (hf : ∀ a b, f a b = true ↔ a = b) {a b : α} (h : a = b) : Ending.returned (.bool true) = .returned (.bool (f a b)) := by rw [(hf a b).2 h]
theorem eqb_no {α : Type} {f : α → α → Bool} (hf : ∀ a b, f a b = true ↔ a = b) {a b : α} (h : a ≠ b) : Ending.returned (.bool false) = .returned (.bool (f a b)) := by
  cases e : f a b with
  | false => rfl
  | true => exact absurd ((hf a b).1 e) h
theorem ins_cells {w : World} {b o : Nat} {k : Ins} (h : Five w b o k) : w.cell? ⟨b, o, none⟩ = some (.int .u8 k.op) ∧ w.cell? ⟨b, o + 1, none⟩ = some (.int .i64 k.a) ∧ w.cell? ⟨b, o + 1 + 1, none⟩ = some (.int .i64 k.b) ∧ w.cell? ⟨b, o + 1 + 1 + 1, none⟩ = some (.int .i64 k.c) ∧ w.cell? ⟨b, o + 1 + 1 + 1 + 1, none⟩ = some (.int .i64 k.m) := h
theorem lin_at {B : Nat} {w : World} {a : Option Addr} {L : List Ins} (h : LIn B w a L) (i : Nat) (hi : i < L.length) : ∃ b off : Nat, a = some ⟨b, off, none⟩ ∧ b < B ∧ b < w.heap.size ∧ Five w b (off + i * 5) L[i] := h i hi
set_option maxRecDepth 10000 in
set_option maxHeartbeats 4000000 in
theorem sameTypes_any (L M : List PTyp) (cl cm : Nat) (al am : Option Addr) (w : World) (hL : FIn 7 PTyp.vals w.heap.size w al L) (hM : FIn 7 PTyp.vals w.heap.size w am M) (hl : L.length ≤ maxG) :
    Calls Tryd.prog 26 #[.slice al L.length cl, .slice am M.length cm] w fun x w' => x = .returned (.bool (eqL PTyp.eqB L M)) ∧ Gr w w' := by
  have hl1 : (L.length : Int) ≤ 140737488355328 := by unfold maxG at hl; omega
  replace hL := Hid.mk hL
  replace hM := Hid.mk hM
  by_cases hlen : L.length = M.length
  · have g : ((L.length : Int) != M.length) = false := by simp; omega
    go_enter Tryd.func26, Tryd.ntmps26
    go_wp2_with fail
    replace hlen := Hid.mk hlen
    go_loopw [5] (fun i wr => ∃ j : Nat, i = .int .i64 j ∧ j ≤ L.length ∧ Hid (L.take j = M.take j ∧ Gr w wr)) (fun i _ => L.length - (intOf i).toNat)
    case atStart => exact ⟨0, rfl, by have := hlen.out; omega, ⟨rfl, Gr.refl _⟩⟩
    case round =>
      obtain ⟨j, rfl, hj, ⟨hf, hG⟩⟩ := hrel
      by_cases hlt : j < L.length
      · have jl : (j : Int) < L.length := by have := hlen.out; omega
        have jm : (j : Int) < M.length := by have := hlen.out; omega
        have hltm : j < M.length := by have := hlen.out; omega
        obtain ⟨b, off, rfl, hb, hb2, cc⟩ := (hL.out.below (hG.below.mono (Nat.le_refl _))) j hlt
        obtain ⟨b', off', rfl, hb', hb2', dd⟩ := (hM.out.below (hG.below.mono (Nat.le_refl _))) j hltm
        obtain ⟨c0, c1, c2, c3, c4, c5, c6⟩ := typ_cells cc
        obtain ⟨d0, d1, d2, d3, d4, d5, d6⟩ := typ_cells dd
        clear cc dd
        have hnx : L[j] = M[j] → L.take (j + 1) = M.take (j + 1) := fun h => by
          rw [List.take_succ_eq_append_getElem hlt, List.take_succ_eq_append_getElem hltm, hf, h]
        have hne : L[j] ≠ M[j] → L ≠ M := fun h e => h (by simp only [e])
        generalize L[j] = k at *
        generalize M[j] = m at *
        replace hf := Hid.mk hf
        replace hG := Hid.mk hG
        by_cases hkm : k = m
        · subst hkm
          replace hnx := Hid.mk (hnx rfl)
          clear hne
          go_wp2_with fail
          go_quiet (fail)
          go_wp2_with fail
          go_roundw
          case rel => exact ⟨j + 1, by simp, by have := hlen.out; omega, ⟨hnx.out, hG.out.drewN _⟩⟩
          case measure => simp [intOf]; omega
        · replace hne := Hid.mk (hne hkm)
          clear hnx
          have hkm2 : ¬ (k.cap = m.cap ∧ k.b = m.b ∧ k.e = m.e ∧ k.lo = m.lo ∧ k.hi = m.hi ∧ k.p = m.p ∧ k.s = m.s) := fun h => hkm (by
            cases k; cases m; simp only [PTyp.mk.injEq]; exact h)
          clear hkm
          by_cases q0 : k.cap = m.cap
          · skip
            by_cases q1 : k.b = m.b
            · skip
              by_cases q2 : k.e = m.e
              · skip
                by_cases q3 : k.lo = m.lo
                · skip
                  by_cases q4 : k.hi = m.hi
                  · skip
                    by_cases q5 : k.p = m.p
                    · skip
                      have q6 : ¬ k.s = m.s := fun h => hkm2 ⟨q0, q1, q2, q3, q4, q5, h⟩
                      clear hkm2
                      go_wp2_with fail
                      go_quiet (fail)
                      go_wp2_with fail
                      go_ret
                      exact ⟨eqb_no (eqL_iff PTyp.eqB_iff) hne.out, hG.out.drewN _⟩
                    · clear hkm2
                      go_wp2_with fail
                      go_quiet (fail)
                      go_wp2_with fail
                      go_ret
                      exact ⟨eqb_no (eqL_iff PTyp.eqB_iff) hne.out, hG.out.drewN _⟩
                  · clear hkm2
                    go_wp2_with fail
                    go_quiet (fail)
                    go_wp2_with fail
                    go_ret
                    exact ⟨eqb_no (eqL_iff PTyp.eqB_iff) hne.out, hG.out.drewN _⟩
                · clear hkm2
                  go_wp2_with fail
                  go_quiet (fail)
                  go_wp2_with fail
                  go_ret
                  exact ⟨eqb_no (eqL_iff PTyp.eqB_iff) hne.out, hG.out.drewN _⟩
              · clear hkm2
                go_wp2_with fail
                go_quiet (fail)
                go_wp2_with fail
                go_ret
                exact ⟨eqb_no (eqL_iff PTyp.eqB_iff) hne.out, hG.out.drewN _⟩
            · clear hkm2
              go_wp2_with fail
              go_quiet (fail)
              go_wp2_with fail
              go_ret
              exact ⟨eqb_no (eqL_iff PTyp.eqB_iff) hne.out, hG.out.drewN _⟩
          · clear hkm2
            go_wp2_with fail
            go_quiet (fail)
            go_wp2_with fail
            go_ret
            exact ⟨eqb_no (eqL_iff PTyp.eqB_iff) hne.out, hG.out.drewN _⟩
      · have jl : ¬ (j : Int) < L.length := by have := hlen.out; omega
        have e : L = M := by
          rw [List.take_of_length_le (by have := hlen.out; omega), List.take_of_length_le (by have := hlen.out; omega)] at hf
          exact hf
        replace e := Hid.mk e
        clear hf hlt hj
        replace hG := Hid.mk hG
        go_wp2_with fail
        go_ret
        exact ⟨eqb_yes (eqL_iff PTyp.eqB_iff) e.out, hG.out⟩
  · have g : ((L.length : Int) != M.length) = true := by simp; omega
    have e : L ≠ M := fun e => hlen (by rw [e])
    replace hlen := Hid.mk hlen
    replace e := Hid.mk e
    go_enter Tryd.func26, Tryd.ntmps26
    go_wp2_with fail
    go_ret
    exact ⟨eqb_no (eqL_iff PTyp.eqB_iff) e.out, Gr.refl w⟩
set_option maxRecDepth 10000 in
set_option maxHeartbeats 4000000 in
theorem sameRegion_any (x y : PReg) (cl cm : Nat) (al am : Option Addr) (w : World) (hL : FIn 8 PSlot.vals w.heap.size w al x.slots) (hM : FIn 8 PSlot.vals w.heap.size w am y.slots) (hl : x.slots.length ≤ maxG) :
    Calls Tryd.prog 24 #[.agg #[.int .u64 x.b, .int .u64 x.n, .string (str x.data), .slice al x.slots.length cl], .agg #[.int .u64 y.b, .int .u64 y.n, .string (str y.data), .slice am y.slots.length cm]] w fun r w' => r = .returned (.bool (x.eqB y)) ∧ Gr w w' := by
  obtain ⟨b1, n1, d1, L⟩ := x
  obtain ⟨b2, n2, d2, M⟩ := y
  simp only at *
  have hl1 : (L.length : Int) ≤ 140737488355328 := by unfold maxG at hl; omega
  replace hL := Hid.mk hL
  replace hM := Hid.mk hM
  by_cases h : b1 = b2 ∧ n1 = n2 ∧ d1 = d2
  · obtain ⟨rfl, rfl, rfl⟩ := h
    by_cases hlen : L.length = M.length
    · have g : ((L.length : Int) != M.length) = false := by simp; omega
      replace hlen := Hid.mk hlen
      have hGR : Gr w ((w.alloc (.cells #[.int .u64 b1, .int .u64 n1, .string (str d1), .slice al L.length cl] 47)).alloc (.cells #[.int .u64 b1, .int .u64 n1, .string (str d1), .slice am M.length cm] 47)) := ((Gr.refl w).alloc _).alloc _
      have BA : Box ((w.alloc (.cells #[.int .u64 b1, .int .u64 n1, .string (str d1), .slice al L.length cl] 47)).alloc (.cells #[.int .u64 b1, .int .u64 n1, .string (str d1), .slice am M.length cm] 47)) w.heap.size #[.int .u64 b1, .int .u64 n1, .string (str d1), .slice al L.length cl] 47 := (Box.new w _ _).alloc _
      have BB : Box ((w.alloc (.cells #[.int .u64 b1, .int .u64 n1, .string (str d1), .slice al L.length cl] 47)).alloc (.cells #[.int .u64 b1, .int .u64 n1, .string (str d1), .slice am M.length cm] 47)) (w.heap.size + 1) #[.int .u64 b1, .int .u64 n1, .string (str d1), .slice am M.length cm] 47 := Box.next _ _ _ _
      replace hGR := Hid.mk hGR
      replace BA := Hid.mk BA
      replace BB := Hid.mk BB
      go_enter Tryd.func24, Tryd.ntmps24
      go_wp2_with fail
      generalize (w.alloc (.cells #[.int .u64 b1, .int .u64 n1, .string (str d1), .slice al L.length cl] 47)).alloc (.cells #[.int .u64 b1, .int .u64 n1, .string (str d1), .slice am M.length cm] 47) = R0 at *
      replace hL := Hid.mk ((hL.out.below hGR.out.below).mono (gr_size hGR.out))
      replace hM := Hid.mk ((hM.out.below hGR.out.below).mono (gr_size hGR.out))
      go_loopw [5] (fun i wr => ∃ j : Nat, i = .int .i64 j ∧ j ≤ L.length ∧ Hid (L.take j = M.take j ∧ Gr R0 wr)) (fun i _ => L.length - (intOf i).toNat)
      case atStart => exact ⟨0, rfl, by have := hlen.out; omega, ⟨rfl, Gr.refl _⟩⟩
      case round =>
        obtain ⟨j, rfl, hj, ⟨hf, hG⟩⟩ := hrel
        have BA1 := BA.out.gr hG
        have BB1 := BB.out.gr hG
        have ⟨z0, p0, f0⟩ := BA1.at
        have ⟨z1, p1, f1⟩ := BB1.at
        replace BA1 := Hid.mk BA1
        replace BB1 := Hid.mk BB1
        by_cases hlt : j < L.length
        · have jl : (j : Int) < L.length := by have := hlen.out; omega
          have jm : (j : Int) < M.length := by have := hlen.out; omega
          have hltm : j < M.length := by have := hlen.out; omega
          obtain ⟨b, off, rfl, hb, hb2, cc⟩ := (hL.out.below (hG.below.mono (Nat.le_refl _))) j hlt
          obtain ⟨b', off', rfl, hb', hb2', dd⟩ := (hM.out.below (hG.below.mono (Nat.le_refl _))) j hltm
          obtain ⟨c0, c1, c2, c3, c4, c5, c6, c7⟩ := slot_cells cc
          obtain ⟨d0, d1, d2, d3, d4, d5, d6, d7⟩ := slot_cells dd
          clear cc dd
          have hnx : L[j] = M[j] → L.take (j + 1) = M.take (j + 1) := fun h => by
            rw [List.take_succ_eq_append_getElem hlt, List.take_succ_eq_append_getElem hltm, hf, h]
          have hne : L[j] ≠ M[j] → L ≠ M := fun h e => h (by simp only [e])
          generalize L[j] = k at *
          generalize M[j] = m at *
          replace hf := Hid.mk hf
          replace hG := Hid.mk hG
          by_cases hkm : k = m
          · subst hkm
            replace hnx := Hid.mk (hnx rfl)
            clear hne
            go_wp2_with fail
            go_quiet (fail)
            go_wp2_with fail
            go_roundw
            case rel => exact ⟨j + 1, by simp, by have := hlen.out; omega, ⟨hnx.out, hG.out.drewN _⟩⟩
            case measure => simp [intOf]; omega
          · replace hne := Hid.mk (hne hkm)
            clear hnx
            have hkm2 : ¬ (k.t.cap = m.t.cap ∧ k.t.b = m.t.b ∧ k.t.e = m.t.e ∧ k.t.lo = m.t.lo ∧ k.t.hi = m.t.hi ∧ k.t.p = m.t.p ∧ k.t.s = m.t.s ∧ k.c = m.c) := fun h => hkm (by
              obtain ⟨⟨_, _, _, _, _, _, _⟩, _⟩ := k; obtain ⟨⟨_, _, _, _, _, _, _⟩, _⟩ := m
              simp only at h
              simp only [PSlot.mk.injEq, PTyp.mk.injEq]
              obtain ⟨a0, a1, a2, a3, a4, a5, a6, a7⟩ := h
              exact ⟨⟨a0, a1, a2, a3, a4, a5, a6⟩, a7⟩)
            clear hkm
            by_cases q0 : k.t.cap = m.t.cap
            · skip
              by_cases q1 : k.t.b = m.t.b
              · skip
                by_cases q2 : k.t.e = m.t.e
                · skip
                  by_cases q3 : k.t.lo = m.t.lo
                  · skip
                    by_cases q4 : k.t.hi = m.t.hi
                    · skip
                      by_cases q5 : k.t.p = m.t.p
                      · skip
                        by_cases q6 : k.t.s = m.t.s
                        · skip
                          have q7 : ¬ k.c = m.c := fun h => hkm2 ⟨q0, q1, q2, q3, q4, q5, q6, h⟩
                          clear hkm2
                          go_wp2_with fail
                          go_quiet (fail)
                          go_wp2_with fail
                          go_ret
                          exact ⟨eqb_no PReg.eqB_iff (fun e => hne.out (congrArg PReg.slots e)), (hGR.out.trans hG.out).drewN _⟩
                        · clear hkm2
                          go_wp2_with fail
                          go_quiet (fail)
                          go_wp2_with fail
                          go_ret
                          exact ⟨eqb_no PReg.eqB_iff (fun e => hne.out (congrArg PReg.slots e)), (hGR.out.trans hG.out).drewN _⟩
                      · clear hkm2
                        go_wp2_with fail
                        go_quiet (fail)
                        go_wp2_with fail
                        go_ret
                        exact ⟨eqb_no PReg.eqB_iff (fun e => hne.out (congrArg PReg.slots e)), (hGR.out.trans hG.out).drewN _⟩
                    · clear hkm2
                      go_wp2_with fail
                      go_quiet (fail)
                      go_wp2_with fail
                      go_ret
                      exact ⟨eqb_no PReg.eqB_iff (fun e => hne.out (congrArg PReg.slots e)), (hGR.out.trans hG.out).drewN _⟩
                  · clear hkm2
                    go_wp2_with fail
                    go_quiet (fail)
                    go_wp2_with fail
                    go_ret
                    exact ⟨eqb_no PReg.eqB_iff (fun e => hne.out (congrArg PReg.slots e)), (hGR.out.trans hG.out).drewN _⟩
                · clear hkm2
                  go_wp2_with fail
                  go_quiet (fail)
                  go_wp2_with fail
                  go_ret
                  exact ⟨eqb_no PReg.eqB_iff (fun e => hne.out (congrArg PReg.slots e)), (hGR.out.trans hG.out).drewN _⟩
              · clear hkm2
                go_wp2_with fail
                go_quiet (fail)
                go_wp2_with fail
                go_ret
                exact ⟨eqb_no PReg.eqB_iff (fun e => hne.out (congrArg PReg.slots e)), (hGR.out.trans hG.out).drewN _⟩
            · clear hkm2
              go_wp2_with fail
              go_quiet (fail)
              go_wp2_with fail
              go_ret
              exact ⟨eqb_no PReg.eqB_iff (fun e => hne.out (congrArg PReg.slots e)), (hGR.out.trans hG.out).drewN _⟩
        · have jl : ¬ (j : Int) < L.length := by have := hlen.out; omega
          have e : L = M := by
            rw [List.take_of_length_le (by have := hlen.out; omega), List.take_of_length_le (by have := hlen.out; omega)] at hf
            exact hf
          replace e := Hid.mk e
          clear hf hlt hj
          replace hG := Hid.mk hG
          go_wp2_with fail
          go_ret
          exact ⟨eqb_yes PReg.eqB_iff (by rw [e.out]), hGR.out.trans hG.out⟩
    · have g : ((L.length : Int) != M.length) = true := by simp; omega
      have e : L ≠ M := fun e => hlen (by rw [e])
      replace hlen := Hid.mk hlen
      replace e := Hid.mk e
      go_enter Tryd.func24, Tryd.ntmps24
      go_wp2_with fail
      go_ret
      exact ⟨eqb_no PReg.eqB_iff (fun q => e.out (congrArg PReg.slots q)), ((Gr.refl w).alloc _).alloc _⟩
  · have hx : (⟨b1, n1, d1, L⟩ : PReg) ≠ ⟨b2, n2, d2, M⟩ := fun e => h (by cases e; exact ⟨rfl, rfl, rfl⟩)
    replace hx := Hid.mk hx
    by_cases h1 : b1 = b2
    · have g1 : (b1 != b2) = false := by simpa using h1
      by_cases h2 : n1 = n2
      · have g2 : (n1 != n2) = false := by simpa using h2
        have h3 : d1 ≠ d2 := fun q => h ⟨h1, h2, q⟩
        have g3 : ¬ (str d1).toList = (str d2).toList := by rw [str_list, str_list]; exact h3
        clear h
        replace h1 := Hid.mk h1
        replace h2 := Hid.mk h2
        replace h3 := Hid.mk h3
        go_enter Tryd.func24, Tryd.ntmps24
        go_wp2_with fail
        go_ret
        exact ⟨eqb_no PReg.eqB_iff (hx.out), ((Gr.refl w).alloc _).alloc _⟩
      · have g2 : (n1 != n2) = true := by simpa using h2
        clear h
        replace h1 := Hid.mk h1
        replace h2 := Hid.mk h2
        go_enter Tryd.func24, Tryd.ntmps24
        go_wp2_with fail
        go_ret
        exact ⟨eqb_no PReg.eqB_iff (hx.out), ((Gr.refl w).alloc _).alloc _⟩
    · have g1 : (b1 != b2) = true := by simpa using h1
      clear h
      replace h1 := Hid.mk h1
      go_enter Tryd.func24, Tryd.ntmps24
      go_wp2_with fail
      go_ret
      exact ⟨eqb_no PReg.eqB_iff (hx.out), ((Gr.refl w).alloc _).alloc _⟩
end Go.Proofs.YtcljibdikhpnlaaDoor
