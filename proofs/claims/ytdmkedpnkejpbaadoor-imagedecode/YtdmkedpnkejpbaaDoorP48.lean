import Derived.Test.YtdmkedpnkejpbaaDoorP14
import Derived.Test.YtdmkedpnkejpbaaDoorP16
import Derived.Test.YtdmkedpnkejpbaaDoorP11
/-
  Stage 4, image: two programs, compared, as the document has it.
-/
namespace Go.Proofs.YtdmkedpnkejpbaaDoor
open Go.RowKit

def eqL {α : Type} (f : α → α → Bool) : List α → List α → Bool
  | [], [] => true
  | a :: l, b :: m => f a b && eqL f l m
  | [], _ :: _ => false
  | _ :: _, [] => false
theorem eqL_iff {α : Type} {f : α → α → Bool} (hf : ∀ a b, f a b = true ↔ a = b) : ∀ L M : List α, eqL f L M = true ↔ L = M
  | [], [] => by simp [eqL]
  | [], _ :: _ => by simp [eqL]
  | _ :: _, [] => by simp [eqL]
  | a :: l, b :: m => by simp [eqL, hf, eqL_iff hf l m]
def PTyp.eqB (a b : PTyp) : Bool := (a.cap == b.cap) && decide (a.b = b.b) && decide (a.e = b.e) && decide (a.lo = b.lo) && decide (a.hi = b.hi) && decide (a.p = b.p) && decide (a.s = b.s)
def PSlot.eqB (a b : PSlot) : Bool := a.t.eqB b.t && decide (a.c = b.c)
def PRoot.eqB (a b : PRoot) : Bool := decide (a.r = b.r) && decide (a.b = b.b) && decide (a.e = b.e) && decide (a.c = b.c) && decide (a.p = b.p) && decide (a.s = b.s)
theorem PTyp.eqB_iff (a b : PTyp) : a.eqB b = true ↔ a = b := by
  cases a; cases b; simp [PTyp.eqB, and_assoc]
theorem PSlot.eqB_iff (a b : PSlot) : a.eqB b = true ↔ a = b := by
  cases a; cases b; simp [PSlot.eqB, PTyp.eqB_iff]
theorem PRoot.eqB_iff (a b : PRoot) : a.eqB b = true ↔ a = b := by
  cases a; cases b; simp [PRoot.eqB, and_assoc]
def PReg.eqB (a b : PReg) : Bool := decide (a.b = b.b) && decide (a.n = b.n) && decide (a.data = b.data) && eqL PSlot.eqB a.slots b.slots
def PComp.eqB (a b : PComp) : Bool := eqL PRoot.eqB a.roots b.roots && eqL Ins.eqB a.code b.code
def PGate.eqB (a b : PGate) : Bool := decide (a.c = b.c) && decide (a.e = b.e) && eqL PTyp.eqB a.args b.args && eqL PTyp.eqB a.res b.res
theorem PReg.eqB_iff (a b : PReg) : a.eqB b = true ↔ a = b := by
  cases a; cases b; simp [PReg.eqB, eqL_iff PSlot.eqB_iff, and_assoc]
theorem PComp.eqB_iff (a b : PComp) : a.eqB b = true ↔ a = b := by
  cases a; cases b; simp [PComp.eqB, eqL_iff PRoot.eqB_iff, eqL_iff Ins.eqB_iff]
theorem PGate.eqB_iff (a b : PGate) : a.eqB b = true ↔ a = b := by
  cases a; cases b; simp [PGate.eqB, eqL_iff PTyp.eqB_iff, and_assoc]
def PImg.eqB (a b : PImg) : Bool := eqL PReg.eqB a.regs b.regs && eqL PComp.eqB a.comps b.comps && eqL PGate.eqB a.gates b.gates && decide (a.depth = b.depth)
theorem PImg.eqB_iff (a b : PImg) : a.eqB b = true ↔ a = b := by
  cases a; cases b; simp [PImg.eqB, eqL_iff PReg.eqB_iff, eqL_iff PComp.eqB_iff, eqL_iff PGate.eqB_iff, and_assoc]
theorem eqb_yes {α : Type} {f : α → α → Bool} (hf : ∀ a b, f a b = true ↔ a = b) {a b : α} (h : a = b) : Ending.returned (.bool true) = .returned (.bool (f a b)) := by rw [(hf a b).2 h]
theorem eqb_no {α : Type} {f : α → α → Bool} (hf : ∀ a b, f a b = true ↔ a = b) {a b : α} (h : a ≠ b) : Ending.returned (.bool false) = .returned (.bool (f a b)) := by
  cases e : f a b with
  | false => rfl
  | true => exact absurd ((hf a b).1 e) h
theorem ins_cells {w : World} {b o : Nat} {k : Ins} (h : Five w b o k) : w.cell? ⟨b, o, none⟩ = some (.int .u8 k.op) ∧ w.cell? ⟨b, o + 1, none⟩ = some (.int .i64 k.a) ∧ w.cell? ⟨b, o + 1 + 1, none⟩ = some (.int .i64 k.b) ∧ w.cell? ⟨b, o + 1 + 1 + 1, none⟩ = some (.int .i64 k.c) ∧ w.cell? ⟨b, o + 1 + 1 + 1 + 1, none⟩ = some (.int .i64 k.m) := h
theorem lin_at {B : Nat} {w : World} {a : Option Addr} {L : List Ins} (h : LIn B w a L) (i : Nat) (hi : i < L.length) : ∃ b off : Nat, a = some ⟨b, off, none⟩ ∧ b < B ∧ b < w.heap.size ∧ Five w b (off + i * 5) L[i] := h i hi
set_option maxRecDepth 10000 in
set_option maxHeartbeats 4000000 in
theorem sameTypes_any (L M : List PTyp) (cl cm : Nat) (al am : Option Addr) (w : World) (hL : FIn 7 PTyp.vals w.heap.size w al L) (hM : FIn 7 PTyp.vals w.heap.size w am M) (hl : L.length ≤ maxG) :
    Calls Tryd.prog 22 #[.slice al L.length cl, .slice am M.length cm] w fun x w' => x = .returned (.bool (eqL PTyp.eqB L M)) ∧ Gr w w' := by
  have hl1 : (L.length : Int) ≤ 140737488355328 := by unfold maxG at hl; omega
  replace hL := Hid.mk hL
  replace hM := Hid.mk hM
  by_cases hlen : L.length = M.length
  · have g : ((L.length : Int) != M.length) = false := by simp; omega
    go_enter Tryd.func22, Tryd.ntmps22
    go_wp2_with fail
    replace hlen := Hid.mk hlen
    go_loopw [5] (fun i wr => ∃ j : Nat, i = .int .i64 j ∧ j ≤ L.length ∧ Hid (L.take j = M.take j ∧ Gr w wr)) (fun i _ => L.length - (intOf i).toNat)
    case atStart => exact ⟨0, rfl, by have := hlen.out; omega, ⟨rfl, Gr.refl _⟩⟩
    case round =>
      obtain ⟨j, rfl, hj, ⟨hf, hG⟩⟩ := hrel
      by_cases hlt : j < L.length
      · have jl : (j : Int) < L.length := by have := hlen.out; omega
        have jm : (j : Int) < M.length := by have := hlen.out; omega
        have hltm : j < M.length := by have := hlen.out; omega
        obtain ⟨b, off, rfl, hb, hb2, cc⟩ := (hL.out.below (hG.below.mono (Nat.le_refl _))) j hlt
        obtain ⟨b', off', rfl, hb', hb2', dd⟩ := (hM.out.below (hG.below.mono (Nat.le_refl _))) j hltm
        obtain ⟨c0, c1, c2, c3, c4, c5, c6⟩ := typ_cells cc
        obtain ⟨d0, d1, d2, d3, d4, d5, d6⟩ := typ_cells dd
        clear cc dd
        have hnx : L[j] = M[j] → L.take (j + 1) = M.take (j + 1) := fun h => by
          rw [List.take_succ_eq_append_getElem hlt, List.take_succ_eq_append_getElem hltm, hf, h]
        have hne : L[j] ≠ M[j] → L ≠ M := fun h e => h (by simp only [e])
        generalize L[j] = k at *
        generalize M[j] = m at *
        replace hf := Hid.mk hf
        replace hG := Hid.mk hG
        by_cases hkm : k = m
        · subst hkm
          replace hnx := Hid.mk (hnx rfl)
          clear hne
          go_wp2_with fail
          go_quiet (fail)
          go_wp2_with fail
          go_roundw
          case rel => exact ⟨j + 1, by simp, by have := hlen.out; omega, ⟨hnx.out, hG.out.drewN _⟩⟩
          case measure => simp [intOf]; omega
        · replace hne := Hid.mk (hne hkm)
          clear hnx
          have hkm2 : ¬ (k.cap = m.cap ∧ k.b = m.b ∧ k.e = m.e ∧ k.lo = m.lo ∧ k.hi = m.hi ∧ k.p = m.p ∧ k.s = m.s) := fun h => hkm (by
            cases k; cases m; simp only [PTyp.mk.injEq]; exact h)
          clear hkm
          by_cases q0 : k.cap = m.cap
          · skip
            by_cases q1 : k.b = m.b
            · skip
              by_cases q2 : k.e = m.e
              · skip
                by_cases q3 : k.lo = m.lo
                · skip
                  by_cases q4 : k.hi = m.hi
                  · skip
                    by_cases q5 : k.p = m.p
                    · skip
                      have q6 : ¬ k.s = m.s := fun h => hkm2 ⟨q0, q1, q2, q3, q4, q5, h⟩
                      clear hkm2
                      go_wp2_with fail
                      go_quiet (fail)
                      go_wp2_with fail
                      go_ret
                      exact ⟨eqb_no (eqL_iff PTyp.eqB_iff) hne.out, hG.out.drewN _⟩
                    · clear hkm2
                      go_wp2_with fail
                      go_quiet (fail)
                      go_wp2_with fail
                      go_ret
                      exact ⟨eqb_no (eqL_iff PTyp.eqB_iff) hne.out, hG.out.drewN _⟩
                  · clear hkm2
                    go_wp2_with fail
                    go_quiet (fail)
                    go_wp2_with fail
                    go_ret
                    exact ⟨eqb_no (eqL_iff PTyp.eqB_iff) hne.out, hG.out.drewN _⟩
                · clear hkm2
                  go_wp2_with fail
                  go_quiet (fail)
                  go_wp2_with fail
                  go_ret
                  exact ⟨eqb_no (eqL_iff PTyp.eqB_iff) hne.out, hG.out.drewN _⟩
              · clear hkm2
                go_wp2_with fail
                go_quiet (fail)
                go_wp2_with fail
                go_ret
                exact ⟨eqb_no (eqL_iff PTyp.eqB_iff) hne.out, hG.out.drewN _⟩
            · clear hkm2
              go_wp2_with fail
              go_quiet (fail)
              go_wp2_with fail
              go_ret
              exact ⟨eqb_no (eqL_iff PTyp.eqB_iff) hne.out, hG.out.drewN _⟩
          · clear hkm2
            go_wp2_with fail
            go_quiet (fail)
            go_wp2_with fail
            go_ret
            exact ⟨eqb_no (eqL_iff PTyp.eqB_iff) hne.out, hG.out.drewN _⟩
      · have jl : ¬ (j : Int) < L.length := by have := hlen.out; omega
        have e : L = M := by
          rw [List.take_of_length_le (by have := hlen.out; omega), List.take_of_length_le (by have := hlen.out; omega)] at hf
          exact hf
        replace e := Hid.mk e
        clear hf hlt hj
        replace hG := Hid.mk hG
        go_wp2_with fail
        go_ret
        exact ⟨eqb_yes (eqL_iff PTyp.eqB_iff) e.out, hG.out⟩
  · have g : ((L.length : Int) != M.length) = true := by simp; omega
    have e : L ≠ M := fun e => hlen (by rw [e])
    replace hlen := Hid.mk hlen
    replace e := Hid.mk e
    go_enter Tryd.func22, Tryd.ntmps22
    go_wp2_with fail
    go_ret
    exact ⟨eqb_no (eqL_iff PTyp.eqB_iff) e.out, Gr.refl w⟩
set_option maxRecDepth 10000 in
set_option maxHeartbeats 4000000 in
theorem sameRegion_any (x y : PReg) (cl cm : Nat) (al am : Option Addr) (w : World) (hL : FIn 8 PSlot.vals w.heap.size w al x.slots) (hM : FIn 8 PSlot.vals w.heap.size w am y.slots) (hl : x.slots.length ≤ maxG) :
    Calls Tryd.prog 20 #[.agg #[.int .u64 x.b, .int .u64 x.n, .string (str x.data), .slice al x.slots.length cl], .agg #[.int .u64 y.b, .int .u64 y.n, .string (str y.data), .slice am y.slots.length cm]] w fun r w' => r = .returned (.bool (x.eqB y)) ∧ Gr w w' := by
  obtain ⟨b1, n1, d1, L⟩ := x
  obtain ⟨b2, n2, d2, M⟩ := y
  simp only at *
  have hl1 : (L.length : Int) ≤ 140737488355328 := by unfold maxG at hl; omega
  replace hL := Hid.mk hL
  replace hM := Hid.mk hM
  by_cases h : b1 = b2 ∧ n1 = n2 ∧ d1 = d2
  · obtain ⟨rfl, rfl, rfl⟩ := h
    by_cases hlen : L.length = M.length
    · have g : ((L.length : Int) != M.length) = false := by simp; omega
      replace hlen := Hid.mk hlen
      have hGR : Gr w ((w.alloc (.cells #[.int .u64 b1, .int .u64 n1, .string (str d1), .slice al L.length cl] 52)).alloc (.cells #[.int .u64 b1, .int .u64 n1, .string (str d1), .slice am M.length cm] 52)) := ((Gr.refl w).alloc _).alloc _
      have BA : Box ((w.alloc (.cells #[.int .u64 b1, .int .u64 n1, .string (str d1), .slice al L.length cl] 52)).alloc (.cells #[.int .u64 b1, .int .u64 n1, .string (str d1), .slice am M.length cm] 52)) w.heap.size #[.int .u64 b1, .int .u64 n1, .string (str d1), .slice al L.length cl] 52 := (Box.new w _ _).alloc _
      have BB : Box ((w.alloc (.cells #[.int .u64 b1, .int .u64 n1, .string (str d1), .slice al L.length cl] 52)).alloc (.cells #[.int .u64 b1, .int .u64 n1, .string (str d1), .slice am M.length cm] 52)) (w.heap.size + 1) #[.int .u64 b1, .int .u64 n1, .string (str d1), .slice am M.length cm] 52 := Box.next _ _ _ _
      replace hGR := Hid.mk hGR
      replace BA := Hid.mk BA
      replace BB := Hid.mk BB
      go_enter Tryd.func20, Tryd.ntmps20
      go_wp2_with fail
      generalize (w.alloc (.cells #[.int .u64 b1, .int .u64 n1, .string (str d1), .slice al L.length cl] 52)).alloc (.cells #[.int .u64 b1, .int .u64 n1, .string (str d1), .slice am M.length cm] 52) = R0 at *
      replace hL := Hid.mk ((hL.out.below hGR.out.below).mono (gr_size hGR.out))
      replace hM := Hid.mk ((hM.out.below hGR.out.below).mono (gr_size hGR.out))
      go_loopw [5] (fun i wr => ∃ j : Nat, i = .int .i64 j ∧ j ≤ L.length ∧ Hid (L.take j = M.take j ∧ Gr R0 wr)) (fun i _ => L.length - (intOf i).toNat)
      case atStart => exact ⟨0, rfl, by have := hlen.out; omega, ⟨rfl, Gr.refl _⟩⟩
      case round =>
        obtain ⟨j, rfl, hj, ⟨hf, hG⟩⟩ := hrel
        have BA1 := BA.out.gr hG
        have BB1 := BB.out.gr hG
        have ⟨z0, p0, f0⟩ := BA1.at
        have ⟨z1, p1, f1⟩ := BB1.at
        replace BA1 := Hid.mk BA1
        replace BB1 := Hid.mk BB1
        by_cases hlt : j < L.length
        · have jl : (j : Int) < L.length := by have := hlen.out; omega
          have jm : (j : Int) < M.length := by have := hlen.out; omega
          have hltm : j < M.length := by have := hlen.out; omega
          obtain ⟨b, off, rfl, hb, hb2, cc⟩ := (hL.out.below (hG.below.mono (Nat.le_refl _))) j hlt
          obtain ⟨b', off', rfl, hb', hb2', dd⟩ := (hM.out.below (hG.below.mono (Nat.le_refl _))) j hltm
          obtain ⟨c0, c1, c2, c3, c4, c5, c6, c7⟩ := slot_cells cc
          obtain ⟨d0, d1, d2, d3, d4, d5, d6, d7⟩ := slot_cells dd
          clear cc dd
          have hnx : L[j] = M[j] → L.take (j + 1) = M.take (j + 1) := fun h => by
            rw [List.take_succ_eq_append_getElem hlt, List.take_succ_eq_append_getElem hltm, hf, h]
          have hne : L[j] ≠ M[j] → L ≠ M := fun h e => h (by simp only [e])
          generalize L[j] = k at *
          generalize M[j] = m at *
          replace hf := Hid.mk hf
          replace hG := Hid.mk hG
          by_cases hkm : k = m
          · subst hkm
            replace hnx := Hid.mk (hnx rfl)
            clear hne
            go_wp2_with fail
            go_quiet (fail)
            go_wp2_with fail
            go_roundw
            case rel => exact ⟨j + 1, by simp, by have := hlen.out; omega, ⟨hnx.out, hG.out.drewN _⟩⟩
            case measure => simp [intOf]; omega
          · replace hne := Hid.mk (hne hkm)
            clear hnx
            have hkm2 : ¬ (k.t.cap = m.t.cap ∧ k.t.b = m.t.b ∧ k.t.e = m.t.e ∧ k.t.lo = m.t.lo ∧ k.t.hi = m.t.hi ∧ k.t.p = m.t.p ∧ k.t.s = m.t.s ∧ k.c = m.c) := fun h => hkm (by
              obtain ⟨⟨_, _, _, _, _, _, _⟩, _⟩ := k; obtain ⟨⟨_, _, _, _, _, _, _⟩, _⟩ := m
              simp only at h
              simp only [PSlot.mk.injEq, PTyp.mk.injEq]
              obtain ⟨a0, a1, a2, a3, a4, a5, a6, a7⟩ := h
              exact ⟨⟨a0, a1, a2, a3, a4, a5, a6⟩, a7⟩)
            clear hkm
            by_cases q0 : k.t.cap = m.t.cap
            · skip
              by_cases q1 : k.t.b = m.t.b
              · skip
                by_cases q2 : k.t.e = m.t.e
                · skip
                  by_cases q3 : k.t.lo = m.t.lo
                  · skip
                    by_cases q4 : k.t.hi = m.t.hi
                    · skip
                      by_cases q5 : k.t.p = m.t.p
                      · skip
                        by_cases q6 : k.t.s = m.t.s
                        · skip
                          have q7 : ¬ k.c = m.c := fun h => hkm2 ⟨q0, q1, q2, q3, q4, q5, q6, h⟩
                          clear hkm2
                          go_wp2_with fail
                          go_quiet (fail)
                          go_wp2_with fail
                          go_ret
                          exact ⟨eqb_no PReg.eqB_iff (fun e => hne.out (congrArg PReg.slots e)), (hGR.out.trans hG.out).drewN _⟩
                        · clear hkm2
                          go_wp2_with fail
                          go_quiet (fail)
                          go_wp2_with fail
                          go_ret
                          exact ⟨eqb_no PReg.eqB_iff (fun e => hne.out (congrArg PReg.slots e)), (hGR.out.trans hG.out).drewN _⟩
                      · clear hkm2
                        go_wp2_with fail
                        go_quiet (fail)
                        go_wp2_with fail
                        go_ret
                        exact ⟨eqb_no PReg.eqB_iff (fun e => hne.out (congrArg PReg.slots e)), (hGR.out.trans hG.out).drewN _⟩
                    · clear hkm2
                      go_wp2_with fail
                      go_quiet (fail)
                      go_wp2_with fail
                      go_ret
                      exact ⟨eqb_no PReg.eqB_iff (fun e => hne.out (congrArg PReg.slots e)), (hGR.out.trans hG.out).drewN _⟩
                  · clear hkm2
                    go_wp2_with fail
                    go_quiet (fail)
                    go_wp2_with fail
                    go_ret
                    exact ⟨eqb_no PReg.eqB_iff (fun e => hne.out (congrArg PReg.slots e)), (hGR.out.trans hG.out).drewN _⟩
                · clear hkm2
                  go_wp2_with fail
                  go_quiet (fail)
                  go_wp2_with fail
                  go_ret
                  exact ⟨eqb_no PReg.eqB_iff (fun e => hne.out (congrArg PReg.slots e)), (hGR.out.trans hG.out).drewN _⟩
              · clear hkm2
                go_wp2_with fail
                go_quiet (fail)
                go_wp2_with fail
                go_ret
                exact ⟨eqb_no PReg.eqB_iff (fun e => hne.out (congrArg PReg.slots e)), (hGR.out.trans hG.out).drewN _⟩
            · clear hkm2
              go_wp2_with fail
              go_quiet (fail)
              go_wp2_with fail
              go_ret
              exact ⟨eqb_no PReg.eqB_iff (fun e => hne.out (congrArg PReg.slots e)), (hGR.out.trans hG.out).drewN _⟩
        · have jl : ¬ (j : Int) < L.length := by have := hlen.out; omega
          have e : L = M := by
            rw [List.take_of_length_le (by have := hlen.out; omega), List.take_of_length_le (by have := hlen.out; omega)] at hf
            exact hf
          replace e := Hid.mk e
          clear hf hlt hj
          replace hG := Hid.mk hG
          go_wp2_with fail
          go_ret
          exact ⟨eqb_yes PReg.eqB_iff (by rw [e.out]), hGR.out.trans hG.out⟩
    · have g : ((L.length : Int) != M.length) = true := by simp; omega
      have e : L ≠ M := fun e => hlen (by rw [e])
      replace hlen := Hid.mk hlen
      replace e := Hid.mk e
      go_enter Tryd.func20, Tryd.ntmps20
      go_wp2_with fail
      go_ret
      exact ⟨eqb_no PReg.eqB_iff (fun q => e.out (congrArg PReg.slots q)), ((Gr.refl w).alloc _).alloc _⟩
  · have hx : (⟨b1, n1, d1, L⟩ : PReg) ≠ ⟨b2, n2, d2, M⟩ := fun e => h (by cases e; exact ⟨rfl, rfl, rfl⟩)
    replace hx := Hid.mk hx
    by_cases h1 : b1 = b2
    · have g1 : (b1 != b2) = false := by simpa using h1
      by_cases h2 : n1 = n2
      · have g2 : (n1 != n2) = false := by simpa using h2
        have h3 : d1 ≠ d2 := fun q => h ⟨h1, h2, q⟩
        have g3 : ¬ (str d1).toList = (str d2).toList := by rw [str_list, str_list]; exact h3
        clear h
        replace h1 := Hid.mk h1
        replace h2 := Hid.mk h2
        replace h3 := Hid.mk h3
        go_enter Tryd.func20, Tryd.ntmps20
        go_wp2_with fail
        go_ret
        exact ⟨eqb_no PReg.eqB_iff (hx.out), ((Gr.refl w).alloc _).alloc _⟩
      · have g2 : (n1 != n2) = true := by simpa using h2
        clear h
        replace h1 := Hid.mk h1
        replace h2 := Hid.mk h2
        go_enter Tryd.func20, Tryd.ntmps20
        go_wp2_with fail
        go_ret
        exact ⟨eqb_no PReg.eqB_iff (hx.out), ((Gr.refl w).alloc _).alloc _⟩
    · have g1 : (b1 != b2) = true := by simpa using h1
      clear h
      replace h1 := Hid.mk h1
      go_enter Tryd.func20, Tryd.ntmps20
      go_wp2_with fail
      go_ret
      exact ⟨eqb_no PReg.eqB_iff (hx.out), ((Gr.refl w).alloc _).alloc _⟩
end Go.Proofs.YtdmkedpnkejpbaaDoor


/-
  Stage 4, image: two compartments, compared, as the document has it.
-/
namespace Go.Proofs.YtdmkedpnkejpbaaDoor
open Go.RowKit

set_option maxRecDepth 10000 in
set_option maxHeartbeats 4000000 in
theorem sameComp_any (x y : PComp) (cl cm dl dm : Nat) (al am bl bm : Option Addr) (w : World) (hL : FIn 6 PRoot.vals w.heap.size w al x.roots) (hM : FIn 6 PRoot.vals w.heap.size w am y.roots) (hP : LIn w.heap.size w bl x.code) (hQ : LIn w.heap.size w bm y.code) (hl : x.roots.length ≤ maxG) (hl2 : x.code.length ≤ maxI) :
    Calls Tryd.prog 21 #[.agg #[.slice al x.roots.length cl, .slice bl x.code.length dl], .agg #[.slice am y.roots.length cm, .slice bm y.code.length dm]] w fun r w' => r = .returned (.bool (x.eqB y)) ∧ Gr w w' := by
  obtain ⟨L, P⟩ := x
  obtain ⟨M, Q⟩ := y
  simp only at *
  have hl1 : (L.length : Int) ≤ 140737488355328 := by unfold maxG at hl; omega
  have hl3 : (P.length : Int) ≤ 140737488355328 := by unfold maxI at hl2; omega
  replace hL := Hid.mk hL
  replace hM := Hid.mk hM
  replace hP := Hid.mk hP
  replace hQ := Hid.mk hQ
  by_cases hlen : L.length = M.length
  · have g : ((L.length : Int) != M.length) = false := by simp; omega
    replace hlen := Hid.mk hlen
    by_cases hlen2 : P.length = Q.length
    · have g2 : ((P.length : Int) != Q.length) = false := by simp; omega
      replace hlen2 := Hid.mk hlen2
      have hGR : Gr w ((w.alloc (.cells #[.slice al L.length cl, .slice bl P.length dl] 57)).alloc (.cells #[.slice am M.length cm, .slice bm Q.length dm] 57)) := ((Gr.refl w).alloc _).alloc _
      have BA : Box ((w.alloc (.cells #[.slice al L.length cl, .slice bl P.length dl] 57)).alloc (.cells #[.slice am M.length cm, .slice bm Q.length dm] 57)) w.heap.size #[.slice al L.length cl, .slice bl P.length dl] 57 := (Box.new w _ _).alloc _
      have BB : Box ((w.alloc (.cells #[.slice al L.length cl, .slice bl P.length dl] 57)).alloc (.cells #[.slice am M.length cm, .slice bm Q.length dm] 57)) (w.heap.size + 1) #[.slice am M.length cm, .slice bm Q.length dm] 57 := Box.next _ _ _ _
      replace hGR := Hid.mk hGR
      replace BA := Hid.mk BA
      replace BB := Hid.mk BB
      go_enter Tryd.func21, Tryd.ntmps21
      go_wp2_with fail
      generalize (w.alloc (.cells #[.slice al L.length cl, .slice bl P.length dl] 57)).alloc (.cells #[.slice am M.length cm, .slice bm Q.length dm] 57) = R0 at *
      replace hL := Hid.mk ((hL.out.below hGR.out.below).mono (gr_size hGR.out))
      replace hM := Hid.mk ((hM.out.below hGR.out.below).mono (gr_size hGR.out))
      replace hP := Hid.mk ((hP.out.below hGR.out.below).mono (gr_size hGR.out))
      replace hQ := Hid.mk ((hQ.out.below hGR.out.below).mono (gr_size hGR.out))
      go_loopw [5] (fun i wr => ∃ j : Nat, i = .int .i64 j ∧ j ≤ L.length ∧ Hid (L.take j = M.take j ∧ Gr R0 wr)) (fun i _ => L.length - (intOf i).toNat)
      case atStart => exact ⟨0, rfl, by have := hlen.out; omega, ⟨rfl, Gr.refl _⟩⟩
      case round =>
        obtain ⟨j, rfl, hj, ⟨hf, hG⟩⟩ := hrel
        have BA1 := BA.out.gr hG
        have BB1 := BB.out.gr hG
        have ⟨z0, p0, f0⟩ := BA1.at
        have ⟨z1, p1, f1⟩ := BB1.at
        replace BA1 := Hid.mk BA1
        replace BB1 := Hid.mk BB1
        by_cases hlt : j < L.length
        · have jl : (j : Int) < L.length := by have := hlen.out; omega
          have jm : (j : Int) < M.length := by have := hlen.out; omega
          have hltm : j < M.length := by have := hlen.out; omega
          obtain ⟨b, off, rfl, hb, hb2, cc⟩ := (hL.out.below (hG.below.mono (Nat.le_refl _))) j hlt
          obtain ⟨b', off', rfl, hb', hb2', dd⟩ := (hM.out.below (hG.below.mono (Nat.le_refl _))) j hltm
          obtain ⟨c0, c1, c2, c3, c4, c5⟩ := root_cells cc
          obtain ⟨d0, d1, d2, d3, d4, d5⟩ := root_cells dd
          clear cc dd
          have hnx : L[j] = M[j] → L.take (j + 1) = M.take (j + 1) := fun h => by
            rw [List.take_succ_eq_append_getElem hlt, List.take_succ_eq_append_getElem hltm, hf, h]
          have hne : L[j] ≠ M[j] → L ≠ M := fun h e => h (by simp only [e])
          generalize L[j] = k at *
          generalize M[j] = m at *
          replace hf := Hid.mk hf
          replace hG := Hid.mk hG
          by_cases hkm : k = m
          · subst hkm
            replace hnx := Hid.mk (hnx rfl)
            clear hne
            go_wp2_with fail
            go_quiet (fail)
            go_wp2_with fail
            go_roundw
            case rel => exact ⟨j + 1, by simp, by have := hlen.out; omega, ⟨hnx.out, hG.out.drewN _⟩⟩
            case measure => simp [intOf]; omega
          · replace hne := Hid.mk (hne hkm)
            clear hnx
            have hkm2 : ¬ (k.r = m.r ∧ k.b = m.b ∧ k.e = m.e ∧ k.c = m.c ∧ k.p = m.p ∧ k.s = m.s) := fun h => hkm (by
              cases k; cases m; simp only [PRoot.mk.injEq]; exact h)
            clear hkm
            by_cases q0 : k.r = m.r
            · skip
              by_cases q1 : k.b = m.b
              · skip
                by_cases q2 : k.e = m.e
                · skip
                  by_cases q3 : k.c = m.c
                  · skip
                    by_cases q4 : k.p = m.p
                    · skip
                      have q5 : ¬ k.s = m.s := fun h => hkm2 ⟨q0, q1, q2, q3, q4, h⟩
                      clear hkm2
                      go_wp2_with fail
                      go_quiet (fail)
                      go_wp2_with fail
                      go_ret
                      exact ⟨eqb_no PComp.eqB_iff (fun e => hne.out (congrArg PComp.roots e)), (hGR.out.trans hG.out).drewN _⟩
                    · clear hkm2
                      go_wp2_with fail
                      go_quiet (fail)
                      go_wp2_with fail
                      go_ret
                      exact ⟨eqb_no PComp.eqB_iff (fun e => hne.out (congrArg PComp.roots e)), (hGR.out.trans hG.out).drewN _⟩
                  · clear hkm2
                    go_wp2_with fail
                    go_quiet (fail)
                    go_wp2_with fail
                    go_ret
                    exact ⟨eqb_no PComp.eqB_iff (fun e => hne.out (congrArg PComp.roots e)), (hGR.out.trans hG.out).drewN _⟩
                · clear hkm2
                  go_wp2_with fail
                  go_quiet (fail)
                  go_wp2_with fail
                  go_ret
                  exact ⟨eqb_no PComp.eqB_iff (fun e => hne.out (congrArg PComp.roots e)), (hGR.out.trans hG.out).drewN _⟩
              · clear hkm2
                go_wp2_with fail
                go_quiet (fail)
                go_wp2_with fail
                go_ret
                exact ⟨eqb_no PComp.eqB_iff (fun e => hne.out (congrArg PComp.roots e)), (hGR.out.trans hG.out).drewN _⟩
            · clear hkm2
              go_wp2_with fail
              go_quiet (fail)
              go_wp2_with fail
              go_ret
              exact ⟨eqb_no PComp.eqB_iff (fun e => hne.out (congrArg PComp.roots e)), (hGR.out.trans hG.out).drewN _⟩
        · have jl : ¬ (j : Int) < L.length := by have := hlen.out; omega
          have e : L = M := by
            rw [List.take_of_length_le (by have := hlen.out; omega), List.take_of_length_le (by have := hlen.out; omega)] at hf
            exact hf
          replace e := Hid.mk e
          clear hf hlt hj
          replace hG := Hid.mk hG
          go_wp2_with fail
          have e1 := e
          clear e
          replace BA := BA1
          replace BB := BB1
          clear BA1 BB1 z0 p0 f0 z1 p1 f1 jl
          replace hP := Hid.mk ((hP.out.below hG.out.below).mono (gr_size hG.out))
          replace hQ := Hid.mk ((hQ.out.below hG.out.below).mono (gr_size hG.out))
          replace hGR := Hid.mk (hGR.out.trans hG.out)
          clear hG hL hM
          have hR1 := Hid.mk (Gr.refl wr)
          generalize wr = R1 at *
          go_loopw [6] (fun i wr => ∃ j : Nat, i = .int .i64 j ∧ j ≤ P.length ∧ Hid (P.take j = Q.take j ∧ Gr R1 wr)) (fun i _ => P.length - (intOf i).toNat)
          case atStart => exact ⟨0, rfl, by have := hlen2.out; omega, ⟨rfl, Gr.refl _⟩⟩
          case round =>
            obtain ⟨j, rfl, hj, ⟨hf, hG⟩⟩ := hrel
            have BA1 := BA.out.gr hG
            have BB1 := BB.out.gr hG
            have ⟨z0, p0, f0⟩ := BA1.at
            have ⟨z1, p1, f1⟩ := BB1.at
            replace BA1 := Hid.mk BA1
            replace BB1 := Hid.mk BB1
            by_cases hlt : j < P.length
            · have jl : (j : Int) < P.length := by have := hlen2.out; omega
              have jm : (j : Int) < Q.length := by have := hlen2.out; omega
              have hltm : j < Q.length := by have := hlen2.out; omega
              obtain ⟨b, off, rfl, hb, hb2, cc⟩ := (hP.out.below (hG.below.mono (Nat.le_refl _))) j hlt
              obtain ⟨b', off', rfl, hb', hb2', dd⟩ := (hQ.out.below (hG.below.mono (Nat.le_refl _))) j hltm
              obtain ⟨c0, c1, c2, c3, c4⟩ := ins_cells cc
              obtain ⟨d0, d1, d2, d3, d4⟩ := ins_cells dd
              clear cc dd
              have hnx : P[j] = Q[j] → P.take (j + 1) = Q.take (j + 1) := fun h => by
                rw [List.take_succ_eq_append_getElem hlt, List.take_succ_eq_append_getElem hltm, hf, h]
              have hne : P[j] ≠ Q[j] → P ≠ Q := fun h e => h (by simp only [e])
              generalize P[j] = k at *
              generalize Q[j] = m at *
              replace hf := Hid.mk hf
              replace hG := Hid.mk hG
              by_cases hkm : k = m
              · subst hkm
                replace hnx := Hid.mk (hnx rfl)
                clear hne
                go_wp2_with fail
                go_quiet (fail)
                go_wp2_with fail
                go_roundw
                case rel => exact ⟨j + 1, by simp, by have := hlen2.out; omega, ⟨hnx.out, hG.out.drewN _⟩⟩
                case measure => simp [intOf]; omega
              · replace hne := Hid.mk (hne hkm)
                clear hnx
                have hkm2 : ¬ (k.op = m.op ∧ k.a = m.a ∧ k.b = m.b ∧ k.c = m.c ∧ k.m = m.m) := fun h => hkm (by
                  cases k; cases m; simp only [Ins.mk.injEq]; exact h)
                clear hkm
                by_cases q0 : k.op = m.op
                · skip
                  by_cases q1 : k.a = m.a
                  · skip
                    by_cases q2 : k.b = m.b
                    · skip
                      by_cases q3 : k.c = m.c
                      · skip
                        have q4 : ¬ k.m = m.m := fun h => hkm2 ⟨q0, q1, q2, q3, h⟩
                        clear hkm2
                        go_wp2_with fail
                        go_quiet (fail)
                        go_wp2_with fail
                        go_ret
                        exact ⟨eqb_no PComp.eqB_iff (fun e => hne.out (congrArg PComp.code e)), (hGR.out.trans hG.out).drewN _⟩
                      · clear hkm2
                        go_wp2_with fail
                        go_quiet (fail)
                        go_wp2_with fail
                        go_ret
                        exact ⟨eqb_no PComp.eqB_iff (fun e => hne.out (congrArg PComp.code e)), (hGR.out.trans hG.out).drewN _⟩
                    · clear hkm2
                      go_wp2_with fail
                      go_quiet (fail)
                      go_wp2_with fail
                      go_ret
                      exact ⟨eqb_no PComp.eqB_iff (fun e => hne.out (congrArg PComp.code e)), (hGR.out.trans hG.out).drewN _⟩
                  · clear hkm2
                    go_wp2_with fail
                    go_quiet (fail)
                    go_wp2_with fail
                    go_ret
                    exact ⟨eqb_no PComp.eqB_iff (fun e => hne.out (congrArg PComp.code e)), (hGR.out.trans hG.out).drewN _⟩
                · clear hkm2
                  go_wp2_with fail
                  go_quiet (fail)
                  go_wp2_with fail
                  go_ret
                  exact ⟨eqb_no PComp.eqB_iff (fun e => hne.out (congrArg PComp.code e)), (hGR.out.trans hG.out).drewN _⟩
            · have jl : ¬ (j : Int) < P.length := by have := hlen2.out; omega
              have e : P = Q := by
                rw [List.take_of_length_le (by have := hlen2.out; omega), List.take_of_length_le (by have := hlen2.out; omega)] at hf
                exact hf
              replace e := Hid.mk e
              clear hf hlt hj
              replace hG := Hid.mk hG
              go_wp2_with fail
              go_ret
              exact ⟨eqb_yes PComp.eqB_iff (by rw [e1.out, e.out]), hGR.out.trans hG.out⟩
    · have g2 : ((P.length : Int) != Q.length) = true := by simp; omega
      have e : P ≠ Q := fun e => hlen2 (by rw [e])
      replace hlen2 := Hid.mk hlen2
      replace e := Hid.mk e
      go_enter Tryd.func21, Tryd.ntmps21
      go_wp2_with fail
      go_ret
      exact ⟨eqb_no PComp.eqB_iff (fun q => e.out (congrArg PComp.code q)), ((Gr.refl w).alloc _).alloc _⟩
  · have g : ((L.length : Int) != M.length) = true := by simp; omega
    have e : L ≠ M := fun e => hlen (by rw [e])
    replace hlen := Hid.mk hlen
    replace e := Hid.mk e
    go_enter Tryd.func21, Tryd.ntmps21
    go_wp2_with fail
    go_ret
    exact ⟨eqb_no PComp.eqB_iff (fun q => e.out (congrArg PComp.roots q)), ((Gr.refl w).alloc _).alloc _⟩
end Go.Proofs.YtdmkedpnkejpbaaDoor
