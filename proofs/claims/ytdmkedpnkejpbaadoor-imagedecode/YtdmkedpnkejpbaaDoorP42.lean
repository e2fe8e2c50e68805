import Derived.Test.YtdmkedpnkejpbaaDoorP41
import Derived.Test.YtdmkedpnkejpbaaDoorP11
import Derived.Test.YtdmkedpnkejpbaaDoorP37
import Derived.OrdersHeld
/-
  Stage 4, image: the document's own answer: a region.
-/
namespace Go.Proofs.YtdmkedpnkejpbaaDoor
open Go.RowKit

/-- What is wrong with a region, behind where the one ahead ended. -/
def regE (r : PReg) (f : Int) : Int := if placeB r.b r.n f && contentB r.n r.data r.slots.length then (if slotsR r.slots then 0 else 45) else 43
theorem regsR_E (r : PReg) (L : List PReg) (f : Int) : regsR (r :: L) f = if regE r f = 0 then regsR L (r.b + r.n) else regE r f := by
  rw [regsR]
  unfold regE
  split
  · split <;> simp
  · simp
def sltE (b : Bool) : Int := if b = true then 0 else 45
theorem last_nought (d : List UInt8) (h : 0 < d.length) : endsNought d = (d[d.length - 1] == 0) := by
  unfold endsNought
  rw [List.getLast?_eq_getElem?, List.getElem?_eq_getElem (by omega)]
set_option maxRecDepth 10000 in
set_option maxHeartbeats 4000000 in
theorem refRegion_any (r : PReg) (sa : Option Addr) (sc : Nat) (f : Int) (w : World) (hs : FIn 8 PSlot.vals w.heap.size w sa r.slots) (hr : r.Rng) :
    Calls Tryd.prog 42 #[.agg #[.int .u64 r.b, .int .u64 r.n, .string (str r.data), .slice sa r.slots.length sc], .int .u64 f] w fun x w' => x = .returned (.int .i64 (regE r f)) ∧ Gr w w' := by
  obtain ⟨⟨rb0, rb1⟩, ⟨rn0, rn1⟩, hd, hsl, hsr⟩ := hr
  have m1 : r.b.tmod 16 = r.b % 16 := Int.tmod_eq_emod_of_nonneg rb0
  have m2 : r.n.tmod 16 = r.n % 16 := Int.tmod_eq_emod_of_nonneg rn0
  have hsl1 : (r.slots.length : Int) ≤ 140737488355328 := by unfold maxG at hsl; omega
  have hd1 : (r.data.length : Int) ≤ 140737488355328 := by unfold maxG at hd; omega
  have ss := str_size r.data
  replace hs := Hid.mk hs
  replace hsr := Hid.mk hsr
  clear hd hsl
  by_cases hp : placeB r.b r.n f = true
  case neg =>
    have hE : regE r f = 43 := by unfold regE; rw [if_neg (by rw [Bool.and_eq_true]; exact fun q => hp q.1)]
    rw [hE]
    simp [placeB] at hp
    by_cases a1 : r.b % 16 = 0
    case neg =>
      have g1 : (r.b % 16 != 0) = true := by simpa using a1
      clear hp hE
      replace a1 := Hid.mk a1
      go_enter Tryd.func42, Tryd.ntmps42
      go_wp2_with fail
      go_ret
      exact ⟨rfl, (Gr.refl w).alloc _⟩
    have g1 : (r.b % 16 != 0) = false := by simpa using a1
    by_cases a2 : r.n % 16 = 0
    case neg =>
      have g2 : (r.n % 16 != 0) = true := by simpa using a2
      clear hp hE
      replace a1 := Hid.mk a1
      replace a2 := Hid.mk a2
      go_enter Tryd.func42, Tryd.ntmps42
      go_wp2_with fail
      go_ret
      exact ⟨rfl, (Gr.refl w).alloc _⟩
    have g2 : (r.n % 16 != 0) = false := by simpa using a2
    by_cases a3 : r.n = 0
    case pos =>
      have g3 : (r.n == 0) = true := by simpa using a3
      clear hp hE
      replace a1 := Hid.mk a1
      replace a2 := Hid.mk a2
      replace a3 := Hid.mk a3
      go_enter Tryd.func42, Tryd.ntmps42
      go_wp2_with fail
      go_ret
      exact ⟨rfl, (Gr.refl w).alloc _⟩
    have g3 : (r.n == 0) = false := by simpa using a3
    by_cases a4 : r.b < 65536
    case neg =>
      have g4 : (65536 : Int) ≤ r.b := by omega
      clear hp hE
      replace a1 := Hid.mk a1
      replace a2 := Hid.mk a2
      replace a3 := Hid.mk a3
      replace a4 := Hid.mk a4
      go_enter Tryd.func42, Tryd.ntmps42
      go_wp2_with fail
      go_ret
      exact ⟨rfl, (Gr.refl w).alloc _⟩
    have g4 : ¬ (65536 : Int) ≤ r.b := by omega
    have m3 : IntKind.u64.wrap (65536 - r.b) = 65536 - r.b := by rw [IntKind.wrap_u64]; omega
    by_cases a5 : r.n ≤ 65536 - r.b
    case neg =>
      have g5 : 65536 - r.b < r.n := by omega
      clear hp hE
      replace a1 := Hid.mk a1
      replace a2 := Hid.mk a2
      replace a3 := Hid.mk a3
      replace a4 := Hid.mk a4
      replace a5 := Hid.mk a5
      go_enter Tryd.func42, Tryd.ntmps42
      go_wp2_with fail
      go_ret
      exact ⟨rfl, (Gr.refl w).alloc _⟩
    have g5 : ¬ 65536 - r.b < r.n := by omega
    have g6 : r.b < f := by
      rcases Int.lt_or_le r.b f with q | q
      · exact q
      · exact absurd (hp a1 a2 a3 q a4) (by omega)
    clear hp hE
    replace a1 := Hid.mk a1
    replace a2 := Hid.mk a2
    replace a3 := Hid.mk a3
    replace a4 := Hid.mk a4
    replace a5 := Hid.mk a5
    go_enter Tryd.func42, Tryd.ntmps42
    go_wp2_with fail
    go_ret
    exact ⟨rfl, (Gr.refl w).alloc _⟩
  have hpp := hp
  simp [placeB] at hpp
  have g1 : (r.b % 16 != 0) = false := by simp; omega
  have g2 : (r.n % 16 != 0) = false := by simp; omega
  have g3 : (r.n == 0) = false := by simp; omega
  have g4 : ¬ (65536 : Int) ≤ r.b := by omega
  have m3 : IntKind.u64.wrap (65536 - r.b) = 65536 - r.b := by rw [IntKind.wrap_u64]; omega
  have g5 : ¬ 65536 - r.b < r.n := by omega
  have g6 : ¬ r.b < f := by omega
  have hE : regE r f = if contentB r.n r.data r.slots.length then (if slotsR r.slots then 0 else 45) else 43 := by unfold regE; rw [hp, Bool.true_and]
  rw [hE]
  replace hpp := Hid.mk hpp
  clear hE hp
  by_cases hk : r.slots.length = 0
  · have gk : ((r.slots.length : Int) == 0) = true := by rw [hk]; rfl
    have e2 : IntKind.u64.wrap (r.data.length : Int) = r.data.length := by rw [IntKind.wrap_u64]; omega
    have hsl0 : slotsR r.slots = true := by
      cases hq : r.slots with
      | nil => rfl
      | cons _ _ => rw [hq] at hk; simp at hk
    have hcE : contentB r.n r.data r.slots.length = (decide ((r.data.length : Int) ≤ r.n) && !endsNought r.data) := by unfold contentB; rw [if_neg (by omega)]
    rw [hcE, hsl0]
    clear hcE hsl0
    replace hk := Hid.mk hk
    by_cases b1 : (r.data.length : Int) ≤ r.n
    case neg =>
      have b1' : r.n < (r.data.length : Int) := by omega
      have hz : (if (decide ((r.data.length : Int) ≤ r.n) && !endsNought r.data) = true then (if true = true then (0 : Int) else 45) else 43) = 43 := by simp [b1]
      rw [hz]
      clear hz
      replace b1 := Hid.mk b1
      go_enter Tryd.func42, Tryd.ntmps42
      go_wp2_with fail
      go_ret
      exact ⟨rfl, (Gr.refl w).alloc _⟩
    have b1' : ¬ r.n < (r.data.length : Int) := by omega
    by_cases b2 : 0 < r.data.length
    · have b2' : (0 : Int) < r.data.length := by omega
      rw [last_nought r.data b2]
      have i1 : IntKind.i64.wrap ((r.data.length : Int) - 1) = (r.data.length : Int) - 1 := by rw [IntKind.wrap_i64]; omega
      have i2 : ((r.data.length : Int) - 1).toNat = r.data.length - 1 := by omega
      have i3 : (0 : Int) ≤ (r.data.length : Int) - 1 := by omega
      have i4 : ((r.data.length : Int) - 1) < r.data.length := by omega
      have hby := str_byte r.data (r.data.length - 1) (by omega)
      have hbv : byteAt r.data (r.data.length - 1) = (r.data[r.data.length - 1].toNat : Int) := by
        have hq9 : r.data.length - 1 < r.data.length := by omega
        simp [byteAt, hq9]
      have hz8 : (r.data[r.data.length - 1] == 0) = (byteAt r.data (r.data.length - 1) == 0) := by
        rw [hbv, Bool.eq_iff_iff]
        simp only [beq_iff_eq]
        constructor
        · intro q; rw [q]; rfl
        · intro q
          apply UInt8.toNat_inj.1
          have : r.data[r.data.length - 1].toNat = 0 := by omega
          rw [this]; rfl
      rw [hz8]
      clear hz8 hbv
      generalize byteAt r.data (r.data.length - 1) = z at *
      replace b1 := Hid.mk b1
      cases hz : (z == 0) with
      | true =>
        have hzz : (if (decide ((r.data.length : Int) ≤ r.n) && !true) = true then (if true = true then (0 : Int) else 45) else 43) = 43 := by simp
        rw [hzz]
        clear hzz
        go_enter Tryd.func42, Tryd.ntmps42
        go_wp2_with fail
        go_ret
        exact ⟨rfl, (Gr.refl w).alloc _⟩
      | false =>
        have hzz : (if (decide ((r.data.length : Int) ≤ r.n) && !false) = true then (if true = true then (0 : Int) else 45) else 43) = 0 := by simp [b1.out]
        rw [hzz]
        clear hzz
        go_enter Tryd.func42, Tryd.ntmps42
        go_wp2_with fail
        go_ret
        exact ⟨rfl, (Gr.refl w).alloc _⟩
    · have b2' : ¬ (0 : Int) < r.data.length := by omega
      have hd0 : r.data = [] := by cases hq : r.data with | nil => rfl | cons _ _ => rw [hq] at b2; simp at b2
      have hzz : (if (decide ((r.data.length : Int) ≤ r.n) && !endsNought r.data) = true then (if true = true then (0 : Int) else 45) else 43) = 0 := by
        rw [hd0] at b1 ⊢
        have : endsNought [] = false := rfl
        simp [this]
        simpa using b1
      rw [hzz]
      clear hzz
      replace hd0 := Hid.mk hd0
      replace b1 := Hid.mk b1
      go_enter Tryd.func42, Tryd.ntmps42
      go_wp2_with fail
      go_ret
      exact ⟨rfl, (Gr.refl w).alloc _⟩
  · have gk : ((r.slots.length : Int) == 0) = false := beq_false_of_ne (by omega)
    have e1 : IntKind.u64.wrap (16 * (r.slots.length : Int)) = 16 * r.slots.length := by rw [IntKind.wrap_u64]; omega
    have e2 : IntKind.u64.wrap (r.slots.length : Int) = r.slots.length := by rw [IntKind.wrap_u64]; omega
    have hcE : contentB r.n r.data r.slots.length = (r.data.isEmpty && (r.n == 16 * (r.slots.length : Int))) := by unfold contentB; rw [if_pos (by omega)]
    rw [hcE]
    clear hcE
    replace hk := Hid.mk hk
    by_cases b1 : r.data = []
    case neg =>
      have b1' : ¬ (str r.data).toList = [] := by rw [str_list]; exact b1
      have hzz : (if (r.data.isEmpty && (r.n == 16 * (r.slots.length : Int))) = true then (if slotsR r.slots = true then (0 : Int) else 45) else 43) = 43 := by simp [b1]
      rw [hzz]
      clear hzz
      replace b1 := Hid.mk b1
      go_enter Tryd.func42, Tryd.ntmps42
      go_wp2_with fail
      go_ret
      exact ⟨rfl, (Gr.refl w).alloc _⟩
    have b1' : (str r.data).toList = [] := by rw [str_list]; exact b1
    by_cases b2 : r.n = 16 * (r.slots.length : Int)
    case neg =>
      have b2' : (r.n != 16 * (r.slots.length : Int)) = true := by simpa using b2
      have hzz : (if (r.data.isEmpty && (r.n == 16 * (r.slots.length : Int))) = true then (if slotsR r.slots = true then (0 : Int) else 45) else 43) = 43 := by simp [b2]
      rw [hzz]
      clear hzz
      replace b1 := Hid.mk b1
      replace b2 := Hid.mk b2
      go_enter Tryd.func42, Tryd.ntmps42
      go_wp2_with fail
      go_ret
      exact ⟨rfl, (Gr.refl w).alloc _⟩
    have b2' : (r.n != 16 * (r.slots.length : Int)) = false := by simpa using b2
    have hzz : (if (r.data.isEmpty && (r.n == 16 * (r.slots.length : Int))) = true then (if slotsR r.slots = true then (0 : Int) else 45) else 43) = sltE (slotsR r.slots) := by rw [b1, b2]; simp [sltE]
    rw [hzz]
    clear hzz
    replace b1 := Hid.mk b1
    replace b2 := Hid.mk b2
    have X := Hid.mk (Box.new w #[.int .u64 r.b, .int .u64 r.n, .string (str r.data), .slice sa r.slots.length sc] 52)
    have hGR := Hid.mk ((Gr.refl w).alloc (.cells #[.int .u64 r.b, .int .u64 r.n, .string (str r.data), .slice sa r.slots.length sc] 52))
    go_enter Tryd.func42, Tryd.ntmps42
    go_wp2_with fail
    generalize w.alloc (.cells #[.int .u64 r.b, .int .u64 r.n, .string (str r.data), .slice sa r.slots.length sc] 52) = R0 at *
    replace hs := Hid.mk ((hs.out.below hGR.out.below).mono (gr_size hGR.out))
    clear g1 g2 g3 g4 g5 g6 gk b1' b2' e1 e2 m1 m2 m3
    go_loopw [6] (fun i wr => ∃ k : Nat, i = .int .i64 k ∧ k ≤ r.slots.length ∧ Hid (slotsR (r.slots.drop k) = slotsR r.slots ∧ Gr R0 wr)) (fun i _ => r.slots.length - (intOf i).toNat)
    case atStart => exact ⟨0, rfl, by omega, ⟨rfl, Gr.refl _⟩⟩
    case round =>
      obtain ⟨k, rfl, hkk, ⟨hsf, hG⟩⟩ := hrel
      have X1 := X.out.gr hG
      have ⟨z0, p0, f0⟩ := X1.at
      replace X1 := Hid.mk X1
      by_cases hkl : k < r.slots.length
      · have kl : (k : Int) < r.slots.length := by omega
        obtain ⟨b2, off2, rfl, hb3, hb4, hcc⟩ := (hs.out.below hG.below) k hkl
        obtain ⟨d0, d1, d2, d3, d4, d5, d6, d7⟩ := slot_cells hcc
        clear hcc
        rw [slotsR_at hkl] at hsf
        have htr := hsr.out r.slots[k] (List.getElem_mem hkl)
        have hT := fun W => refRightType_any r.slots[k].t W htr.1
        have hpr : r.slots[k].right = (r.slots[k].t.cap && r.slots[k].t.right && inLH r.slots[k].t.lo r.slots[k].t.hi r.slots[k].c) := rfl
        rw [hpr] at hsf
        generalize r.slots[k] = sl at *
        obtain ⟨t, cu⟩ := sl
        simp only at *
        clear htr hpr
        have TB := Box.new wr #[.bool t.cap, .int .u64 t.b, .int .u64 t.e, .int .u64 t.lo, .int .u64 t.hi, .int .u8 t.p, .int .i64 t.s] 88
        have hGT : Gr wr (wr.alloc (.cells #[.bool t.cap, .int .u64 t.b, .int .u64 t.e, .int .u64 t.lo, .int .u64 t.hi, .int .u8 t.p, .int .i64 t.s] 88)) := (Gr.refl wr).alloc _
        replace TB := Hid.mk TB
        replace hGT := Hid.mk hGT
        replace hG := Hid.mk hG
        cases hq0 : t.cap with
        | false =>
          simp only [hq0] at hsf hT d0 TB hGT
          simp only [Bool.false_and] at hsf
          replace hsf := Hid.mk hsf
          replace hq0 := Hid.mk hq0
          generalize t.right = tr at hT
          go_wp2_with fail
          clear z0 p0 f0
          refine (hT _).mono ?_
          rintro x w2 ⟨rfl, hG2⟩
          replace TB := TB.out.gr hG2
          have X2 := (X1.out.gr hGT.out).gr hG2
          have d7' := (hG2.cell (Nat.lt_of_lt_of_le hb4 (gr_size hGT.out)) _).trans ((hGT.out.cell hb4 _).trans d7)
          replace hG := Hid.mk ((hG.out.trans hGT.out).trans hG2)
          have hb5 : b2 < w2.heap.size := Nat.lt_of_lt_of_le hb4 (Nat.le_trans (gr_size hGT.out) (gr_size hG2))
          have ⟨z0, p0, f0⟩ := TB.at
          have ⟨z1, p1, f1⟩ := X2.at
          replace TB := Hid.mk TB
          replace X2 := Hid.mk X2
          clear hG2 hT hGT d0 d1 d2 d3 d4 d5 d6 d7 hb4 X1
          go_wp2_with fail
          go_quiet (fail)
          go_wp2_with fail
          go_ret
          exact ⟨retI (by rw [← hsf.out]; rfl), hGR.out.trans (hG.out.drewN _)⟩
        | true =>
          simp only [hq0] at hsf hT d0 TB hGT
          cases hq1 : t.right with
          | false =>
            simp only [hq1] at hsf hT
            simp only [Bool.and_false, Bool.false_and] at hsf
            replace hsf := Hid.mk hsf
            replace hq0 := Hid.mk hq0
            replace hq1 := Hid.mk hq1
            go_wp2_with fail
            clear z0 p0 f0
            refine (hT _).mono ?_
            rintro x w2 ⟨rfl, hG2⟩
            replace TB := TB.out.gr hG2
            have X2 := (X1.out.gr hGT.out).gr hG2
            have d7' := (hG2.cell (Nat.lt_of_lt_of_le hb4 (gr_size hGT.out)) _).trans ((hGT.out.cell hb4 _).trans d7)
            replace hG := Hid.mk ((hG.out.trans hGT.out).trans hG2)
            have hb5 : b2 < w2.heap.size := Nat.lt_of_lt_of_le hb4 (Nat.le_trans (gr_size hGT.out) (gr_size hG2))
            have ⟨z0, p0, f0⟩ := TB.at
            have ⟨z1, p1, f1⟩ := X2.at
            replace TB := Hid.mk TB
            replace X2 := Hid.mk X2
            clear hG2 hT hGT d0 d1 d2 d3 d4 d5 d6 d7 hb4 X1
            go_wp2_with fail
            go_quiet (fail)
            go_wp2_with fail
            go_ret
            exact ⟨retI (by rw [← hsf.out]; rfl), hGR.out.trans (hG.out.drewN _)⟩
          | true =>
            simp only [hq1] at hsf hT
            simp only [Bool.true_and] at hsf
            replace hq0 := Hid.mk hq0
            replace hq1 := Hid.mk hq1
            by_cases c1 : cu < t.lo
            · have hz : inLH t.lo t.hi cu = false := by unfold inLH; simp; omega
              rw [hz, Bool.false_and] at hsf
              replace hsf := Hid.mk hsf
              clear hz
              go_wp2_with fail
              clear z0 p0 f0
              refine (hT _).mono ?_
              rintro x w2 ⟨rfl, hG2⟩
              replace TB := TB.out.gr hG2
              have X2 := (X1.out.gr hGT.out).gr hG2
              have d7' := (hG2.cell (Nat.lt_of_lt_of_le hb4 (gr_size hGT.out)) _).trans ((hGT.out.cell hb4 _).trans d7)
              replace hG := Hid.mk ((hG.out.trans hGT.out).trans hG2)
              have hb5 : b2 < w2.heap.size := Nat.lt_of_lt_of_le hb4 (Nat.le_trans (gr_size hGT.out) (gr_size hG2))
              have ⟨z0, p0, f0⟩ := TB.at
              have ⟨z1, p1, f1⟩ := X2.at
              replace TB := Hid.mk TB
              replace X2 := Hid.mk X2
              clear hG2 hT hGT d0 d1 d2 d3 d4 d5 d6 d7 hb4 X1
              go_wp2_with fail
              go_quiet (fail)
              go_wp2_with fail
              go_ret
              exact ⟨retI (by rw [← hsf.out]; rfl), hGR.out.trans (hG.out.drewN _)⟩
            · by_cases c2 : t.hi < cu
              · have hz : inLH t.lo t.hi cu = false := by unfold inLH; simp; omega
                rw [hz, Bool.false_and] at hsf
                replace hsf := Hid.mk hsf
                clear hz
                go_wp2_with fail
                clear z0 p0 f0
                refine (hT _).mono ?_
                rintro x w2 ⟨rfl, hG2⟩
                replace TB := TB.out.gr hG2
                have X2 := (X1.out.gr hGT.out).gr hG2
                have d7' := (hG2.cell (Nat.lt_of_lt_of_le hb4 (gr_size hGT.out)) _).trans ((hGT.out.cell hb4 _).trans d7)
                replace hG := Hid.mk ((hG.out.trans hGT.out).trans hG2)
                have hb5 : b2 < w2.heap.size := Nat.lt_of_lt_of_le hb4 (Nat.le_trans (gr_size hGT.out) (gr_size hG2))
                have ⟨z0, p0, f0⟩ := TB.at
                have ⟨z1, p1, f1⟩ := X2.at
                replace TB := Hid.mk TB
                replace X2 := Hid.mk X2
                clear hG2 hT hGT d0 d1 d2 d3 d4 d5 d6 d7 hb4 X1
                go_wp2_with fail
                go_quiet (fail)
                go_wp2_with fail
                go_ret
                exact ⟨retI (by rw [← hsf.out]; rfl), hGR.out.trans (hG.out.drewN _)⟩
              · have hz : inLH t.lo t.hi cu = true := by unfold inLH; simp; omega
                rw [hz, Bool.true_and] at hsf
                replace hsf := Hid.mk hsf
                clear hz
                go_wp2_with fail
                clear z0 p0 f0
                refine (hT _).mono ?_
                rintro x w2 ⟨rfl, hG2⟩
                replace TB := TB.out.gr hG2
                have X2 := (X1.out.gr hGT.out).gr hG2
                have d7' := (hG2.cell (Nat.lt_of_lt_of_le hb4 (gr_size hGT.out)) _).trans ((hGT.out.cell hb4 _).trans d7)
                replace hG := Hid.mk ((hG.out.trans hGT.out).trans hG2)
                have hb5 : b2 < w2.heap.size := Nat.lt_of_lt_of_le hb4 (Nat.le_trans (gr_size hGT.out) (gr_size hG2))
                have ⟨z0, p0, f0⟩ := TB.at
                have ⟨z1, p1, f1⟩ := X2.at
                replace TB := Hid.mk TB
                replace X2 := Hid.mk X2
                clear hG2 hT hGT d0 d1 d2 d3 d4 d5 d6 d7 hb4 X1
                go_wp2_with fail
                go_quiet (fail)
                go_wp2_with fail
                go_roundw
                case rel => exact ⟨k + 1, by simp, by omega, ⟨hsf.out, hG.out.drewN _⟩⟩
                case measure => simp [intOf]; omega
      · have kl : ¬ (k : Int) < r.slots.length := by omega
        rw [drop_end hkl] at hsf
        have hq : sltE (slotsR r.slots) = 0 := by rw [← hsf]; rfl
        replace hG := Hid.mk hG
        replace hq := Hid.mk hq
        clear hsf
        go_wp2_with fail
        go_ret
        exact ⟨retI hq.out.symm, hGR.out.trans hG.out⟩
end Go.Proofs.YtdmkedpnkejpbaaDoor


/-
  Stage 4, image: the document's own answer: a compartment.
-/
namespace Go.Proofs.YtdmkedpnkejpbaaDoor
open Go.RowKit

def compE (g : Int) (c : PComp) : Int := if rootsR c.roots 7 then codeR c.code g else 46
theorem compsR_E (g : Int) (c : PComp) (L : List PComp) : compsR g (c :: L) = if compE g c = 0 then compsR g L else compE g c := by
  rw [compsR]
  unfold compE
  split
  · rfl
  · simp
set_option maxHeartbeats 400000 in
theorem Jumps_any (op : Int) (w : World) :
    Calls Tryd.prog 70 #[.int .u8 op] w fun x w' => x = .returned (.bool (decide (20 ≤ op ∧ op ≤ 25))) ∧ w = w' := by
  go_enter Tryd.func70, Tryd.ntmps70
  go_wp2
  all_goals
    go_ret
    exact ⟨ret_bool (by simp_all <;> omega), rfl⟩
set_option maxRecDepth 10000 in
set_option maxHeartbeats 40000000 in
theorem refComp_any (c : PComp) (ra ka : Option Addr) (rc kc : Nat) (g : Int) (w : World) (hs : FIn 6 PRoot.vals w.heap.size w ra c.roots) (hc : LIn w.heap.size w ka c.code) (hr : c.Rng) :
    Calls Tryd.prog 43 #[.agg #[.slice ra c.roots.length rc, .slice ka c.code.length kc], .int .i64 g] w fun x w' => x = .returned (.int .i64 (compE g c)) ∧ Gr w w' := by
  obtain ⟨hl1, hl2, hops, hrr⟩ := hr
  have l1 : (c.roots.length : Int) ≤ 140737488355328 := by unfold maxG at hl1; omega
  have l2 : (c.code.length : Int) ≤ 140737488355328 := by unfold maxI at hl2; omega
  have X := Hid.mk (Box.new w #[.slice ra c.roots.length rc, .slice ka c.code.length kc] 57)
  have hGR := Hid.mk ((Gr.refl w).alloc (.cells #[.slice ra c.roots.length rc, .slice ka c.code.length kc] 57))
  replace hs := Hid.mk hs
  replace hc := Hid.mk hc
  replace hrr := Hid.mk hrr
  replace hops := Hid.mk hops
  clear hl1 hl2
  go_enter Tryd.func43, Tryd.ntmps43
  go_wp2_with fail
  generalize w.alloc (.cells #[.slice ra c.roots.length rc, .slice ka c.code.length kc] 57) = R0 at *
  replace hs := Hid.mk ((hs.out.below hGR.out.below).mono (gr_size hGR.out))
  replace hc := Hid.mk ((hc.out.below hGR.out.below).mono (gr_size hGR.out))
  go_loopw [5, 6] (fun l i wr => ∃ (k : Nat) (f : Int), l = .int .i64 f ∧ i = .int .i64 k ∧ k ≤ c.roots.length ∧ Hid (rootsR (c.roots.drop k) f = rootsR c.roots 7 ∧ Gr R0 wr)) (fun _ i _ => c.roots.length - (intOf i).toNat)
  case atStart => exact ⟨0, 7, rfl, rfl, by omega, ⟨rfl, Gr.refl _⟩⟩
  case round =>
    obtain ⟨k, f, rfl, rfl, hkk, ⟨hsf, hG⟩⟩ := hrel
    have X1 := X.out.gr hG
    have ⟨z0, p0, f0⟩ := X1.at
    replace X1 := Hid.mk X1
    by_cases hkl : k < c.roots.length
    · have kl : (k : Int) < c.roots.length := by omega
      obtain ⟨b2, off2, rfl, hb3, hb4, hcc⟩ := (hs.out.below hG.below) k hkl
      obtain ⟨d0, d1, d2, d3, d4, d5⟩ := root_cells hcc
      clear hcc
      have htr := hrr.out c.roots[k] (List.getElem_mem hkl)
      have hT := fun W => refFit_any c.roots[k].b c.roots[k].e c.roots[k].c c.roots[k].p c.roots[k].s W htr.2.2.2.2.1
      have hy := rootsR_yes (f := f) hkl
      have hno := rootsR_no (f := f) hkl
      generalize c.roots[k] = t at *
      generalize dataB t.b t.e t.p t.s = q at *
      clear htr
      by_cases q1 : f < t.r
      case neg =>
        rw [hno (fun q => q1 q.1)] at hsf
        have q1' : t.r ≤ f := by omega
        clear hy hno
        replace q1 := Hid.mk q1
        replace hG := Hid.mk hG
        replace hsf := Hid.mk hsf
        go_wp2_with fail
        refine (hT _).mono ?_
        rintro x w2 ⟨rfl, hG2⟩
        have X2 := X1.out.gr hG2
        have d0' := (hG2.cell hb4 _).trans d0
        have hb5 : b2 < w2.heap.size := Nat.lt_of_lt_of_le hb4 (gr_size hG2)
        replace hG := Hid.mk (hG.out.trans hG2)
        clear z0 p0 f0 hG2 hT d0 d1 d2 d3 d4 d5 hb4 X1
        have ⟨z1, p1, f1⟩ := X2.at
        replace X2 := Hid.mk X2
        go_wp2_with fail
        go_ret
        exact ⟨retI (by unfold compE; rw [← hsf.out]; rfl), hGR.out.trans hG.out⟩
      have q1' : ¬ t.r ≤ f := by omega
      by_cases q2 : t.r < 16
      case neg =>
        rw [hno (fun q => q2 q.2.1)] at hsf
        have q2' : (16 : Int) ≤ t.r := by omega
        clear hy hno
        replace q1 := Hid.mk q1
        replace q2 := Hid.mk q2
        replace hG := Hid.mk hG
        replace hsf := Hid.mk hsf
        go_wp2_with fail
        refine (hT _).mono ?_
        rintro x w2 ⟨rfl, hG2⟩
        have X2 := X1.out.gr hG2
        have d0' := (hG2.cell hb4 _).trans d0
        have hb5 : b2 < w2.heap.size := Nat.lt_of_lt_of_le hb4 (gr_size hG2)
        replace hG := Hid.mk (hG.out.trans hG2)
        clear z0 p0 f0 hG2 hT d0 d1 d2 d3 d4 d5 hb4 X1
        have ⟨z1, p1, f1⟩ := X2.at
        replace X2 := Hid.mk X2
        go_wp2_with fail
        go_ret
        exact ⟨retI (by unfold compE; rw [← hsf.out]; rfl), hGR.out.trans hG.out⟩
      have q2' : ¬ (16 : Int) ≤ t.r := by omega
      cases q with
      | false =>
        rw [hno (fun q => by have := q.2.2; simp at this)] at hsf
        clear hy hno
        replace q1 := Hid.mk q1
        replace q2 := Hid.mk q2
        replace hG := Hid.mk hG
        replace hsf := Hid.mk hsf
        go_wp2_with fail
        refine (hT _).mono ?_
        rintro x w2 ⟨rfl, hG2⟩
        have X2 := X1.out.gr hG2
        have d0' := (hG2.cell hb4 _).trans d0
        have hb5 : b2 < w2.heap.size := Nat.lt_of_lt_of_le hb4 (gr_size hG2)
        replace hG := Hid.mk (hG.out.trans hG2)
        clear z0 p0 f0 hG2 hT d0 d1 d2 d3 d4 d5 hb4 X1
        have ⟨z1, p1, f1⟩ := X2.at
        replace X2 := Hid.mk X2
        go_wp2_with fail
        go_ret
        exact ⟨retI (by unfold compE; rw [← hsf.out]; rfl), hGR.out.trans hG.out⟩
      | true =>
        rw [hy q1 q2 rfl] at hsf
        clear hy hno
        replace q1 := Hid.mk q1
        replace q2 := Hid.mk q2
        replace hG := Hid.mk hG
        replace hsf := Hid.mk hsf
        go_wp2_with fail
        refine (hT _).mono ?_
        rintro x w2 ⟨rfl, hG2⟩
        have X2 := X1.out.gr hG2
        have d0' := (hG2.cell hb4 _).trans d0
        have hb5 : b2 < w2.heap.size := Nat.lt_of_lt_of_le hb4 (gr_size hG2)
        replace hG := Hid.mk (hG.out.trans hG2)
        clear z0 p0 f0 hG2 hT d0 d1 d2 d3 d4 d5 hb4 X1
        have ⟨z1, p1, f1⟩ := X2.at
        replace X2 := Hid.mk X2
        go_wp2_with fail
        go_roundw
        case rel => exact ⟨k + 1, t.r, rfl, by simp, by omega, ⟨hsf.out, hG.out⟩⟩
        case measure => simp [intOf]; omega
    · have kl : ¬ (k : Int) < c.roots.length := by omega
      rw [drop_end hkl] at hsf
      have hro : rootsR c.roots 7 = true := by rw [← hsf]; rfl
      have hq : compE g c = codeR c.code g := by unfold compE; rw [if_pos hro]
      replace hq := Hid.mk hq
      clear hsf hro
      replace hG := Hid.mk hG
      by_cases n1 : c.code.length < 1 ∨ 400 < c.code.length
      · have hz : codeR c.code g = 42 := if_pos n1
        replace hz := Hid.mk hz
        by_cases n2 : c.code.length < 1
        · have n2' : (c.code.length : Int) < 1 := by omega
          clear n1
          go_wp2_with fail
          go_ret
          exact ⟨retI (by rw [hq.out, hz.out]), hGR.out.trans hG.out⟩
        · have n2' : ¬ (c.code.length : Int) < 1 := by omega
          have n3' : (400 : Int) < c.code.length := by omega
          clear n1
          go_wp2_with fail
          go_ret
          exact ⟨retI (by rw [hq.out, hz.out]), hGR.out.trans hG.out⟩
      have hz : codeR c.code g = codeF c.code.length g c.code := if_neg n1
      have n2' : ¬ (c.code.length : Int) < 1 := by omega
      have n3' : ¬ (400 : Int) < c.code.length := by omega
      rw [hz] at hq
      clear hz
      go_wp2_with fail
      clear n1 n2' n3' z0 p0 f0 kl hkl hkk X1
      replace hc := Hid.mk ((hc.out.below hG.out.below).mono (gr_size hG.out))
      replace X := Hid.mk (X.out.gr hG.out)
      replace hGR := Hid.mk (hGR.out.trans hG.out)
      clear hG
      generalize wr = R1 at *
      go_loopw [8] (fun i wr => ∃ k2 : Nat, i = .int .i64 k2 ∧ k2 ≤ c.code.length ∧ Hid (codeF c.code.length g (c.code.drop k2) = codeF c.code.length g c.code ∧ Gr R1 wr)) (fun i _ => c.code.length - (intOf i).toNat)
      case atStart => exact ⟨0, rfl, by omega, ⟨rfl, Gr.refl _⟩⟩
      case round =>
        obtain ⟨k2, rfl, hkk, ⟨hsf, hG⟩⟩ := hrel
        have X1 := X.out.gr hG
        have ⟨z0, p0, f0⟩ := X1.at
        replace X1 := Hid.mk X1
        by_cases hkl : k2 < c.code.length
        · have kl : (k2 : Int) < c.code.length := by omega
          obtain ⟨b2, off2, rfl, hb3, hb4, c0, c1, c2, c3, c4⟩ := (hc.out.below hG.below) k2 hkl
          obtain ⟨ho0, ho1⟩ := hops.out c.code[k2] (List.getElem_mem hkl)
          have hT := fun W => refRight_any c.code[k2].op c.code[k2].a c.code[k2].b c.code[k2].c c.code[k2].m W ho0 ho1
          rw [right_doc _ _ _ _ _ ho0 ho1] at hT
          have hJ := fun W => Jumps_any c.code[k2].op W
          rw [List.drop_eq_getElem_cons hkl, codeF] at hsf
          have hri : c.code[k2].right = rightF c.code[k2].op c.code[k2].a c.code[k2].b c.code[k2].c c.code[k2].m := rfl
          rw [hri] at hsf
          generalize c.code[k2] = t at *
          generalize rightF t.op t.a t.b t.c t.m = e at *
          clear hri
          by_cases e0 : e = 0
          case neg =>
            rw [if_neg e0] at hsf
            have e0' : (e != 0) = true := by simpa using e0
            clear hJ
            replace e0 := Hid.mk e0
            replace hG := Hid.mk hG
            replace hsf := Hid.mk hsf
            go_wp2_with fail
            refine (hT _).mono ?_
            rintro x w2 ⟨rfl, hG2⟩
            have X2 := X1.out.gr hG2
            have c0' := (hG2.cell hb4 _).trans c0
            have c4' := (hG2.cell hb4 _).trans c4
            have hb5 : b2 < w2.heap.size := Nat.lt_of_lt_of_le hb4 (gr_size hG2)
            replace hG := Hid.mk (hG.out.trans hG2)
            clear z0 p0 f0 hG2 hT c0 c1 c2 c3 c4 hb4 X1
            have ⟨z1, p1, f1⟩ := X2.at
            replace X2 := Hid.mk X2
            go_wp2_with fail
            go_ret
            exact ⟨retI (by rw [hq.out, ← hsf.out]), hGR.out.trans hG.out⟩
          have e0' : (e != 0) = false := by simpa using e0
          rw [if_pos e0] at hsf
          replace e0 := Hid.mk e0
          by_cases j1 : 20 ≤ t.op ∧ t.op ≤ 25
          · have jd : decide (20 ≤ t.op ∧ t.op ≤ 25) = true := by simpa using j1
            rw [jd] at hJ
            have o31 : (t.op == 31) = false := beq_false_of_ne (by omega)
            have htg : tgtB t.op t.m c.code.length g = decide (t.m < c.code.length) := if_pos j1
            rw [htg] at hsf
            clear htg jd
            replace j1 := Hid.mk j1
            by_cases j2 : t.m < c.code.length
            · have j2' : ¬ (c.code.length : Int) ≤ t.m := by omega
              rw [if_pos (by simpa using j2)] at hsf
              replace j2 := Hid.mk j2
              replace hG := Hid.mk hG
              replace hsf := Hid.mk hsf
              go_wp2_with fail
              refine (hT _).mono ?_
              rintro x w2 ⟨rfl, hG2⟩
              have X2 := X1.out.gr hG2
              have c0' := (hG2.cell hb4 _).trans c0
              have c4' := (hG2.cell hb4 _).trans c4
              have hb5 : b2 < w2.heap.size := Nat.lt_of_lt_of_le hb4 (gr_size hG2)
              replace hG := Hid.mk (hG.out.trans hG2)
              clear z0 p0 f0 hG2 hT c0 c1 c2 c3 c4 hb4 X1
              have ⟨z1, p1, f1⟩ := X2.at
              replace X2 := Hid.mk X2
              go_wp2_with fail
              refine (hJ _).mono ?_
              rintro x w3 ⟨rfl, rfl⟩
              go_wp2_with fail
              have KS : ∀ W, Gr w2 W → W.cell? ⟨w.heap.size, 1, none⟩ = some (.slice (some ⟨b2, off2, none⟩) c.code.length kc) ∧ W.cell? ⟨b2, off2 + k2 * 5, none⟩ = some (.int .u8 t.op) ∧ W.cell? ⟨b2, off2 + k2 * 5 + 1 + 1 + 1 + 1, none⟩ = some (.int .i64 t.m) := fun W hW => ⟨(hW.cell z1 1).trans (p1 1), (hW.cell hb5 _).trans c0', (hW.cell hb5 _).trans c4'⟩
              replace KS := Hid.mk KS
              have hG0 : Gr w2 w2.drew := (Gr.refl _).drew
              refine wp_region_held_drew (S := fun W => W.cell? ⟨w.heap.size, 1, none⟩ = some (.slice (some ⟨b2, off2, none⟩) c.code.length kc) ∧ W.cell? ⟨b2, off2 + k2 * 5, none⟩ = some (.int .u8 t.op) ∧ W.cell? ⟨b2, off2 + k2 * 5 + 1 + 1 + 1 + 1, none⟩ = some (.int .i64 t.m)) (by kernel_rfl) (KS.out _ hG0) (fun hHeld => ?_)
              refine wpAnyH_take (i := 0) (oi := { dst := some 85, op := Op.move (Operand.tmp 10), type := 4, pos := "right.go:116", after := #[], guard := none }) (v := ?_) rfl (by kernel_rfl) (by kernel_rfl) (by kernel_rfl) (fun _ _ _ h => h) (Or.inl ⟨by rfl, ?_⟩) (by assumption) ?_
              rotate_left
              · intro w hSw; (try dsimp only at hSw); go_simp; first | done | with_reducible rfl
              try simp only [Act.put, List.setIfInBounds_toArray, List.set_cons_zero, List.set_cons_succ]
              refine wpAnyH_take (i := 1) (oi := { dst := some 86, op := Op.move (Operand.tmp 85), type := 4, pos := "right.go:116", after := #[{ on := 0, ground := Ground.data }], guard := none }) (v := ?_) rfl (by kernel_rfl) (by kernel_rfl) (by kernel_rfl) (fun _ _ _ h => h) (Or.inl ⟨by rfl, ?_⟩) (by assumption) ?_
              rotate_left
              · intro w hSw; (try dsimp only at hSw); go_simp; first | done | with_reducible rfl
              try simp only [Act.put, List.setIfInBounds_toArray, List.set_cons_zero, List.set_cons_succ]
              refine wpAnyH_take (i := 2) (oi := { dst := some 87, op := Op.fieldAddr 57 (Operand.tmp 2) 1, type := 0, pos := "right.go:116", after := #[{ on := 1, ground := Ground.guard }], guard := some (1, true) }) (v := ?_) rfl (by kernel_rfl) (by kernel_rfl) (by kernel_rfl) (fun _ _ _ h => h) (Or.inl ⟨by rfl, ?_⟩) (by assumption) ?_
              rotate_left
              · intro w hSw; (try dsimp only at hSw); go_simp; first | done | with_reducible rfl
              try simp only [Act.put, List.setIfInBounds_toArray, List.set_cons_zero, List.set_cons_succ]
              refine wpAnyH_take (i := 3) (oi := { dst := some 88, op := Op.load 55 (Operand.tmp 87), type := 55, pos := "right.go:116", after := #[{ on := 2, ground := Ground.data }, { on := 1, ground := Ground.guard }], guard := some (1, true) }) (v := ?_) rfl (by kernel_rfl) (by kernel_rfl) (by kernel_rfl) (fun _ _ _ h => h) (Or.inl ⟨by rfl, ?_⟩) (by assumption) ?_
              rotate_left
              · intro w hSw; (try dsimp only at hSw); go_simp; first | done | with_reducible rfl
              try simp only [Act.put, List.setIfInBounds_toArray, List.set_cons_zero, List.set_cons_succ]
              refine wpAnyH_take (i := 4) (oi := { dst := some 89, op := Op.move (Operand.tmp 8), type := 3, pos := "right.go:116", after := #[{ on := 1, ground := Ground.guard }], guard := some (1, true) }) (v := ?_) rfl (by kernel_rfl) (by kernel_rfl) (by kernel_rfl) (fun _ _ _ h => h) (Or.inl ⟨by rfl, ?_⟩) (by assumption) ?_
              rotate_left
              · intro w hSw; (try dsimp only at hSw); go_simp; first | done | with_reducible rfl
              try simp only [Act.put, List.setIfInBounds_toArray, List.set_cons_zero, List.set_cons_succ]
              refine wpAnyH_take (i := 5) (oi := { dst := some 90, op := Op.indexAddr 55 (Operand.tmp 88) (Operand.tmp 89), type := 0, pos := "right.go:116", after := #[{ on := 3, ground := Ground.data }, { on := 4, ground := Ground.data }, { on := 1, ground := Ground.guard }], guard := some (1, true) }) (v := ?_) rfl (by kernel_rfl) (by kernel_rfl) (by kernel_rfl) (fun _ _ _ h => h) (Or.inl ⟨by rfl, ?_⟩) (by assumption) ?_
              rotate_left
              · intro w hSw; (try dsimp only at hSw); go_simp; first | done | with_reducible rfl
              try simp only [Act.put, List.setIfInBounds_toArray, List.set_cons_zero, List.set_cons_succ]
              refine wpAnyH_take (i := 6) (oi := { dst := some 91, op := Op.fieldAddr 74 (Operand.tmp 90) 4, type := 0, pos := "right.go:116", after := #[{ on := 5, ground := Ground.data }, { on := 1, ground := Ground.guard }], guard := some (1, true) }) (v := ?_) rfl (by kernel_rfl) (by kernel_rfl) (by kernel_rfl) (fun _ _ _ h => h) (Or.inl ⟨by rfl, ?_⟩) (by assumption) ?_
              rotate_left
              · intro w hSw; (try dsimp only at hSw); go_simp; first | done | with_reducible rfl
              try simp only [Act.put, List.setIfInBounds_toArray, List.set_cons_zero, List.set_cons_succ]
              refine wpAnyH_take (i := 7) (oi := { dst := some 92, op := Op.load 3 (Operand.tmp 91), type := 3, pos := "right.go:116", after := #[{ on := 6, ground := Ground.data }, { on := 1, ground := Ground.guard }], guard := some (1, true) }) (v := ?_) rfl (by kernel_rfl) (by kernel_rfl) (by kernel_rfl) (fun _ _ _ h => h) (Or.inl ⟨by rfl, ?_⟩) (by assumption) ?_
              rotate_left
              · intro w hSw; (try dsimp only at hSw); go_simp; first | done | with_reducible rfl
              try simp only [Act.put, List.setIfInBounds_toArray, List.set_cons_zero, List.set_cons_succ]
              refine wpAnyH_take (i := 8) (oi := { dst := some 93, op := Op.fieldAddr 57 (Operand.tmp 2) 1, type := 0, pos := "right.go:116", after := #[{ on := 1, ground := Ground.guard }], guard := some (1, true) }) (v := ?_) rfl (by kernel_rfl) (by kernel_rfl) (by kernel_rfl) (fun _ _ _ h => h) (Or.inl ⟨by rfl, ?_⟩) (by assumption) ?_
              rotate_left
              · intro w hSw; (try dsimp only at hSw); go_simp; first | done | with_reducible rfl
              try simp only [Act.put, List.setIfInBounds_toArray, List.set_cons_zero, List.set_cons_succ]
              refine wpAnyH_take (i := 9) (oi := { dst := some 94, op := Op.load 55 (Operand.tmp 93), type := 55, pos := "right.go:116", after := #[{ on := 8, ground := Ground.data }, { on := 1, ground := Ground.guard }], guard := some (1, true) }) (v := ?_) rfl (by kernel_rfl) (by kernel_rfl) (by kernel_rfl) (fun _ _ _ h => h) (Or.inl ⟨by rfl, ?_⟩) (by assumption) ?_
              rotate_left
              · intro w hSw; (try dsimp only at hSw); go_simp; first | done | with_reducible rfl
              try simp only [Act.put, List.setIfInBounds_toArray, List.set_cons_zero, List.set_cons_succ]
              refine wpAnyH_take (i := 10) (oi := { dst := some 95, op := Op.call { callee := Callee.builtin Builtin.len, args := #[Operand.tmp 94], argTypes := #[55] }, type := 3, pos := "right.go:116", after := #[{ on := 9, ground := Ground.data }, { on := 1, ground := Ground.guard }], guard := some (1, true) }) (v := ?_) rfl (by kernel_rfl) (by kernel_rfl) (by kernel_rfl) (fun _ _ _ h => h) (Or.inl ⟨by rfl, ?_⟩) (by assumption) ?_
              rotate_left
              · intro w hSw; (try dsimp only at hSw); go_simp; first | done | with_reducible rfl
              try simp only [Act.put, List.setIfInBounds_toArray, List.set_cons_zero, List.set_cons_succ]
              refine wpAnyH_take (i := 11) (oi := { dst := some 96, op := Op.binOp BinOp.geq 3 (Operand.tmp 92) (Operand.tmp 95) 3, type := 4, pos := "right.go:116", after := #[{ on := 7, ground := Ground.data }, { on := 10, ground := Ground.data }, { on := 1, ground := Ground.guard }], guard := some (1, true) }) (v := .bool false) rfl (by kernel_rfl) (by kernel_rfl) (by kernel_rfl) (fun _ _ _ h => h) (Or.inl ⟨by rfl, ?_⟩) (by assumption) ?_
              · intro w hSw; (try dsimp only at hSw); first | (go_simp; done) | (go_simp; simp_all; done) | (go_simp; omega)
              try simp only [Act.put, List.setIfInBounds_toArray, List.set_cons_zero, List.set_cons_succ]
              refine wpAnyH_take (i := 12) (oi := { dst := some 97, op := Op.pick (Operand.tmp 86) (Operand.tmp 96) (Operand.const (Value.bool false)), type := 4, pos := "right.go:116", after := #[{ on := 1, ground := Ground.data }, { on := 11, ground := Ground.data }], guard := none }) (v := ?_) rfl (by kernel_rfl) (by kernel_rfl) (by kernel_rfl) (fun _ _ _ h => h) (Or.inl ⟨by rfl, ?_⟩) (by assumption) ?_
              rotate_left
              · intro w hSw; (try dsimp only at hSw); go_simp; first | done | with_reducible rfl
              try simp only [Act.put, List.setIfInBounds_toArray, List.set_cons_zero, List.set_cons_succ]
              refine wpAnyH_take (i := 13) (oi := { dst := some 98, op := Op.move (Operand.tmp 97), type := 4, pos := "right.go:116", after := #[{ on := 12, ground := Ground.data }, { on := 1, ground := Ground.chain }], guard := none }) (v := ?_) rfl (by kernel_rfl) (by kernel_rfl) (by kernel_rfl) (fun _ _ _ h => h) (Or.inl ⟨by rfl, ?_⟩) (by assumption) ?_
              rotate_left
              · intro w hSw; (try dsimp only at hSw); go_simp; first | done | with_reducible rfl
              try simp only [Act.put, List.setIfInBounds_toArray, List.set_cons_zero, List.set_cons_succ]
              refine wpAnyH_take (i := 14) (oi := { dst := some 99, op := Op.fieldAddr 57 (Operand.tmp 2) 1, type := 0, pos := "right.go:116", after := #[{ on := 13, ground := Ground.guard }], guard := some (13, false) }) (v := ?_) rfl (by kernel_rfl) (by kernel_rfl) (by kernel_rfl) (fun _ _ _ h => h) (Or.inl ⟨by rfl, ?_⟩) (by assumption) ?_
              rotate_left
              · intro w hSw; (try dsimp only at hSw); go_simp; first | done | with_reducible rfl
              try simp only [Act.put, List.setIfInBounds_toArray, List.set_cons_zero, List.set_cons_succ]
              refine wpAnyH_take (i := 15) (oi := { dst := some 100, op := Op.load 55 (Operand.tmp 99), type := 55, pos := "right.go:116", after := #[{ on := 14, ground := Ground.data }, { on := 13, ground := Ground.guard }], guard := some (13, false) }) (v := ?_) rfl (by kernel_rfl) (by kernel_rfl) (by kernel_rfl) (fun _ _ _ h => h) (Or.inl ⟨by rfl, ?_⟩) (by assumption) ?_
              rotate_left
              · intro w hSw; (try dsimp only at hSw); go_simp; first | done | with_reducible rfl
              try simp only [Act.put, List.setIfInBounds_toArray, List.set_cons_zero, List.set_cons_succ]
              refine wpAnyH_take (i := 16) (oi := { dst := some 101, op := Op.move (Operand.tmp 8), type := 3, pos := "right.go:116", after := #[{ on := 13, ground := Ground.guard }], guard := some (13, false) }) (v := ?_) rfl (by kernel_rfl) (by kernel_rfl) (by kernel_rfl) (fun _ _ _ h => h) (Or.inl ⟨by rfl, ?_⟩) (by assumption) ?_
              rotate_left
              · intro w hSw; (try dsimp only at hSw); go_simp; first | done | with_reducible rfl
              try simp only [Act.put, List.setIfInBounds_toArray, List.set_cons_zero, List.set_cons_succ]
              refine wpAnyH_take (i := 17) (oi := { dst := some 102, op := Op.indexAddr 55 (Operand.tmp 100) (Operand.tmp 101), type := 0, pos := "right.go:116", after := #[{ on := 15, ground := Ground.data }, { on := 16, ground := Ground.data }, { on := 13, ground := Ground.guard }], guard := some (13, false) }) (v := ?_) rfl (by kernel_rfl) (by kernel_rfl) (by kernel_rfl) (fun _ _ _ h => h) (Or.inl ⟨by rfl, ?_⟩) (by assumption) ?_
              rotate_left
              · intro w hSw; (try dsimp only at hSw); go_simp; first | done | with_reducible rfl
              try simp only [Act.put, List.setIfInBounds_toArray, List.set_cons_zero, List.set_cons_succ]
              refine wpAnyH_take (i := 18) (oi := { dst := some 103, op := Op.fieldAddr 74 (Operand.tmp 102) 0, type := 0, pos := "right.go:116", after := #[{ on := 17, ground := Ground.data }, { on := 13, ground := Ground.guard }], guard := some (13, false) }) (v := ?_) rfl (by kernel_rfl) (by kernel_rfl) (by kernel_rfl) (fun _ _ _ h => h) (Or.inl ⟨by rfl, ?_⟩) (by assumption) ?_
              rotate_left
              · intro w hSw; (try dsimp only at hSw); go_simp; first | done | with_reducible rfl
              try simp only [Act.put, List.setIfInBounds_toArray, List.set_cons_zero, List.set_cons_succ]
              refine wpAnyH_take (i := 19) (oi := { dst := some 104, op := Op.load 72 (Operand.tmp 103), type := 72, pos := "right.go:116", after := #[{ on := 18, ground := Ground.data }, { on := 13, ground := Ground.guard }], guard := some (13, false) }) (v := ?_) rfl (by kernel_rfl) (by kernel_rfl) (by kernel_rfl) (fun _ _ _ h => h) (Or.inl ⟨by rfl, ?_⟩) (by assumption) ?_
              rotate_left
              · intro w hSw; (try dsimp only at hSw); go_simp; first | done | with_reducible rfl
              try simp only [Act.put, List.setIfInBounds_toArray, List.set_cons_zero, List.set_cons_succ]
              refine wpAnyH_take (i := 20) (oi := { dst := some 105, op := Op.binOp BinOp.eql 72 (Operand.tmp 104) (Operand.const (Value.int IntKind.u8 31)) 72, type := 4, pos := "right.go:116", after := #[{ on := 19, ground := Ground.data }, { on := 13, ground := Ground.guard }], guard := some (13, false) }) (v := .bool false) rfl (by kernel_rfl) (by kernel_rfl) (by kernel_rfl) (fun _ _ _ h => h) (Or.inl ⟨by rfl, ?_⟩) (by assumption) ?_
              · intro w hSw; (try dsimp only at hSw); first | (go_simp; done) | (go_simp; simp_all; done) | (go_simp; omega)
              try simp only [Act.put, List.setIfInBounds_toArray, List.set_cons_zero, List.set_cons_succ]
              refine wpAnyH_take (i := 21) (oi := { dst := some 106, op := Op.move (Operand.tmp 105), type := 4, pos := "right.go:116", after := #[{ on := 20, ground := Ground.data }, { on := 13, ground := Ground.chain }, { on := 13, ground := Ground.guard }], guard := some (13, false) }) (v := ?_) rfl (by kernel_rfl) (by kernel_rfl) (by kernel_rfl) (fun _ _ _ h => h) (Or.inl ⟨by rfl, ?_⟩) (by assumption) ?_
              rotate_left
              · intro w hSw; (try dsimp only at hSw); go_simp; first | done | with_reducible rfl
              try simp only [Act.put, List.setIfInBounds_toArray, List.set_cons_zero, List.set_cons_succ]
              refine wpAnyH_take (i := 22) (oi := { dst := some 107, op := Op.fieldAddr 57 (Operand.tmp 2) 1, type := 0, pos := "right.go:116", after := #[{ on := 21, ground := Ground.guard }], guard := some (21, true) }) (v := undef) rfl (by kernel_rfl) (by kernel_rfl) (by kernel_rfl) (fun _ _ _ h => h) (Or.inr ⟨by rfl, rfl⟩) (by assumption) ?_
              try simp only [Act.put, List.setIfInBounds_toArray, List.set_cons_zero, List.set_cons_succ]
              refine wpAnyH_take (i := 23) (oi := { dst := some 108, op := Op.load 55 (Operand.tmp 107), type := 55, pos := "right.go:116", after := #[{ on := 22, ground := Ground.data }, { on := 21, ground := Ground.guard }], guard := some (21, true) }) (v := undef) rfl (by kernel_rfl) (by kernel_rfl) (by kernel_rfl) (fun _ _ _ h => h) (Or.inr ⟨by rfl, rfl⟩) (by assumption) ?_
              try simp only [Act.put, List.setIfInBounds_toArray, List.set_cons_zero, List.set_cons_succ]
              refine wpAnyH_take (i := 24) (oi := { dst := some 109, op := Op.move (Operand.tmp 8), type := 3, pos := "right.go:116", after := #[{ on := 21, ground := Ground.guard }], guard := some (21, true) }) (v := undef) rfl (by kernel_rfl) (by kernel_rfl) (by kernel_rfl) (fun _ _ _ h => h) (Or.inr ⟨by rfl, rfl⟩) (by assumption) ?_
              try simp only [Act.put, List.setIfInBounds_toArray, List.set_cons_zero, List.set_cons_succ]
              refine wpAnyH_take (i := 25) (oi := { dst := some 110, op := Op.indexAddr 55 (Operand.tmp 108) (Operand.tmp 109), type := 0, pos := "right.go:116", after := #[{ on := 23, ground := Ground.data }, { on := 24, ground := Ground.data }, { on := 21, ground := Ground.guard }], guard := some (21, true) }) (v := undef) rfl (by kernel_rfl) (by kernel_rfl) (by kernel_rfl) (fun _ _ _ h => h) (Or.inr ⟨by rfl, rfl⟩) (by assumption) ?_
              try simp only [Act.put, List.setIfInBounds_toArray, List.set_cons_zero, List.set_cons_succ]
              refine wpAnyH_take (i := 26) (oi := { dst := some 111, op := Op.fieldAddr 74 (Operand.tmp 110) 4, type := 0, pos := "right.go:116", after := #[{ on := 25, ground := Ground.data }, { on := 21, ground := Ground.guard }], guard := some (21, true) }) (v := undef) rfl (by kernel_rfl) (by kernel_rfl) (by kernel_rfl) (fun _ _ _ h => h) (Or.inr ⟨by rfl, rfl⟩) (by assumption) ?_
              try simp only [Act.put, List.setIfInBounds_toArray, List.set_cons_zero, List.set_cons_succ]
              refine wpAnyH_take (i := 27) (oi := { dst := some 112, op := Op.load 3 (Operand.tmp 111), type := 3, pos := "right.go:116", after := #[{ on := 26, ground := Ground.data }, { on := 21, ground := Ground.guard }], guard := some (21, true) }) (v := undef) rfl (by kernel_rfl) (by kernel_rfl) (by kernel_rfl) (fun _ _ _ h => h) (Or.inr ⟨by rfl, rfl⟩) (by assumption) ?_
              try simp only [Act.put, List.setIfInBounds_toArray, List.set_cons_zero, List.set_cons_succ]
              refine wpAnyH_take (i := 28) (oi := { dst := some 113, op := Op.move (Operand.tmp 1), type := 3, pos := "right.go:116", after := #[{ on := 21, ground := Ground.guard }], guard := some (21, true) }) (v := undef) rfl (by kernel_rfl) (by kernel_rfl) (by kernel_rfl) (fun _ _ _ h => h) (Or.inr ⟨by rfl, rfl⟩) (by assumption) ?_
              try simp only [Act.put, List.setIfInBounds_toArray, List.set_cons_zero, List.set_cons_succ]
              refine wpAnyH_take (i := 29) (oi := { dst := some 114, op := Op.binOp BinOp.geq 3 (Operand.tmp 112) (Operand.tmp 113) 3, type := 4, pos := "right.go:116", after := #[{ on := 27, ground := Ground.data }, { on := 28, ground := Ground.data }, { on := 21, ground := Ground.guard }], guard := some (21, true) }) (v := undef) rfl (by kernel_rfl) (by kernel_rfl) (by kernel_rfl) (fun _ _ _ h => h) (Or.inr ⟨by rfl, rfl⟩) (by assumption) ?_
              try simp only [Act.put, List.setIfInBounds_toArray, List.set_cons_zero, List.set_cons_succ]
              refine wpAnyH_take (i := 30) (oi := { dst := some 115, op := Op.pick (Operand.tmp 106) (Operand.tmp 114) (Operand.const (Value.bool false)), type := 4, pos := "right.go:116", after := #[{ on := 21, ground := Ground.data }, { on := 29, ground := Ground.data }, { on := 13, ground := Ground.guard }], guard := some (13, false) }) (v := ?_) rfl (by kernel_rfl) (by kernel_rfl) (by kernel_rfl) (fun _ _ _ h => h) (Or.inl ⟨by rfl, ?_⟩) (by assumption) ?_
              rotate_left
              · intro w hSw; (try dsimp only at hSw); go_simp; first | done | with_reducible rfl
              try simp only [Act.put, List.setIfInBounds_toArray, List.set_cons_zero, List.set_cons_succ]
              refine wpAnyH_take (i := 31) (oi := { dst := some 116, op := Op.pick (Operand.tmp 98) (Operand.const (Value.bool true)) (Operand.tmp 115), type := 4, pos := "right.go:116", after := #[{ on := 13, ground := Ground.data }, { on := 30, ground := Ground.data }], guard := none }) (v := ?_) rfl (by kernel_rfl) (by kernel_rfl) (by kernel_rfl) (fun _ _ _ h => h) (Or.inl ⟨by rfl, ?_⟩) (by assumption) ?_
              rotate_left
              · intro w hSw; (try dsimp only at hSw); go_simp; first | done | with_reducible rfl
              try simp only [Act.put, List.setIfInBounds_toArray, List.set_cons_zero, List.set_cons_succ]
              refine wpAnyH_done (by kernel_rfl) ?_ _
              clear KS hHeld
              go_wp2_with fail
              replace hG := Hid.mk (hG.out.trans hG0)
              go_roundw
              case rel => exact ⟨k2 + 1, by simp, by omega, ⟨hsf.out, hG.out⟩⟩
              case measure => simp [intOf]; omega
            · have j2' : (c.code.length : Int) ≤ t.m := by omega
              rw [if_neg (by simpa using j2)] at hsf
              replace j2 := Hid.mk j2
              replace hG := Hid.mk hG
              replace hsf := Hid.mk hsf
              go_wp2_with fail
              refine (hT _).mono ?_
              rintro x w2 ⟨rfl, hG2⟩
              have X2 := X1.out.gr hG2
              have c0' := (hG2.cell hb4 _).trans c0
              have c4' := (hG2.cell hb4 _).trans c4
              have hb5 : b2 < w2.heap.size := Nat.lt_of_lt_of_le hb4 (gr_size hG2)
              replace hG := Hid.mk (hG.out.trans hG2)
              clear z0 p0 f0 hG2 hT c0 c1 c2 c3 c4 hb4 X1
              have ⟨z1, p1, f1⟩ := X2.at
              replace X2 := Hid.mk X2
              go_wp2_with fail
              refine (hJ _).mono ?_
              rintro x w3 ⟨rfl, rfl⟩
              go_wp2_with fail
              have KS : ∀ W, Gr w2 W → W.cell? ⟨w.heap.size, 1, none⟩ = some (.slice (some ⟨b2, off2, none⟩) c.code.length kc) ∧ W.cell? ⟨b2, off2 + k2 * 5, none⟩ = some (.int .u8 t.op) ∧ W.cell? ⟨b2, off2 + k2 * 5 + 1 + 1 + 1 + 1, none⟩ = some (.int .i64 t.m) := fun W hW => ⟨(hW.cell z1 1).trans (p1 1), (hW.cell hb5 _).trans c0', (hW.cell hb5 _).trans c4'⟩
              replace KS := Hid.mk KS
              have hG0 : Gr w2 w2.drew := (Gr.refl _).drew
              refine wp_region_held_drew (S := fun W => W.cell? ⟨w.heap.size, 1, none⟩ = some (.slice (some ⟨b2, off2, none⟩) c.code.length kc) ∧ W.cell? ⟨b2, off2 + k2 * 5, none⟩ = some (.int .u8 t.op) ∧ W.cell? ⟨b2, off2 + k2 * 5 + 1 + 1 + 1 + 1, none⟩ = some (.int .i64 t.m)) (by kernel_rfl) (KS.out _ hG0) (fun hHeld => ?_)
              refine wpAnyH_take (i := 0) (oi := { dst := some 85, op := Op.move (Operand.tmp 10), type := 4, pos := "right.go:116", after := #[], guard := none }) (v := ?_) rfl (by kernel_rfl) (by kernel_rfl) (by kernel_rfl) (fun _ _ _ h => h) (Or.inl ⟨by rfl, ?_⟩) (by assumption) ?_
              rotate_left
              · intro w hSw; (try dsimp only at hSw); go_simp; first | done | with_reducible rfl
              try simp only [Act.put, List.setIfInBounds_toArray, List.set_cons_zero, List.set_cons_succ]
              refine wpAnyH_take (i := 1) (oi := { dst := some 86, op := Op.move (Operand.tmp 85), type := 4, pos := "right.go:116", after := #[{ on := 0, ground := Ground.data }], guard := none }) (v := ?_) rfl (by kernel_rfl) (by kernel_rfl) (by kernel_rfl) (fun _ _ _ h => h) (Or.inl ⟨by rfl, ?_⟩) (by assumption) ?_
              rotate_left
              · intro w hSw; (try dsimp only at hSw); go_simp; first | done | with_reducible rfl
              try simp only [Act.put, List.setIfInBounds_toArray, List.set_cons_zero, List.set_cons_succ]
              refine wpAnyH_take (i := 2) (oi := { dst := some 87, op := Op.fieldAddr 57 (Operand.tmp 2) 1, type := 0, pos := "right.go:116", after := #[{ on := 1, ground := Ground.guard }], guard := some (1, true) }) (v := ?_) rfl (by kernel_rfl) (by kernel_rfl) (by kernel_rfl) (fun _ _ _ h => h) (Or.inl ⟨by rfl, ?_⟩) (by assumption) ?_
              rotate_left
              · intro w hSw; (try dsimp only at hSw); go_simp; first | done | with_reducible rfl
              try simp only [Act.put, List.setIfInBounds_toArray, List.set_cons_zero, List.set_cons_succ]
              refine wpAnyH_take (i := 3) (oi := { dst := some 88, op := Op.load 55 (Operand.tmp 87), type := 55, pos := "right.go:116", after := #[{ on := 2, ground := Ground.data }, { on := 1, ground := Ground.guard }], guard := some (1, true) }) (v := ?_) rfl (by kernel_rfl) (by kernel_rfl) (by kernel_rfl) (fun _ _ _ h => h) (Or.inl ⟨by rfl, ?_⟩) (by assumption) ?_
              rotate_left
              · intro w hSw; (try dsimp only at hSw); go_simp; first | done | with_reducible rfl
              try simp only [Act.put, List.setIfInBounds_toArray, List.set_cons_zero, List.set_cons_succ]
              refine wpAnyH_take (i := 4) (oi := { dst := some 89, op := Op.move (Operand.tmp 8), type := 3, pos := "right.go:116", after := #[{ on := 1, ground := Ground.guard }], guard := some (1, true) }) (v := ?_) rfl (by kernel_rfl) (by kernel_rfl) (by kernel_rfl) (fun _ _ _ h => h) (Or.inl ⟨by rfl, ?_⟩) (by assumption) ?_
              rotate_left
              · intro w hSw; (try dsimp only at hSw); go_simp; first | done | with_reducible rfl
              try simp only [Act.put, List.setIfInBounds_toArray, List.set_cons_zero, List.set_cons_succ]
              refine wpAnyH_take (i := 5) (oi := { dst := some 90, op := Op.indexAddr 55 (Operand.tmp 88) (Operand.tmp 89), type := 0, pos := "right.go:116", after := #[{ on := 3, ground := Ground.data }, { on := 4, ground := Ground.data }, { on := 1, ground := Ground.guard }], guard := some (1, true) }) (v := ?_) rfl (by kernel_rfl) (by kernel_rfl) (by kernel_rfl) (fun _ _ _ h => h) (Or.inl ⟨by rfl, ?_⟩) (by assumption) ?_
              rotate_left
              · intro w hSw; (try dsimp only at hSw); go_simp; first | done | with_reducible rfl
              try simp only [Act.put, List.setIfInBounds_toArray, List.set_cons_zero, List.set_cons_succ]
              refine wpAnyH_take (i := 6) (oi := { dst := some 91, op := Op.fieldAddr 74 (Operand.tmp 90) 4, type := 0, pos := "right.go:116", after := #[{ on := 5, ground := Ground.data }, { on := 1, ground := Ground.guard }], guard := some (1, true) }) (v := ?_) rfl (by kernel_rfl) (by kernel_rfl) (by kernel_rfl) (fun _ _ _ h => h) (Or.inl ⟨by rfl, ?_⟩) (by assumption) ?_
              rotate_left
              · intro w hSw; (try dsimp only at hSw); go_simp; first | done | with_reducible rfl
              try simp only [Act.put, List.setIfInBounds_toArray, List.set_cons_zero, List.set_cons_succ]
              refine wpAnyH_take (i := 7) (oi := { dst := some 92, op := Op.load 3 (Operand.tmp 91), type := 3, pos := "right.go:116", after := #[{ on := 6, ground := Ground.data }, { on := 1, ground := Ground.guard }], guard := some (1, true) }) (v := ?_) rfl (by kernel_rfl) (by kernel_rfl) (by kernel_rfl) (fun _ _ _ h => h) (Or.inl ⟨by rfl, ?_⟩) (by assumption) ?_
              rotate_left
              · intro w hSw; (try dsimp only at hSw); go_simp; first | done | with_reducible rfl
              try simp only [Act.put, List.setIfInBounds_toArray, List.set_cons_zero, List.set_cons_succ]
              refine wpAnyH_take (i := 8) (oi := { dst := some 93, op := Op.fieldAddr 57 (Operand.tmp 2) 1, type := 0, pos := "right.go:116", after := #[{ on := 1, ground := Ground.guard }], guard := some (1, true) }) (v := ?_) rfl (by kernel_rfl) (by kernel_rfl) (by kernel_rfl) (fun _ _ _ h => h) (Or.inl ⟨by rfl, ?_⟩) (by assumption) ?_
              rotate_left
              · intro w hSw; (try dsimp only at hSw); go_simp; first | done | with_reducible rfl
              try simp only [Act.put, List.setIfInBounds_toArray, List.set_cons_zero, List.set_cons_succ]
              refine wpAnyH_take (i := 9) (oi := { dst := some 94, op := Op.load 55 (Operand.tmp 93), type := 55, pos := "right.go:116", after := #[{ on := 8, ground := Ground.data }, { on := 1, ground := Ground.guard }], guard := some (1, true) }) (v := ?_) rfl (by kernel_rfl) (by kernel_rfl) (by kernel_rfl) (fun _ _ _ h => h) (Or.inl ⟨by rfl, ?_⟩) (by assumption) ?_
              rotate_left
              · intro w hSw; (try dsimp only at hSw); go_simp; first | done | with_reducible rfl
              try simp only [Act.put, List.setIfInBounds_toArray, List.set_cons_zero, List.set_cons_succ]
              refine wpAnyH_take (i := 10) (oi := { dst := some 95, op := Op.call { callee := Callee.builtin Builtin.len, args := #[Operand.tmp 94], argTypes := #[55] }, type := 3, pos := "right.go:116", after := #[{ on := 9, ground := Ground.data }, { on := 1, ground := Ground.guard }], guard := some (1, true) }) (v := ?_) rfl (by kernel_rfl) (by kernel_rfl) (by kernel_rfl) (fun _ _ _ h => h) (Or.inl ⟨by rfl, ?_⟩) (by assumption) ?_
              rotate_left
              · intro w hSw; (try dsimp only at hSw); go_simp; first | done | with_reducible rfl
              try simp only [Act.put, List.setIfInBounds_toArray, List.set_cons_zero, List.set_cons_succ]
              refine wpAnyH_take (i := 11) (oi := { dst := some 96, op := Op.binOp BinOp.geq 3 (Operand.tmp 92) (Operand.tmp 95) 3, type := 4, pos := "right.go:116", after := #[{ on := 7, ground := Ground.data }, { on := 10, ground := Ground.data }, { on := 1, ground := Ground.guard }], guard := some (1, true) }) (v := .bool true) rfl (by kernel_rfl) (by kernel_rfl) (by kernel_rfl) (fun _ _ _ h => h) (Or.inl ⟨by rfl, ?_⟩) (by assumption) ?_
              · intro w hSw; (try dsimp only at hSw); first | (go_simp; done) | (go_simp; simp_all; done) | (go_simp; omega)
              try simp only [Act.put, List.setIfInBounds_toArray, List.set_cons_zero, List.set_cons_succ]
              refine wpAnyH_take (i := 12) (oi := { dst := some 97, op := Op.pick (Operand.tmp 86) (Operand.tmp 96) (Operand.const (Value.bool false)), type := 4, pos := "right.go:116", after := #[{ on := 1, ground := Ground.data }, { on := 11, ground := Ground.data }], guard := none }) (v := ?_) rfl (by kernel_rfl) (by kernel_rfl) (by kernel_rfl) (fun _ _ _ h => h) (Or.inl ⟨by rfl, ?_⟩) (by assumption) ?_
              rotate_left
              · intro w hSw; (try dsimp only at hSw); go_simp; first | done | with_reducible rfl
              try simp only [Act.put, List.setIfInBounds_toArray, List.set_cons_zero, List.set_cons_succ]
              refine wpAnyH_take (i := 13) (oi := { dst := some 98, op := Op.move (Operand.tmp 97), type := 4, pos := "right.go:116", after := #[{ on := 12, ground := Ground.data }, { on := 1, ground := Ground.chain }], guard := none }) (v := ?_) rfl (by kernel_rfl) (by kernel_rfl) (by kernel_rfl) (fun _ _ _ h => h) (Or.inl ⟨by rfl, ?_⟩) (by assumption) ?_
              rotate_left
              · intro w hSw; (try dsimp only at hSw); go_simp; first | done | with_reducible rfl
              try simp only [Act.put, List.setIfInBounds_toArray, List.set_cons_zero, List.set_cons_succ]
              refine wpAnyH_take (i := 14) (oi := { dst := some 99, op := Op.fieldAddr 57 (Operand.tmp 2) 1, type := 0, pos := "right.go:116", after := #[{ on := 13, ground := Ground.guard }], guard := some (13, false) }) (v := undef) rfl (by kernel_rfl) (by kernel_rfl) (by kernel_rfl) (fun _ _ _ h => h) (Or.inr ⟨by rfl, rfl⟩) (by assumption) ?_
              try simp only [Act.put, List.setIfInBounds_toArray, List.set_cons_zero, List.set_cons_succ]
              refine wpAnyH_take (i := 15) (oi := { dst := some 100, op := Op.load 55 (Operand.tmp 99), type := 55, pos := "right.go:116", after := #[{ on := 14, ground := Ground.data }, { on := 13, ground := Ground.guard }], guard := some (13, false) }) (v := undef) rfl (by kernel_rfl) (by kernel_rfl) (by kernel_rfl) (fun _ _ _ h => h) (Or.inr ⟨by rfl, rfl⟩) (by assumption) ?_
              try simp only [Act.put, List.setIfInBounds_toArray, List.set_cons_zero, List.set_cons_succ]
              refine wpAnyH_take (i := 16) (oi := { dst := some 101, op := Op.move (Operand.tmp 8), type := 3, pos := "right.go:116", after := #[{ on := 13, ground := Ground.guard }], guard := some (13, false) }) (v := undef) rfl (by kernel_rfl) (by kernel_rfl) (by kernel_rfl) (fun _ _ _ h => h) (Or.inr ⟨by rfl, rfl⟩) (by assumption) ?_
              try simp only [Act.put, List.setIfInBounds_toArray, List.set_cons_zero, List.set_cons_succ]
              refine wpAnyH_take (i := 17) (oi := { dst := some 102, op := Op.indexAddr 55 (Operand.tmp 100) (Operand.tmp 101), type := 0, pos := "right.go:116", after := #[{ on := 15, ground := Ground.data }, { on := 16, ground := Ground.data }, { on := 13, ground := Ground.guard }], guard := some (13, false) }) (v := undef) rfl (by kernel_rfl) (by kernel_rfl) (by kernel_rfl) (fun _ _ _ h => h) (Or.inr ⟨by rfl, rfl⟩) (by assumption) ?_
              try simp only [Act.put, List.setIfInBounds_toArray, List.set_cons_zero, List.set_cons_succ]
              refine wpAnyH_take (i := 18) (oi := { dst := some 103, op := Op.fieldAddr 74 (Operand.tmp 102) 0, type := 0, pos := "right.go:116", after := #[{ on := 17, ground := Ground.data }, { on := 13, ground := Ground.guard }], guard := some (13, false) }) (v := undef) rfl (by kernel_rfl) (by kernel_rfl) (by kernel_rfl) (fun _ _ _ h => h) (Or.inr ⟨by rfl, rfl⟩) (by assumption) ?_
              try simp only [Act.put, List.setIfInBounds_toArray, List.set_cons_zero, List.set_cons_succ]
              refine wpAnyH_take (i := 19) (oi := { dst := some 104, op := Op.load 72 (Operand.tmp 103), type := 72, pos := "right.go:116", after := #[{ on := 18, ground := Ground.data }, { on := 13, ground := Ground.guard }], guard := some (13, false) }) (v := undef) rfl (by kernel_rfl) (by kernel_rfl) (by kernel_rfl) (fun _ _ _ h => h) (Or.inr ⟨by rfl, rfl⟩) (by assumption) ?_
              try simp only [Act.put, List.setIfInBounds_toArray, List.set_cons_zero, List.set_cons_succ]
              refine wpAnyH_take (i := 20) (oi := { dst := some 105, op := Op.binOp BinOp.eql 72 (Operand.tmp 104) (Operand.const (Value.int IntKind.u8 31)) 72, type := 4, pos := "right.go:116", after := #[{ on := 19, ground := Ground.data }, { on := 13, ground := Ground.guard }], guard := some (13, false) }) (v := undef) rfl (by kernel_rfl) (by kernel_rfl) (by kernel_rfl) (fun _ _ _ h => h) (Or.inr ⟨by rfl, rfl⟩) (by assumption) ?_
              try simp only [Act.put, List.setIfInBounds_toArray, List.set_cons_zero, List.set_cons_succ]
              refine wpAnyH_take (i := 21) (oi := { dst := some 106, op := Op.move (Operand.tmp 105), type := 4, pos := "right.go:116", after := #[{ on := 20, ground := Ground.data }, { on := 13, ground := Ground.chain }, { on := 13, ground := Ground.guard }], guard := some (13, false) }) (v := undef) rfl (by kernel_rfl) (by kernel_rfl) (by kernel_rfl) (fun _ _ _ h => h) (Or.inr ⟨by rfl, rfl⟩) (by assumption) ?_
              try simp only [Act.put, List.setIfInBounds_toArray, List.set_cons_zero, List.set_cons_succ]
              refine wpAnyH_take (i := 22) (oi := { dst := some 107, op := Op.fieldAddr 57 (Operand.tmp 2) 1, type := 0, pos := "right.go:116", after := #[{ on := 21, ground := Ground.guard }], guard := some (21, true) }) (v := undef) rfl (by kernel_rfl) (by kernel_rfl) (by kernel_rfl) (fun _ _ _ h => h) (Or.inr ⟨by rfl, rfl⟩) (by assumption) ?_
              try simp only [Act.put, List.setIfInBounds_toArray, List.set_cons_zero, List.set_cons_succ]
              refine wpAnyH_take (i := 23) (oi := { dst := some 108, op := Op.load 55 (Operand.tmp 107), type := 55, pos := "right.go:116", after := #[{ on := 22, ground := Ground.data }, { on := 21, ground := Ground.guard }], guard := some (21, true) }) (v := undef) rfl (by kernel_rfl) (by kernel_rfl) (by kernel_rfl) (fun _ _ _ h => h) (Or.inr ⟨by rfl, rfl⟩) (by assumption) ?_
              try simp only [Act.put, List.setIfInBounds_toArray, List.set_cons_zero, List.set_cons_succ]
              refine wpAnyH_take (i := 24) (oi := { dst := some 109, op := Op.move (Operand.tmp 8), type := 3, pos := "right.go:116", after := #[{ on := 21, ground := Ground.guard }], guard := some (21, true) }) (v := undef) rfl (by kernel_rfl) (by kernel_rfl) (by kernel_rfl) (fun _ _ _ h => h) (Or.inr ⟨by rfl, rfl⟩) (by assumption) ?_
              try simp only [Act.put, List.setIfInBounds_toArray, List.set_cons_zero, List.set_cons_succ]
              refine wpAnyH_take (i := 25) (oi := { dst := some 110, op := Op.indexAddr 55 (Operand.tmp 108) (Operand.tmp 109), type := 0, pos := "right.go:116", after := #[{ on := 23, ground := Ground.data }, { on := 24, ground := Ground.data }, { on := 21, ground := Ground.guard }], guard := some (21, true) }) (v := undef) rfl (by kernel_rfl) (by kernel_rfl) (by kernel_rfl) (fun _ _ _ h => h) (Or.inr ⟨by rfl, rfl⟩) (by assumption) ?_
              try simp only [Act.put, List.setIfInBounds_toArray, List.set_cons_zero, List.set_cons_succ]
              refine wpAnyH_take (i := 26) (oi := { dst := some 111, op := Op.fieldAddr 74 (Operand.tmp 110) 4, type := 0, pos := "right.go:116", after := #[{ on := 25, ground := Ground.data }, { on := 21, ground := Ground.guard }], guard := some (21, true) }) (v := undef) rfl (by kernel_rfl) (by kernel_rfl) (by kernel_rfl) (fun _ _ _ h => h) (Or.inr ⟨by rfl, rfl⟩) (by assumption) ?_
              try simp only [Act.put, List.setIfInBounds_toArray, List.set_cons_zero, List.set_cons_succ]
              refine wpAnyH_take (i := 27) (oi := { dst := some 112, op := Op.load 3 (Operand.tmp 111), type := 3, pos := "right.go:116", after := #[{ on := 26, ground := Ground.data }, { on := 21, ground := Ground.guard }], guard := some (21, true) }) (v := undef) rfl (by kernel_rfl) (by kernel_rfl) (by kernel_rfl) (fun _ _ _ h => h) (Or.inr ⟨by rfl, rfl⟩) (by assumption) ?_
              try simp only [Act.put, List.setIfInBounds_toArray, List.set_cons_zero, List.set_cons_succ]
              refine wpAnyH_take (i := 28) (oi := { dst := some 113, op := Op.move (Operand.tmp 1), type := 3, pos := "right.go:116", after := #[{ on := 21, ground := Ground.guard }], guard := some (21, true) }) (v := undef) rfl (by kernel_rfl) (by kernel_rfl) (by kernel_rfl) (fun _ _ _ h => h) (Or.inr ⟨by rfl, rfl⟩) (by assumption) ?_
              try simp only [Act.put, List.setIfInBounds_toArray, List.set_cons_zero, List.set_cons_succ]
              refine wpAnyH_take (i := 29) (oi := { dst := some 114, op := Op.binOp BinOp.geq 3 (Operand.tmp 112) (Operand.tmp 113) 3, type := 4, pos := "right.go:116", after := #[{ on := 27, ground := Ground.data }, { on := 28, ground := Ground.data }, { on := 21, ground := Ground.guard }], guard := some (21, true) }) (v := undef) rfl (by kernel_rfl) (by kernel_rfl) (by kernel_rfl) (fun _ _ _ h => h) (Or.inr ⟨by rfl, rfl⟩) (by assumption) ?_
              try simp only [Act.put, List.setIfInBounds_toArray, List.set_cons_zero, List.set_cons_succ]
              refine wpAnyH_take (i := 30) (oi := { dst := some 115, op := Op.pick (Operand.tmp 106) (Operand.tmp 114) (Operand.const (Value.bool false)), type := 4, pos := "right.go:116", after := #[{ on := 21, ground := Ground.data }, { on := 29, ground := Ground.data }, { on := 13, ground := Ground.guard }], guard := some (13, false) }) (v := undef) rfl (by kernel_rfl) (by kernel_rfl) (by kernel_rfl) (fun _ _ _ h => h) (Or.inr ⟨by rfl, rfl⟩) (by assumption) ?_
              try simp only [Act.put, List.setIfInBounds_toArray, List.set_cons_zero, List.set_cons_succ]
              refine wpAnyH_take (i := 31) (oi := { dst := some 116, op := Op.pick (Operand.tmp 98) (Operand.const (Value.bool true)) (Operand.tmp 115), type := 4, pos := "right.go:116", after := #[{ on := 13, ground := Ground.data }, { on := 30, ground := Ground.data }], guard := none }) (v := ?_) rfl (by kernel_rfl) (by kernel_rfl) (by kernel_rfl) (fun _ _ _ h => h) (Or.inl ⟨by rfl, ?_⟩) (by assumption) ?_
              rotate_left
              · intro w hSw; (try dsimp only at hSw); go_simp; first | done | with_reducible rfl
              try simp only [Act.put, List.setIfInBounds_toArray, List.set_cons_zero, List.set_cons_succ]
              refine wpAnyH_done (by kernel_rfl) ?_ _
              clear KS hHeld
              go_wp2_with fail
              replace hG := Hid.mk (hG.out.trans hG0)
              go_ret
              exact ⟨retI (by rw [hq.out, ← hsf.out]), hGR.out.trans hG.out⟩
          · have jd : decide (20 ≤ t.op ∧ t.op ≤ 25) = false := by simpa using j1
            rw [jd] at hJ
            clear jd
            by_cases j3 : t.op = 31
            · have o31 : (t.op == 31) = true := by simpa using j3
              have htg : tgtB t.op t.m c.code.length g = decide (t.m < g) := by unfold tgtB; rw [if_neg j1, if_pos j3]
              rw [htg] at hsf
              clear htg
              replace j1 := Hid.mk j1
              replace j3 := Hid.mk j3
              by_cases j2 : t.m < g
              · have j2' : ¬ g ≤ t.m := by omega
                rw [if_pos (by simpa using j2)] at hsf
                replace j2 := Hid.mk j2
                replace hG := Hid.mk hG
                replace hsf := Hid.mk hsf
                go_wp2_with fail
                refine (hT _).mono ?_
                rintro x w2 ⟨rfl, hG2⟩
                have X2 := X1.out.gr hG2
                have c0' := (hG2.cell hb4 _).trans c0
                have c4' := (hG2.cell hb4 _).trans c4
                have hb5 : b2 < w2.heap.size := Nat.lt_of_lt_of_le hb4 (gr_size hG2)
                replace hG := Hid.mk (hG.out.trans hG2)
                clear z0 p0 f0 hG2 hT c0 c1 c2 c3 c4 hb4 X1
                have ⟨z1, p1, f1⟩ := X2.at
                replace X2 := Hid.mk X2
                go_wp2_with fail
                refine (hJ _).mono ?_
                rintro x w3 ⟨rfl, rfl⟩
                go_wp2_with fail
                have KS : ∀ W, Gr w2 W → W.cell? ⟨w.heap.size, 1, none⟩ = some (.slice (some ⟨b2, off2, none⟩) c.code.length kc) ∧ W.cell? ⟨b2, off2 + k2 * 5, none⟩ = some (.int .u8 t.op) ∧ W.cell? ⟨b2, off2 + k2 * 5 + 1 + 1 + 1 + 1, none⟩ = some (.int .i64 t.m) := fun W hW => ⟨(hW.cell z1 1).trans (p1 1), (hW.cell hb5 _).trans c0', (hW.cell hb5 _).trans c4'⟩
                replace KS := Hid.mk KS
                have hG0 : Gr w2 w2.drew := (Gr.refl _).drew
                refine wp_region_held_drew (S := fun W => W.cell? ⟨w.heap.size, 1, none⟩ = some (.slice (some ⟨b2, off2, none⟩) c.code.length kc) ∧ W.cell? ⟨b2, off2 + k2 * 5, none⟩ = some (.int .u8 t.op) ∧ W.cell? ⟨b2, off2 + k2 * 5 + 1 + 1 + 1 + 1, none⟩ = some (.int .i64 t.m)) (by kernel_rfl) (KS.out _ hG0) (fun hHeld => ?_)
                refine wpAnyH_take (i := 0) (oi := { dst := some 85, op := Op.move (Operand.tmp 10), type := 4, pos := "right.go:116", after := #[], guard := none }) (v := ?_) rfl (by kernel_rfl) (by kernel_rfl) (by kernel_rfl) (fun _ _ _ h => h) (Or.inl ⟨by rfl, ?_⟩) (by assumption) ?_
                rotate_left
                · intro w hSw; (try dsimp only at hSw); go_simp; first | done | with_reducible rfl
                try simp only [Act.put, List.setIfInBounds_toArray, List.set_cons_zero, List.set_cons_succ]
                refine wpAnyH_take (i := 1) (oi := { dst := some 86, op := Op.move (Operand.tmp 85), type := 4, pos := "right.go:116", after := #[{ on := 0, ground := Ground.data }], guard := none }) (v := ?_) rfl (by kernel_rfl) (by kernel_rfl) (by kernel_rfl) (fun _ _ _ h => h) (Or.inl ⟨by rfl, ?_⟩) (by assumption) ?_
                rotate_left
                · intro w hSw; (try dsimp only at hSw); go_simp; first | done | with_reducible rfl
                try simp only [Act.put, List.setIfInBounds_toArray, List.set_cons_zero, List.set_cons_succ]
                refine wpAnyH_take (i := 2) (oi := { dst := some 87, op := Op.fieldAddr 57 (Operand.tmp 2) 1, type := 0, pos := "right.go:116", after := #[{ on := 1, ground := Ground.guard }], guard := some (1, true) }) (v := undef) rfl (by kernel_rfl) (by kernel_rfl) (by kernel_rfl) (fun _ _ _ h => h) (Or.inr ⟨by rfl, rfl⟩) (by assumption) ?_
                try simp only [Act.put, List.setIfInBounds_toArray, List.set_cons_zero, List.set_cons_succ]
                refine wpAnyH_take (i := 3) (oi := { dst := some 88, op := Op.load 55 (Operand.tmp 87), type := 55, pos := "right.go:116", after := #[{ on := 2, ground := Ground.data }, { on := 1, ground := Ground.guard }], guard := some (1, true) }) (v := undef) rfl (by kernel_rfl) (by kernel_rfl) (by kernel_rfl) (fun _ _ _ h => h) (Or.inr ⟨by rfl, rfl⟩) (by assumption) ?_
                try simp only [Act.put, List.setIfInBounds_toArray, List.set_cons_zero, List.set_cons_succ]
                refine wpAnyH_take (i := 4) (oi := { dst := some 89, op := Op.move (Operand.tmp 8), type := 3, pos := "right.go:116", after := #[{ on := 1, ground := Ground.guard }], guard := some (1, true) }) (v := undef) rfl (by kernel_rfl) (by kernel_rfl) (by kernel_rfl) (fun _ _ _ h => h) (Or.inr ⟨by rfl, rfl⟩) (by assumption) ?_
                try simp only [Act.put, List.setIfInBounds_toArray, List.set_cons_zero, List.set_cons_succ]
                refine wpAnyH_take (i := 5) (oi := { dst := some 90, op := Op.indexAddr 55 (Operand.tmp 88) (Operand.tmp 89), type := 0, pos := "right.go:116", after := #[{ on := 3, ground := Ground.data }, { on := 4, ground := Ground.data }, { on := 1, ground := Ground.guard }], guard := some (1, true) }) (v := undef) rfl (by kernel_rfl) (by kernel_rfl) (by kernel_rfl) (fun _ _ _ h => h) (Or.inr ⟨by rfl, rfl⟩) (by assumption) ?_
                try simp only [Act.put, List.setIfInBounds_toArray, List.set_cons_zero, List.set_cons_succ]
                refine wpAnyH_take (i := 6) (oi := { dst := some 91, op := Op.fieldAddr 74 (Operand.tmp 90) 4, type := 0, pos := "right.go:116", after := #[{ on := 5, ground := Ground.data }, { on := 1, ground := Ground.guard }], guard := some (1, true) }) (v := undef) rfl (by kernel_rfl) (by kernel_rfl) (by kernel_rfl) (fun _ _ _ h => h) (Or.inr ⟨by rfl, rfl⟩) (by assumption) ?_
                try simp only [Act.put, List.setIfInBounds_toArray, List.set_cons_zero, List.set_cons_succ]
                refine wpAnyH_take (i := 7) (oi := { dst := some 92, op := Op.load 3 (Operand.tmp 91), type := 3, pos := "right.go:116", after := #[{ on := 6, ground := Ground.data }, { on := 1, ground := Ground.guard }], guard := some (1, true) }) (v := undef) rfl (by kernel_rfl) (by kernel_rfl) (by kernel_rfl) (fun _ _ _ h => h) (Or.inr ⟨by rfl, rfl⟩) (by assumption) ?_
                try simp only [Act.put, List.setIfInBounds_toArray, List.set_cons_zero, List.set_cons_succ]
                refine wpAnyH_take (i := 8) (oi := { dst := some 93, op := Op.fieldAddr 57 (Operand.tmp 2) 1, type := 0, pos := "right.go:116", after := #[{ on := 1, ground := Ground.guard }], guard := some (1, true) }) (v := undef) rfl (by kernel_rfl) (by kernel_rfl) (by kernel_rfl) (fun _ _ _ h => h) (Or.inr ⟨by rfl, rfl⟩) (by assumption) ?_
                try simp only [Act.put, List.setIfInBounds_toArray, List.set_cons_zero, List.set_cons_succ]
                refine wpAnyH_take (i := 9) (oi := { dst := some 94, op := Op.load 55 (Operand.tmp 93), type := 55, pos := "right.go:116", after := #[{ on := 8, ground := Ground.data }, { on := 1, ground := Ground.guard }], guard := some (1, true) }) (v := undef) rfl (by kernel_rfl) (by kernel_rfl) (by kernel_rfl) (fun _ _ _ h => h) (Or.inr ⟨by rfl, rfl⟩) (by assumption) ?_
                try simp only [Act.put, List.setIfInBounds_toArray, List.set_cons_zero, List.set_cons_succ]
                refine wpAnyH_take (i := 10) (oi := { dst := some 95, op := Op.call { callee := Callee.builtin Builtin.len, args := #[Operand.tmp 94], argTypes := #[55] }, type := 3, pos := "right.go:116", after := #[{ on := 9, ground := Ground.data }, { on := 1, ground := Ground.guard }], guard := some (1, true) }) (v := undef) rfl (by kernel_rfl) (by kernel_rfl) (by kernel_rfl) (fun _ _ _ h => h) (Or.inr ⟨by rfl, rfl⟩) (by assumption) ?_
                try simp only [Act.put, List.setIfInBounds_toArray, List.set_cons_zero, List.set_cons_succ]
                refine wpAnyH_take (i := 11) (oi := { dst := some 96, op := Op.binOp BinOp.geq 3 (Operand.tmp 92) (Operand.tmp 95) 3, type := 4, pos := "right.go:116", after := #[{ on := 7, ground := Ground.data }, { on := 10, ground := Ground.data }, { on := 1, ground := Ground.guard }], guard := some (1, true) }) (v := undef) rfl (by kernel_rfl) (by kernel_rfl) (by kernel_rfl) (fun _ _ _ h => h) (Or.inr ⟨by rfl, rfl⟩) (by assumption) ?_
                try simp only [Act.put, List.setIfInBounds_toArray, List.set_cons_zero, List.set_cons_succ]
                refine wpAnyH_take (i := 12) (oi := { dst := some 97, op := Op.pick (Operand.tmp 86) (Operand.tmp 96) (Operand.const (Value.bool false)), type := 4, pos := "right.go:116", after := #[{ on := 1, ground := Ground.data }, { on := 11, ground := Ground.data }], guard := none }) (v := ?_) rfl (by kernel_rfl) (by kernel_rfl) (by kernel_rfl) (fun _ _ _ h => h) (Or.inl ⟨by rfl, ?_⟩) (by assumption) ?_
                rotate_left
                · intro w hSw; (try dsimp only at hSw); go_simp; first | done | with_reducible rfl
                try simp only [Act.put, List.setIfInBounds_toArray, List.set_cons_zero, List.set_cons_succ]
                refine wpAnyH_take (i := 13) (oi := { dst := some 98, op := Op.move (Operand.tmp 97), type := 4, pos := "right.go:116", after := #[{ on := 12, ground := Ground.data }, { on := 1, ground := Ground.chain }], guard := none }) (v := ?_) rfl (by kernel_rfl) (by kernel_rfl) (by kernel_rfl) (fun _ _ _ h => h) (Or.inl ⟨by rfl, ?_⟩) (by assumption) ?_
                rotate_left
                · intro w hSw; (try dsimp only at hSw); go_simp; first | done | with_reducible rfl
                try simp only [Act.put, List.setIfInBounds_toArray, List.set_cons_zero, List.set_cons_succ]
                refine wpAnyH_take (i := 14) (oi := { dst := some 99, op := Op.fieldAddr 57 (Operand.tmp 2) 1, type := 0, pos := "right.go:116", after := #[{ on := 13, ground := Ground.guard }], guard := some (13, false) }) (v := ?_) rfl (by kernel_rfl) (by kernel_rfl) (by kernel_rfl) (fun _ _ _ h => h) (Or.inl ⟨by rfl, ?_⟩) (by assumption) ?_
                rotate_left
                · intro w hSw; (try dsimp only at hSw); go_simp; first | done | with_reducible rfl
                try simp only [Act.put, List.setIfInBounds_toArray, List.set_cons_zero, List.set_cons_succ]
                refine wpAnyH_take (i := 15) (oi := { dst := some 100, op := Op.load 55 (Operand.tmp 99), type := 55, pos := "right.go:116", after := #[{ on := 14, ground := Ground.data }, { on := 13, ground := Ground.guard }], guard := some (13, false) }) (v := ?_) rfl (by kernel_rfl) (by kernel_rfl) (by kernel_rfl) (fun _ _ _ h => h) (Or.inl ⟨by rfl, ?_⟩) (by assumption) ?_
                rotate_left
                · intro w hSw; (try dsimp only at hSw); go_simp; first | done | with_reducible rfl
                try simp only [Act.put, List.setIfInBounds_toArray, List.set_cons_zero, List.set_cons_succ]
                refine wpAnyH_take (i := 16) (oi := { dst := some 101, op := Op.move (Operand.tmp 8), type := 3, pos := "right.go:116", after := #[{ on := 13, ground := Ground.guard }], guard := some (13, false) }) (v := ?_) rfl (by kernel_rfl) (by kernel_rfl) (by kernel_rfl) (fun _ _ _ h => h) (Or.inl ⟨by rfl, ?_⟩) (by assumption) ?_
                rotate_left
                · intro w hSw; (try dsimp only at hSw); go_simp; first | done | with_reducible rfl
                try simp only [Act.put, List.setIfInBounds_toArray, List.set_cons_zero, List.set_cons_succ]
                refine wpAnyH_take (i := 17) (oi := { dst := some 102, op := Op.indexAddr 55 (Operand.tmp 100) (Operand.tmp 101), type := 0, pos := "right.go:116", after := #[{ on := 15, ground := Ground.data }, { on := 16, ground := Ground.data }, { on := 13, ground := Ground.guard }], guard := some (13, false) }) (v := ?_) rfl (by kernel_rfl) (by kernel_rfl) (by kernel_rfl) (fun _ _ _ h => h) (Or.inl ⟨by rfl, ?_⟩) (by assumption) ?_
                rotate_left
                · intro w hSw; (try dsimp only at hSw); go_simp; first | done | with_reducible rfl
                try simp only [Act.put, List.setIfInBounds_toArray, List.set_cons_zero, List.set_cons_succ]
                refine wpAnyH_take (i := 18) (oi := { dst := some 103, op := Op.fieldAddr 74 (Operand.tmp 102) 0, type := 0, pos := "right.go:116", after := #[{ on := 17, ground := Ground.data }, { on := 13, ground := Ground.guard }], guard := some (13, false) }) (v := ?_) rfl (by kernel_rfl) (by kernel_rfl) (by kernel_rfl) (fun _ _ _ h => h) (Or.inl ⟨by rfl, ?_⟩) (by assumption) ?_
                rotate_left
                · intro w hSw; (try dsimp only at hSw); go_simp; first | done | with_reducible rfl
                try simp only [Act.put, List.setIfInBounds_toArray, List.set_cons_zero, List.set_cons_succ]
                refine wpAnyH_take (i := 19) (oi := { dst := some 104, op := Op.load 72 (Operand.tmp 103), type := 72, pos := "right.go:116", after := #[{ on := 18, ground := Ground.data }, { on := 13, ground := Ground.guard }], guard := some (13, false) }) (v := ?_) rfl (by kernel_rfl) (by kernel_rfl) (by kernel_rfl) (fun _ _ _ h => h) (Or.inl ⟨by rfl, ?_⟩) (by assumption) ?_
                rotate_left
                · intro w hSw; (try dsimp only at hSw); go_simp; first | done | with_reducible rfl
                try simp only [Act.put, List.setIfInBounds_toArray, List.set_cons_zero, List.set_cons_succ]
                refine wpAnyH_take (i := 20) (oi := { dst := some 105, op := Op.binOp BinOp.eql 72 (Operand.tmp 104) (Operand.const (Value.int IntKind.u8 31)) 72, type := 4, pos := "right.go:116", after := #[{ on := 19, ground := Ground.data }, { on := 13, ground := Ground.guard }], guard := some (13, false) }) (v := .bool true) rfl (by kernel_rfl) (by kernel_rfl) (by kernel_rfl) (fun _ _ _ h => h) (Or.inl ⟨by rfl, ?_⟩) (by assumption) ?_
                · intro w hSw; (try dsimp only at hSw); first | (go_simp; done) | (go_simp; simp_all; done) | (go_simp; omega)
                try simp only [Act.put, List.setIfInBounds_toArray, List.set_cons_zero, List.set_cons_succ]
                refine wpAnyH_take (i := 21) (oi := { dst := some 106, op := Op.move (Operand.tmp 105), type := 4, pos := "right.go:116", after := #[{ on := 20, ground := Ground.data }, { on := 13, ground := Ground.chain }, { on := 13, ground := Ground.guard }], guard := some (13, false) }) (v := ?_) rfl (by kernel_rfl) (by kernel_rfl) (by kernel_rfl) (fun _ _ _ h => h) (Or.inl ⟨by rfl, ?_⟩) (by assumption) ?_
                rotate_left
                · intro w hSw; (try dsimp only at hSw); go_simp; first | done | with_reducible rfl
                try simp only [Act.put, List.setIfInBounds_toArray, List.set_cons_zero, List.set_cons_succ]
                refine wpAnyH_take (i := 22) (oi := { dst := some 107, op := Op.fieldAddr 57 (Operand.tmp 2) 1, type := 0, pos := "right.go:116", after := #[{ on := 21, ground := Ground.guard }], guard := some (21, true) }) (v := ?_) rfl (by kernel_rfl) (by kernel_rfl) (by kernel_rfl) (fun _ _ _ h => h) (Or.inl ⟨by rfl, ?_⟩) (by assumption) ?_
                rotate_left
                · intro w hSw; (try dsimp only at hSw); go_simp; first | done | with_reducible rfl
                try simp only [Act.put, List.setIfInBounds_toArray, List.set_cons_zero, List.set_cons_succ]
                refine wpAnyH_take (i := 23) (oi := { dst := some 108, op := Op.load 55 (Operand.tmp 107), type := 55, pos := "right.go:116", after := #[{ on := 22, ground := Ground.data }, { on := 21, ground := Ground.guard }], guard := some (21, true) }) (v := ?_) rfl (by kernel_rfl) (by kernel_rfl) (by kernel_rfl) (fun _ _ _ h => h) (Or.inl ⟨by rfl, ?_⟩) (by assumption) ?_
                rotate_left
                · intro w hSw; (try dsimp only at hSw); go_simp; first | done | with_reducible rfl
                try simp only [Act.put, List.setIfInBounds_toArray, List.set_cons_zero, List.set_cons_succ]
                refine wpAnyH_take (i := 24) (oi := { dst := some 109, op := Op.move (Operand.tmp 8), type := 3, pos := "right.go:116", after := #[{ on := 21, ground := Ground.guard }], guard := some (21, true) }) (v := ?_) rfl (by kernel_rfl) (by kernel_rfl) (by kernel_rfl) (fun _ _ _ h => h) (Or.inl ⟨by rfl, ?_⟩) (by assumption) ?_
                rotate_left
                · intro w hSw; (try dsimp only at hSw); go_simp; first | done | with_reducible rfl
                try simp only [Act.put, List.setIfInBounds_toArray, List.set_cons_zero, List.set_cons_succ]
                refine wpAnyH_take (i := 25) (oi := { dst := some 110, op := Op.indexAddr 55 (Operand.tmp 108) (Operand.tmp 109), type := 0, pos := "right.go:116", after := #[{ on := 23, ground := Ground.data }, { on := 24, ground := Ground.data }, { on := 21, ground := Ground.guard }], guard := some (21, true) }) (v := ?_) rfl (by kernel_rfl) (by kernel_rfl) (by kernel_rfl) (fun _ _ _ h => h) (Or.inl ⟨by rfl, ?_⟩) (by assumption) ?_
                rotate_left
                · intro w hSw; (try dsimp only at hSw); go_simp; first | done | with_reducible rfl
                try simp only [Act.put, List.setIfInBounds_toArray, List.set_cons_zero, List.set_cons_succ]
                refine wpAnyH_take (i := 26) (oi := { dst := some 111, op := Op.fieldAddr 74 (Operand.tmp 110) 4, type := 0, pos := "right.go:116", after := #[{ on := 25, ground := Ground.data }, { on := 21, ground := Ground.guard }], guard := some (21, true) }) (v := ?_) rfl (by kernel_rfl) (by kernel_rfl) (by kernel_rfl) (fun _ _ _ h => h) (Or.inl ⟨by rfl, ?_⟩) (by assumption) ?_
                rotate_left
                · intro w hSw; (try dsimp only at hSw); go_simp; first | done | with_reducible rfl
                try simp only [Act.put, List.setIfInBounds_toArray, List.set_cons_zero, List.set_cons_succ]
                refine wpAnyH_take (i := 27) (oi := { dst := some 112, op := Op.load 3 (Operand.tmp 111), type := 3, pos := "right.go:116", after := #[{ on := 26, ground := Ground.data }, { on := 21, ground := Ground.guard }], guard := some (21, true) }) (v := ?_) rfl (by kernel_rfl) (by kernel_rfl) (by kernel_rfl) (fun _ _ _ h => h) (Or.inl ⟨by rfl, ?_⟩) (by assumption) ?_
                rotate_left
                · intro w hSw; (try dsimp only at hSw); go_simp; first | done | with_reducible rfl
                try simp only [Act.put, List.setIfInBounds_toArray, List.set_cons_zero, List.set_cons_succ]
                refine wpAnyH_take (i := 28) (oi := { dst := some 113, op := Op.move (Operand.tmp 1), type := 3, pos := "right.go:116", after := #[{ on := 21, ground := Ground.guard }], guard := some (21, true) }) (v := ?_) rfl (by kernel_rfl) (by kernel_rfl) (by kernel_rfl) (fun _ _ _ h => h) (Or.inl ⟨by rfl, ?_⟩) (by assumption) ?_
                rotate_left
                · intro w hSw; (try dsimp only at hSw); go_simp; first | done | with_reducible rfl
                try simp only [Act.put, List.setIfInBounds_toArray, List.set_cons_zero, List.set_cons_succ]
                refine wpAnyH_take (i := 29) (oi := { dst := some 114, op := Op.binOp BinOp.geq 3 (Operand.tmp 112) (Operand.tmp 113) 3, type := 4, pos := "right.go:116", after := #[{ on := 27, ground := Ground.data }, { on := 28, ground := Ground.data }, { on := 21, ground := Ground.guard }], guard := some (21, true) }) (v := .bool false) rfl (by kernel_rfl) (by kernel_rfl) (by kernel_rfl) (fun _ _ _ h => h) (Or.inl ⟨by rfl, ?_⟩) (by assumption) ?_
                · intro w hSw; (try dsimp only at hSw); first | (go_simp; done) | (go_simp; simp_all; done) | (go_simp; omega)
                try simp only [Act.put, List.setIfInBounds_toArray, List.set_cons_zero, List.set_cons_succ]
                refine wpAnyH_take (i := 30) (oi := { dst := some 115, op := Op.pick (Operand.tmp 106) (Operand.tmp 114) (Operand.const (Value.bool false)), type := 4, pos := "right.go:116", after := #[{ on := 21, ground := Ground.data }, { on := 29, ground := Ground.data }, { on := 13, ground := Ground.guard }], guard := some (13, false) }) (v := ?_) rfl (by kernel_rfl) (by kernel_rfl) (by kernel_rfl) (fun _ _ _ h => h) (Or.inl ⟨by rfl, ?_⟩) (by assumption) ?_
                rotate_left
                · intro w hSw; (try dsimp only at hSw); go_simp; first | done | with_reducible rfl
                try simp only [Act.put, List.setIfInBounds_toArray, List.set_cons_zero, List.set_cons_succ]
                refine wpAnyH_take (i := 31) (oi := { dst := some 116, op := Op.pick (Operand.tmp 98) (Operand.const (Value.bool true)) (Operand.tmp 115), type := 4, pos := "right.go:116", after := #[{ on := 13, ground := Ground.data }, { on := 30, ground := Ground.data }], guard := none }) (v := ?_) rfl (by kernel_rfl) (by kernel_rfl) (by kernel_rfl) (fun _ _ _ h => h) (Or.inl ⟨by rfl, ?_⟩) (by assumption) ?_
                rotate_left
                · intro w hSw; (try dsimp only at hSw); go_simp; first | done | with_reducible rfl
                try simp only [Act.put, List.setIfInBounds_toArray, List.set_cons_zero, List.set_cons_succ]
                refine wpAnyH_done (by kernel_rfl) ?_ _
                clear KS hHeld
                go_wp2_with fail
                replace hG := Hid.mk (hG.out.trans hG0)
                go_roundw
                case rel => exact ⟨k2 + 1, by simp, by omega, ⟨hsf.out, hG.out⟩⟩
                case measure => simp [intOf]; omega
              · have j2' : g ≤ t.m := by omega
                rw [if_neg (by simpa using j2)] at hsf
                replace j2 := Hid.mk j2
                replace hG := Hid.mk hG
                replace hsf := Hid.mk hsf
                go_wp2_with fail
                refine (hT _).mono ?_
                rintro x w2 ⟨rfl, hG2⟩
                have X2 := X1.out.gr hG2
                have c0' := (hG2.cell hb4 _).trans c0
                have c4' := (hG2.cell hb4 _).trans c4
                have hb5 : b2 < w2.heap.size := Nat.lt_of_lt_of_le hb4 (gr_size hG2)
                replace hG := Hid.mk (hG.out.trans hG2)
                clear z0 p0 f0 hG2 hT c0 c1 c2 c3 c4 hb4 X1
                have ⟨z1, p1, f1⟩ := X2.at
                replace X2 := Hid.mk X2
                go_wp2_with fail
                refine (hJ _).mono ?_
                rintro x w3 ⟨rfl, rfl⟩
                go_wp2_with fail
                have KS : ∀ W, Gr w2 W → W.cell? ⟨w.heap.size, 1, none⟩ = some (.slice (some ⟨b2, off2, none⟩) c.code.length kc) ∧ W.cell? ⟨b2, off2 + k2 * 5, none⟩ = some (.int .u8 t.op) ∧ W.cell? ⟨b2, off2 + k2 * 5 + 1 + 1 + 1 + 1, none⟩ = some (.int .i64 t.m) := fun W hW => ⟨(hW.cell z1 1).trans (p1 1), (hW.cell hb5 _).trans c0', (hW.cell hb5 _).trans c4'⟩
                replace KS := Hid.mk KS
                have hG0 : Gr w2 w2.drew := (Gr.refl _).drew
                refine wp_region_held_drew (S := fun W => W.cell? ⟨w.heap.size, 1, none⟩ = some (.slice (some ⟨b2, off2, none⟩) c.code.length kc) ∧ W.cell? ⟨b2, off2 + k2 * 5, none⟩ = some (.int .u8 t.op) ∧ W.cell? ⟨b2, off2 + k2 * 5 + 1 + 1 + 1 + 1, none⟩ = some (.int .i64 t.m)) (by kernel_rfl) (KS.out _ hG0) (fun hHeld => ?_)
                refine wpAnyH_take (i := 0) (oi := { dst := some 85, op := Op.move (Operand.tmp 10), type := 4, pos := "right.go:116", after := #[], guard := none }) (v := ?_) rfl (by kernel_rfl) (by kernel_rfl) (by kernel_rfl) (fun _ _ _ h => h) (Or.inl ⟨by rfl, ?_⟩) (by assumption) ?_
                rotate_left
                · intro w hSw; (try dsimp only at hSw); go_simp; first | done | with_reducible rfl
                try simp only [Act.put, List.setIfInBounds_toArray, List.set_cons_zero, List.set_cons_succ]
                refine wpAnyH_take (i := 1) (oi := { dst := some 86, op := Op.move (Operand.tmp 85), type := 4, pos := "right.go:116", after := #[{ on := 0, ground := Ground.data }], guard := none }) (v := ?_) rfl (by kernel_rfl) (by kernel_rfl) (by kernel_rfl) (fun _ _ _ h => h) (Or.inl ⟨by rfl, ?_⟩) (by assumption) ?_
                rotate_left
                · intro w hSw; (try dsimp only at hSw); go_simp; first | done | with_reducible rfl
                try simp only [Act.put, List.setIfInBounds_toArray, List.set_cons_zero, List.set_cons_succ]
                refine wpAnyH_take (i := 2) (oi := { dst := some 87, op := Op.fieldAddr 57 (Operand.tmp 2) 1, type := 0, pos := "right.go:116", after := #[{ on := 1, ground := Ground.guard }], guard := some (1, true) }) (v := undef) rfl (by kernel_rfl) (by kernel_rfl) (by kernel_rfl) (fun _ _ _ h => h) (Or.inr ⟨by rfl, rfl⟩) (by assumption) ?_
                try simp only [Act.put, List.setIfInBounds_toArray, List.set_cons_zero, List.set_cons_succ]
                refine wpAnyH_take (i := 3) (oi := { dst := some 88, op := Op.load 55 (Operand.tmp 87), type := 55, pos := "right.go:116", after := #[{ on := 2, ground := Ground.data }, { on := 1, ground := Ground.guard }], guard := some (1, true) }) (v := undef) rfl (by kernel_rfl) (by kernel_rfl) (by kernel_rfl) (fun _ _ _ h => h) (Or.inr ⟨by rfl, rfl⟩) (by assumption) ?_
                try simp only [Act.put, List.setIfInBounds_toArray, List.set_cons_zero, List.set_cons_succ]
                refine wpAnyH_take (i := 4) (oi := { dst := some 89, op := Op.move (Operand.tmp 8), type := 3, pos := "right.go:116", after := #[{ on := 1, ground := Ground.guard }], guard := some (1, true) }) (v := undef) rfl (by kernel_rfl) (by kernel_rfl) (by kernel_rfl) (fun _ _ _ h => h) (Or.inr ⟨by rfl, rfl⟩) (by assumption) ?_
                try simp only [Act.put, List.setIfInBounds_toArray, List.set_cons_zero, List.set_cons_succ]
                refine wpAnyH_take (i := 5) (oi := { dst := some 90, op := Op.indexAddr 55 (Operand.tmp 88) (Operand.tmp 89), type := 0, pos := "right.go:116", after := #[{ on := 3, ground := Ground.data }, { on := 4, ground := Ground.data }, { on := 1, ground := Ground.guard }], guard := some (1, true) }) (v := undef) rfl (by kernel_rfl) (by kernel_rfl) (by kernel_rfl) (fun _ _ _ h => h) (Or.inr ⟨by rfl, rfl⟩) (by assumption) ?_
                try simp only [Act.put, List.setIfInBounds_toArray, List.set_cons_zero, List.set_cons_succ]
                refine wpAnyH_take (i := 6) (oi := { dst := some 91, op := Op.fieldAddr 74 (Operand.tmp 90) 4, type := 0, pos := "right.go:116", after := #[{ on := 5, ground := Ground.data }, { on := 1, ground := Ground.guard }], guard := some (1, true) }) (v := undef) rfl (by kernel_rfl) (by kernel_rfl) (by kernel_rfl) (fun _ _ _ h => h) (Or.inr ⟨by rfl, rfl⟩) (by assumption) ?_
                try simp only [Act.put, List.setIfInBounds_toArray, List.set_cons_zero, List.set_cons_succ]
                refine wpAnyH_take (i := 7) (oi := { dst := some 92, op := Op.load 3 (Operand.tmp 91), type := 3, pos := "right.go:116", after := #[{ on := 6, ground := Ground.data }, { on := 1, ground := Ground.guard }], guard := some (1, true) }) (v := undef) rfl (by kernel_rfl) (by kernel_rfl) (by kernel_rfl) (fun _ _ _ h => h) (Or.inr ⟨by rfl, rfl⟩) (by assumption) ?_
                try simp only [Act.put, List.setIfInBounds_toArray, List.set_cons_zero, List.set_cons_succ]
                refine wpAnyH_take (i := 8) (oi := { dst := some 93, op := Op.fieldAddr 57 (Operand.tmp 2) 1, type := 0, pos := "right.go:116", after := #[{ on := 1, ground := Ground.guard }], guard := some (1, true) }) (v := undef) rfl (by kernel_rfl) (by kernel_rfl) (by kernel_rfl) (fun _ _ _ h => h) (Or.inr ⟨by rfl, rfl⟩) (by assumption) ?_
                try simp only [Act.put, List.setIfInBounds_toArray, List.set_cons_zero, List.set_cons_succ]
                refine wpAnyH_take (i := 9) (oi := { dst := some 94, op := Op.load 55 (Operand.tmp 93), type := 55, pos := "right.go:116", after := #[{ on := 8, ground := Ground.data }, { on := 1, ground := Ground.guard }], guard := some (1, true) }) (v := undef) rfl (by kernel_rfl) (by kernel_rfl) (by kernel_rfl) (fun _ _ _ h => h) (Or.inr ⟨by rfl, rfl⟩) (by assumption) ?_
                try simp only [Act.put, List.setIfInBounds_toArray, List.set_cons_zero, List.set_cons_succ]
                refine wpAnyH_take (i := 10) (oi := { dst := some 95, op := Op.call { callee := Callee.builtin Builtin.len, args := #[Operand.tmp 94], argTypes := #[55] }, type := 3, pos := "right.go:116", after := #[{ on := 9, ground := Ground.data }, { on := 1, ground := Ground.guard }], guard := some (1, true) }) (v := undef) rfl (by kernel_rfl) (by kernel_rfl) (by kernel_rfl) (fun _ _ _ h => h) (Or.inr ⟨by rfl, rfl⟩) (by assumption) ?_
                try simp only [Act.put, List.setIfInBounds_toArray, List.set_cons_zero, List.set_cons_succ]
                refine wpAnyH_take (i := 11) (oi := { dst := some 96, op := Op.binOp BinOp.geq 3 (Operand.tmp 92) (Operand.tmp 95) 3, type := 4, pos := "right.go:116", after := #[{ on := 7, ground := Ground.data }, { on := 10, ground := Ground.data }, { on := 1, ground := Ground.guard }], guard := some (1, true) }) (v := undef) rfl (by kernel_rfl) (by kernel_rfl) (by kernel_rfl) (fun _ _ _ h => h) (Or.inr ⟨by rfl, rfl⟩) (by assumption) ?_
                try simp only [Act.put, List.setIfInBounds_toArray, List.set_cons_zero, List.set_cons_succ]
                refine wpAnyH_take (i := 12) (oi := { dst := some 97, op := Op.pick (Operand.tmp 86) (Operand.tmp 96) (Operand.const (Value.bool false)), type := 4, pos := "right.go:116", after := #[{ on := 1, ground := Ground.data }, { on := 11, ground := Ground.data }], guard := none }) (v := ?_) rfl (by kernel_rfl) (by kernel_rfl) (by kernel_rfl) (fun _ _ _ h => h) (Or.inl ⟨by rfl, ?_⟩) (by assumption) ?_
                rotate_left
                · intro w hSw; (try dsimp only at hSw); go_simp; first | done | with_reducible rfl
                try simp only [Act.put, List.setIfInBounds_toArray, List.set_cons_zero, List.set_cons_succ]
                refine wpAnyH_take (i := 13) (oi := { dst := some 98, op := Op.move (Operand.tmp 97), type := 4, pos := "right.go:116", after := #[{ on := 12, ground := Ground.data }, { on := 1, ground := Ground.chain }], guard := none }) (v := ?_) rfl (by kernel_rfl) (by kernel_rfl) (by kernel_rfl) (fun _ _ _ h => h) (Or.inl ⟨by rfl, ?_⟩) (by assumption) ?_
                rotate_left
                · intro w hSw; (try dsimp only at hSw); go_simp; first | done | with_reducible rfl
                try simp only [Act.put, List.setIfInBounds_toArray, List.set_cons_zero, List.set_cons_succ]
                refine wpAnyH_take (i := 14) (oi := { dst := some 99, op := Op.fieldAddr 57 (Operand.tmp 2) 1, type := 0, pos := "right.go:116", after := #[{ on := 13, ground := Ground.guard }], guard := some (13, false) }) (v := ?_) rfl (by kernel_rfl) (by kernel_rfl) (by kernel_rfl) (fun _ _ _ h => h) (Or.inl ⟨by rfl, ?_⟩) (by assumption) ?_
                rotate_left
                · intro w hSw; (try dsimp only at hSw); go_simp; first | done | with_reducible rfl
                try simp only [Act.put, List.setIfInBounds_toArray, List.set_cons_zero, List.set_cons_succ]
                refine wpAnyH_take (i := 15) (oi := { dst := some 100, op := Op.load 55 (Operand.tmp 99), type := 55, pos := "right.go:116", after := #[{ on := 14, ground := Ground.data }, { on := 13, ground := Ground.guard }], guard := some (13, false) }) (v := ?_) rfl (by kernel_rfl) (by kernel_rfl) (by kernel_rfl) (fun _ _ _ h => h) (Or.inl ⟨by rfl, ?_⟩) (by assumption) ?_
                rotate_left
                · intro w hSw; (try dsimp only at hSw); go_simp; first | done | with_reducible rfl
                try simp only [Act.put, List.setIfInBounds_toArray, List.set_cons_zero, List.set_cons_succ]
                refine wpAnyH_take (i := 16) (oi := { dst := some 101, op := Op.move (Operand.tmp 8), type := 3, pos := "right.go:116", after := #[{ on := 13, ground := Ground.guard }], guard := some (13, false) }) (v := ?_) rfl (by kernel_rfl) (by kernel_rfl) (by kernel_rfl) (fun _ _ _ h => h) (Or.inl ⟨by rfl, ?_⟩) (by assumption) ?_
                rotate_left
                · intro w hSw; (try dsimp only at hSw); go_simp; first | done | with_reducible rfl
                try simp only [Act.put, List.setIfInBounds_toArray, List.set_cons_zero, List.set_cons_succ]
                refine wpAnyH_take (i := 17) (oi := { dst := some 102, op := Op.indexAddr 55 (Operand.tmp 100) (Operand.tmp 101), type := 0, pos := "right.go:116", after := #[{ on := 15, ground := Ground.data }, { on := 16, ground := Ground.data }, { on := 13, ground := Ground.guard }], guard := some (13, false) }) (v := ?_) rfl (by kernel_rfl) (by kernel_rfl) (by kernel_rfl) (fun _ _ _ h => h) (Or.inl ⟨by rfl, ?_⟩) (by assumption) ?_
                rotate_left
                · intro w hSw; (try dsimp only at hSw); go_simp; first | done | with_reducible rfl
                try simp only [Act.put, List.setIfInBounds_toArray, List.set_cons_zero, List.set_cons_succ]
                refine wpAnyH_take (i := 18) (oi := { dst := some 103, op := Op.fieldAddr 74 (Operand.tmp 102) 0, type := 0, pos := "right.go:116", after := #[{ on := 17, ground := Ground.data }, { on := 13, ground := Ground.guard }], guard := some (13, false) }) (v := ?_) rfl (by kernel_rfl) (by kernel_rfl) (by kernel_rfl) (fun _ _ _ h => h) (Or.inl ⟨by rfl, ?_⟩) (by assumption) ?_
                rotate_left
                · intro w hSw; (try dsimp only at hSw); go_simp; first | done | with_reducible rfl
                try simp only [Act.put, List.setIfInBounds_toArray, List.set_cons_zero, List.set_cons_succ]
                refine wpAnyH_take (i := 19) (oi := { dst := some 104, op := Op.load 72 (Operand.tmp 103), type := 72, pos := "right.go:116", after := #[{ on := 18, ground := Ground.data }, { on := 13, ground := Ground.guard }], guard := some (13, false) }) (v := ?_) rfl (by kernel_rfl) (by kernel_rfl) (by kernel_rfl) (fun _ _ _ h => h) (Or.inl ⟨by rfl, ?_⟩) (by assumption) ?_
                rotate_left
                · intro w hSw; (try dsimp only at hSw); go_simp; first | done | with_reducible rfl
                try simp only [Act.put, List.setIfInBounds_toArray, List.set_cons_zero, List.set_cons_succ]
                refine wpAnyH_take (i := 20) (oi := { dst := some 105, op := Op.binOp BinOp.eql 72 (Operand.tmp 104) (Operand.const (Value.int IntKind.u8 31)) 72, type := 4, pos := "right.go:116", after := #[{ on := 19, ground := Ground.data }, { on := 13, ground := Ground.guard }], guard := some (13, false) }) (v := .bool true) rfl (by kernel_rfl) (by kernel_rfl) (by kernel_rfl) (fun _ _ _ h => h) (Or.inl ⟨by rfl, ?_⟩) (by assumption) ?_
                · intro w hSw; (try dsimp only at hSw); first | (go_simp; done) | (go_simp; simp_all; done) | (go_simp; omega)
                try simp only [Act.put, List.setIfInBounds_toArray, List.set_cons_zero, List.set_cons_succ]
                refine wpAnyH_take (i := 21) (oi := { dst := some 106, op := Op.move (Operand.tmp 105), type := 4, pos := "right.go:116", after := #[{ on := 20, ground := Ground.data }, { on := 13, ground := Ground.chain }, { on := 13, ground := Ground.guard }], guard := some (13, false) }) (v := ?_) rfl (by kernel_rfl) (by kernel_rfl) (by kernel_rfl) (fun _ _ _ h => h) (Or.inl ⟨by rfl, ?_⟩) (by assumption) ?_
                rotate_left
                · intro w hSw; (try dsimp only at hSw); go_simp; first | done | with_reducible rfl
                try simp only [Act.put, List.setIfInBounds_toArray, List.set_cons_zero, List.set_cons_succ]
                refine wpAnyH_take (i := 22) (oi := { dst := some 107, op := Op.fieldAddr 57 (Operand.tmp 2) 1, type := 0, pos := "right.go:116", after := #[{ on := 21, ground := Ground.guard }], guard := some (21, true) }) (v := ?_) rfl (by kernel_rfl) (by kernel_rfl) (by kernel_rfl) (fun _ _ _ h => h) (Or.inl ⟨by rfl, ?_⟩) (by assumption) ?_
                rotate_left
                · intro w hSw; (try dsimp only at hSw); go_simp; first | done | with_reducible rfl
                try simp only [Act.put, List.setIfInBounds_toArray, List.set_cons_zero, List.set_cons_succ]
                refine wpAnyH_take (i := 23) (oi := { dst := some 108, op := Op.load 55 (Operand.tmp 107), type := 55, pos := "right.go:116", after := #[{ on := 22, ground := Ground.data }, { on := 21, ground := Ground.guard }], guard := some (21, true) }) (v := ?_) rfl (by kernel_rfl) (by kernel_rfl) (by kernel_rfl) (fun _ _ _ h => h) (Or.inl ⟨by rfl, ?_⟩) (by assumption) ?_
                rotate_left
                · intro w hSw; (try dsimp only at hSw); go_simp; first | done | with_reducible rfl
                try simp only [Act.put, List.setIfInBounds_toArray, List.set_cons_zero, List.set_cons_succ]
                refine wpAnyH_take (i := 24) (oi := { dst := some 109, op := Op.move (Operand.tmp 8), type := 3, pos := "right.go:116", after := #[{ on := 21, ground := Ground.guard }], guard := some (21, true) }) (v := ?_) rfl (by kernel_rfl) (by kernel_rfl) (by kernel_rfl) (fun _ _ _ h => h) (Or.inl ⟨by rfl, ?_⟩) (by assumption) ?_
                rotate_left
                · intro w hSw; (try dsimp only at hSw); go_simp; first | done | with_reducible rfl
                try simp only [Act.put, List.setIfInBounds_toArray, List.set_cons_zero, List.set_cons_succ]
                refine wpAnyH_take (i := 25) (oi := { dst := some 110, op := Op.indexAddr 55 (Operand.tmp 108) (Operand.tmp 109), type := 0, pos := "right.go:116", after := #[{ on := 23, ground := Ground.data }, { on := 24, ground := Ground.data }, { on := 21, ground := Ground.guard }], guard := some (21, true) }) (v := ?_) rfl (by kernel_rfl) (by kernel_rfl) (by kernel_rfl) (fun _ _ _ h => h) (Or.inl ⟨by rfl, ?_⟩) (by assumption) ?_
                rotate_left
                · intro w hSw; (try dsimp only at hSw); go_simp; first | done | with_reducible rfl
                try simp only [Act.put, List.setIfInBounds_toArray, List.set_cons_zero, List.set_cons_succ]
                refine wpAnyH_take (i := 26) (oi := { dst := some 111, op := Op.fieldAddr 74 (Operand.tmp 110) 4, type := 0, pos := "right.go:116", after := #[{ on := 25, ground := Ground.data }, { on := 21, ground := Ground.guard }], guard := some (21, true) }) (v := ?_) rfl (by kernel_rfl) (by kernel_rfl) (by kernel_rfl) (fun _ _ _ h => h) (Or.inl ⟨by rfl, ?_⟩) (by assumption) ?_
                rotate_left
                · intro w hSw; (try dsimp only at hSw); go_simp; first | done | with_reducible rfl
                try simp only [Act.put, List.setIfInBounds_toArray, List.set_cons_zero, List.set_cons_succ]
                refine wpAnyH_take (i := 27) (oi := { dst := some 112, op := Op.load 3 (Operand.tmp 111), type := 3, pos := "right.go:116", after := #[{ on := 26, ground := Ground.data }, { on := 21, ground := Ground.guard }], guard := some (21, true) }) (v := ?_) rfl (by kernel_rfl) (by kernel_rfl) (by kernel_rfl) (fun _ _ _ h => h) (Or.inl ⟨by rfl, ?_⟩) (by assumption) ?_
                rotate_left
                · intro w hSw; (try dsimp only at hSw); go_simp; first | done | with_reducible rfl
                try simp only [Act.put, List.setIfInBounds_toArray, List.set_cons_zero, List.set_cons_succ]
                refine wpAnyH_take (i := 28) (oi := { dst := some 113, op := Op.move (Operand.tmp 1), type := 3, pos := "right.go:116", after := #[{ on := 21, ground := Ground.guard }], guard := some (21, true) }) (v := ?_) rfl (by kernel_rfl) (by kernel_rfl) (by kernel_rfl) (fun _ _ _ h => h) (Or.inl ⟨by rfl, ?_⟩) (by assumption) ?_
                rotate_left
                · intro w hSw; (try dsimp only at hSw); go_simp; first | done | with_reducible rfl
                try simp only [Act.put, List.setIfInBounds_toArray, List.set_cons_zero, List.set_cons_succ]
                refine wpAnyH_take (i := 29) (oi := { dst := some 114, op := Op.binOp BinOp.geq 3 (Operand.tmp 112) (Operand.tmp 113) 3, type := 4, pos := "right.go:116", after := #[{ on := 27, ground := Ground.data }, { on := 28, ground := Ground.data }, { on := 21, ground := Ground.guard }], guard := some (21, true) }) (v := .bool true) rfl (by kernel_rfl) (by kernel_rfl) (by kernel_rfl) (fun _ _ _ h => h) (Or.inl ⟨by rfl, ?_⟩) (by assumption) ?_
                · intro w hSw; (try dsimp only at hSw); first | (go_simp; done) | (go_simp; simp_all; done) | (go_simp; omega)
                try simp only [Act.put, List.setIfInBounds_toArray, List.set_cons_zero, List.set_cons_succ]
                refine wpAnyH_take (i := 30) (oi := { dst := some 115, op := Op.pick (Operand.tmp 106) (Operand.tmp 114) (Operand.const (Value.bool false)), type := 4, pos := "right.go:116", after := #[{ on := 21, ground := Ground.data }, { on := 29, ground := Ground.data }, { on := 13, ground := Ground.guard }], guard := some (13, false) }) (v := ?_) rfl (by kernel_rfl) (by kernel_rfl) (by kernel_rfl) (fun _ _ _ h => h) (Or.inl ⟨by rfl, ?_⟩) (by assumption) ?_
                rotate_left
                · intro w hSw; (try dsimp only at hSw); go_simp; first | done | with_reducible rfl
                try simp only [Act.put, List.setIfInBounds_toArray, List.set_cons_zero, List.set_cons_succ]
                refine wpAnyH_take (i := 31) (oi := { dst := some 116, op := Op.pick (Operand.tmp 98) (Operand.const (Value.bool true)) (Operand.tmp 115), type := 4, pos := "right.go:116", after := #[{ on := 13, ground := Ground.data }, { on := 30, ground := Ground.data }], guard := none }) (v := ?_) rfl (by kernel_rfl) (by kernel_rfl) (by kernel_rfl) (fun _ _ _ h => h) (Or.inl ⟨by rfl, ?_⟩) (by assumption) ?_
                rotate_left
                · intro w hSw; (try dsimp only at hSw); go_simp; first | done | with_reducible rfl
                try simp only [Act.put, List.setIfInBounds_toArray, List.set_cons_zero, List.set_cons_succ]
                refine wpAnyH_done (by kernel_rfl) ?_ _
                clear KS hHeld
                go_wp2_with fail
                replace hG := Hid.mk (hG.out.trans hG0)
                go_ret
                exact ⟨retI (by rw [hq.out, ← hsf.out]), hGR.out.trans hG.out⟩
            · have o31 : (t.op == 31) = false := beq_false_of_ne j3
              have htg : tgtB t.op t.m c.code.length g = true := by unfold tgtB; rw [if_neg j1, if_neg j3]
              rw [htg, if_pos rfl] at hsf
              clear htg
              replace j1 := Hid.mk j1
              replace j3 := Hid.mk j3
              replace hG := Hid.mk hG
              replace hsf := Hid.mk hsf
              go_wp2_with fail
              refine (hT _).mono ?_
              rintro x w2 ⟨rfl, hG2⟩
              have X2 := X1.out.gr hG2
              have c0' := (hG2.cell hb4 _).trans c0
              have c4' := (hG2.cell hb4 _).trans c4
              have hb5 : b2 < w2.heap.size := Nat.lt_of_lt_of_le hb4 (gr_size hG2)
              replace hG := Hid.mk (hG.out.trans hG2)
              clear z0 p0 f0 hG2 hT c0 c1 c2 c3 c4 hb4 X1
              have ⟨z1, p1, f1⟩ := X2.at
              replace X2 := Hid.mk X2
              go_wp2_with fail
              refine (hJ _).mono ?_
              rintro x w3 ⟨rfl, rfl⟩
              go_wp2_with fail
              have KS : ∀ W, Gr w2 W → W.cell? ⟨w.heap.size, 1, none⟩ = some (.slice (some ⟨b2, off2, none⟩) c.code.length kc) ∧ W.cell? ⟨b2, off2 + k2 * 5, none⟩ = some (.int .u8 t.op) ∧ W.cell? ⟨b2, off2 + k2 * 5 + 1 + 1 + 1 + 1, none⟩ = some (.int .i64 t.m) := fun W hW => ⟨(hW.cell z1 1).trans (p1 1), (hW.cell hb5 _).trans c0', (hW.cell hb5 _).trans c4'⟩
              replace KS := Hid.mk KS
              have hG0 : Gr w2 w2.drew := (Gr.refl _).drew
              refine wp_region_held_drew (S := fun W => W.cell? ⟨w.heap.size, 1, none⟩ = some (.slice (some ⟨b2, off2, none⟩) c.code.length kc) ∧ W.cell? ⟨b2, off2 + k2 * 5, none⟩ = some (.int .u8 t.op) ∧ W.cell? ⟨b2, off2 + k2 * 5 + 1 + 1 + 1 + 1, none⟩ = some (.int .i64 t.m)) (by kernel_rfl) (KS.out _ hG0) (fun hHeld => ?_)
              refine wpAnyH_take (i := 0) (oi := { dst := some 85, op := Op.move (Operand.tmp 10), type := 4, pos := "right.go:116", after := #[], guard := none }) (v := ?_) rfl (by kernel_rfl) (by kernel_rfl) (by kernel_rfl) (fun _ _ _ h => h) (Or.inl ⟨by rfl, ?_⟩) (by assumption) ?_
              rotate_left
              · intro w hSw; (try dsimp only at hSw); go_simp; first | done | with_reducible rfl
              try simp only [Act.put, List.setIfInBounds_toArray, List.set_cons_zero, List.set_cons_succ]
              refine wpAnyH_take (i := 1) (oi := { dst := some 86, op := Op.move (Operand.tmp 85), type := 4, pos := "right.go:116", after := #[{ on := 0, ground := Ground.data }], guard := none }) (v := ?_) rfl (by kernel_rfl) (by kernel_rfl) (by kernel_rfl) (fun _ _ _ h => h) (Or.inl ⟨by rfl, ?_⟩) (by assumption) ?_
              rotate_left
              · intro w hSw; (try dsimp only at hSw); go_simp; first | done | with_reducible rfl
              try simp only [Act.put, List.setIfInBounds_toArray, List.set_cons_zero, List.set_cons_succ]
              refine wpAnyH_take (i := 2) (oi := { dst := some 87, op := Op.fieldAddr 57 (Operand.tmp 2) 1, type := 0, pos := "right.go:116", after := #[{ on := 1, ground := Ground.guard }], guard := some (1, true) }) (v := undef) rfl (by kernel_rfl) (by kernel_rfl) (by kernel_rfl) (fun _ _ _ h => h) (Or.inr ⟨by rfl, rfl⟩) (by assumption) ?_
              try simp only [Act.put, List.setIfInBounds_toArray, List.set_cons_zero, List.set_cons_succ]
              refine wpAnyH_take (i := 3) (oi := { dst := some 88, op := Op.load 55 (Operand.tmp 87), type := 55, pos := "right.go:116", after := #[{ on := 2, ground := Ground.data }, { on := 1, ground := Ground.guard }], guard := some (1, true) }) (v := undef) rfl (by kernel_rfl) (by kernel_rfl) (by kernel_rfl) (fun _ _ _ h => h) (Or.inr ⟨by rfl, rfl⟩) (by assumption) ?_
              try simp only [Act.put, List.setIfInBounds_toArray, List.set_cons_zero, List.set_cons_succ]
              refine wpAnyH_take (i := 4) (oi := { dst := some 89, op := Op.move (Operand.tmp 8), type := 3, pos := "right.go:116", after := #[{ on := 1, ground := Ground.guard }], guard := some (1, true) }) (v := undef) rfl (by kernel_rfl) (by kernel_rfl) (by kernel_rfl) (fun _ _ _ h => h) (Or.inr ⟨by rfl, rfl⟩) (by assumption) ?_
              try simp only [Act.put, List.setIfInBounds_toArray, List.set_cons_zero, List.set_cons_succ]
              refine wpAnyH_take (i := 5) (oi := { dst := some 90, op := Op.indexAddr 55 (Operand.tmp 88) (Operand.tmp 89), type := 0, pos := "right.go:116", after := #[{ on := 3, ground := Ground.data }, { on := 4, ground := Ground.data }, { on := 1, ground := Ground.guard }], guard := some (1, true) }) (v := undef) rfl (by kernel_rfl) (by kernel_rfl) (by kernel_rfl) (fun _ _ _ h => h) (Or.inr ⟨by rfl, rfl⟩) (by assumption) ?_
              try simp only [Act.put, List.setIfInBounds_toArray, List.set_cons_zero, List.set_cons_succ]
              refine wpAnyH_take (i := 6) (oi := { dst := some 91, op := Op.fieldAddr 74 (Operand.tmp 90) 4, type := 0, pos := "right.go:116", after := #[{ on := 5, ground := Ground.data }, { on := 1, ground := Ground.guard }], guard := some (1, true) }) (v := undef) rfl (by kernel_rfl) (by kernel_rfl) (by kernel_rfl) (fun _ _ _ h => h) (Or.inr ⟨by rfl, rfl⟩) (by assumption) ?_
              try simp only [Act.put, List.setIfInBounds_toArray, List.set_cons_zero, List.set_cons_succ]
              refine wpAnyH_take (i := 7) (oi := { dst := some 92, op := Op.load 3 (Operand.tmp 91), type := 3, pos := "right.go:116", after := #[{ on := 6, ground := Ground.data }, { on := 1, ground := Ground.guard }], guard := some (1, true) }) (v := undef) rfl (by kernel_rfl) (by kernel_rfl) (by kernel_rfl) (fun _ _ _ h => h) (Or.inr ⟨by rfl, rfl⟩) (by assumption) ?_
              try simp only [Act.put, List.setIfInBounds_toArray, List.set_cons_zero, List.set_cons_succ]
              refine wpAnyH_take (i := 8) (oi := { dst := some 93, op := Op.fieldAddr 57 (Operand.tmp 2) 1, type := 0, pos := "right.go:116", after := #[{ on := 1, ground := Ground.guard }], guard := some (1, true) }) (v := undef) rfl (by kernel_rfl) (by kernel_rfl) (by kernel_rfl) (fun _ _ _ h => h) (Or.inr ⟨by rfl, rfl⟩) (by assumption) ?_
              try simp only [Act.put, List.setIfInBounds_toArray, List.set_cons_zero, List.set_cons_succ]
              refine wpAnyH_take (i := 9) (oi := { dst := some 94, op := Op.load 55 (Operand.tmp 93), type := 55, pos := "right.go:116", after := #[{ on := 8, ground := Ground.data }, { on := 1, ground := Ground.guard }], guard := some (1, true) }) (v := undef) rfl (by kernel_rfl) (by kernel_rfl) (by kernel_rfl) (fun _ _ _ h => h) (Or.inr ⟨by rfl, rfl⟩) (by assumption) ?_
              try simp only [Act.put, List.setIfInBounds_toArray, List.set_cons_zero, List.set_cons_succ]
              refine wpAnyH_take (i := 10) (oi := { dst := some 95, op := Op.call { callee := Callee.builtin Builtin.len, args := #[Operand.tmp 94], argTypes := #[55] }, type := 3, pos := "right.go:116", after := #[{ on := 9, ground := Ground.data }, { on := 1, ground := Ground.guard }], guard := some (1, true) }) (v := undef) rfl (by kernel_rfl) (by kernel_rfl) (by kernel_rfl) (fun _ _ _ h => h) (Or.inr ⟨by rfl, rfl⟩) (by assumption) ?_
              try simp only [Act.put, List.setIfInBounds_toArray, List.set_cons_zero, List.set_cons_succ]
              refine wpAnyH_take (i := 11) (oi := { dst := some 96, op := Op.binOp BinOp.geq 3 (Operand.tmp 92) (Operand.tmp 95) 3, type := 4, pos := "right.go:116", after := #[{ on := 7, ground := Ground.data }, { on := 10, ground := Ground.data }, { on := 1, ground := Ground.guard }], guard := some (1, true) }) (v := undef) rfl (by kernel_rfl) (by kernel_rfl) (by kernel_rfl) (fun _ _ _ h => h) (Or.inr ⟨by rfl, rfl⟩) (by assumption) ?_
              try simp only [Act.put, List.setIfInBounds_toArray, List.set_cons_zero, List.set_cons_succ]
              refine wpAnyH_take (i := 12) (oi := { dst := some 97, op := Op.pick (Operand.tmp 86) (Operand.tmp 96) (Operand.const (Value.bool false)), type := 4, pos := "right.go:116", after := #[{ on := 1, ground := Ground.data }, { on := 11, ground := Ground.data }], guard := none }) (v := ?_) rfl (by kernel_rfl) (by kernel_rfl) (by kernel_rfl) (fun _ _ _ h => h) (Or.inl ⟨by rfl, ?_⟩) (by assumption) ?_
              rotate_left
              · intro w hSw; (try dsimp only at hSw); go_simp; first | done | with_reducible rfl
              try simp only [Act.put, List.setIfInBounds_toArray, List.set_cons_zero, List.set_cons_succ]
              refine wpAnyH_take (i := 13) (oi := { dst := some 98, op := Op.move (Operand.tmp 97), type := 4, pos := "right.go:116", after := #[{ on := 12, ground := Ground.data }, { on := 1, ground := Ground.chain }], guard := none }) (v := ?_) rfl (by kernel_rfl) (by kernel_rfl) (by kernel_rfl) (fun _ _ _ h => h) (Or.inl ⟨by rfl, ?_⟩) (by assumption) ?_
              rotate_left
              · intro w hSw; (try dsimp only at hSw); go_simp; first | done | with_reducible rfl
              try simp only [Act.put, List.setIfInBounds_toArray, List.set_cons_zero, List.set_cons_succ]
              refine wpAnyH_take (i := 14) (oi := { dst := some 99, op := Op.fieldAddr 57 (Operand.tmp 2) 1, type := 0, pos := "right.go:116", after := #[{ on := 13, ground := Ground.guard }], guard := some (13, false) }) (v := ?_) rfl (by kernel_rfl) (by kernel_rfl) (by kernel_rfl) (fun _ _ _ h => h) (Or.inl ⟨by rfl, ?_⟩) (by assumption) ?_
              rotate_left
              · intro w hSw; (try dsimp only at hSw); go_simp; first | done | with_reducible rfl
              try simp only [Act.put, List.setIfInBounds_toArray, List.set_cons_zero, List.set_cons_succ]
              refine wpAnyH_take (i := 15) (oi := { dst := some 100, op := Op.load 55 (Operand.tmp 99), type := 55, pos := "right.go:116", after := #[{ on := 14, ground := Ground.data }, { on := 13, ground := Ground.guard }], guard := some (13, false) }) (v := ?_) rfl (by kernel_rfl) (by kernel_rfl) (by kernel_rfl) (fun _ _ _ h => h) (Or.inl ⟨by rfl, ?_⟩) (by assumption) ?_
              rotate_left
              · intro w hSw; (try dsimp only at hSw); go_simp; first | done | with_reducible rfl
              try simp only [Act.put, List.setIfInBounds_toArray, List.set_cons_zero, List.set_cons_succ]
              refine wpAnyH_take (i := 16) (oi := { dst := some 101, op := Op.move (Operand.tmp 8), type := 3, pos := "right.go:116", after := #[{ on := 13, ground := Ground.guard }], guard := some (13, false) }) (v := ?_) rfl (by kernel_rfl) (by kernel_rfl) (by kernel_rfl) (fun _ _ _ h => h) (Or.inl ⟨by rfl, ?_⟩) (by assumption) ?_
              rotate_left
              · intro w hSw; (try dsimp only at hSw); go_simp; first | done | with_reducible rfl
              try simp only [Act.put, List.setIfInBounds_toArray, List.set_cons_zero, List.set_cons_succ]
              refine wpAnyH_take (i := 17) (oi := { dst := some 102, op := Op.indexAddr 55 (Operand.tmp 100) (Operand.tmp 101), type := 0, pos := "right.go:116", after := #[{ on := 15, ground := Ground.data }, { on := 16, ground := Ground.data }, { on := 13, ground := Ground.guard }], guard := some (13, false) }) (v := ?_) rfl (by kernel_rfl) (by kernel_rfl) (by kernel_rfl) (fun _ _ _ h => h) (Or.inl ⟨by rfl, ?_⟩) (by assumption) ?_
              rotate_left
              · intro w hSw; (try dsimp only at hSw); go_simp; first | done | with_reducible rfl
              try simp only [Act.put, List.setIfInBounds_toArray, List.set_cons_zero, List.set_cons_succ]
              refine wpAnyH_take (i := 18) (oi := { dst := some 103, op := Op.fieldAddr 74 (Operand.tmp 102) 0, type := 0, pos := "right.go:116", after := #[{ on := 17, ground := Ground.data }, { on := 13, ground := Ground.guard }], guard := some (13, false) }) (v := ?_) rfl (by kernel_rfl) (by kernel_rfl) (by kernel_rfl) (fun _ _ _ h => h) (Or.inl ⟨by rfl, ?_⟩) (by assumption) ?_
              rotate_left
              · intro w hSw; (try dsimp only at hSw); go_simp; first | done | with_reducible rfl
              try simp only [Act.put, List.setIfInBounds_toArray, List.set_cons_zero, List.set_cons_succ]
              refine wpAnyH_take (i := 19) (oi := { dst := some 104, op := Op.load 72 (Operand.tmp 103), type := 72, pos := "right.go:116", after := #[{ on := 18, ground := Ground.data }, { on := 13, ground := Ground.guard }], guard := some (13, false) }) (v := ?_) rfl (by kernel_rfl) (by kernel_rfl) (by kernel_rfl) (fun _ _ _ h => h) (Or.inl ⟨by rfl, ?_⟩) (by assumption) ?_
              rotate_left
              · intro w hSw; (try dsimp only at hSw); go_simp; first | done | with_reducible rfl
              try simp only [Act.put, List.setIfInBounds_toArray, List.set_cons_zero, List.set_cons_succ]
              refine wpAnyH_take (i := 20) (oi := { dst := some 105, op := Op.binOp BinOp.eql 72 (Operand.tmp 104) (Operand.const (Value.int IntKind.u8 31)) 72, type := 4, pos := "right.go:116", after := #[{ on := 19, ground := Ground.data }, { on := 13, ground := Ground.guard }], guard := some (13, false) }) (v := .bool false) rfl (by kernel_rfl) (by kernel_rfl) (by kernel_rfl) (fun _ _ _ h => h) (Or.inl ⟨by rfl, ?_⟩) (by assumption) ?_
              · intro w hSw; (try dsimp only at hSw); first | (go_simp; done) | (go_simp; simp_all; done) | (go_simp; omega)
              try simp only [Act.put, List.setIfInBounds_toArray, List.set_cons_zero, List.set_cons_succ]
              refine wpAnyH_take (i := 21) (oi := { dst := some 106, op := Op.move (Operand.tmp 105), type := 4, pos := "right.go:116", after := #[{ on := 20, ground := Ground.data }, { on := 13, ground := Ground.chain }, { on := 13, ground := Ground.guard }], guard := some (13, false) }) (v := ?_) rfl (by kernel_rfl) (by kernel_rfl) (by kernel_rfl) (fun _ _ _ h => h) (Or.inl ⟨by rfl, ?_⟩) (by assumption) ?_
              rotate_left
              · intro w hSw; (try dsimp only at hSw); go_simp; first | done | with_reducible rfl
              try simp only [Act.put, List.setIfInBounds_toArray, List.set_cons_zero, List.set_cons_succ]
              refine wpAnyH_take (i := 22) (oi := { dst := some 107, op := Op.fieldAddr 57 (Operand.tmp 2) 1, type := 0, pos := "right.go:116", after := #[{ on := 21, ground := Ground.guard }], guard := some (21, true) }) (v := undef) rfl (by kernel_rfl) (by kernel_rfl) (by kernel_rfl) (fun _ _ _ h => h) (Or.inr ⟨by rfl, rfl⟩) (by assumption) ?_
              try simp only [Act.put, List.setIfInBounds_toArray, List.set_cons_zero, List.set_cons_succ]
              refine wpAnyH_take (i := 23) (oi := { dst := some 108, op := Op.load 55 (Operand.tmp 107), type := 55, pos := "right.go:116", after := #[{ on := 22, ground := Ground.data }, { on := 21, ground := Ground.guard }], guard := some (21, true) }) (v := undef) rfl (by kernel_rfl) (by kernel_rfl) (by kernel_rfl) (fun _ _ _ h => h) (Or.inr ⟨by rfl, rfl⟩) (by assumption) ?_
              try simp only [Act.put, List.setIfInBounds_toArray, List.set_cons_zero, List.set_cons_succ]
              refine wpAnyH_take (i := 24) (oi := { dst := some 109, op := Op.move (Operand.tmp 8), type := 3, pos := "right.go:116", after := #[{ on := 21, ground := Ground.guard }], guard := some (21, true) }) (v := undef) rfl (by kernel_rfl) (by kernel_rfl) (by kernel_rfl) (fun _ _ _ h => h) (Or.inr ⟨by rfl, rfl⟩) (by assumption) ?_
              try simp only [Act.put, List.setIfInBounds_toArray, List.set_cons_zero, List.set_cons_succ]
              refine wpAnyH_take (i := 25) (oi := { dst := some 110, op := Op.indexAddr 55 (Operand.tmp 108) (Operand.tmp 109), type := 0, pos := "right.go:116", after := #[{ on := 23, ground := Ground.data }, { on := 24, ground := Ground.data }, { on := 21, ground := Ground.guard }], guard := some (21, true) }) (v := undef) rfl (by kernel_rfl) (by kernel_rfl) (by kernel_rfl) (fun _ _ _ h => h) (Or.inr ⟨by rfl, rfl⟩) (by assumption) ?_
              try simp only [Act.put, List.setIfInBounds_toArray, List.set_cons_zero, List.set_cons_succ]
              refine wpAnyH_take (i := 26) (oi := { dst := some 111, op := Op.fieldAddr 74 (Operand.tmp 110) 4, type := 0, pos := "right.go:116", after := #[{ on := 25, ground := Ground.data }, { on := 21, ground := Ground.guard }], guard := some (21, true) }) (v := undef) rfl (by kernel_rfl) (by kernel_rfl) (by kernel_rfl) (fun _ _ _ h => h) (Or.inr ⟨by rfl, rfl⟩) (by assumption) ?_
              try simp only [Act.put, List.setIfInBounds_toArray, List.set_cons_zero, List.set_cons_succ]
              refine wpAnyH_take (i := 27) (oi := { dst := some 112, op := Op.load 3 (Operand.tmp 111), type := 3, pos := "right.go:116", after := #[{ on := 26, ground := Ground.data }, { on := 21, ground := Ground.guard }], guard := some (21, true) }) (v := undef) rfl (by kernel_rfl) (by kernel_rfl) (by kernel_rfl) (fun _ _ _ h => h) (Or.inr ⟨by rfl, rfl⟩) (by assumption) ?_
              try simp only [Act.put, List.setIfInBounds_toArray, List.set_cons_zero, List.set_cons_succ]
              refine wpAnyH_take (i := 28) (oi := { dst := some 113, op := Op.move (Operand.tmp 1), type := 3, pos := "right.go:116", after := #[{ on := 21, ground := Ground.guard }], guard := some (21, true) }) (v := undef) rfl (by kernel_rfl) (by kernel_rfl) (by kernel_rfl) (fun _ _ _ h => h) (Or.inr ⟨by rfl, rfl⟩) (by assumption) ?_
              try simp only [Act.put, List.setIfInBounds_toArray, List.set_cons_zero, List.set_cons_succ]
              refine wpAnyH_take (i := 29) (oi := { dst := some 114, op := Op.binOp BinOp.geq 3 (Operand.tmp 112) (Operand.tmp 113) 3, type := 4, pos := "right.go:116", after := #[{ on := 27, ground := Ground.data }, { on := 28, ground := Ground.data }, { on := 21, ground := Ground.guard }], guard := some (21, true) }) (v := undef) rfl (by kernel_rfl) (by kernel_rfl) (by kernel_rfl) (fun _ _ _ h => h) (Or.inr ⟨by rfl, rfl⟩) (by assumption) ?_
              try simp only [Act.put, List.setIfInBounds_toArray, List.set_cons_zero, List.set_cons_succ]
              refine wpAnyH_take (i := 30) (oi := { dst := some 115, op := Op.pick (Operand.tmp 106) (Operand.tmp 114) (Operand.const (Value.bool false)), type := 4, pos := "right.go:116", after := #[{ on := 21, ground := Ground.data }, { on := 29, ground := Ground.data }, { on := 13, ground := Ground.guard }], guard := some (13, false) }) (v := ?_) rfl (by kernel_rfl) (by kernel_rfl) (by kernel_rfl) (fun _ _ _ h => h) (Or.inl ⟨by rfl, ?_⟩) (by assumption) ?_
              rotate_left
              · intro w hSw; (try dsimp only at hSw); go_simp; first | done | with_reducible rfl
              try simp only [Act.put, List.setIfInBounds_toArray, List.set_cons_zero, List.set_cons_succ]
              refine wpAnyH_take (i := 31) (oi := { dst := some 116, op := Op.pick (Operand.tmp 98) (Operand.const (Value.bool true)) (Operand.tmp 115), type := 4, pos := "right.go:116", after := #[{ on := 13, ground := Ground.data }, { on := 30, ground := Ground.data }], guard := none }) (v := ?_) rfl (by kernel_rfl) (by kernel_rfl) (by kernel_rfl) (fun _ _ _ h => h) (Or.inl ⟨by rfl, ?_⟩) (by assumption) ?_
              rotate_left
              · intro w hSw; (try dsimp only at hSw); go_simp; first | done | with_reducible rfl
              try simp only [Act.put, List.setIfInBounds_toArray, List.set_cons_zero, List.set_cons_succ]
              refine wpAnyH_done (by kernel_rfl) ?_ _
              clear KS hHeld
              go_wp2_with fail
              replace hG := Hid.mk (hG.out.trans hG0)
              go_roundw
              case rel => exact ⟨k2 + 1, by simp, by omega, ⟨hsf.out, hG.out⟩⟩
              case measure => simp [intOf]; omega
        · have kl : ¬ (k2 : Int) < c.code.length := by omega
          rw [drop_end hkl] at hsf
          have hz : codeF c.code.length g c.code = 0 := by rw [← hsf]; rfl
          replace hz := Hid.mk hz
          replace hG := Hid.mk hG
          clear hsf
          go_wp2_with fail
          go_ret
          exact ⟨retI (by rw [hq.out, hz.out]), hGR.out.trans hG.out⟩
end Go.Proofs.YtdmkedpnkejpbaaDoor
