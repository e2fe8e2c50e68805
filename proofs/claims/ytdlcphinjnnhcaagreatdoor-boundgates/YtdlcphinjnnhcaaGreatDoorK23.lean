import Derived.Test.YtdlcphinjnnhcaaGreatDoorK22
import Derived.Test.YtdlcphinjnnhcaaGreatDoorK13
import Derived.Test.YtdlcphinjnnhcaaGreatDoorK03
import Derived.Deep.RegionHeld3
import Derived.StillTactics
import Derived.Deep.QuietTactic
import Derived.BigQuiet
import Derived.BigRegion
import Derived.Laws.BitsAllLaws
import Derived.Maps.AppendAt
namespace Go.Proofs.YtdlcphinjnnhcaaGreatDoor
open Go.RowKit

def Box (w : World) (k : Nat) (cs : Array Value) (t : TypeId) : Prop := w.heap[k]? = some (.cells cs t (0, 0))
theorem Box.new (w : World) (cs : Array Value) (t : TypeId) : Box (w.alloc (.cells cs t)) w.heap.size cs t := (MapKept.heap_alloc w _).1
theorem Box.lt {w : World} {k : Nat} {cs : Array Value} {t : TypeId} (h : Box w k cs t) : k < w.heap.size := (Array.getElem?_eq_some_iff.1 h).1
theorem Box.below {w w1 : World} {k B : Nat} {cs : Array Value} {t : TypeId} (h : Box w k cs t) (hb : Below B w w1) (hk : k < B) : Box w1 k cs t := (hb.block k hk).trans h
theorem Box.gr {w w1 : World} {k : Nat} {cs : Array Value} {t : TypeId} (h : Box w k cs t) (hb : Gr w w1) : Box w1 k cs t := h.below hb.below h.lt
theorem Box.alloc {w : World} {k : Nat} {cs : Array Value} {t : TypeId} (h : Box w k cs t) (o : Obj) : Box (w.alloc o) k cs t := h.gr ((Gr.refl w).alloc o)
theorem Box.at {w : World} {k : Nat} {cs : Array Value} {t : TypeId} (h : Box w k cs t) : At w k cs := one_at h
end Go.Proofs.YtdlcphinjnnhcaaGreatDoor


namespace Go.Proofs.YtdlcphinjnnhcaaGreatDoor
open Go.RowKit

def byteAt (B : List UInt8) (i : Nat) : Int := (B.getD i 0).toNat
theorem str_byte (B : List UInt8) (i : Nat) (hi : i < B.length) : ∀ h, ((((str B)[i]'h).toNat : Nat) : Int) = byteAt B i := fun h => by
 rw [str_at B i h hi]
 simp [byteAt, hi]
theorem Gr.drewN {w W : World} (h : Gr w W) (n : Nat) : Gr w (W.drewN n) := by
 induction n with
 | zero => exact h
 | succ n ih => exact ih.drew
end Go.Proofs.YtdlcphinjnnhcaaGreatDoor


namespace Go.Proofs.YtdlcphinjnnhcaaGreatDoor
open Go.RowKit

end Go.Proofs.YtdlcphinjnnhcaaGreatDoor


namespace Go.Proofs.YtdlcphinjnnhcaaGreatDoor
set_option maxRecDepth 100000
set_option maxHeartbeats 40000000
open Go.RowKit

def regE (r : PReg) (f : Int) : Int := if placeB r.b r.n f && contentB r.n r.data r.slots.length then (if slotsR r.slots then 0 else 45) else 43
theorem regsR_E (r : PReg) (L : List PReg) (f : Int) : regsR (r :: L) f = if regE r f = 0 then regsR L (r.b + r.n) else regE r f := by
 rw [regsR]
 unfold regE
 split
 · split <;> simp
 · simp
def sltE (b : Bool) : Int := if b = true then 0 else 45
theorem last_nought (d : List UInt8) (h : 0 < d.length) : endsNought d = (d[d.length - 1] == 0) := by
 unfold endsNought
 rw [List.getLast?_eq_getElem?, List.getElem?_eq_getElem (by omega)]
theorem refRegion_any (r : PReg) (sa : Option Addr) (sc : Nat) (f : Int) (w : World) (hs : FIn 8 PSlot.vals w.heap.size w sa r.slots) (hr : r.Rng) :
   Calls Tryz.prog 37 #[.agg #[.int .u64 r.b, .int .u64 r.n, .string (str r.data), .slice sa r.slots.length sc], .int .u64 f] w fun x w' => x = .returned (.int .i64 (regE r f)) ∧ Gr w w' := by
 obtain ⟨⟨rb0, rb1⟩, ⟨rn0, rn1⟩, hd, hsl, hsr⟩ := hr
 have m1 : r.b.tmod 16 = r.b % 16 := Int.tmod_eq_emod_of_nonneg rb0
 have m2 : r.n.tmod 16 = r.n % 16 := Int.tmod_eq_emod_of_nonneg rn0
 have hsl1 : (r.slots.length : Int) ≤ 140737488355328 := by unfold maxG at hsl; omega
 have hd1 : (r.data.length : Int) ≤ 140737488355328 := by unfold maxG at hd; omega
 have ss := str_size r.data
 replace hs := Hid.mk hs
 replace hsr := Hid.mk hsr
 clear hd hsl
 by_cases hp : placeB r.b r.n f = true
 case neg =>
   have hE : regE r f = 43 := by unfold regE; rw [if_neg (by rw [Bool.and_eq_true]; exact fun q => hp q.1)]
   rw [hE]
   simp [placeB] at hp
   by_cases a1 : r.b % 16 = 0
   case neg =>
     have g1 : (r.b % 16 != 0) = true := by simpa using a1
     clear hp hE
     replace a1 := Hid.mk a1
     go_enter Tryz.func37, Tryz.ntmps37
     go_wp2_with fail
     go_ret
     exact ⟨rfl, (Gr.refl w).alloc _⟩
   have g1 : (r.b % 16 != 0) = false := by simpa using a1
   by_cases a2 : r.n % 16 = 0
   case neg =>
     have g2 : (r.n % 16 != 0) = true := by simpa using a2
     clear hp hE
     replace a1 := Hid.mk a1
     replace a2 := Hid.mk a2
     go_enter Tryz.func37, Tryz.ntmps37
     go_wp2_with fail
     go_ret
     exact ⟨rfl, (Gr.refl w).alloc _⟩
   have g2 : (r.n % 16 != 0) = false := by simpa using a2
   by_cases a3 : r.n = 0
   case pos =>
     have g3 : (r.n == 0) = true := by simpa using a3
     clear hp hE
     replace a1 := Hid.mk a1
     replace a2 := Hid.mk a2
     replace a3 := Hid.mk a3
     go_enter Tryz.func37, Tryz.ntmps37
     go_wp2_with fail
     go_ret
     exact ⟨rfl, (Gr.refl w).alloc _⟩
   have g3 : (r.n == 0) = false := by simpa using a3
   by_cases a4 : r.b < 65536
   case neg =>
     have g4 : (65536 : Int) ≤ r.b := by omega
     clear hp hE
     replace a1 := Hid.mk a1
     replace a2 := Hid.mk a2
     replace a3 := Hid.mk a3
     replace a4 := Hid.mk a4
     go_enter Tryz.func37, Tryz.ntmps37
     go_wp2_with fail
     go_ret
     exact ⟨rfl, (Gr.refl w).alloc _⟩
   have g4 : ¬ (65536 : Int) ≤ r.b := by omega
   have m3 : IntKind.u64.wrap (65536 - r.b) = 65536 - r.b := by rw [IntKind.wrap_u64]; omega
   by_cases a5 : r.n ≤ 65536 - r.b
   case neg =>
     have g5 : 65536 - r.b < r.n := by omega
     clear hp hE
     replace a1 := Hid.mk a1
     replace a2 := Hid.mk a2
     replace a3 := Hid.mk a3
     replace a4 := Hid.mk a4
     replace a5 := Hid.mk a5
     go_enter Tryz.func37, Tryz.ntmps37
     go_wp2_with fail
     go_ret
     exact ⟨rfl, (Gr.refl w).alloc _⟩
   have g5 : ¬ 65536 - r.b < r.n := by omega
   have g6 : r.b < f := by
     rcases Int.lt_or_le r.b f with q | q
     · exact q
     · exact absurd (hp a1 a2 a3 q a4) (by omega)
   clear hp hE
   replace a1 := Hid.mk a1
   replace a2 := Hid.mk a2
   replace a3 := Hid.mk a3
   replace a4 := Hid.mk a4
   replace a5 := Hid.mk a5
   go_enter Tryz.func37, Tryz.ntmps37
   go_wp2_with fail
   go_ret
   exact ⟨rfl, (Gr.refl w).alloc _⟩
 have hpp := hp
 simp [placeB] at hpp
 have g1 : (r.b % 16 != 0) = false := by simp; omega
 have g2 : (r.n % 16 != 0) = false := by simp; omega
 have g3 : (r.n == 0) = false := by simp; omega
 have g4 : ¬ (65536 : Int) ≤ r.b := by omega
 have m3 : IntKind.u64.wrap (65536 - r.b) = 65536 - r.b := by rw [IntKind.wrap_u64]; omega
 have g5 : ¬ 65536 - r.b < r.n := by omega
 have g6 : ¬ r.b < f := by omega
 have hE : regE r f = if contentB r.n r.data r.slots.length then (if slotsR r.slots then 0 else 45) else 43 := by unfold regE; rw [hp, Bool.true_and]
 rw [hE]
 replace hpp := Hid.mk hpp
 clear hE hp
 by_cases hk : r.slots.length = 0
 · have gk : ((r.slots.length : Int) == 0) = true := by rw [hk]; rfl
   have e2 : IntKind.u64.wrap (r.data.length : Int) = r.data.length := by rw [IntKind.wrap_u64]; omega
   have hsl0 : slotsR r.slots = true := by
     cases hq : r.slots with
     | nil => rfl
     | cons _ _ => rw [hq] at hk; simp at hk
   have hcE : contentB r.n r.data r.slots.length = (decide ((r.data.length : Int) ≤ r.n) && !endsNought r.data) := by unfold contentB; rw [if_neg (by omega)]
   rw [hcE, hsl0]
   clear hcE hsl0
   replace hk := Hid.mk hk
   by_cases b1 : (r.data.length : Int) ≤ r.n
   case neg =>
     have b1' : r.n < (r.data.length : Int) := by omega
     have hz : (if (decide ((r.data.length : Int) ≤ r.n) && !endsNought r.data) = true then (if true = true then (0 : Int) else 45) else 43) = 43 := by simp [b1]
     rw [hz]
     clear hz
     replace b1 := Hid.mk b1
     go_enter Tryz.func37, Tryz.ntmps37
     go_wp2_with fail
     go_ret
     exact ⟨rfl, (Gr.refl w).alloc _⟩
   have b1' : ¬ r.n < (r.data.length : Int) := by omega
   by_cases b2 : 0 < r.data.length
   · have b2' : (0 : Int) < r.data.length := by omega
     rw [last_nought r.data b2]
     have i1 : IntKind.i64.wrap ((r.data.length : Int) - 1) = (r.data.length : Int) - 1 := by rw [IntKind.wrap_i64]; omega
     have i2 : ((r.data.length : Int) - 1).toNat = r.data.length - 1 := by omega
     have i3 : (0 : Int) ≤ (r.data.length : Int) - 1 := by omega
     have i4 : ((r.data.length : Int) - 1) < r.data.length := by omega
     have hby := str_byte r.data (r.data.length - 1) (by omega)
     have hbv : byteAt r.data (r.data.length - 1) = (r.data[r.data.length - 1].toNat : Int) := by
       have hq9 : r.data.length - 1 < r.data.length := by omega
       simp [byteAt, hq9]
     have hz8 : (r.data[r.data.length - 1] == 0) = (byteAt r.data (r.data.length - 1) == 0) := by
       rw [hbv, Bool.eq_iff_iff]
       simp only [beq_iff_eq]
       constructor
       · intro q; rw [q]; rfl
       · intro q
         apply UInt8.toNat_inj.1
         have : r.data[r.data.length - 1].toNat = 0 := by omega
         rw [this]; rfl
     rw [hz8]
     clear hz8 hbv
     generalize byteAt r.data (r.data.length - 1) = z at *
     replace b1 := Hid.mk b1
     cases hz : (z == 0) with
     | true =>
       have hzz : (if (decide ((r.data.length : Int) ≤ r.n) && !true) = true then (if true = true then (0 : Int) else 45) else 43) = 43 := by simp
       rw [hzz]
       clear hzz
       go_enter Tryz.func37, Tryz.ntmps37
       go_wp2_with fail
       go_ret
       exact ⟨rfl, (Gr.refl w).alloc _⟩
     | false =>
       have hzz : (if (decide ((r.data.length : Int) ≤ r.n) && !false) = true then (if true = true then (0 : Int) else 45) else 43) = 0 := by simp [b1.out]
       rw [hzz]
       clear hzz
       go_enter Tryz.func37, Tryz.ntmps37
       go_wp2_with fail
       go_ret
       exact ⟨rfl, (Gr.refl w).alloc _⟩
   · have b2' : ¬ (0 : Int) < r.data.length := by omega
     have hd0 : r.data = [] := by cases hq : r.data with | nil => rfl | cons _ _ => rw [hq] at b2; simp at b2
     have hzz : (if (decide ((r.data.length : Int) ≤ r.n) && !endsNought r.data) = true then (if true = true then (0 : Int) else 45) else 43) = 0 := by
       rw [hd0] at b1 ⊢
       have : endsNought [] = false := rfl
       simp [this]
       simpa using b1
     rw [hzz]
     clear hzz
     replace hd0 := Hid.mk hd0
     replace b1 := Hid.mk b1
     go_enter Tryz.func37, Tryz.ntmps37
     go_wp2_with fail
     go_ret
     exact ⟨rfl, (Gr.refl w).alloc _⟩
 · have gk : ((r.slots.length : Int) == 0) = false := beq_false_of_ne (by omega)
   have e1 : IntKind.u64.wrap (16 * (r.slots.length : Int)) = 16 * r.slots.length := by rw [IntKind.wrap_u64]; omega
   have e2 : IntKind.u64.wrap (r.slots.length : Int) = r.slots.length := by rw [IntKind.wrap_u64]; omega
   have hcE : contentB r.n r.data r.slots.length = (r.data.isEmpty && (r.n == 16 * (r.slots.length : Int))) := by unfold contentB; rw [if_pos (by omega)]
   rw [hcE]
   clear hcE
   replace hk := Hid.mk hk
   by_cases b1 : r.data = []
   case neg =>
     have b1' : ¬ (str r.data).toList = [] := by rw [str_list]; exact b1
     have hzz : (if (r.data.isEmpty && (r.n == 16 * (r.slots.length : Int))) = true then (if slotsR r.slots = true then (0 : Int) else 45) else 43) = 43 := by simp [b1]
     rw [hzz]
     clear hzz
     replace b1 := Hid.mk b1
     go_enter Tryz.func37, Tryz.ntmps37
     go_wp2_with fail
     go_ret
     exact ⟨rfl, (Gr.refl w).alloc _⟩
   have b1' : (str r.data).toList = [] := by rw [str_list]; exact b1
   by_cases b2 : r.n = 16 * (r.slots.length : Int)
   case neg =>
     have b2' : (r.n != 16 * (r.slots.length : Int)) = true := by simpa using b2
     have hzz : (if (r.data.isEmpty && (r.n == 16 * (r.slots.length : Int))) = true then (if slotsR r.slots = true then (0 : Int) else 45) else 43) = 43 := by simp [b2]
     rw [hzz]
     clear hzz
     replace b1 := Hid.mk b1
     replace b2 := Hid.mk b2
     go_enter Tryz.func37, Tryz.ntmps37
     go_wp2_with fail
     go_ret
     exact ⟨rfl, (Gr.refl w).alloc _⟩
   have b2' : (r.n != 16 * (r.slots.length : Int)) = false := by simpa using b2
   have hzz : (if (r.data.isEmpty && (r.n == 16 * (r.slots.length : Int))) = true then (if slotsR r.slots = true then (0 : Int) else 45) else 43) = sltE (slotsR r.slots) := by rw [b1, b2]; simp [sltE]
   rw [hzz]
   clear hzz
   replace b1 := Hid.mk b1
   replace b2 := Hid.mk b2
   have X := Hid.mk (Box.new w #[.int .u64 r.b, .int .u64 r.n, .string (str r.data), .slice sa r.slots.length sc] 45)
   have hGR := Hid.mk ((Gr.refl w).alloc (.cells #[.int .u64 r.b, .int .u64 r.n, .string (str r.data), .slice sa r.slots.length sc] 45))
   go_enter Tryz.func37, Tryz.ntmps37
   go_wp2_with fail
   generalize w.alloc (.cells #[.int .u64 r.b, .int .u64 r.n, .string (str r.data), .slice sa r.slots.length sc] 45) = R0 at *
   replace hs := Hid.mk ((hs.out.below hGR.out.below).mono (gr_size hGR.out))
   clear g1 g2 g3 g4 g5 g6 gk b1' b2' e1 e2 m1 m2 m3
   go_loopw [6] (fun i wr => ∃ k : Nat, i = .int .i64 k ∧ k ≤ r.slots.length ∧ Hid (slotsR (r.slots.drop k) = slotsR r.slots ∧ Gr R0 wr)) (fun i _ => r.slots.length - (intOf i).toNat)
   case atStart => exact ⟨0, rfl, by omega, ⟨rfl, Gr.refl _⟩⟩
   case round =>
     obtain ⟨k, rfl, hkk, ⟨hsf, hG⟩⟩ := hrel
     have X1 := X.out.gr hG
     have ⟨z0, p0, f0⟩ := X1.at
     replace X1 := Hid.mk X1
     by_cases hkl : k < r.slots.length
     · have kl : (k : Int) < r.slots.length := by omega
       obtain ⟨b2, off2, rfl, hb3, hb4, hcc⟩ := (hs.out.below hG.below) k hkl
       obtain ⟨d0, d1, d2, d3, d4, d5, d6, d7⟩ := slot_cells hcc
       clear hcc
       rw [slotsR_at hkl] at hsf
       have htr := hsr.out r.slots[k] (List.getElem_mem hkl)
       have hT := fun W => refRightType_any r.slots[k].t W htr.1
       have hpr : r.slots[k].right = (r.slots[k].t.cap && r.slots[k].t.right && inLH r.slots[k].t.lo r.slots[k].t.hi r.slots[k].c) := rfl
       rw [hpr] at hsf
       generalize r.slots[k] = sl at *
       obtain ⟨t, cu⟩ := sl
       simp only at *
       clear htr hpr
       have TB := Box.new wr #[.bool t.cap, .int .u64 t.b, .int .u64 t.e, .int .u64 t.lo, .int .u64 t.hi, .int .u8 t.p, .int .i64 t.s] 84
       have hGT : Gr wr (wr.alloc (.cells #[.bool t.cap, .int .u64 t.b, .int .u64 t.e, .int .u64 t.lo, .int .u64 t.hi, .int .u8 t.p, .int .i64 t.s] 84)) := (Gr.refl wr).alloc _
       replace TB := Hid.mk TB
       replace hGT := Hid.mk hGT
       replace hG := Hid.mk hG
       cases hq0 : t.cap with
       | false =>
         simp only [hq0] at hsf hT d0 TB hGT
         simp only [Bool.false_and] at hsf
         replace hsf := Hid.mk hsf
         replace hq0 := Hid.mk hq0
         generalize t.right = tr at hT
         go_wp2_with fail
         clear z0 p0 f0
         refine (hT _).mono ?_
         rintro x w2 ⟨rfl, hG2⟩
         replace TB := TB.out.gr hG2
         have X2 := (X1.out.gr hGT.out).gr hG2
         have d7' := (hG2.cell (Nat.lt_of_lt_of_le hb4 (gr_size hGT.out)) _).trans ((hGT.out.cell hb4 _).trans d7)
         replace hG := Hid.mk ((hG.out.trans hGT.out).trans hG2)
         have hb5 : b2 < w2.heap.size := Nat.lt_of_lt_of_le hb4 (Nat.le_trans (gr_size hGT.out) (gr_size hG2))
         have ⟨z0, p0, f0⟩ := TB.at
         have ⟨z1, p1, f1⟩ := X2.at
         replace TB := Hid.mk TB
         replace X2 := Hid.mk X2
         clear hG2 hT hGT d0 d1 d2 d3 d4 d5 d6 d7 hb4 X1
         go_wp2_with fail
         go_quiet (fail)
         go_wp2_with fail
         go_ret
         exact ⟨retI (by rw [← hsf.out]; rfl), hGR.out.trans (hG.out.drewN _)⟩
       | true =>
         simp only [hq0] at hsf hT d0 TB hGT
         cases hq1 : t.right with
         | false =>
           simp only [hq1] at hsf hT
           simp only [Bool.and_false, Bool.false_and] at hsf
           replace hsf := Hid.mk hsf
           replace hq0 := Hid.mk hq0
           replace hq1 := Hid.mk hq1
           go_wp2_with fail
           clear z0 p0 f0
           refine (hT _).mono ?_
           rintro x w2 ⟨rfl, hG2⟩
           replace TB := TB.out.gr hG2
           have X2 := (X1.out.gr hGT.out).gr hG2
           have d7' := (hG2.cell (Nat.lt_of_lt_of_le hb4 (gr_size hGT.out)) _).trans ((hGT.out.cell hb4 _).trans d7)
           replace hG := Hid.mk ((hG.out.trans hGT.out).trans hG2)
           have hb5 : b2 < w2.heap.size := Nat.lt_of_lt_of_le hb4 (Nat.le_trans (gr_size hGT.out) (gr_size hG2))
           have ⟨z0, p0, f0⟩ := TB.at
           have ⟨z1, p1, f1⟩ := X2.at
           replace TB := Hid.mk TB
           replace X2 := Hid.mk X2
           clear hG2 hT hGT d0 d1 d2 d3 d4 d5 d6 d7 hb4 X1
           go_wp2_with fail
           go_quiet (fail)
           go_wp2_with fail
           go_ret
           exact ⟨retI (by rw [← hsf.out]; rfl), hGR.out.trans (hG.out.drewN _)⟩
         | true =>
           simp only [hq1] at hsf hT
           simp only [Bool.true_and] at hsf
           replace hq0 := Hid.mk hq0
           replace hq1 := Hid.mk hq1
           by_cases c1 : cu < t.lo
           · have hz : inLH t.lo t.hi cu = false := by unfold inLH; simp; omega
             rw [hz, Bool.false_and] at hsf
             replace hsf := Hid.mk hsf
             clear hz
             go_wp2_with fail
             clear z0 p0 f0
             refine (hT _).mono ?_
             rintro x w2 ⟨rfl, hG2⟩
             replace TB := TB.out.gr hG2
             have X2 := (X1.out.gr hGT.out).gr hG2
             have d7' := (hG2.cell (Nat.lt_of_lt_of_le hb4 (gr_size hGT.out)) _).trans ((hGT.out.cell hb4 _).trans d7)
             replace hG := Hid.mk ((hG.out.trans hGT.out).trans hG2)
             have hb5 : b2 < w2.heap.size := Nat.lt_of_lt_of_le hb4 (Nat.le_trans (gr_size hGT.out) (gr_size hG2))
             have ⟨z0, p0, f0⟩ := TB.at
             have ⟨z1, p1, f1⟩ := X2.at
             replace TB := Hid.mk TB
             replace X2 := Hid.mk X2
             clear hG2 hT hGT d0 d1 d2 d3 d4 d5 d6 d7 hb4 X1
             go_wp2_with fail
             go_quiet (fail)
             go_wp2_with fail
             go_ret
             exact ⟨retI (by rw [← hsf.out]; rfl), hGR.out.trans (hG.out.drewN _)⟩
           · by_cases c2 : t.hi < cu
             · have hz : inLH t.lo t.hi cu = false := by unfold inLH; simp; omega
               rw [hz, Bool.false_and] at hsf
               replace hsf := Hid.mk hsf
               clear hz
               go_wp2_with fail
               clear z0 p0 f0
               refine (hT _).mono ?_
               rintro x w2 ⟨rfl, hG2⟩
               replace TB := TB.out.gr hG2
               have X2 := (X1.out.gr hGT.out).gr hG2
               have d7' := (hG2.cell (Nat.lt_of_lt_of_le hb4 (gr_size hGT.out)) _).trans ((hGT.out.cell hb4 _).trans d7)
               replace hG := Hid.mk ((hG.out.trans hGT.out).trans hG2)
               have hb5 : b2 < w2.heap.size := Nat.lt_of_lt_of_le hb4 (Nat.le_trans (gr_size hGT.out) (gr_size hG2))
               have ⟨z0, p0, f0⟩ := TB.at
               have ⟨z1, p1, f1⟩ := X2.at
               replace TB := Hid.mk TB
               replace X2 := Hid.mk X2
               clear hG2 hT hGT d0 d1 d2 d3 d4 d5 d6 d7 hb4 X1
               go_wp2_with fail
               go_quiet (fail)
               go_wp2_with fail
               go_ret
               exact ⟨retI (by rw [← hsf.out]; rfl), hGR.out.trans (hG.out.drewN _)⟩
             · have hz : inLH t.lo t.hi cu = true := by unfold inLH; simp; omega
               rw [hz, Bool.true_and] at hsf
               replace hsf := Hid.mk hsf
               clear hz
               go_wp2_with fail
               clear z0 p0 f0
               refine (hT _).mono ?_
               rintro x w2 ⟨rfl, hG2⟩
               replace TB := TB.out.gr hG2
               have X2 := (X1.out.gr hGT.out).gr hG2
               have d7' := (hG2.cell (Nat.lt_of_lt_of_le hb4 (gr_size hGT.out)) _).trans ((hGT.out.cell hb4 _).trans d7)
               replace hG := Hid.mk ((hG.out.trans hGT.out).trans hG2)
               have hb5 : b2 < w2.heap.size := Nat.lt_of_lt_of_le hb4 (Nat.le_trans (gr_size hGT.out) (gr_size hG2))
               have ⟨z0, p0, f0⟩ := TB.at
               have ⟨z1, p1, f1⟩ := X2.at
               replace TB := Hid.mk TB
               replace X2 := Hid.mk X2
               clear hG2 hT hGT d0 d1 d2 d3 d4 d5 d6 d7 hb4 X1
               go_wp2_with fail
               go_quiet (fail)
               go_wp2_with fail
               go_roundw
               case rel => exact ⟨k + 1, by simp, by omega, ⟨hsf.out, hG.out.drewN _⟩⟩
               case measure => simp [intOf]; omega
     · have kl : ¬ (k : Int) < r.slots.length := by omega
       rw [drop_end hkl] at hsf
       have hq : sltE (slotsR r.slots) = 0 := by rw [← hsf]; rfl
       replace hG := Hid.mk hG
       replace hq := Hid.mk hq
       clear hsf
       go_wp2_with fail
       go_ret
       exact ⟨retI hq.out.symm, hGR.out.trans hG.out⟩
end Go.Proofs.YtdlcphinjnnhcaaGreatDoor
