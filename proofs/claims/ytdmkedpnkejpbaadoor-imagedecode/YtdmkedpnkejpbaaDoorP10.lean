import Derived.Test.YtdmkedpnkejpbaaDoorP08
import Derived.Test.YtdmkedpnkejpbaaDoorP06
import Derived.Deep.RegionHeld3
import Derived.StillTactics
import Derived.Deep.QuietTactic
import Derived.BigQuiet
import Derived.BigRegion
import Derived.Laws.BitsAllLaws
/-
  Stage 4, image: what a region holds.
-/
namespace Go.Proofs.YtdmkedpnkejpbaaDoor
open Go.RowKit
theorem extract_any (S : List UInt8) (i j : Nat) : (str S).extract i j = str ((S.take j).drop i) := by
  apply ByteArray.ext
  simp [str, ByteArray.data_extract]
  rw [List.drop_take]
theorem ends_last (d : List UInt8) (h : 0 < d.length) : (((str d).extract (d.length - 1) d.length).toList == (str [0]).toList) = endsNought d := by
  rw [extract_any, str_list, str_list, List.take_length]
  have e : d.drop (d.length - 1) = [d[d.length - 1]] := by
    rw [List.drop_eq_getElem_cons (by omega)]
    have : d.drop (d.length - 1 + 1) = [] := by rw [List.drop_eq_nil_iff]; omega
    rw [this]
  rw [e]
  unfold endsNought
  rw [List.getLast?_eq_getElem?, List.getElem?_eq_getElem (by omega)]
  simp
set_option maxHeartbeats 400000 in
theorem liteSuffix_any (d : List UInt8) (w : World) (hd : d.length ≤ 9223372036854775807) :
    Calls Tryd.prog 91 #[.string (str d), .string (str [0])] w fun x w' => x = .returned (.bool (endsNought d)) ∧ w = w' := by
  have ss := str_size d
  have s1 : (str [0]).size = 1 := rfl
  by_cases h : 0 < d.length
  · have e := ends_last d h
    have h1 : (1 : Int) ≤ d.length := by omega
    generalize endsNought d = q at e ⊢
    go_enter Tryd.func91, Tryd.ntmps91
    go_wp2
    go_ret
    exact ⟨ret_bool rfl, rfl⟩
  · have e : d = [] := List.eq_nil_of_length_eq_zero (by omega)
    subst e
    go_enter Tryd.func91, Tryd.ntmps91
    go_wp2
    go_ret
    exact ⟨rfl, rfl⟩
set_option maxHeartbeats 400000 in
theorem HasSuffix_any (d : List UInt8) (w : World) (hd : d.length ≤ 9223372036854775807) :
    Calls Tryd.prog 78 #[.string (str d), .string (str [0])] w fun x w' => x = .returned (.bool (endsNought d)) ∧ w = w' := by
  have hl := fun w => liteSuffix_any d w hd
  generalize endsNought d = q at hl ⊢
  go_enter Tryd.func78, Tryd.ntmps78
  go_wp2_with (go_at_call 91; refine (hl _).mono ?_; rintro x w' ⟨rfl, rfl⟩)
  go_ret
  exact ⟨rfl, rfl⟩
set_option maxHeartbeats 1000000 in
theorem contentRight_any (b n : Int) (d : List UInt8) (a : Option Addr) (k c : Nat) (w : World) (hd : d.length ≤ 9223372036854775807) (hk : k ≤ 140737488355328) :
    Calls Tryd.prog 62 #[.agg #[.int .u64 b, .int .u64 n, .string (str d), .slice a k c]] w fun x w' => x = .returned (.bool (contentB n d k)) ∧ Gr w w' := by
  have hl := fun w => HasSuffix_any d w hd
  have ss := str_size d
  have sl := str_list d
  have z0 : (⟨#[0]⟩ : ByteArray) = str [0] := rfl
  by_cases h : 0 < k
  · have e1 : IntKind.u64.wrap (16 * (k : Int)) = 16 * k := by rw [IntKind.wrap_u64]; omega
    have e2 : IntKind.u64.wrap (k : Int) = k := by rw [IntKind.wrap_u64]; omega
    rw [show contentB n d k = (d.isEmpty && (n == 16 * (k : Int))) by simp [contentB, h]]
    have h' : (0 : Int) < k := by omega
    go_enter Tryd.func62, Tryd.ntmps62
    go_wp2
    all_goals
      go_ret
      refine ⟨ret_bool (by simp_all <;> (intros; omega)), ?_⟩
      (with_reducible repeat (first | exact Gr.refl _ | refine Gr.alloc ?_ _ | refine Gr.grow ?_ _ | refine Gr.drew ?_ | refine Gr.setCell ?_ _ _ _ (gr_size ?_)))
  · have e2 : IntKind.u64.wrap (d.length : Int) = d.length := by rw [IntKind.wrap_u64]; omega
    rw [show contentB n d k = (decide ((d.length : Int) ≤ n) && !endsNought d) by simp [contentB, h]]
    generalize endsNought d = q at hl ⊢
    obtain rfl : k = 0 := by omega
    go_enter Tryd.func62, Tryd.ntmps62
    go_wp2_with (go_at_call 78; refine (hl _).mono ?_; rintro x w' ⟨rfl, rfl⟩)
    all_goals
      go_ret
      refine ⟨ret_bool (by simp_all <;> (intros; omega)), ?_⟩
      (with_reducible repeat (first | exact Gr.refl _ | refine Gr.alloc ?_ _ | refine Gr.grow ?_ _ | refine Gr.drew ?_ | refine Gr.setCell ?_ _ _ _ (gr_size ?_)))
end Go.Proofs.YtdmkedpnkejpbaaDoor


/-
  Stage 3, instr: readInst.
-/
namespace Go.Proofs.YtdmkedpnkejpbaaDoor
open Go.RowKit

def byteAt (B : List UInt8) (i : Nat) : Int := (B.getD i 0).toNat
theorem byteAt_range (B : List UInt8) (i : Nat) : 0 ≤ byteAt B i ∧ byteAt B i < 256 := by
  unfold byteAt
  have := (B.getD i 0).toNat_lt
  omega
theorem str_byte (B : List UInt8) (i : Nat) (hi : i < B.length) : ∀ h, ((((str B)[i]'h).toNat : Nat) : Int) = byteAt B i := fun h => by
  rw [str_at B i h hi]
  simp [byteAt, hi]
theorem Gr.drewN {w W : World} (h : Gr w W) (n : Nat) : Gr w (W.drewN n) := by
  induction n with
  | zero => exact h
  | succ n ih => exact ih.drew
theorem or_add (a b k : Nat) (ha : a < 2 ^ k) : a ||| (b * 2 ^ k) = a + b * 2 ^ k := by
  rw [Nat.mul_comm b, Nat.or_comm, ← Nat.two_pow_add_eq_or_of_lt ha, Nat.add_comm]
theorem or_bytes (y4 y5 y6 y7 : Int) (a4 : 0 ≤ y4) (b4 : y4 < 256) (a5 : 0 ≤ y5) (b5 : y5 < 256) (a6 : 0 ≤ y6) (b6 : y6 < 256) (a7 : 0 ≤ y7) (b7 : y7 < 256) :
    bits .or .u32 (bits .or .u32 (bits .or .u32 y4 (y5 * 256)) (y6 * 65536)) (y7 * 16777216) = y4 + y5 * 256 + y6 * 65536 + y7 * 16777216 := by
  have e1 : bits .or .u32 y4 (y5 * 256) = y4 + y5 * 256 := by
    rw [u32_or _ _ a4 (by omega) (by omega) (by omega)]
    have := or_add y4.toNat y5.toNat 8 (by omega)
    have e : (y5 * 256).toNat = y5.toNat * 2 ^ 8 := by omega
    rw [e, this]; omega
  rw [e1]
  have e2 : bits .or .u32 (y4 + y5 * 256) (y6 * 65536) = y4 + y5 * 256 + y6 * 65536 := by
    rw [u32_or _ _ (by omega) (by omega) (by omega) (by omega)]
    have := or_add (y4 + y5 * 256).toNat y6.toNat 16 (by omega)
    have e : (y6 * 65536).toNat = y6.toNat * 2 ^ 16 := by omega
    rw [e, this]; omega
  rw [e2, u32_or _ _ (by omega) (by omega) (by omega) (by omega)]
  have := or_add (y4 + y5 * 256 + y6 * 65536).toNat y7.toNat 24 (by omega)
  have e : (y7 * 16777216).toNat = y7.toNat * 2 ^ 24 := by omega
  rw [e, this]; omega
def s32 (n : Int) : Int := if n < 2147483648 then n else n - 4294967296
theorem wraps (n : Int) (h0 : 0 ≤ n) (h1 : n < 4294967296) : wrap64 (wrap32 n) = s32 n := by
  unfold s32 wrap64 wrap32
  split <;> omega
/-- The instruction that eight bytes say. -/
def insOf (B : List UInt8) : Ins := ⟨byteAt B 0, byteAt B 1, byteAt B 2, byteAt B 3, s32 (byteAt B 4 + byteAt B 5 * 256 + byteAt B 6 * 65536 + byteAt B 7 * 16777216)⟩
def zIns : Ins := ⟨0, 0, 0, 0, 0⟩
/-- What readInst answers. -/
def readE (B : List UInt8) : Int := if B.length < 8 then 30 else (insOf B).right
def pickI (e : Int) (k : Ins) : Ins := if e = 0 then k else zIns
def readI (B : List UInt8) : Ins := pickI (readE B) (insOf B)
set_option maxHeartbeats 1000000 in
theorem readInst_any (B : List UInt8) (w : World) (ht : TabIn w) :
    Calls Tryd.prog 90 #[.string (str B)] w fun x w' => x = .returned (.tuple #[(readI B).agg, .int .i64 (readE B)]) ∧ Gr w w' := by
  have ss := str_size B
  by_cases h8 : B.length < 8
  · have g : decide ((B.length : Int) < 8) = true := by simp; omega
    have e1 : readE B = 30 := by unfold readE; rw [if_pos h8]
    have e2 : readI B = zIns := by unfold readI; rw [e1]; rfl
    rw [e1, e2]
    clear e1 e2
    unfold Ins.agg zIns
    go_enter Tryd.func90, Tryd.ntmps90
    go_wp2_with fail
    simp [bodyPost, results, Tryd.results90, go_sem]
    exact (Gr.refl w).alloc _
  · have g : decide ((B.length : Int) < 8) = false := by simp; omega
    have hl : 8 ≤ B.length := by omega
    have e1 : readE B = (insOf B).right := by unfold readE; rw [if_neg h8]
    unfold readI
    rw [e1]
    clear e1
    have hR := Right_any (insOf B).op (insOf B).a (insOf B).b (insOf B).c (insOf B).m
    have hR2 : (insOf B).right = rightF (insOf B).op (insOf B).a (insOf B).b (insOf B).c (insOf B).m := rfl
    rw [← hR2] at hR
    clear hR2
    generalize (insOf B).right = kr at *
    unfold insOf at *
    simp only at hR
    have i0 := str_byte B 0 (by omega)
    have i1 := str_byte B 1 (by omega)
    have i2 := str_byte B 2 (by omega)
    have i3 := str_byte B 3 (by omega)
    have i4 := str_byte B 4 (by omega)
    have i5 := str_byte B 5 (by omega)
    have i6 := str_byte B 6 (by omega)
    have i7 := str_byte B 7 (by omega)
    obtain ⟨a0, b0⟩ := byteAt_range B 0
    obtain ⟨a1, b1⟩ := byteAt_range B 1
    obtain ⟨a2, b2⟩ := byteAt_range B 2
    obtain ⟨a3, b3⟩ := byteAt_range B 3
    obtain ⟨a4, b4⟩ := byteAt_range B 4
    obtain ⟨a5, b5⟩ := byteAt_range B 5
    obtain ⟨a6, b6⟩ := byteAt_range B 6
    obtain ⟨a7, b7⟩ := byteAt_range B 7
    generalize byteAt B 0 = y0 at *
    generalize byteAt B 1 = y1 at *
    generalize byteAt B 2 = y2 at *
    generalize byteAt B 3 = y3 at *
    generalize byteAt B 4 = y4 at *
    generalize byteAt B 5 = y5 at *
    generalize byteAt B 6 = y6 at *
    generalize byteAt B 7 = y7 at *
    go_enter Tryd.func90, Tryd.ntmps90
    have z0 : (0 : Int) < B.length := by omega
    have z1 : (1 : Int) < B.length := by omega
    have z2 : (2 : Int) < B.length := by omega
    have z3 : (3 : Int) < B.length := by omega
    have z4 : (4 : Int) < B.length := by omega
    have z5 : (5 : Int) < B.length := by omega
    have z6 : (6 : Int) < B.length := by omega
    have z7 : (7 : Int) < B.length := by omega
    go_upto_region 3 with fail
    go_quiet (fail)
    go_upto_region 4 with fail
    rw [or_bytes y4 y5 y6 y7 a4 b4 a5 b5 a6 b6 a7 b7]
    have n0 : 0 ≤ y4 + y5 * 256 + y6 * 65536 + y7 * 16777216 := by omega
    have n1 : y4 + y5 * 256 + y6 * 65536 + y7 * 16777216 < 4294967296 := by omega
    refine wp_world (fun V => Gr w V ∧ At V w.heap.size #[.int .u8 0, .int .i64 0, .int .i64 0, .int .i64 0, .int .i64 0]) ⟨((Gr.refl w).alloc _).drewN _, (At.new w _ _).gr ((Gr.refl _).drewN _)⟩ ?_
    rintro V ⟨hG, A1⟩
    clear i4 i5 i6 i7 a4 a5 a6 a7 b4 b5 b6 b7 z4 z5 z6 z7
    generalize hn : y4 + y5 * 256 + y6 * 65536 + y7 * 16777216 = n at *
    replace hn := Hid.mk hn
    have hV := A1.1
    have q0 := A1.2.1
    go_region
    rw [wraps n n0 n1]
    generalize hm : s32 n = m at *
    replace hm := Hid.mk hm
    have T1 := ht.gr ((hG.alloc (.cells #[.int .u8 y0, .int .i64 y1, .int .i64 y2, .int .i64 y3, .int .i64 m] 74)).drew)
    have A2 := (A1.alloc (.cells #[.int .u8 y0, .int .i64 y1, .int .i64 y2, .int .i64 y3, .int .i64 m] 74)).drew
    have A3 := (At.new V #[.int .u8 y0, .int .i64 y1, .int .i64 y2, .int .i64 y3, .int .i64 m] 74).drew
    have G2 := (hG.alloc (.cells #[.int .u8 y0, .int .i64 y1, .int .i64 y2, .int .i64 y3, .int .i64 m] 74)).drew
    generalize ((V.alloc (.cells #[.int .u8 y0, .int .i64 y1, .int .i64 y2, .int .i64 y3, .int .i64 m] 74)).drew) = X at *
    have hXV := A3.1
    have q2 := A3.2.1
    clear q0 A1
    go_wp2_with fail
    refine (hR _ T1 a0 b0).mono ?_
    rintro x w2 ⟨rfl, hG2⟩
    replace A2 := A2.gr hG2
    replace A3 := A3.gr hG2
    replace G2 := G2.trans hG2
    have q0 := A2.2.1
    have f0 := A2.2.2
    have h0 := A2.1
    have q1 := A3.2.1
    clear q2 hG2
    have ne1 : w.heap.size ≠ V.heap.size := by omega
    by_cases hk : kr = 0
    · have k0 : (kr != 0) = false := by simpa using hk
      have pk : ∀ k, pickI kr k = k := fun k => by rw [pickI, if_pos hk]
      replace hk := Hid.mk hk
      go_wp2_with fail
      simp [bodyPost, results, Tryd.results90, go_sem, Ins.agg, *]
      refine ⟨⟨by rw [hn.out, hm.out], hk.out.symm⟩, ?_⟩
      repeat (refine Gr.setCell ?_ _ _ _ (by omega))
      exact G2
    · have k0 : (kr != 0) = true := by simpa using hk
      have pk : ∀ k, pickI kr k = zIns := fun k => by rw [pickI, if_neg hk]
      clear hk
      go_wp2_with fail
      simp [bodyPost, results, Tryd.results90, go_sem, Ins.agg, zIns, *]
      repeat (refine Gr.setCell ?_ _ _ _ (by omega))
      exact G2
end Go.Proofs.YtdmkedpnkejpbaaDoor
