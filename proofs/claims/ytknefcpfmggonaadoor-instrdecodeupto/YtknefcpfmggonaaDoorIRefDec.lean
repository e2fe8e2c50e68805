/-
  Stage 3, instr: the document's Decode.
-/
import Derived.Test.YtknefcpfmggonaaDoorIDocR
import Derived.Test.YtknefcpfmggonaaDoorIDec
namespace Go.Proofs.YtknefcpfmggonaaDoor
open Go.RowKit

theorem byteAt_drop (S : List UInt8) (j i : Nat) : byteAt (S.drop j) i = byteAt S (j + i) := by
  unfold byteAt
  simp [List.getElem?_drop]
set_option maxRecDepth 100000 in
set_option maxHeartbeats 4000000 in
theorem refDecode_any (S : List UInt8) (w : World) (hS : S.length ≤ 8 * maxI) :
    Calls Tryd.prog 5 #[.string (str S)] w fun x w' => ∃ v, x = .returned (.tuple #[v, .int .i64 (decA S).2.1, .int .i64 (decA S).2.2]) ∧ LOwn w' w.heap.size v (decA S).1 ∧ Below w.heap.size w w' := by
  have ss := str_size S
  have hS1 : S.length ≤ 28147497671064 := by unfold maxI at hS; omega
  go_enter Tryd.func5, Tryd.ntmps5
  go_wp2_with fail
  go_loopw [5, 6] (fun v i wr => ∃ (j n : Nat) (L : List Ins), i = .int .i64 j ∧ j ≤ S.length ∧ Hid (LOwn wr w.heap.size v L ∧ 8 * L.length = j ∧ decF n (S.drop j) j L = decA S ∧ S.length < j + n ∧ Below w.heap.size w wr)) (fun _ i _ => S.length - (intOf i).toNat)
  case atStart => exact ⟨0, S.length + 1, [], rfl, by omega, ⟨LOwn.nil _ _, rfl, rfl, by omega, Below.refl _ _⟩⟩
  case round =>
    obtain ⟨j, n, L, rfl, hj, ⟨hL, hLj, hf, hn, hW⟩⟩ := hrel
    have hws := hW.size
    by_cases hlt : j < S.length
    · have jl : (j : Int) < S.length := by omega
      obtain ⟨n, rfl⟩ : ∃ m, n = m + 1 := ⟨n - 1, by omega⟩
      have hne : S.drop j ≠ [] := by rw [Ne, List.drop_eq_nil_iff]; omega
      rw [decF, if_neg hne] at hf
      clear hne
      have hdd : (S.drop j).drop 8 = S.drop (j + 8) := by rw [List.drop_drop]
      have hdl : (S.drop j).length = S.length - j := by simp
      rw [hdd] at hf
      clear hdd
      by_cases h8 : S.length - j < 8
      · have g8 : decide ((S.length : Int) - j < 8) = true := by simp; omega
        have hE : readE (S.drop j) = 30 := by unfold readE; rw [if_pos (by omega)]
        rw [hE, if_neg (by decide)] at hf
        clear hE hdl
        replace hL := Hid.mk hL
        replace hW := Hid.mk hW
        replace hf := Hid.mk hf
        replace hLj := Hid.mk hLj
        replace hn := Hid.mk hn
        have ew : IntKind.i64.wrap ((S.length : Int) - j) = (S.length : Int) - j := by rw [IntKind.wrap_i64]; omega
        go_wp2_with fail
        go_ret3
        rw [← hf.out]
        exact ⟨_, rfl, LOwn.nil _ _, hW.out⟩
      · have g8 : decide ((S.length : Int) - j < 8) = false := by simp; omega
        have hE : readE (S.drop j) = (insOf (S.drop j)).right := by unfold readE; rw [if_neg (by omega)]
        rw [hE] at hf
        clear hE hdl
        have hop : 0 ≤ (insOf (S.drop j)).op ∧ (insOf (S.drop j)).op < 256 := byteAt_range _ 0
        have hR := fun w => refRight_any (insOf (S.drop j)).op (insOf (S.drop j)).a (insOf (S.drop j)).b (insOf (S.drop j)).c (insOf (S.drop j)).m w hop.1 hop.2
        rw [right_doc _ _ _ _ _ hop.1 hop.2] at hR
        have hR2 : (insOf (S.drop j)).right = rightF (insOf (S.drop j)).op (insOf (S.drop j)).a (insOf (S.drop j)).b (insOf (S.drop j)).c (insOf (S.drop j)).m := rfl
        rw [← hR2] at hR
        clear hR2 hop
        obtain ⟨k, hk⟩ : ∃ k, k = insOf (S.drop j) := ⟨_, rfl⟩
        rw [← hk] at hR hf
        have hk' := hk
        unfold insOf at hk'
        simp only [byteAt_drop, Nat.add_zero] at hk'
        have ew : IntKind.i64.wrap ((S.length : Int) - j) = (S.length : Int) - j := by rw [IntKind.wrap_i64]; omega
        have i0 := str_byte S j (by omega)
        have i1 := str_byte S (j + 1) (by omega)
        have i2 := str_byte S (j + 2) (by omega)
        have i3 := str_byte S (j + 3) (by omega)
        have i4 := str_byte S (j + 4) (by omega)
        have i5 := str_byte S (j + 5) (by omega)
        have i6 := str_byte S (j + 6) (by omega)
        have i7 := str_byte S (j + 7) (by omega)
        obtain ⟨a0, b0⟩ := byteAt_range S j
        obtain ⟨a1, b1⟩ := byteAt_range S (j + 1)
        obtain ⟨a2, b2⟩ := byteAt_range S (j + 2)
        obtain ⟨a3, b3⟩ := byteAt_range S (j + 3)
        obtain ⟨a4, b4⟩ := byteAt_range S (j + 4)
        obtain ⟨a5, b5⟩ := byteAt_range S (j + 5)
        obtain ⟨a6, b6⟩ := byteAt_range S (j + 6)
        obtain ⟨a7, b7⟩ := byteAt_range S (j + 7)
        generalize byteAt S j = y0 at *
        generalize byteAt S (j + 1) = y1 at *
        generalize byteAt S (j + 2) = y2 at *
        generalize byteAt S (j + 3) = y3 at *
        generalize byteAt S (j + 4) = y4 at *
        generalize byteAt S (j + 5) = y5 at *
        generalize byteAt S (j + 6) = y6 at *
        generalize byteAt S (j + 7) = y7 at *
        have z1 : (j : Int) + 1 < S.length := by omega
        have z2 : (j : Int) + 2 < S.length := by omega
        have z3 : (j : Int) + 3 < S.length := by omega
        have z4 : (j : Int) + 4 < S.length := by omega
        have z5 : (j : Int) + 5 < S.length := by omega
        have z6 : (j : Int) + 6 < S.length := by omega
        have z7 : (j : Int) + 7 < S.length := by omega
        have w1 : IntKind.i64.wrap ((j : Int) + 1) = (j : Int) + 1 := by rw [IntKind.wrap_i64]; omega
        have p1 : (0 : Int) ≤ (j : Int) + 1 := by omega
        have x1 : ∀ h, ((((str S)[((j : Int) + 1).toNat]'h).toNat : Nat) : Int) = y1 := fun h => by
          have e : ((j : Int) + 1).toNat = j + 1 := by omega
          simp only [e]
          exact i1 _
        have w2 : IntKind.i64.wrap ((j : Int) + 2) = (j : Int) + 2 := by rw [IntKind.wrap_i64]; omega
        have p2 : (0 : Int) ≤ (j : Int) + 2 := by omega
        have x2 : ∀ h, ((((str S)[((j : Int) + 2).toNat]'h).toNat : Nat) : Int) = y2 := fun h => by
          have e : ((j : Int) + 2).toNat = j + 2 := by omega
          simp only [e]
          exact i2 _
        have w3 : IntKind.i64.wrap ((j : Int) + 3) = (j : Int) + 3 := by rw [IntKind.wrap_i64]; omega
        have p3 : (0 : Int) ≤ (j : Int) + 3 := by omega
        have x3 : ∀ h, ((((str S)[((j : Int) + 3).toNat]'h).toNat : Nat) : Int) = y3 := fun h => by
          have e : ((j : Int) + 3).toNat = j + 3 := by omega
          simp only [e]
          exact i3 _
        have w4 : IntKind.i64.wrap ((j : Int) + 4) = (j : Int) + 4 := by rw [IntKind.wrap_i64]; omega
        have p4 : (0 : Int) ≤ (j : Int) + 4 := by omega
        have x4 : ∀ h, ((((str S)[((j : Int) + 4).toNat]'h).toNat : Nat) : Int) = y4 := fun h => by
          have e : ((j : Int) + 4).toNat = j + 4 := by omega
          simp only [e]
          exact i4 _
        have w5 : IntKind.i64.wrap ((j : Int) + 5) = (j : Int) + 5 := by rw [IntKind.wrap_i64]; omega
        have p5 : (0 : Int) ≤ (j : Int) + 5 := by omega
        have x5 : ∀ h, ((((str S)[((j : Int) + 5).toNat]'h).toNat : Nat) : Int) = y5 := fun h => by
          have e : ((j : Int) + 5).toNat = j + 5 := by omega
          simp only [e]
          exact i5 _
        have w6 : IntKind.i64.wrap ((j : Int) + 6) = (j : Int) + 6 := by rw [IntKind.wrap_i64]; omega
        have p6 : (0 : Int) ≤ (j : Int) + 6 := by omega
        have x6 : ∀ h, ((((str S)[((j : Int) + 6).toNat]'h).toNat : Nat) : Int) = y6 := fun h => by
          have e : ((j : Int) + 6).toNat = j + 6 := by omega
          simp only [e]
          exact i6 _
        have w7 : IntKind.i64.wrap ((j : Int) + 7) = (j : Int) + 7 := by rw [IntKind.wrap_i64]; omega
        have p7 : (0 : Int) ≤ (j : Int) + 7 := by omega
        have x7 : ∀ h, ((((str S)[((j : Int) + 7).toNat]'h).toNat : Nat) : Int) = y7 := fun h => by
          have e : ((j : Int) + 7).toNat = j + 7 := by omega
          simp only [e]
          exact i7 _
        have m5 : IntKind.i64.wrap (256 * y5) = 256 * y5 := by rw [IntKind.wrap_i64]; omega
        have m6 : IntKind.i64.wrap (65536 * y6) = 65536 * y6 := by rw [IntKind.wrap_i64]; omega
        have m7 : IntKind.i64.wrap (16777216 * y7) = 16777216 * y7 := by rw [IntKind.wrap_i64]; omega
        have s5 : IntKind.i64.wrap (y4 + 256 * y5) = y4 + 256 * y5 := by rw [IntKind.wrap_i64]; omega
        have s6 : IntKind.i64.wrap (y4 + 256 * y5 + 65536 * y6) = y4 + 256 * y5 + 65536 * y6 := by rw [IntKind.wrap_i64]; omega
        have s7 : IntKind.i64.wrap (y4 + 256 * y5 + 65536 * y6 + 16777216 * y7) = y4 + 256 * y5 + 65536 * y6 + 16777216 * y7 := by rw [IntKind.wrap_i64]; omega
        replace hL := Hid.mk hL
        replace hW := Hid.mk hW
        replace hf := Hid.mk hf
        replace hLj := Hid.mk hLj
        replace hn := Hid.mk hn
        replace hk := Hid.mk hk
        replace hk' := Hid.mk hk'
        go_upto_region 7 with fail
        go_quiet (fail)
        obtain ⟨N, hN⟩ : ∃ N, N = y4 + 256 * y5 + 65536 * y6 + 16777216 * y7 := ⟨_, rfl⟩
        rw [← hN]
        have N0 : 0 ≤ N := by omega
        have N1 : N < 4294967296 := by omega
        have f0 : k.op = y0 := by rw [hk'.out]
        have f1 : k.a = y1 := by rw [hk'.out]
        have f2 : k.b = y2 := by rw [hk'.out]
        have f3 : k.c = y3 := by rw [hk'.out]
        have f4 : k.m = s32 N := by rw [hk'.out, hN]; show s32 _ = s32 _; congr 1; omega
        obtain ⟨m, hm⟩ : ∃ m, m = s32 N := ⟨_, rfl⟩
        rw [← hm] at f4
        rw [f0, f1, f2, f3, f4] at hR
        have hkv : k.vals = [.int .u8 y0, .int .i64 y1, .int .i64 y2, .int .i64 y3, .int .i64 m] := by unfold Ins.vals; rw [f0, f1, f2, f3, f4]
        clear i4 i5 i6 i7 x4 x5 x6 x7 w4 w5 w6 w7 p4 p5 p6 p7 z4 z5 z6 z7 m5 m6 m7 s5 s6 s7 f0 f1 f2 f3 f4 hk'
        replace hN := Hid.mk hN
        replace hkv := Hid.mk hkv
        have e8 : j + 8 ≤ S.length := by omega
        by_cases hc : 2147483647 < N
        · have g1 : decide (N > 2147483647) = true := by simpa using hc
          have em : IntKind.i64.wrap (N - 4294967296) = m := by rw [hm, IntKind.wrap_i64]; unfold s32; rw [if_neg (by omega)]; omega
          replace hm := Hid.mk hm
          go_upto_region 10 with fail
          refine wp_world (fun V => Hid (Gr wr V)) ⟨(Gr.refl wr).drewN _⟩ ?_
          rintro V ⟨hG⟩
          have hVs := hG.below.size
          replace hG := Hid.mk hG
          go_region
          go_wp2_with fail
          refine (hR _).mono ?_
          rintro x w2 ⟨rfl, hG2⟩
          have A1 : At w2 V.heap.size #[.int .u8 y0, .int .i64 y1, .int .i64 y2, .int .i64 y3, .int .i64 m] := ((At.new V _ _).drew).gr hG2
          have hG3 : Gr wr w2 := ((hG.out.alloc _).drew).trans hG2
          have hs2 := hG3.below.size
          have hW2 : Below w.heap.size w w2 := hW.out.trans (hG3.below.mono hws)
          have hL2 := own_below hL.out hG3.below
          have hob := own_block hL.out
          have ⟨z1, q1, _⟩ := A1
          clear hR hG2 i0 i1 i2 i3 x1 x2 x3 hG
          replace hob := Hid.mk hob
          replace hW2 := Hid.mk hW2
          replace hL2 := Hid.mk hL2
          replace hG3 := Hid.mk hG3
          by_cases he : k.right = 0
          · have e0 : (k.right != 0) = false := by simpa using he
            replace hf := hf.out
            rw [if_pos he] at hf
            replace hf := Hid.mk hf
            replace he := Hid.mk he
            have hB2 := Hid.mk (own_below hL2.out ((Gr.refl w2).alloc (.cells #[.int .u8 y0, .int .i64 y1, .int .i64 y2, .int .i64 y3, .int .i64 m] 35)).below)
            have hX2 : Hid (At (w2.alloc (.cells #[.int .u8 y0, .int .i64 y1, .int .i64 y2, .int .i64 y3, .int .i64 m] 35)) w2.heap.size k.vals.toArray) := ⟨by rw [hkv.out]; exact At.new w2 _ _⟩
            have hW3 := Hid.mk (hW2.out.trans (((Gr.refl w2).alloc (.cells #[.int .u8 y0, .int .i64 y1, .int .i64 y2, .int .i64 y3, .int .i64 m] 35)).below.mono hW2.out.size))
            go_wp2_with (at_builtin; refine wpList_append_ins rfl (.tmp 78) (.tmp 80) rfl w.heap.size u5 L k rfl hB2.out w2.heap.size rfl hX2.out (by have := hLj.out; unfold maxI; omega) (by have := hW3.out.size; exact this) ?_)
            intro g c w3 hL3 hg3 _
            replace hL3 := Hid.mk hL3
            replace hg3 := Hid.mk hg3
            have w8 : IntKind.i64.wrap ((j : Int) + 8) = (j : Int) + 8 := by rw [IntKind.wrap_i64]; omega
            go_wp2_with fail
            go_roundw
            case rel =>
              refine ⟨j + 8, n, L ++ [k], by simp, e8, ⟨hL3.out, ?_, hf.out, ?_, hW3.out.trans (Below.of_grown hg3.out hW3.out.size (fun q hq => (hob.out q hq).1))⟩⟩
              · rw [List.length_append]; have := hLj.out; simp; omega
              · have := hn.out; omega
            case measure => simp [intOf]; omega
          · have e0 : (k.right != 0) = true := by simpa using he
            replace hf := hf.out
            rw [if_neg he] at hf
            replace hf := Hid.mk hf
            replace he := Hid.mk he
            go_wp2_with fail
            go_ret3
            rw [← hf.out]
            exact ⟨_, rfl, LOwn.nil _ _, hW2.out⟩
        · have g1 : decide (N > 2147483647) = false := by simpa using hc
          obtain rfl : m = N := by rw [hm]; unfold s32; rw [if_pos (by omega)]
          replace hm := Hid.mk hm
          go_upto_region 10 with fail
          refine wp_world (fun V => Hid (Gr wr V)) ⟨(Gr.refl wr).drewN _⟩ ?_
          rintro V ⟨hG⟩
          have hVs := hG.below.size
          replace hG := Hid.mk hG
          go_region
          go_wp2_with fail
          refine (hR _).mono ?_
          rintro x w2 ⟨rfl, hG2⟩
          have A1 : At w2 V.heap.size #[.int .u8 y0, .int .i64 y1, .int .i64 y2, .int .i64 y3, .int .i64 m] := ((At.new V _ _).drew).gr hG2
          have hG3 : Gr wr w2 := ((hG.out.alloc _).drew).trans hG2
          have hs2 := hG3.below.size
          have hW2 : Below w.heap.size w w2 := hW.out.trans (hG3.below.mono hws)
          have hL2 := own_below hL.out hG3.below
          have hob := own_block hL.out
          have ⟨z1, q1, _⟩ := A1
          clear hR hG2 i0 i1 i2 i3 x1 x2 x3 hG
          replace hob := Hid.mk hob
          replace hW2 := Hid.mk hW2
          replace hL2 := Hid.mk hL2
          replace hG3 := Hid.mk hG3
          by_cases he : k.right = 0
          · have e0 : (k.right != 0) = false := by simpa using he
            replace hf := hf.out
            rw [if_pos he] at hf
            replace hf := Hid.mk hf
            replace he := Hid.mk he
            have hB2 := Hid.mk (own_below hL2.out ((Gr.refl w2).alloc (.cells #[.int .u8 y0, .int .i64 y1, .int .i64 y2, .int .i64 y3, .int .i64 m] 35)).below)
            have hX2 : Hid (At (w2.alloc (.cells #[.int .u8 y0, .int .i64 y1, .int .i64 y2, .int .i64 y3, .int .i64 m] 35)) w2.heap.size k.vals.toArray) := ⟨by rw [hkv.out]; exact At.new w2 _ _⟩
            have hW3 := Hid.mk (hW2.out.trans (((Gr.refl w2).alloc (.cells #[.int .u8 y0, .int .i64 y1, .int .i64 y2, .int .i64 y3, .int .i64 m] 35)).below.mono hW2.out.size))
            go_wp2_with (at_builtin; refine wpList_append_ins rfl (.tmp 78) (.tmp 80) rfl w.heap.size u5 L k rfl hB2.out w2.heap.size rfl hX2.out (by have := hLj.out; unfold maxI; omega) (by have := hW3.out.size; exact this) ?_)
            intro g c w3 hL3 hg3 _
            replace hL3 := Hid.mk hL3
            replace hg3 := Hid.mk hg3
            have w8 : IntKind.i64.wrap ((j : Int) + 8) = (j : Int) + 8 := by rw [IntKind.wrap_i64]; omega
            go_wp2_with fail
            go_roundw
            case rel =>
              refine ⟨j + 8, n, L ++ [k], by simp, e8, ⟨hL3.out, ?_, hf.out, ?_, hW3.out.trans (Below.of_grown hg3.out hW3.out.size (fun q hq => (hob.out q hq).1))⟩⟩
              · rw [List.length_append]; have := hLj.out; simp; omega
              · have := hn.out; omega
            case measure => simp [intOf]; omega
          · have e0 : (k.right != 0) = true := by simpa using he
            replace hf := hf.out
            rw [if_neg he] at hf
            replace hf := Hid.mk hf
            replace he := Hid.mk he
            go_wp2_with fail
            go_ret3
            rw [← hf.out]
            exact ⟨_, rfl, LOwn.nil _ _, hW2.out⟩
    · have jl : ¬ (j : Int) < S.length := by omega
      have hd : S.drop j = [] := by rw [List.drop_eq_nil_iff]; omega
      have he : decF n (S.drop j) j L = (L, 0, 0) := by
        rw [hd]; cases n <;> rfl
      rw [he] at hf
      clear he hd
      replace hL := Hid.mk hL
      replace hW := Hid.mk hW
      replace hf := Hid.mk hf
      replace hLj := Hid.mk hLj
      go_wp2_with fail
      go_ret3
      rw [← hf.out]
      exact ⟨_, rfl, hL.out, hW.out⟩
end Go.Proofs.YtknefcpfmggonaaDoor
