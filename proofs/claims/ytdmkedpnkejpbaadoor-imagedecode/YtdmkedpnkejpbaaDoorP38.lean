import Derived.Test.YtdmkedpnkejpbaaDoorP37
import Derived.Test.YtdmkedpnkejpbaaDoorP17
import Derived.Test.YtdmkedpnkejpbaaDoorP33
import Derived.Test.YtdmkedpnkejpbaaDoorP36
import Derived.Deep.DeepCutAuto
/-
  Stage 3, instr: the document's Decode.
-/
namespace Go.Proofs.YtdmkedpnkejpbaaDoor
open Go.RowKit

theorem byteAt_drop (S : List UInt8) (j i : Nat) : byteAt (S.drop j) i = byteAt S (j + i) := by
  unfold byteAt
  simp [List.getElem?_drop]
set_option maxRecDepth 100000 in
set_option maxHeartbeats 4000000 in
theorem refDecode_any (S : List UInt8) (w : World) (hS : S.length ≤ 8 * maxI) :
    Calls Tryd.prog 41 #[.string (str S)] w fun x w' => ∃ v, x = .returned (.tuple #[v, .int .i64 (decA S).2.1, .int .i64 (decA S).2.2]) ∧ LOwn w' w.heap.size v (decA S).1 ∧ Below w.heap.size w w' := by
  have ss := str_size S
  have hS1 : S.length ≤ 28147497671064 := by unfold maxI at hS; omega
  go_enter Tryd.func41, Tryd.ntmps41
  go_wp2_with fail
  go_loopw [5, 6] (fun v i wr => ∃ (j n : Nat) (L : List Ins), i = .int .i64 j ∧ j ≤ S.length ∧ Hid (LOwn wr w.heap.size v L ∧ 8 * L.length = j ∧ decF n (S.drop j) j L = decA S ∧ S.length < j + n ∧ Below w.heap.size w wr)) (fun _ i _ => S.length - (intOf i).toNat)
  case atStart => exact ⟨0, S.length + 1, [], rfl, by omega, ⟨LOwn.nil _ _, rfl, rfl, by omega, Below.refl _ _⟩⟩
  case round =>
    obtain ⟨j, n, L, rfl, hj, ⟨hL, hLj, hf, hn, hW⟩⟩ := hrel
    have hws := hW.size
    by_cases hlt : j < S.length
    · have jl : (j : Int) < S.length := by omega
      obtain ⟨n, rfl⟩ : ∃ m, n = m + 1 := ⟨n - 1, by omega⟩
      have hne : S.drop j ≠ [] := by rw [Ne, List.drop_eq_nil_iff]; omega
      rw [decF, if_neg hne] at hf
      clear hne
      have hdd : (S.drop j).drop 8 = S.drop (j + 8) := by rw [List.drop_drop]
      have hdl : (S.drop j).length = S.length - j := by simp
      rw [hdd] at hf
      clear hdd
      by_cases h8 : S.length - j < 8
      · have g8 : decide ((S.length : Int) - j < 8) = true := by simp; omega
        have hE : readE (S.drop j) = 30 := by unfold readE; rw [if_pos (by omega)]
        rw [hE, if_neg (by decide)] at hf
        clear hE hdl
        replace hL := Hid.mk hL
        replace hW := Hid.mk hW
        replace hf := Hid.mk hf
        replace hLj := Hid.mk hLj
        replace hn := Hid.mk hn
        have ew : IntKind.i64.wrap ((S.length : Int) - j) = (S.length : Int) - j := by rw [IntKind.wrap_i64]; omega
        go_wp2_with fail
        go_ret3
        rw [← hf.out]
        exact ⟨_, rfl, LOwn.nil _ _, hW.out⟩
      · have g8 : decide ((S.length : Int) - j < 8) = false := by simp; omega
        have hE : readE (S.drop j) = (insOf (S.drop j)).right := by unfold readE; rw [if_neg (by omega)]
        rw [hE] at hf
        clear hE hdl
        have hop : 0 ≤ (insOf (S.drop j)).op ∧ (insOf (S.drop j)).op < 256 := byteAt_range _ 0
        have hR := fun w => refRight_any (insOf (S.drop j)).op (insOf (S.drop j)).a (insOf (S.drop j)).b (insOf (S.drop j)).c (insOf (S.drop j)).m w hop.1 hop.2
        rw [right_doc _ _ _ _ _ hop.1 hop.2] at hR
        have hR2 : (insOf (S.drop j)).right = rightF (insOf (S.drop j)).op (insOf (S.drop j)).a (insOf (S.drop j)).b (insOf (S.drop j)).c (insOf (S.drop j)).m := rfl
        rw [← hR2] at hR
        clear hR2 hop
        obtain ⟨k, hk⟩ : ∃ k, k = insOf (S.drop j) := ⟨_, rfl⟩
        rw [← hk] at hR hf
        have hk' := hk
        unfold insOf at hk'
        simp only [byteAt_drop, Nat.add_zero] at hk'
        have ew : IntKind.i64.wrap ((S.length : Int) - j) = (S.length : Int) - j := by rw [IntKind.wrap_i64]; omega
        have i0 := str_byte S j (by omega)
        have i1 := str_byte S (j + 1) (by omega)
        have i2 := str_byte S (j + 2) (by omega)
        have i3 := str_byte S (j + 3) (by omega)
        have i4 := str_byte S (j + 4) (by omega)
        have i5 := str_byte S (j + 5) (by omega)
        have i6 := str_byte S (j + 6) (by omega)
        have i7 := str_byte S (j + 7) (by omega)
        obtain ⟨a0, b0⟩ := byteAt_range S j
        obtain ⟨a1, b1⟩ := byteAt_range S (j + 1)
        obtain ⟨a2, b2⟩ := byteAt_range S (j + 2)
        obtain ⟨a3, b3⟩ := byteAt_range S (j + 3)
        obtain ⟨a4, b4⟩ := byteAt_range S (j + 4)
        obtain ⟨a5, b5⟩ := byteAt_range S (j + 5)
        obtain ⟨a6, b6⟩ := byteAt_range S (j + 6)
        obtain ⟨a7, b7⟩ := byteAt_range S (j + 7)
        generalize byteAt S j = y0 at *
        generalize byteAt S (j + 1) = y1 at *
        generalize byteAt S (j + 2) = y2 at *
        generalize byteAt S (j + 3) = y3 at *
        generalize byteAt S (j + 4) = y4 at *
        generalize byteAt S (j + 5) = y5 at *
        generalize byteAt S (j + 6) = y6 at *
        generalize byteAt S (j + 7) = y7 at *
        have z1 : (j : Int) + 1 < S.length := by omega
        have z2 : (j : Int) + 2 < S.length := by omega
        have z3 : (j : Int) + 3 < S.length := by omega
        have z4 : (j : Int) + 4 < S.length := by omega
        have z5 : (j : Int) + 5 < S.length := by omega
        have z6 : (j : Int) + 6 < S.length := by omega
        have z7 : (j : Int) + 7 < S.length := by omega
        have w1 : IntKind.i64.wrap ((j : Int) + 1) = (j : Int) + 1 := by rw [IntKind.wrap_i64]; omega
        have p1 : (0 : Int) ≤ (j : Int) + 1 := by omega
        have x1 : ∀ h, ((((str S)[((j : Int) + 1).toNat]'h).toNat : Nat) : Int) = y1 := fun h => by
          have e : ((j : Int) + 1).toNat = j + 1 := by omega
          simp only [e]
          exact i1 _
        have w2 : IntKind.i64.wrap ((j : Int) + 2) = (j : Int) + 2 := by rw [IntKind.wrap_i64]; omega
        have p2 : (0 : Int) ≤ (j : Int) + 2 := by omega
        have x2 : ∀ h, ((((str S)[((j : Int) + 2).toNat]'h).toNat : Nat) : Int) = y2 := fun h => by
          have e : ((j : Int) + 2).toNat = j + 2 := by omega
          simp only [e]
          exact i2 _
        have w3 : IntKind.i64.wrap ((j : Int) + 3) = (j : Int) + 3 := by rw [IntKind.wrap_i64]; omega
        have p3 : (0 : Int) ≤ (j : Int) + 3 := by omega
        have x3 : ∀ h, ((((str S)[((j : Int) + 3).toNat]'h).toNat : Nat) : Int) = y3 := fun h => by
          have e : ((j : Int) + 3).toNat = j + 3 := by omega
          simp only [e]
          exact i3 _
        have w4 : IntKind.i64.wrap ((j : Int) + 4) = (j : Int) + 4 := by rw [IntKind.wrap_i64]; omega
        have p4 : (0 : Int) ≤ (j : Int) + 4 := by omega
        have x4 : ∀ h, ((((str S)[((j : Int) + 4).toNat]'h).toNat : Nat) : Int) = y4 := fun h => by
          have e : ((j : Int) + 4).toNat = j + 4 := by omega
          simp only [e]
          exact i4 _
        have w5 : IntKind.i64.wrap ((j : Int) + 5) = (j : Int) + 5 := by rw [IntKind.wrap_i64]; omega
        have p5 : (0 : Int) ≤ (j : Int) + 5 := by omega
        have x5 : ∀ h, ((((str S)[((j : Int) + 5).toNat]'h).toNat : Nat) : Int) = y5 := fun h => by
          have e : ((j : Int) + 5).toNat = j + 5 := by omega
          simp only [e]
          exact i5 _
        have w6 : IntKind.i64.wrap ((j : Int) + 6) = (j : Int) + 6 := by rw [IntKind.wrap_i64]; omega
        have p6 : (0 : Int) ≤ (j : Int) + 6 := by omega
        have x6 : ∀ h, ((((str S)[((j : Int) + 6).toNat]'h).toNat : Nat) : Int) = y6 := fun h => by
          have e : ((j : Int) + 6).toNat = j + 6 := by omega
          simp only [e]
          exact i6 _
        have w7 : IntKind.i64.wrap ((j : Int) + 7) = (j : Int) + 7 := by rw [IntKind.wrap_i64]; omega
        have p7 : (0 : Int) ≤ (j : Int) + 7 := by omega
        have x7 : ∀ h, ((((str S)[((j : Int) + 7).toNat]'h).toNat : Nat) : Int) = y7 := fun h => by
          have e : ((j : Int) + 7).toNat = j + 7 := by omega
          simp only [e]
          exact i7 _
        have m5 : IntKind.i64.wrap (256 * y5) = 256 * y5 := by rw [IntKind.wrap_i64]; omega
        have m6 : IntKind.i64.wrap (65536 * y6) = 65536 * y6 := by rw [IntKind.wrap_i64]; omega
        have m7 : IntKind.i64.wrap (16777216 * y7) = 16777216 * y7 := by rw [IntKind.wrap_i64]; omega
        have s5 : IntKind.i64.wrap (y4 + 256 * y5) = y4 + 256 * y5 := by rw [IntKind.wrap_i64]; omega
        have s6 : IntKind.i64.wrap (y4 + 256 * y5 + 65536 * y6) = y4 + 256 * y5 + 65536 * y6 := by rw [IntKind.wrap_i64]; omega
        have s7 : IntKind.i64.wrap (y4 + 256 * y5 + 65536 * y6 + 16777216 * y7) = y4 + 256 * y5 + 65536 * y6 + 16777216 * y7 := by rw [IntKind.wrap_i64]; omega
        replace hL := Hid.mk hL
        replace hW := Hid.mk hW
        replace hf := Hid.mk hf
        replace hLj := Hid.mk hLj
        replace hn := Hid.mk hn
        replace hk := Hid.mk hk
        replace hk' := Hid.mk hk'
        go_upto_region 7 with fail
        go_quiet (fail)
        obtain ⟨N, hN⟩ : ∃ N, N = y4 + 256 * y5 + 65536 * y6 + 16777216 * y7 := ⟨_, rfl⟩
        rw [← hN]
        have N0 : 0 ≤ N := by omega
        have N1 : N < 4294967296 := by omega
        have f0 : k.op = y0 := by rw [hk'.out]
        have f1 : k.a = y1 := by rw [hk'.out]
        have f2 : k.b = y2 := by rw [hk'.out]
        have f3 : k.c = y3 := by rw [hk'.out]
        have f4 : k.m = s32 N := by rw [hk'.out, hN]; show s32 _ = s32 _; congr 1; omega
        obtain ⟨m, hm⟩ : ∃ m, m = s32 N := ⟨_, rfl⟩
        rw [← hm] at f4
        rw [f0, f1, f2, f3, f4] at hR
        have hkv : k.vals = [.int .u8 y0, .int .i64 y1, .int .i64 y2, .int .i64 y3, .int .i64 m] := by unfold Ins.vals; rw [f0, f1, f2, f3, f4]
        clear i4 i5 i6 i7 x4 x5 x6 x7 w4 w5 w6 w7 p4 p5 p6 p7 z4 z5 z6 z7 m5 m6 m7 s5 s6 s7 f0 f1 f2 f3 f4 hk'
        replace hN := Hid.mk hN
        replace hkv := Hid.mk hkv
        have e8 : j + 8 ≤ S.length := by omega
        by_cases hc : 2147483647 < N
        · have g1 : decide (N > 2147483647) = true := by simpa using hc
          have em : IntKind.i64.wrap (N - 4294967296) = m := by rw [hm, IntKind.wrap_i64]; unfold s32; rw [if_neg (by omega)]; omega
          replace hm := Hid.mk hm
          go_upto_region 10 with fail
          refine wp_world (fun V => Hid (Gr wr V)) ⟨(Gr.refl wr).drewN _⟩ ?_
          rintro V ⟨hG⟩
          have hVs := hG.below.size
          replace hG := Hid.mk hG
          go_region
          go_wp2_with fail
          refine (hR _).mono ?_
          rintro x w2 ⟨rfl, hG2⟩
          have A1 : At w2 V.heap.size #[.int .u8 y0, .int .i64 y1, .int .i64 y2, .int .i64 y3, .int .i64 m] := ((At.new V _ _).drew).gr hG2
          have hG3 : Gr wr w2 := ((hG.out.alloc _).drew).trans hG2
          have hs2 := hG3.below.size
          have hW2 : Below w.heap.size w w2 := hW.out.trans (hG3.below.mono hws)
          have hL2 := own_below hL.out hG3.below
          have hob := own_block hL.out
          have ⟨z1, q1, _⟩ := A1
          clear hR hG2 i0 i1 i2 i3 x1 x2 x3 hG
          replace hob := Hid.mk hob
          replace hW2 := Hid.mk hW2
          replace hL2 := Hid.mk hL2
          replace hG3 := Hid.mk hG3
          by_cases he : k.right = 0
          · have e0 : (k.right != 0) = false := by simpa using he
            replace hf := hf.out
            rw [if_pos he] at hf
            replace hf := Hid.mk hf
            replace he := Hid.mk he
            have hB2 := Hid.mk (own_below hL2.out ((Gr.refl w2).alloc (.cells #[.int .u8 y0, .int .i64 y1, .int .i64 y2, .int .i64 y3, .int .i64 m] 74)).below)
            have hX2 : Hid (At (w2.alloc (.cells #[.int .u8 y0, .int .i64 y1, .int .i64 y2, .int .i64 y3, .int .i64 m] 74)) w2.heap.size k.vals.toArray) := ⟨by rw [hkv.out]; exact At.new w2 _ _⟩
            have hW3 := Hid.mk (hW2.out.trans (((Gr.refl w2).alloc (.cells #[.int .u8 y0, .int .i64 y1, .int .i64 y2, .int .i64 y3, .int .i64 m] 74)).below.mono hW2.out.size))
            go_wp2_with (at_builtin; refine wpList_append_ins rfl (.tmp 78) (.tmp 80) rfl w.heap.size u5 L k rfl hB2.out w2.heap.size rfl hX2.out (by have := hLj.out; unfold maxI; omega) (by have := hW3.out.size; exact this) ?_)
            intro g c w3 hL3 hg3 _
            replace hL3 := Hid.mk hL3
            replace hg3 := Hid.mk hg3
            have w8 : IntKind.i64.wrap ((j : Int) + 8) = (j : Int) + 8 := by rw [IntKind.wrap_i64]; omega
            go_wp2_with fail
            go_roundw
            case rel =>
              refine ⟨j + 8, n, L ++ [k], by simp, e8, ⟨hL3.out, ?_, hf.out, ?_, hW3.out.trans (Below.of_grown hg3.out hW3.out.size (fun q hq => (hob.out q hq).1))⟩⟩
              · rw [List.length_append]; have := hLj.out; simp; omega
              · have := hn.out; omega
            case measure => simp [intOf]; omega
          · have e0 : (k.right != 0) = true := by simpa using he
            replace hf := hf.out
            rw [if_neg he] at hf
            replace hf := Hid.mk hf
            replace he := Hid.mk he
            go_wp2_with fail
            go_ret3
            rw [← hf.out]
            exact ⟨_, rfl, LOwn.nil _ _, hW2.out⟩
        · have g1 : decide (N > 2147483647) = false := by simpa using hc
          obtain rfl : m = N := by rw [hm]; unfold s32; rw [if_pos (by omega)]
          replace hm := Hid.mk hm
          go_upto_region 10 with fail
          refine wp_world (fun V => Hid (Gr wr V)) ⟨(Gr.refl wr).drewN _⟩ ?_
          rintro V ⟨hG⟩
          have hVs := hG.below.size
          replace hG := Hid.mk hG
          go_region
          go_wp2_with fail
          refine (hR _).mono ?_
          rintro x w2 ⟨rfl, hG2⟩
          have A1 : At w2 V.heap.size #[.int .u8 y0, .int .i64 y1, .int .i64 y2, .int .i64 y3, .int .i64 m] := ((At.new V _ _).drew).gr hG2
          have hG3 : Gr wr w2 := ((hG.out.alloc _).drew).trans hG2
          have hs2 := hG3.below.size
          have hW2 : Below w.heap.size w w2 := hW.out.trans (hG3.below.mono hws)
          have hL2 := own_below hL.out hG3.below
          have hob := own_block hL.out
          have ⟨z1, q1, _⟩ := A1
          clear hR hG2 i0 i1 i2 i3 x1 x2 x3 hG
          replace hob := Hid.mk hob
          replace hW2 := Hid.mk hW2
          replace hL2 := Hid.mk hL2
          replace hG3 := Hid.mk hG3
          by_cases he : k.right = 0
          · have e0 : (k.right != 0) = false := by simpa using he
            replace hf := hf.out
            rw [if_pos he] at hf
            replace hf := Hid.mk hf
            replace he := Hid.mk he
            have hB2 := Hid.mk (own_below hL2.out ((Gr.refl w2).alloc (.cells #[.int .u8 y0, .int .i64 y1, .int .i64 y2, .int .i64 y3, .int .i64 m] 74)).below)
            have hX2 : Hid (At (w2.alloc (.cells #[.int .u8 y0, .int .i64 y1, .int .i64 y2, .int .i64 y3, .int .i64 m] 74)) w2.heap.size k.vals.toArray) := ⟨by rw [hkv.out]; exact At.new w2 _ _⟩
            have hW3 := Hid.mk (hW2.out.trans (((Gr.refl w2).alloc (.cells #[.int .u8 y0, .int .i64 y1, .int .i64 y2, .int .i64 y3, .int .i64 m] 74)).below.mono hW2.out.size))
            go_wp2_with (at_builtin; refine wpList_append_ins rfl (.tmp 78) (.tmp 80) rfl w.heap.size u5 L k rfl hB2.out w2.heap.size rfl hX2.out (by have := hLj.out; unfold maxI; omega) (by have := hW3.out.size; exact this) ?_)
            intro g c w3 hL3 hg3 _
            replace hL3 := Hid.mk hL3
            replace hg3 := Hid.mk hg3
            have w8 : IntKind.i64.wrap ((j : Int) + 8) = (j : Int) + 8 := by rw [IntKind.wrap_i64]; omega
            go_wp2_with fail
            go_roundw
            case rel =>
              refine ⟨j + 8, n, L ++ [k], by simp, e8, ⟨hL3.out, ?_, hf.out, ?_, hW3.out.trans (Below.of_grown hg3.out hW3.out.size (fun q hq => (hob.out q hq).1))⟩⟩
              · rw [List.length_append]; have := hLj.out; simp; omega
              · have := hn.out; omega
            case measure => simp [intOf]; omega
          · have e0 : (k.right != 0) = true := by simpa using he
            replace hf := hf.out
            rw [if_neg he] at hf
            replace hf := Hid.mk hf
            replace he := Hid.mk he
            go_wp2_with fail
            go_ret3
            rw [← hf.out]
            exact ⟨_, rfl, LOwn.nil _ _, hW2.out⟩
    · have jl : ¬ (j : Int) < S.length := by omega
      have hd : S.drop j = [] := by rw [List.drop_eq_nil_iff]; omega
      have he : decF n (S.drop j) j L = (L, 0, 0) := by
        rw [hd]; cases n <;> rfl
      rw [he] at hf
      clear he hd
      replace hL := Hid.mk hL
      replace hW := Hid.mk hW
      replace hf := Hid.mk hf
      replace hLj := Hid.mk hLj
      go_wp2_with fail
      go_ret3
      rw [← hf.out]
      exact ⟨_, rfl, hL.out, hW.out⟩
end Go.Proofs.YtdmkedpnkejpbaaDoor


/-
  Stage 4, image: the document's reader: a compartment.
-/
namespace Go.Proofs.YtdmkedpnkejpbaaDoor
open Go.RowKit

theorem oneL_len (S : List UInt8) (σ : RS) : (oneL S σ).length ≤ 1 := by
  unfold oneL
  have hl := takeV_len S 8 σ
  generalize takeV S 8 σ = T at *
  by_cases h : (decA T).2.1 = 0
  · obtain ⟨L, e, _, _, hc⟩ := decA_ok h
    rw [e]
    have := congrArg List.length hc
    rw [code_length] at this
    simp only
    omega
  · rw [(decA_bad h).1]
    simp
theorem comp_like (S : List UInt8) (σ : RS) (hi : σ.In S) : Like (cdF S (numV S 2 (rootsP S σ).2).toNat (takeS S 2 (rootsP S σ).2) []).2 (compP S σ).2 ∧ ((compP S σ).2.e = 0 → (rootsP S σ).2.e = 0 ∧ (compP S σ).1 = ⟨(rootsP S σ).1, (cdF S (numV S 2 (rootsP S σ).2).toNat (takeS S 2 (rootsP S σ).2) []).1⟩) := by
  have h2 := takeS_in (S := S) 2 (rootsP_in hi)
  have e1 : (compP S σ).2 = (codeP S (numV S 2 (rootsP S σ).2).toNat (takeS S 2 (rootsP S σ).2)).2 := rfl
  have e2 : (compP S σ).1 = ⟨(rootsP S σ).1, (codeP S (numV S 2 (rootsP S σ).2).toNat (takeS S 2 (rootsP S σ).2)).1⟩ := rfl
  rw [e1, e2]
  by_cases he : (takeS S 2 (rootsP S σ).2).e = 0
  · obtain ⟨l1, l2⟩ := code_like S (numV S 2 (rootsP S σ).2).toNat _ [] he h2
    exact ⟨l1, fun q => ⟨take_e0 he, by rw [l2 q]; rfl⟩⟩
  · have hn : (numV S 2 (rootsP S σ).2).toNat = 0 := by rw [num_bad S 2 _ he]; rfl
    rw [hn]
    generalize takeS S 2 (rootsP S σ).2 = τ at *
    have w0 : wholeN S 0 τ = 0 := by unfold wholeN; simp
    have v0 : takeV S 0 τ = [] := by unfold takeV; rw [if_neg he]
    have d0 : decB S 0 τ = ([], 0, 0) := by unfold decB; rw [w0, Nat.zero_mul, v0, decA_nil]
    have s0 : codeS1 S 0 τ = τ := by
      unfold codeS1
      rw [d0, if_pos rfl, w0]
      exact takeS_bad S _ τ he
    have c0 : codeP S 0 τ = ([], τ) := by
      unfold codeP
      rw [w0, if_neg (by omega), s0, d0]
    rw [c0, cdF]
    exact ⟨Like.refl _, fun q => absurd q he⟩
theorem cdF_step {S : List UInt8} {m : Nat} {τ : RS} {L : List Ins} {R : List Ins × RS} (h : cdF S m τ L = R) (hm : 0 < m) (he : τ.e = 0) : cdF S (m - 1) (oneS S τ) (L ++ oneL S τ) = R := by
  obtain ⟨q, rfl⟩ : ∃ q, m = q + 1 := ⟨m - 1, by omega⟩
  rw [cdF, if_pos he] at h
  exact h
theorem cdF_done {S : List UInt8} {m : Nat} {τ : RS} {L : List Ins} {R : List Ins × RS} (h : cdF S m τ L = R) (hm : m = 0 ∨ τ.e ≠ 0) : R = (L, τ) := by
  rcases hm with q | q
  · subst q; exact h.symm
  · rw [cdF_bad _ _ _ _ q] at h; exact h.symm
set_option maxRecDepth 10000 in
set_option maxHeartbeats 4000000 in
theorem dcomp_any (S : List UInt8) (kr : Nat) (σ : RS) (w : World) (h : DIn w kr S σ) (hi : σ.In S) (hS : S.length ≤ 1000000) :
    Calls Tryd.prog 16 #[.pointer (some ⟨kr, 0, none⟩)] w fun x w' => ∃ (p : PComp) (ra : Option Addr) (rc : Nat) (ka : Option Addr) (kc : Nat) (τ : RS), x = .returned (.agg #[.slice ra p.roots.length rc, .slice ka p.code.length kc]) ∧ w'.ownsRow w.heap.size 93 6 (.slice ra p.roots.length rc) p.roots.length (p.roots.flatMap PRoot.vals) ∧ w'.ownsRow w.heap.size 74 5 (.slice ka p.code.length kc) p.code.length (flat p.code) ∧ DIn w' kr S τ ∧ w.grownBy w' (some kr) ∧ Like τ (compP S σ).2 ∧ τ.In S ∧ ((compP S σ).2.e = 0 → p = (compP S σ).1) := by
  have hS2 : S.length ≤ 140737488355328 := by omega
  have hg : Hid (w.grownBy w (some kr)) := Hid.mk (grown_of (Below.refl _ _) _)
  replace h := Hid.mk h
  have c0 := fun W h1 => dcount_any S kr 1 σ W h1 hi hS2 (by omega)
  have i1 := takeS_in (S := S) 1 hi
  have hst : Lp (rootP S) (rootsP S σ) (numV S 1 σ).toNat (takeS S 1 σ) [] := Lp.start (rootP S) (numV S 1 σ).toNat (takeS S 1 σ) (fun q => by rw [num_bad S 1 σ q]; rfl)
  have hN := num1 S σ
  have hNN := toNat_num S 1 σ
  rw [← hNN] at c0 hN
  have ir := rootsP_in hi
  have c3 := fun W h1 => dcount_any S kr 2 (rootsP S σ).2 W h1 ir hS2 (by omega)
  have i4 := takeS_in (S := S) 2 ir
  have hM := num2 S (rootsP S σ).2
  have hMM := toNat_num S 2 (rootsP S σ).2
  rw [← hMM] at c3 hM
  obtain ⟨hlk, hcp⟩ := comp_like S σ hi
  clear hNN hMM ir
  generalize (compP S σ).2 = σ9 at *
  generalize (compP S σ).1 = C9 at *
  obtain ⟨R2, hR2⟩ : ∃ R, cdF S (numV S 2 (rootsP S σ).2).toNat (takeS S 2 (rootsP S σ).2) [] = R := ⟨_, rfl⟩
  rw [hR2] at hlk hcp
  generalize (numV S 2 (rootsP S σ).2).toNat = n2 at *
  generalize takeS S 2 (rootsP S σ).2 = σ4 at *
  generalize rootsP S σ = R1 at *
  generalize (numV S 1 σ).toNat = n at *
  generalize takeS S 1 σ = σ1 at *
  have hn : n ≤ 255 := by omega
  have hn2 : n2 ≤ 65535 := by omega
  clear hN hM
  replace hlk := Hid.mk hlk
  replace hcp := Hid.mk hcp
  replace hR2 := Hid.mk hR2
  replace hst := Hid.mk hst
  go_enter Tryd.func16, Tryd.ntmps16
  go_upto_region 1 with fail
  have Xx := Box.new w #[.slice none 0 0, .slice none 0 0] 57
  have nkx : w.heap.size ≠ kr := by have := h.out.lt; omega
  have lx : w.heap.size ≤ w.heap.size := hg.out.size
  replace h : Hid (DIn (w.alloc (.cells #[.slice none 0 0, .slice none 0 0] 57)) kr S σ) := Hid.mk (h.out.alloc _)
  replace hg := Hid.mk (hg.out.trans (grown_of ((Gr.refl w).alloc (.cells #[.slice none 0 0, .slice none 0 0] 57)).below (some kr)))
  generalize w.alloc (.cells #[.slice none 0 0, .slice none 0 0] 57) = W1 at *
  replace Xx := Hid.mk Xx
  replace nkx := Hid.mk nkx
  replace lx := Hid.mk lx
  go_upto_region 2 with fail
  have Xu := Box.new W1 #[.slice none 0 0, .slice none 0 0] 57
  have nku : W1.heap.size ≠ kr := by have := h.out.lt; omega
  have lu : w.heap.size ≤ W1.heap.size := hg.out.size
  have nnxu : w.heap.size ≠ W1.heap.size := by have := Xx.out.lt; omega
  replace Xx := Hid.mk (Xx.out.alloc (.cells #[.slice none 0 0, .slice none 0 0] 57))
  replace h : Hid (DIn (W1.alloc (.cells #[.slice none 0 0, .slice none 0 0] 57)) kr S σ) := Hid.mk (h.out.alloc _)
  replace hg := Hid.mk (hg.out.trans (grown_of ((Gr.refl W1).alloc (.cells #[.slice none 0 0, .slice none 0 0] 57)).below (some kr)))
  generalize W1.alloc (.cells #[.slice none 0 0, .slice none 0 0] 57) = W2 at *
  generalize W1.heap.size = ku at *
  replace Xu := Hid.mk Xu
  replace nku := Hid.mk nku
  replace lu := Hid.mk lu
  replace nnxu := Hid.mk nnxu
  go_wp2_with fail
  refine (c0 _ h.out).mono ?_
  rintro x W3 ⟨rfl, h1, hg2⟩
  replace Xx := Hid.mk (Xx.out.kept hg2 nkx.out)
  replace Xu := Hid.mk (Xu.out.kept hg2 nku.out)
  replace hg := Hid.mk (hg.out.trans hg2)
  replace h := Hid.mk h1
  clear hg2 h1 c0
  go_upto_region 3 with fail
  go_loopw [4] (fun i wr => ∃ (m : Nat) (L : List PRoot) (τ : RS) (la : Option Addr) (lc : Nat), i = .int .i64 m ∧ m ≤ n ∧ Hid (Box wr w.heap.size #[.slice none 0 0, .slice none 0 0] 57 ∧ Box wr ku #[.slice la L.length lc, .slice none 0 0] 57 ∧ wr.ownsRow w.heap.size 93 6 (.slice la L.length lc) L.length (L.flatMap PRoot.vals) ∧ L.length + m = n ∧ DIn wr kr S τ ∧ τ.In S ∧ w.grownBy wr (some kr) ∧ Lp (rootP S) R1 m τ L)) (fun i _ => (intOf i).toNat)
  case atStart => exact ⟨n, [], σ1, none, 0, rfl, by omega, ⟨Xx.out, Xu.out, ⟨rfl, .inl ⟨rfl, rfl⟩⟩, by simp, h.out, i1, hg.out, hst.out⟩⟩
  case round =>
    clear Xx Xu h hg hst i1
    obtain ⟨m, L, τ, la, lc, rfl, hm, ⟨Xx, Xu, Oq, hL, h, hi, hg, hF⟩⟩ := hrel
    replace Xx := Hid.mk Xx
    replace Xu := Hid.mk Xu
    replace Oq := Hid.mk Oq
    replace h := Hid.mk h
    replace hg := Hid.mk hg
    replace hF := Hid.mk hF
    replace hL := Hid.mk hL
    go_upto_region 3 with fail
    go_cut [22] (fun v wx => (∃ b : Bool, v = .bool b ∧ Hid (b = true → 0 < m ∧ τ.e = 0) ∧ Hid (b = false → m = 0 ∨ τ.e ≠ 0)) ∧ wr = wx)
    case first =>
      by_cases hm0 : 0 < m
      · have jl : (0 : Int) < m := by omega
        have ⟨zh, ph, fh⟩ := h.out.at
        by_cases he : τ.e = 0
        · have he' : (τ.e == 0) = true := by simpa using he
          replace he := Hid.mk he
          go_wp2_with fail
          go_meet
          exact ⟨⟨true, rfl, Hid.mk (fun _ => ⟨hm0, he.out⟩), Hid.mk (fun q => by cases q)⟩, rfl⟩
        · have he' : (τ.e == 0) = false := by simpa using he
          replace he := Hid.mk he
          go_wp2_with fail
          go_meet
          exact ⟨⟨false, rfl, Hid.mk (fun q => by cases q), Hid.mk (fun _ => .inr he.out)⟩, rfl⟩
      · have jl : ¬ (0 : Int) < m := by omega
        go_wp2_with fail
        go_meet
        exact ⟨⟨false, rfl, Hid.mk (fun q => by cases q), Hid.mk (fun _ => .inl (by omega))⟩, rfl⟩
    case rest =>
      obtain ⟨⟨b, hb, hb1, hb2⟩, hwx⟩ := hcut
      subst hwx
      subst hb
      cases b with
      | true =>
        obtain ⟨hm1, he⟩ := hb1.out rfl
        clear hb1 hb2
        have hdw := dec_w (m := m) hm1 (by omega)
        have hF1 := hF.out.step hm1 he (rootP S τ).1 (fun _ => rfl)
        have hi6 := rootP_in hi
        clear hF he
        have e1 := fun W h1 => dcount_any S kr 1 τ W h1 hi hS2 (by omega)
        have q1 := takeS_in (S := S) 1 hi
        have e2 := fun W h1 => dnumber_any S kr 8 (takeS S 1 τ) W h1 q1 hS2 (by omega)
        have q2 := takeS_in (S := S) 8 q1
        have e3 := fun W h1 => dnumber_any S kr 8 (takeS S 8 (takeS S 1 τ)) W h1 q2 hS2 (by omega)
        have q3 := takeS_in (S := S) 8 q2
        have e4 := fun W h1 => dnumber_any S kr 8 (takeS S 8 (takeS S 8 (takeS S 1 τ))) W h1 q3 hS2 (by omega)
        have q4 := takeS_in (S := S) 8 q3
        have e5 := fun W h1 => dcount_any S kr 1 (takeS S 8 (takeS S 8 (takeS S 8 (takeS S 1 τ)))) W h1 q4 hS2 (by omega)
        have q5 := takeS_in (S := S) 1 q4
        have e6 := fun W h1 => dcount_any S kr 1 (takeS S 1 (takeS S 8 (takeS S 8 (takeS S 8 (takeS S 1 τ))))) W h1 q5 hS2 (by omega)
        have q6 := takeS_in (S := S) 1 q5
        have hr5 := num1 S (takeS S 8 (takeS S 8 (takeS S 8 (takeS S 1 τ))))
        have hv : (rootP S τ).1 = ⟨numV S 1 τ, numV S 8 (takeS S 1 τ), numV S 8 (takeS S 8 (takeS S 1 τ)), numV S 8 (takeS S 8 (takeS S 8 (takeS S 1 τ))), numV S 1 (takeS S 8 (takeS S 8 (takeS S 8 (takeS S 1 τ)))), numV S 1 (takeS S 1 (takeS S 8 (takeS S 8 (takeS S 8 (takeS S 1 τ)))))⟩ := rfl
        have hs6 : (rootP S τ).2 = takeS S 1 (takeS S 1 (takeS S 8 (takeS S 8 (takeS S 8 (takeS S 1 τ))))) := rfl
        rw [hv, hs6] at hF1
        rw [hs6] at hi6
        clear hv hs6 q1 q2 q3 q4 q5 q6
        generalize numV S 1 (takeS S 1 (takeS S 8 (takeS S 8 (takeS S 8 (takeS S 1 τ))))) = y6 at *
        generalize takeS S 1 (takeS S 1 (takeS S 8 (takeS S 8 (takeS S 8 (takeS S 1 τ))))) = s6 at *
        generalize numV S 1 (takeS S 8 (takeS S 8 (takeS S 8 (takeS S 1 τ)))) = y5 at *
        generalize takeS S 1 (takeS S 8 (takeS S 8 (takeS S 8 (takeS S 1 τ)))) = s5 at *
        generalize numV S 8 (takeS S 8 (takeS S 8 (takeS S 1 τ))) = y4 at *
        generalize takeS S 8 (takeS S 8 (takeS S 8 (takeS S 1 τ))) = s4 at *
        generalize numV S 8 (takeS S 8 (takeS S 1 τ)) = y3 at *
        generalize takeS S 8 (takeS S 8 (takeS S 1 τ)) = s3 at *
        generalize numV S 8 (takeS S 1 τ) = y2 at *
        generalize takeS S 8 (takeS S 1 τ) = s2 at *
        generalize numV S 1 τ = y1 at *
        generalize takeS S 1 τ = s1 at *
        have hw5 : IntKind.u8.wrap y5 = y5 := by rw [IntKind.wrap_u8]; omega
        clear hr5 hi
        replace hF1 := Hid.mk hF1
        go_upto_region 6 with fail
        have Xr0 := Box.new wr #[.int .i64 0, .int .u64 0, .int .u64 0, .int .u64 0, .int .u8 0, .int .i64 0] 93
        have nkr0 : wr.heap.size ≠ kr := by have := h.out.lt; omega
        have lr0 : w.heap.size ≤ wr.heap.size := hg.out.size
        have nnxr0 : w.heap.size ≠ wr.heap.size := by have := Xx.out.lt; omega
        replace Xx := Hid.mk (Xx.out.alloc (.cells #[.int .i64 0, .int .u64 0, .int .u64 0, .int .u64 0, .int .u8 0, .int .i64 0] 93))
        have nnur0 : ku ≠ wr.heap.size := by have := Xu.out.lt; omega
        replace Xu := Hid.mk (Xu.out.alloc (.cells #[.int .i64 0, .int .u64 0, .int .u64 0, .int .u64 0, .int .u8 0, .int .i64 0] 93))
        have noqr0 : Value.ownBlock (.slice la L.length lc) ≠ some wr.heap.size := fun e => by have := (own_block Oq.out _ e).2; omega
        replace Oq := Hid.mk (own_below Oq.out ((Gr.refl wr).alloc (.cells #[.int .i64 0, .int .u64 0, .int .u64 0, .int .u64 0, .int .u8 0, .int .i64 0] 93)).below)
        replace h : Hid (DIn (wr.alloc (.cells #[.int .i64 0, .int .u64 0, .int .u64 0, .int .u64 0, .int .u8 0, .int .i64 0] 93)) kr S τ) := Hid.mk (h.out.alloc _)
        replace hg := Hid.mk (hg.out.trans (grown_of ((Gr.refl wr).alloc (.cells #[.int .i64 0, .int .u64 0, .int .u64 0, .int .u64 0, .int .u8 0, .int .i64 0] 93)).below (some kr)))
        generalize wr.alloc (.cells #[.int .i64 0, .int .u64 0, .int .u64 0, .int .u64 0, .int .u8 0, .int .i64 0] 93) = W4 at *
        generalize wr.heap.size = kr0 at *
        replace Xr0 := Hid.mk Xr0
        replace nkr0 := Hid.mk nkr0
        replace lr0 := Hid.mk lr0
        replace nnxr0 := Hid.mk nnxr0
        replace nnur0 := Hid.mk nnur0
        replace noqr0 := Hid.mk noqr0
        go_wp2_with fail
        refine (e1 _ h.out).mono ?_
        rintro x W5 ⟨rfl, h1, hg2⟩
        replace Xx := Hid.mk (Xx.out.kept hg2 nkx.out)
        replace Xu := Hid.mk (Xu.out.kept hg2 nku.out)
        replace Xr0 := Hid.mk (Xr0.out.kept hg2 nkr0.out)
        replace Oq := Hid.mk (own_kept Oq.out hg2 (own_ne Oq.out h.out (by decide)))
        replace hg := Hid.mk (hg.out.trans hg2)
        replace h := Hid.mk h1
        clear hg2 h1 e1
        have ⟨zr0, pr0, fr0⟩ := Xr0.out.at
        go_wp2_with fail
        clear zr0 pr0 fr0
        replace Oq : Hid ((W5.setCell ⟨kr0, 0, none⟩ (.int .i64 y1)).ownsRow w.heap.size 93 6 (.slice la L.length lc) L.length (L.flatMap PRoot.vals)) := Hid.mk (own_kept Oq.out (grown_set W5 kr0 0 (.int .i64 y1)) noqr0.out)
        replace Xx : Hid (Box (W5.setCell ⟨kr0, 0, none⟩ (.int .i64 y1)) w.heap.size #[.slice none 0 0, .slice none 0 0] 57) := Hid.mk (Box.setRow_other (cs := [.int .i64 y1]) (j := 0) Xx.out nnxr0.out.symm)
        replace Xu : Hid (Box (W5.setCell ⟨kr0, 0, none⟩ (.int .i64 y1)) ku #[.slice la L.length lc, .slice none 0 0] 57) := Hid.mk (Box.setRow_other (cs := [.int .i64 y1]) (j := 0) Xu.out nnur0.out.symm)
        replace Xr0 : Hid (Box (W5.setCell ⟨kr0, 0, none⟩ (.int .i64 y1)) kr0 #[.int .i64 y1, .int .u64 0, .int .u64 0, .int .u64 0, .int .u8 0, .int .i64 0] 93) := Hid.mk (by have q := Xr0.out.set 0 (.int .i64 y1); simpa using q)
        replace h : Hid (DIn (W5.setCell ⟨kr0, 0, none⟩ (.int .i64 y1)) kr S s1) := Hid.mk (Box.setRow_other (cs := [.int .i64 y1]) (j := 0) h.out nkr0.out)
        replace hg : Hid (w.grownBy (W5.setCell ⟨kr0, 0, none⟩ (.int .i64 y1)) (some kr)) := Hid.mk (grown_row [.int .i64 y1] (j := 0) hg.out lr0.out)
        generalize (W5.setCell ⟨kr0, 0, none⟩ (.int .i64 y1)) = W6 at *
        refine (e2 _ h.out).mono ?_
        rintro x W7 ⟨rfl, h1, hg2⟩
        replace Xx := Hid.mk (Xx.out.kept hg2 nkx.out)
        replace Xu := Hid.mk (Xu.out.kept hg2 nku.out)
        replace Xr0 := Hid.mk (Xr0.out.kept hg2 nkr0.out)
        replace Oq := Hid.mk (own_kept Oq.out hg2 (own_ne Oq.out h.out (by decide)))
        replace hg := Hid.mk (hg.out.trans hg2)
        replace h := Hid.mk h1
        clear hg2 h1 e2
        have ⟨zr0, pr0, fr0⟩ := Xr0.out.at
        go_wp2_with fail
        clear zr0 pr0 fr0
        replace Oq : Hid ((W7.setCell ⟨kr0, 1, none⟩ (.int .u64 y2)).ownsRow w.heap.size 93 6 (.slice la L.length lc) L.length (L.flatMap PRoot.vals)) := Hid.mk (own_kept Oq.out (grown_set W7 kr0 1 (.int .u64 y2)) noqr0.out)
        replace Xx : Hid (Box (W7.setCell ⟨kr0, 1, none⟩ (.int .u64 y2)) w.heap.size #[.slice none 0 0, .slice none 0 0] 57) := Hid.mk (Box.setRow_other (cs := [.int .u64 y2]) (j := 1) Xx.out nnxr0.out.symm)
        replace Xu : Hid (Box (W7.setCell ⟨kr0, 1, none⟩ (.int .u64 y2)) ku #[.slice la L.length lc, .slice none 0 0] 57) := Hid.mk (Box.setRow_other (cs := [.int .u64 y2]) (j := 1) Xu.out nnur0.out.symm)
        replace Xr0 : Hid (Box (W7.setCell ⟨kr0, 1, none⟩ (.int .u64 y2)) kr0 #[.int .i64 y1, .int .u64 y2, .int .u64 0, .int .u64 0, .int .u8 0, .int .i64 0] 93) := Hid.mk (by have q := Xr0.out.set 1 (.int .u64 y2); simpa using q)
        replace h : Hid (DIn (W7.setCell ⟨kr0, 1, none⟩ (.int .u64 y2)) kr S s2) := Hid.mk (Box.setRow_other (cs := [.int .u64 y2]) (j := 1) h.out nkr0.out)
        replace hg : Hid (w.grownBy (W7.setCell ⟨kr0, 1, none⟩ (.int .u64 y2)) (some kr)) := Hid.mk (grown_row [.int .u64 y2] (j := 1) hg.out lr0.out)
        generalize (W7.setCell ⟨kr0, 1, none⟩ (.int .u64 y2)) = W8 at *
        refine (e3 _ h.out).mono ?_
        rintro x W9 ⟨rfl, h1, hg2⟩
        replace Xx := Hid.mk (Xx.out.kept hg2 nkx.out)
        replace Xu := Hid.mk (Xu.out.kept hg2 nku.out)
        replace Xr0 := Hid.mk (Xr0.out.kept hg2 nkr0.out)
        replace Oq := Hid.mk (own_kept Oq.out hg2 (own_ne Oq.out h.out (by decide)))
        replace hg := Hid.mk (hg.out.trans hg2)
        replace h := Hid.mk h1
        clear hg2 h1 e3
        have ⟨zr0, pr0, fr0⟩ := Xr0.out.at
        go_wp2_with fail
        clear zr0 pr0 fr0
        replace Oq : Hid ((W9.setCell ⟨kr0, 2, none⟩ (.int .u64 y3)).ownsRow w.heap.size 93 6 (.slice la L.length lc) L.length (L.flatMap PRoot.vals)) := Hid.mk (own_kept Oq.out (grown_set W9 kr0 2 (.int .u64 y3)) noqr0.out)
        replace Xx : Hid (Box (W9.setCell ⟨kr0, 2, none⟩ (.int .u64 y3)) w.heap.size #[.slice none 0 0, .slice none 0 0] 57) := Hid.mk (Box.setRow_other (cs := [.int .u64 y3]) (j := 2) Xx.out nnxr0.out.symm)
        replace Xu : Hid (Box (W9.setCell ⟨kr0, 2, none⟩ (.int .u64 y3)) ku #[.slice la L.length lc, .slice none 0 0] 57) := Hid.mk (Box.setRow_other (cs := [.int .u64 y3]) (j := 2) Xu.out nnur0.out.symm)
        replace Xr0 : Hid (Box (W9.setCell ⟨kr0, 2, none⟩ (.int .u64 y3)) kr0 #[.int .i64 y1, .int .u64 y2, .int .u64 y3, .int .u64 0, .int .u8 0, .int .i64 0] 93) := Hid.mk (by have q := Xr0.out.set 2 (.int .u64 y3); simpa using q)
        replace h : Hid (DIn (W9.setCell ⟨kr0, 2, none⟩ (.int .u64 y3)) kr S s3) := Hid.mk (Box.setRow_other (cs := [.int .u64 y3]) (j := 2) h.out nkr0.out)
        replace hg : Hid (w.grownBy (W9.setCell ⟨kr0, 2, none⟩ (.int .u64 y3)) (some kr)) := Hid.mk (grown_row [.int .u64 y3] (j := 2) hg.out lr0.out)
        generalize (W9.setCell ⟨kr0, 2, none⟩ (.int .u64 y3)) = W10 at *
        refine (e4 _ h.out).mono ?_
        rintro x W11 ⟨rfl, h1, hg2⟩
        replace Xx := Hid.mk (Xx.out.kept hg2 nkx.out)
        replace Xu := Hid.mk (Xu.out.kept hg2 nku.out)
        replace Xr0 := Hid.mk (Xr0.out.kept hg2 nkr0.out)
        replace Oq := Hid.mk (own_kept Oq.out hg2 (own_ne Oq.out h.out (by decide)))
        replace hg := Hid.mk (hg.out.trans hg2)
        replace h := Hid.mk h1
        clear hg2 h1 e4
        have ⟨zr0, pr0, fr0⟩ := Xr0.out.at
        go_wp2_with fail
        clear zr0 pr0 fr0
        replace Oq : Hid ((W11.setCell ⟨kr0, 3, none⟩ (.int .u64 y4)).ownsRow w.heap.size 93 6 (.slice la L.length lc) L.length (L.flatMap PRoot.vals)) := Hid.mk (own_kept Oq.out (grown_set W11 kr0 3 (.int .u64 y4)) noqr0.out)
        replace Xx : Hid (Box (W11.setCell ⟨kr0, 3, none⟩ (.int .u64 y4)) w.heap.size #[.slice none 0 0, .slice none 0 0] 57) := Hid.mk (Box.setRow_other (cs := [.int .u64 y4]) (j := 3) Xx.out nnxr0.out.symm)
        replace Xu : Hid (Box (W11.setCell ⟨kr0, 3, none⟩ (.int .u64 y4)) ku #[.slice la L.length lc, .slice none 0 0] 57) := Hid.mk (Box.setRow_other (cs := [.int .u64 y4]) (j := 3) Xu.out nnur0.out.symm)
        replace Xr0 : Hid (Box (W11.setCell ⟨kr0, 3, none⟩ (.int .u64 y4)) kr0 #[.int .i64 y1, .int .u64 y2, .int .u64 y3, .int .u64 y4, .int .u8 0, .int .i64 0] 93) := Hid.mk (by have q := Xr0.out.set 3 (.int .u64 y4); simpa using q)
        replace h : Hid (DIn (W11.setCell ⟨kr0, 3, none⟩ (.int .u64 y4)) kr S s4) := Hid.mk (Box.setRow_other (cs := [.int .u64 y4]) (j := 3) h.out nkr0.out)
        replace hg : Hid (w.grownBy (W11.setCell ⟨kr0, 3, none⟩ (.int .u64 y4)) (some kr)) := Hid.mk (grown_row [.int .u64 y4] (j := 3) hg.out lr0.out)
        generalize (W11.setCell ⟨kr0, 3, none⟩ (.int .u64 y4)) = W12 at *
        refine (e5 _ h.out).mono ?_
        rintro x W13 ⟨rfl, h1, hg2⟩
        replace Xx := Hid.mk (Xx.out.kept hg2 nkx.out)
        replace Xu := Hid.mk (Xu.out.kept hg2 nku.out)
        replace Xr0 := Hid.mk (Xr0.out.kept hg2 nkr0.out)
        replace Oq := Hid.mk (own_kept Oq.out hg2 (own_ne Oq.out h.out (by decide)))
        replace hg := Hid.mk (hg.out.trans hg2)
        replace h := Hid.mk h1
        clear hg2 h1 e5
        have ⟨zr0, pr0, fr0⟩ := Xr0.out.at
        go_wp2_with fail
        clear zr0 pr0 fr0
        replace Oq : Hid ((W13.setCell ⟨kr0, 4, none⟩ (.int .u8 y5)).ownsRow w.heap.size 93 6 (.slice la L.length lc) L.length (L.flatMap PRoot.vals)) := Hid.mk (own_kept Oq.out (grown_set W13 kr0 4 (.int .u8 y5)) noqr0.out)
        replace Xx : Hid (Box (W13.setCell ⟨kr0, 4, none⟩ (.int .u8 y5)) w.heap.size #[.slice none 0 0, .slice none 0 0] 57) := Hid.mk (Box.setRow_other (cs := [.int .u8 y5]) (j := 4) Xx.out nnxr0.out.symm)
        replace Xu : Hid (Box (W13.setCell ⟨kr0, 4, none⟩ (.int .u8 y5)) ku #[.slice la L.length lc, .slice none 0 0] 57) := Hid.mk (Box.setRow_other (cs := [.int .u8 y5]) (j := 4) Xu.out nnur0.out.symm)
        replace Xr0 : Hid (Box (W13.setCell ⟨kr0, 4, none⟩ (.int .u8 y5)) kr0 #[.int .i64 y1, .int .u64 y2, .int .u64 y3, .int .u64 y4, .int .u8 y5, .int .i64 0] 93) := Hid.mk (by have q := Xr0.out.set 4 (.int .u8 y5); simpa using q)
        replace h : Hid (DIn (W13.setCell ⟨kr0, 4, none⟩ (.int .u8 y5)) kr S s5) := Hid.mk (Box.setRow_other (cs := [.int .u8 y5]) (j := 4) h.out nkr0.out)
        replace hg : Hid (w.grownBy (W13.setCell ⟨kr0, 4, none⟩ (.int .u8 y5)) (some kr)) := Hid.mk (grown_row [.int .u8 y5] (j := 4) hg.out lr0.out)
        generalize (W13.setCell ⟨kr0, 4, none⟩ (.int .u8 y5)) = W14 at *
        refine (e6 _ h.out).mono ?_
        rintro x W15 ⟨rfl, h1, hg2⟩
        replace Xx := Hid.mk (Xx.out.kept hg2 nkx.out)
        replace Xu := Hid.mk (Xu.out.kept hg2 nku.out)
        replace Xr0 := Hid.mk (Xr0.out.kept hg2 nkr0.out)
        replace Oq := Hid.mk (own_kept Oq.out hg2 (own_ne Oq.out h.out (by decide)))
        replace hg := Hid.mk (hg.out.trans hg2)
        replace h := Hid.mk h1
        clear hg2 h1 e6
        have ⟨zr0, pr0, fr0⟩ := Xr0.out.at
        go_upto_region 12 with fail
        clear zr0 pr0 fr0
        replace Oq : Hid ((W15.setCell ⟨kr0, 5, none⟩ (.int .i64 y6)).ownsRow w.heap.size 93 6 (.slice la L.length lc) L.length (L.flatMap PRoot.vals)) := Hid.mk (own_kept Oq.out (grown_set W15 kr0 5 (.int .i64 y6)) noqr0.out)
        replace Xx : Hid (Box (W15.setCell ⟨kr0, 5, none⟩ (.int .i64 y6)) w.heap.size #[.slice none 0 0, .slice none 0 0] 57) := Hid.mk (Box.setRow_other (cs := [.int .i64 y6]) (j := 5) Xx.out nnxr0.out.symm)
        replace Xu : Hid (Box (W15.setCell ⟨kr0, 5, none⟩ (.int .i64 y6)) ku #[.slice la L.length lc, .slice none 0 0] 57) := Hid.mk (Box.setRow_other (cs := [.int .i64 y6]) (j := 5) Xu.out nnur0.out.symm)
        replace Xr0 : Hid (Box (W15.setCell ⟨kr0, 5, none⟩ (.int .i64 y6)) kr0 #[.int .i64 y1, .int .u64 y2, .int .u64 y3, .int .u64 y4, .int .u8 y5, .int .i64 y6] 93) := Hid.mk (by have q := Xr0.out.set 5 (.int .i64 y6); simpa using q)
        replace h : Hid (DIn (W15.setCell ⟨kr0, 5, none⟩ (.int .i64 y6)) kr S s6) := Hid.mk (Box.setRow_other (cs := [.int .i64 y6]) (j := 5) h.out nkr0.out)
        replace hg : Hid (w.grownBy (W15.setCell ⟨kr0, 5, none⟩ (.int .i64 y6)) (some kr)) := Hid.mk (grown_row [.int .i64 y6] (j := 5) hg.out lr0.out)
        generalize (W15.setCell ⟨kr0, 5, none⟩ (.int .i64 y6)) = W16 at *
        have ⟨zr0, pr0, fr0⟩ := Xr0.out.at
        have ⟨zu, pu, fu⟩ := Xu.out.at
        clear Xr0
        have hA : At (W16.alloc (.cells #[.int .i64 y1, .int .u64 y2, .int .u64 y3, .int .u64 y4, .int .u8 y5, .int .i64 y6] 93)) W16.heap.size [Value.int .i64 y1, .int .u64 y2, .int .u64 y3, .int .u64 y4, .int .u8 y5, .int .i64 y6].toArray := At.new _ _ _
        replace Xx := Hid.mk (Xx.out.alloc (.cells #[.int .i64 y1, .int .u64 y2, .int .u64 y3, .int .u64 y4, .int .u8 y5, .int .i64 y6] 93))
        replace Xu := Hid.mk (Xu.out.alloc (.cells #[.int .i64 y1, .int .u64 y2, .int .u64 y3, .int .u64 y4, .int .u8 y5, .int .i64 y6] 93))
        replace Oq := Hid.mk (own_below Oq.out ((Gr.refl W16).alloc (.cells #[.int .i64 y1, .int .u64 y2, .int .u64 y3, .int .u64 y4, .int .u8 y5, .int .i64 y6] 93)).below)
        replace h : Hid (DIn (W16.alloc (.cells #[.int .i64 y1, .int .u64 y2, .int .u64 y3, .int .u64 y4, .int .u8 y5, .int .i64 y6] 93)) kr S s6) := Hid.mk (h.out.alloc _)
        replace hg := Hid.mk (hg.out.trans (grown_of ((Gr.refl W16).alloc (.cells #[.int .i64 y1, .int .u64 y2, .int .u64 y3, .int .u64 y4, .int .u8 y5, .int .i64 y6] 93)).below (some kr)))
        have hs := Hid.mk hg.out.size
        replace hA := Hid.mk hA
        go_wp2_with (at_builtin; refine wpList_append_el rfl (.tmp 50) (.tmp 52) 54 93 _ 6 48 rfl Tryd.underlying54 infoRoot rfl (by decide) (by decide) w.heap.size (.slice la L.length lc) L.length (L.flatMap PRoot.vals) [Value.int .i64 y1, .int .u64 y2, .int .u64 y3, .int .u64 y4, .int .u8 y5, .int .i64 y6] rfl Oq.out W16.heap.size rfl hA.out rfl (by simp [Value.oneCell']) (by have := hL.out; omega) hs.out ?_)
        intro g c w5 hrow hgr
        replace Xx := Hid.mk (Box.keptRow Xx.out hgr (own_ne Oq.out Xx.out (by decide)))
        replace Xu := Hid.mk (Box.keptRow Xu.out hgr (own_ne Oq.out Xu.out (by decide)))
        replace h : Hid (DIn w5 kr S s6) := Hid.mk (Box.keptRow h.out hgr (own_ne Oq.out h.out (by decide)))
        replace hg := Hid.mk (hg.out.andThen hgr (fun i hq => .inl (own_block Oq.out i hq).1))
        replace Oq := Hid.mk hrow
        clear hgr hA hs hrow
        clear zr0 pr0 fr0 zu pu fu
        have ⟨zu, pu, fu⟩ := Xu.out.at
        replace Oq : Hid ((w5.setCell ⟨ku, 0, none⟩ (.slice (some ⟨g, 0, none⟩) (L.length + 1) c)).ownsRow w.heap.size 93 6 (.slice (some ⟨g, 0, none⟩) (L.length + 1) c) (L.length + 1) ((L.flatMap PRoot.vals) ++ [Value.int .i64 y1, .int .u64 y2, .int .u64 y3, .int .u64 y4, .int .u8 y5, .int .i64 y6])) := Hid.mk (own_row [.slice (some ⟨g, 0, none⟩) (L.length + 1) c] (j := 0) Oq.out Xu.out (by decide))
        replace Xx : Hid (Box (w5.setCell ⟨ku, 0, none⟩ (.slice (some ⟨g, 0, none⟩) (L.length + 1) c)) w.heap.size #[.slice none 0 0, .slice none 0 0] 57) := Hid.mk (Box.setRow_other (cs := [.slice (some ⟨g, 0, none⟩) (L.length + 1) c]) (j := 0) Xx.out nnxu.out.symm)
        replace Xu : Hid (Box (w5.setCell ⟨ku, 0, none⟩ (.slice (some ⟨g, 0, none⟩) (L.length + 1) c)) ku #[.slice (some ⟨g, 0, none⟩) (L.length + 1) c, .slice none 0 0] 57) := Hid.mk (by have q := Xu.out.set 0 (.slice (some ⟨g, 0, none⟩) (L.length + 1) c); simpa using q)
        replace h : Hid (DIn (w5.setCell ⟨ku, 0, none⟩ (.slice (some ⟨g, 0, none⟩) (L.length + 1) c)) kr S s6) := Hid.mk (Box.setRow_other (cs := [.slice (some ⟨g, 0, none⟩) (L.length + 1) c]) (j := 0) h.out nku.out)
        replace hg : Hid (w.grownBy (w5.setCell ⟨ku, 0, none⟩ (.slice (some ⟨g, 0, none⟩) (L.length + 1) c)) (some kr)) := Hid.mk (grown_row [.slice (some ⟨g, 0, none⟩) (L.length + 1) c] (j := 0) hg.out lu.out)
        go_wp2_with fail
        go_roundw
        case rel => exact ⟨m - 1, L ++ [⟨y1, y2, y3, y4, y5, y6⟩], s6, some ⟨g, 0, none⟩, c, rfl, by omega, ⟨Xx.out, by rw [List.length_append]; exact Xu.out, by rw [List.length_append, List.flatMap_append]; exact Oq.out, by have := hL.out; rw [List.length_append]; simp only [List.length_cons, List.length_nil]; omega, h.out, hi6, hg.out, hF1.out⟩⟩
        case measure => simp [intOf]; omega
      | false =>
        obtain ⟨r1, r2⟩ := hF.out.done (hb2.out rfl)
        subst r1
        replace r2 := Hid.mk r2
        clear hb1 hb2 hF hi hL
        go_wp2_with fail
        refine (c3 _ h.out).mono ?_
        rintro x W4 ⟨rfl, h1, hg2⟩
        replace Xx := Hid.mk (Xx.out.kept hg2 nkx.out)
        replace Xu := Hid.mk (Xu.out.kept hg2 nku.out)
        replace Oq := Hid.mk (own_kept Oq.out hg2 (own_ne Oq.out h.out (by decide)))
        replace hg := Hid.mk (hg.out.trans hg2)
        replace h := Hid.mk h1
        clear hg2 h1 c3
        go_upto_region 14 with fail
        go_loopw [6] (fun i wr => ∃ (m : Nat) (K : List Ins) (τ : RS) (ka : Option Addr) (kc : Nat), i = .int .i64 m ∧ m ≤ n2 ∧ Hid (Box wr w.heap.size #[.slice none 0 0, .slice none 0 0] 57 ∧ Box wr ku #[.slice la L.length lc, .slice ka K.length kc] 57 ∧ wr.ownsRow w.heap.size 93 6 (.slice la L.length lc) L.length (L.flatMap PRoot.vals) ∧ wr.ownsRow w.heap.size 74 5 (.slice ka K.length kc) K.length (flat K) ∧ K.length + m ≤ n2 ∧ DIn wr kr S τ ∧ τ.In S ∧ w.grownBy wr (some kr) ∧ cdF S m τ K = R2)) (fun i _ => (intOf i).toNat)
        case atStart => exact ⟨n2, [], σ4, none, 0, rfl, by omega, ⟨Xx.out, Xu.out, Oq.out, ⟨rfl, .inl ⟨rfl, rfl⟩⟩, by simp, h.out, i4, hg.out, hR2.out⟩⟩
        case round =>
          clear Xx Xu h hg Oq i4 hR2 hm
          obtain ⟨m2, K, τ, ka, kc, rfl, hm, ⟨Xx, Xu, Oq, Ok, hL, h, hi, hg, hF⟩⟩ := hrel
          replace Xx := Hid.mk Xx
          replace Xu := Hid.mk Xu
          replace Oq := Hid.mk Oq
          replace Ok := Hid.mk Ok
          replace h := Hid.mk h
          replace hg := Hid.mk hg
          replace hF := Hid.mk hF
          replace hL := Hid.mk hL
          go_upto_region 14 with fail
          go_cut [65] (fun v wx => (∃ b : Bool, v = .bool b ∧ Hid (b = true → 0 < m2 ∧ τ.e = 0) ∧ Hid (b = false → m2 = 0 ∨ τ.e ≠ 0)) ∧ wr = wx)
          case first =>
            by_cases hm0 : 0 < m2
            · have jl : (0 : Int) < m2 := by omega
              have ⟨zh, ph, fh⟩ := h.out.at
              by_cases he : τ.e = 0
              · have he' : (τ.e == 0) = true := by simpa using he
                replace he := Hid.mk he
                go_wp2_with fail
                go_meet
                exact ⟨⟨true, rfl, Hid.mk (fun _ => ⟨hm0, he.out⟩), Hid.mk (fun q => by cases q)⟩, rfl⟩
              · have he' : (τ.e == 0) = false := by simpa using he
                replace he := Hid.mk he
                go_wp2_with fail
                go_meet
                exact ⟨⟨false, rfl, Hid.mk (fun q => by cases q), Hid.mk (fun _ => .inr he.out)⟩, rfl⟩
            · have jl : ¬ (0 : Int) < m2 := by omega
              go_wp2_with fail
              go_meet
              exact ⟨⟨false, rfl, Hid.mk (fun q => by cases q), Hid.mk (fun _ => .inl (by omega))⟩, rfl⟩
          case rest =>
            obtain ⟨⟨b, hb, hb1, hb2⟩, hwx⟩ := hcut
            subst hwx
            subst hb
            cases b with
            | false =>
              have rr := cdF_done hF.out (hb2.out rfl)
              replace rr := Hid.mk rr
              clear hb1 hb2 hF hL
              have ⟨zx, px, fx⟩ := Xx.out.at
              have ⟨zu, pu, fu⟩ := Xu.out.at
              go_wp2_with fail
              have O4q : ((wr.setCell ⟨w.heap.size, 0, none⟩ (.slice la L.length lc)).setCell ⟨w.heap.size, 1, none⟩ (.slice ka K.length kc)).ownsRow w.heap.size 93 6 (.slice la L.length lc) L.length (L.flatMap PRoot.vals) := own_row [.slice la L.length lc, .slice ka K.length kc] (j := 0) Oq.out Xx.out (by decide)
              have O4k : ((wr.setCell ⟨w.heap.size, 0, none⟩ (.slice la L.length lc)).setCell ⟨w.heap.size, 1, none⟩ (.slice ka K.length kc)).ownsRow w.heap.size 74 5 (.slice ka K.length kc) K.length (flat K) := own_row [.slice la L.length lc, .slice ka K.length kc] (j := 0) Ok.out Xx.out (by decide)
              have b4 : Box ((wr.setCell ⟨w.heap.size, 0, none⟩ (.slice la L.length lc)).setCell ⟨w.heap.size, 1, none⟩ (.slice ka K.length kc)) w.heap.size #[.slice la L.length lc, .slice ka K.length kc] 57 := Box.setRow Xx.out [.slice la L.length lc, .slice ka K.length kc] rfl
              have h4 : DIn ((wr.setCell ⟨w.heap.size, 0, none⟩ (.slice la L.length lc)).setCell ⟨w.heap.size, 1, none⟩ (.slice ka K.length kc)) kr S τ := Box.setRow_other (cs := [.slice la L.length lc, .slice ka K.length kc]) (j := 0) h.out nkx.out
              have hg4 : w.grownBy ((wr.setCell ⟨w.heap.size, 0, none⟩ (.slice la L.length lc)).setCell ⟨w.heap.size, 1, none⟩ (.slice ka K.length kc)) (some kr) := grown_row [.slice la L.length lc, .slice ka K.length kc] (j := 0) hg.out lx.out
              have ⟨_, q4, _⟩ := b4.at
              clear b4 h hg Xx Xu Oq Ok
              generalize ((wr.setCell ⟨w.heap.size, 0, none⟩ (.slice la L.length lc)).setCell ⟨w.heap.size, 1, none⟩ (.slice ka K.length kc)) = W4 at *
              simp [bodyPost, results, Tryd.results16, go_sem, q4]
              have hlk2 := hlk.out
              have hcp2 := hcp.out
              rw [rr.out] at hlk2 hcp2
              exact ⟨⟨L, K⟩, la, lc, ka, kc, ⟨⟨rfl, rfl, rfl⟩, rfl, rfl, rfl⟩, O4q, O4k, τ, h4, hg4, hlk2, hi, fun q => by rw [(hcp2 q).2, r2.out (hcp2 q).1]⟩
            | true =>
              obtain ⟨hm1, he⟩ := hb1.out rfl
              clear hb1 hb2
              have hdw := dec_w (m := m2) hm1 (by omega)
              have hF1 := cdF_step hF.out hm1 he
              have hi1 := oneS_in hi
              have hl1 := oneL_len S τ
              have ct := fun W h1 => dtake_any S kr 8 τ W h1 hi hS2 (by omega)
              have hl8 := takeV_len S 8 τ
              have cd := fun W => refDecode_any (takeV S 8 τ) W (by unfold maxI; omega)
              have cf := fun W h1 => dno_any S kr (takeS S 8 τ) (decA (takeV S 8 τ)).2.1 τ.i W h1
              unfold oneS at hF1 hi1
              have hol : oneL S τ = (decA (takeV S 8 τ)).1 := rfl
              rw [hol] at hF1 hl1
              clear hol hl8 hF he hi
              generalize decA (takeV S 8 τ) = D at *
              generalize takeV S 8 τ = T at *
              generalize takeS S 8 τ = τ1 at *
              obtain ⟨M, ee, pp⟩ := D
              simp only at hF1 hl1 hi1 cd cf
              replace hF1 := Hid.mk hF1
              replace hi1 := Hid.mk hi1
              replace hl1 := Hid.mk hl1
              have ⟨zh, ph, fh⟩ := h.out.at
              go_wp2_with fail
              clear zh ph fh
              refine (ct _ h.out).mono ?_
              rintro x W5 ⟨rfl, h1, hg2⟩
              replace Xx := Hid.mk (Xx.out.kept hg2 nkx.out)
              replace Xu := Hid.mk (Xu.out.kept hg2 nku.out)
              replace Oq := Hid.mk (own_kept Oq.out hg2 (own_ne Oq.out h.out (by decide)))
              replace Ok := Hid.mk (own_kept Ok.out hg2 (own_ne Ok.out h.out (by decide)))
              replace hg := Hid.mk (hg.out.trans hg2)
              replace h := Hid.mk h1
              clear hg2 h1 ct
              go_wp2_with fail
              refine (cd W5).mono ?_
              rintro x W6 ⟨v, rfl, hV, hB⟩
              replace Xx := Hid.mk (Xx.out.below hB Xx.out.lt)
              replace Xu := Hid.mk (Xu.out.below hB Xu.out.lt)
              replace Oq := Hid.mk (own_below Oq.out hB)
              replace Ok := Hid.mk (own_below Ok.out hB)
              replace h : Hid (DIn W6 kr S τ1) := Hid.mk (Box.below h.out hB h.out.lt)
              replace hg := Hid.mk (hg.out.trans (grown_of hB (some kr)))
              obtain ⟨va, vc, rfl⟩ := own_slice hV
              replace hV := Hid.mk hV
              clear hB cd
              by_cases hz : ee = 0
              · rw [if_pos hz] at hF1 hi1
                subst hz
                clear cf
                have ⟨zu, pu, fu⟩ := Xu.out.at
                have hs := Hid.mk hg.out.size
                obtain ⟨va2, vc2, hve, hM⟩ := LOwn.form hV.out
                injection hve with hv1 hv2 hv3
                subst hv1
                subst hv3
                replace hM := Hid.mk hM
                clear hv2
                go_wp2_with (at_builtin; refine wpList_append_list rfl (.tmp 87) (.tmp 88) rfl w.heap.size (.slice ka K.length kc) K M rfl Ok.out va vc rfl _ hM.out (by have := hL.out; have := hl1.out; unfold maxI; omega) hs.out ?_)
                intro v' w5 hrow hgr hwh
                obtain ⟨g, c, rfl⟩ := own_slice hrow
                have hln : (K ++ M).length = K.length + M.length := List.length_append
                unfold LOwn at hrow
                rw [hln] at hrow
                rw [hln]
                clear hln
                replace Xx := Hid.mk (Box.keptRow Xx.out hgr (own_ne Ok.out Xx.out (by decide)))
                replace Xu := Hid.mk (Box.keptRow Xu.out hgr (own_ne Ok.out Xu.out (by decide)))
                replace Oq := Hid.mk (own_ty Oq.out hgr (tyNe_own Ok.out (by decide)))
                replace h : Hid (DIn w5 kr S τ1) := Hid.mk (Box.keptRow h.out hgr (own_ne Ok.out h.out (by decide)))
                replace hg := Hid.mk (hg.out.andThen hgr (fun i hq => .inl (own_block Ok.out i hq).1))
                replace Ok := Hid.mk hrow
                clear hgr hs hrow hwh hM hV zu pu fu
                have ⟨zu, pu, fu⟩ := Xu.out.at
                replace Oq : Hid ((w5.setCell ⟨ku, 1, none⟩ (.slice g (K.length + M.length) c)).ownsRow w.heap.size 93 6 (.slice la L.length lc) L.length (L.flatMap PRoot.vals)) := Hid.mk (own_row [.slice g (K.length + M.length) c] (j := 1) Oq.out Xu.out (by decide))
                replace Ok : Hid ((w5.setCell ⟨ku, 1, none⟩ (.slice g (K.length + M.length) c)).ownsRow w.heap.size 74 5 (.slice g (K.length + M.length) c) (K.length + M.length) (flat (K ++ M))) := Hid.mk (own_row [.slice g (K.length + M.length) c] (j := 1) Ok.out Xu.out (by decide))
                replace Xx : Hid (Box (w5.setCell ⟨ku, 1, none⟩ (.slice g (K.length + M.length) c)) w.heap.size #[.slice none 0 0, .slice none 0 0] 57) := Hid.mk (Box.setRow_other (cs := [.slice g (K.length + M.length) c]) (j := 1) Xx.out nnxu.out.symm)
                replace Xu : Hid (Box (w5.setCell ⟨ku, 1, none⟩ (.slice g (K.length + M.length) c)) ku #[.slice la L.length lc, .slice g (K.length + M.length) c] 57) := Hid.mk (by have q := Xu.out.set 1 (.slice g (K.length + M.length) c); simpa using q)
                replace h : Hid (DIn (w5.setCell ⟨ku, 1, none⟩ (.slice g (K.length + M.length) c)) kr S τ1) := Hid.mk (Box.setRow_other (cs := [.slice g (K.length + M.length) c]) (j := 1) h.out nku.out)
                replace hg : Hid (w.grownBy (w5.setCell ⟨ku, 1, none⟩ (.slice g (K.length + M.length) c)) (some kr)) := Hid.mk (grown_row [.slice g (K.length + M.length) c] (j := 1) hg.out lu.out)
                go_wp2_with fail
                go_roundw
                case rel => exact ⟨m2 - 1, K ++ M, τ1, g, c, rfl, by omega, ⟨Xx.out, by rw [List.length_append]; exact Xu.out, Oq.out, by rw [List.length_append]; exact Ok.out, by have := hL.out; have := hl1.out; rw [List.length_append]; omega, h.out, hi1.out, hg.out, hF1.out⟩⟩
                case measure => simp [intOf]; omega
              rw [if_neg hz] at hF1 hi1
              have hz' : (ee != 0) = true := by simpa using hz
              replace hz := Hid.mk hz
              generalize failS ee τ.i τ1 = τ3 at *
              go_wp2_with fail
              refine (cf _ h.out).mono ?_
              rintro x W7 ⟨rfl, h1, hg2⟩
              replace hV := Hid.mk (own_kept hV.out hg2 (own_ne hV.out h.out (by decide)))
              replace Xx := Hid.mk (Xx.out.kept hg2 nkx.out)
              replace Xu := Hid.mk (Xu.out.kept hg2 nku.out)
              replace Oq := Hid.mk (own_kept Oq.out hg2 (own_ne Oq.out h.out (by decide)))
              replace Ok := Hid.mk (own_kept Ok.out hg2 (own_ne Ok.out h.out (by decide)))
              replace hg := Hid.mk (hg.out.trans hg2)
              replace h := Hid.mk h1
              clear hg2 h1 cf
              have ⟨zu, pu, fu⟩ := Xu.out.at
              have hs := Hid.mk hg.out.size
              obtain ⟨va2, vc2, hve, hM⟩ := LOwn.form hV.out
              injection hve with hv1 hv2 hv3
              subst hv1
              subst hv3
              replace hM := Hid.mk hM
              clear hv2
              go_wp2_with (at_builtin; refine wpList_append_list rfl (.tmp 87) (.tmp 88) rfl w.heap.size (.slice ka K.length kc) K M rfl Ok.out va vc rfl _ hM.out (by have := hL.out; have := hl1.out; unfold maxI; omega) hs.out ?_)
              intro v' w5 hrow hgr hwh
              obtain ⟨g, c, rfl⟩ := own_slice hrow
              have hln : (K ++ M).length = K.length + M.length := List.length_append
              unfold LOwn at hrow
              rw [hln] at hrow
              rw [hln]
              clear hln
              replace Xx := Hid.mk (Box.keptRow Xx.out hgr (own_ne Ok.out Xx.out (by decide)))
              replace Xu := Hid.mk (Box.keptRow Xu.out hgr (own_ne Ok.out Xu.out (by decide)))
              replace Oq := Hid.mk (own_ty Oq.out hgr (tyNe_own Ok.out (by decide)))
              replace h : Hid (DIn w5 kr S τ3) := Hid.mk (Box.keptRow h.out hgr (own_ne Ok.out h.out (by decide)))
              replace hg := Hid.mk (hg.out.andThen hgr (fun i hq => .inl (own_block Ok.out i hq).1))
              replace Ok := Hid.mk hrow
              clear hgr hs hrow hwh hM hV zu pu fu
              have ⟨zu, pu, fu⟩ := Xu.out.at
              replace Oq : Hid ((w5.setCell ⟨ku, 1, none⟩ (.slice g (K.length + M.length) c)).ownsRow w.heap.size 93 6 (.slice la L.length lc) L.length (L.flatMap PRoot.vals)) := Hid.mk (own_row [.slice g (K.length + M.length) c] (j := 1) Oq.out Xu.out (by decide))
              replace Ok : Hid ((w5.setCell ⟨ku, 1, none⟩ (.slice g (K.length + M.length) c)).ownsRow w.heap.size 74 5 (.slice g (K.length + M.length) c) (K.length + M.length) (flat (K ++ M))) := Hid.mk (own_row [.slice g (K.length + M.length) c] (j := 1) Ok.out Xu.out (by decide))
              replace Xx : Hid (Box (w5.setCell ⟨ku, 1, none⟩ (.slice g (K.length + M.length) c)) w.heap.size #[.slice none 0 0, .slice none 0 0] 57) := Hid.mk (Box.setRow_other (cs := [.slice g (K.length + M.length) c]) (j := 1) Xx.out nnxu.out.symm)
              replace Xu : Hid (Box (w5.setCell ⟨ku, 1, none⟩ (.slice g (K.length + M.length) c)) ku #[.slice la L.length lc, .slice g (K.length + M.length) c] 57) := Hid.mk (by have q := Xu.out.set 1 (.slice g (K.length + M.length) c); simpa using q)
              replace h : Hid (DIn (w5.setCell ⟨ku, 1, none⟩ (.slice g (K.length + M.length) c)) kr S τ3) := Hid.mk (Box.setRow_other (cs := [.slice g (K.length + M.length) c]) (j := 1) h.out nku.out)
              replace hg : Hid (w.grownBy (w5.setCell ⟨ku, 1, none⟩ (.slice g (K.length + M.length) c)) (some kr)) := Hid.mk (grown_row [.slice g (K.length + M.length) c] (j := 1) hg.out lu.out)
              go_wp2_with fail
              go_roundw
              case rel => exact ⟨m2 - 1, K ++ M, τ3, g, c, rfl, by omega, ⟨Xx.out, by rw [List.length_append]; exact Xu.out, Oq.out, by rw [List.length_append]; exact Ok.out, by have := hL.out; have := hl1.out; rw [List.length_append]; omega, h.out, hi1.out, hg.out, hF1.out⟩⟩
              case measure => simp [intOf]; omega
end Go.Proofs.YtdmkedpnkejpbaaDoor
