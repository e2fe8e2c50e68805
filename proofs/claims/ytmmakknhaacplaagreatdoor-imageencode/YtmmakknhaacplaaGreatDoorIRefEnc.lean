import Derived.Test.YtmmakknhaacplaaGreatDoorP30
import Derived.Test.YtmmakknhaacplaaGreatDoorP37
/-
  Stage 3, instr: the document's Encode.
-/
namespace Go.Proofs.YtmmakknhaacplaaGreatDoor
open Go.RowKit

theorem eight_string (vs : List Int) (W : World) (X : Nat) (hl : vs.length = 8) (h : ∀ j (hj : j < vs.length), W.cell? ⟨X, j, none⟩ = some (.int .u8 vs[j])) (hr : ∀ v ∈ vs, 0 ≤ v ∧ v < 256) :
    (convert 58 9 (.slice (some ⟨X, 0, none⟩) 8 8)).run Tryz.prog W = .ok (.string (str (vs.map fun v => UInt8.ofNat v.toNat))) W := by
  have hl2 : (vs.map fun v => UInt8.ofNat v.toNat).length = 8 := by rw [List.length_map, hl]
  have := run_convert_bytes_back (P := Tryz.prog) W 58 9 5 ⟨X, 0, none⟩ 8 (vs.map fun v => UInt8.ofNat v.toNat) Tryz.underlying58 Tryz.underlying5 Tryz.underlying9 fun j hj => by
    have hj' : j < vs.length := by simpa using hj
    have ea : (⟨X, 0, none⟩ : Addr).add j = ⟨X, j, none⟩ := by by_cases h0 : j = 0 <;> simp [Addr.add, h0]
    have hv := hr vs[j] (List.getElem_mem hj')
    rw [ea, h j hj']
    simp only [List.getElem_map]
    rw [byte_back _ hv.1 hv.2]
  rw [hl2] at this
  exact this
/-- Imm as a number without a sign. -/
def nOf (m : Int) : Int := if m < 0 then m + 4294967296 else m
def bytesN (k : Ins) : List Int := [k.op, k.a, k.b, k.c, nOf k.m % 256, nOf k.m / 256 % 256, nOf k.m / 65536 % 256, nOf k.m / 16777216]
theorem bytesN_eq {k : Ins} (h1 : k.op < 256) (h : k.right = 0) : bytesN k = bytesI k := by
  obtain ⟨⟨a0, a1⟩, ⟨b0, b1⟩, ⟨c0, c1⟩, m0, m1⟩ := right_ranges h1 h
  unfold bytesN bytesI nOf
  split
  · rw [show k.a % 256 = k.a by omega, show k.b % 256 = k.b by omega, show k.c % 256 = k.c by omega, show k.m % 4294967296 = k.m + 4294967296 by omega, show (k.m + 4294967296) % 256 = k.m % 256 by omega]
  · rw [show k.a % 256 = k.a by omega, show k.b % 256 = k.b by omega, show k.c % 256 = k.c by omega, show k.m % 4294967296 = k.m by omega]
set_option maxRecDepth 100000 in
set_option maxHeartbeats 4000000 in
theorem refEncode_any (L : List Ins) (cap : Nat) (a : Option Addr) (w : World) (hL : LIn w.heap.size w a L) (ho : OpsIn L) (hlen : L.length ≤ maxI) :
    Calls Tryz.prog 25 #[.slice a L.length cap] w fun x w' => x = .returned (.tuple #[.string (str (encF L 0 []).1), .int .i64 (encF L 0 []).2.1, .int .i64 (encF L 0 []).2.2]) ∧ Below w.heap.size w w' := by
  have hl1 : (L.length : Int) ≤ 3518437208883 := by unfold maxI at hlen; omega
  have ss := str_size
  replace hL := Hid.mk hL
  replace ho := Hid.mk ho
  go_enter Tryz.func25, Tryz.ntmps25
  go_wp2_with fail
  go_loopw [5, 6] (fun v i wr => ∃ (j : Nat) (B : List UInt8), v = .string (str B) ∧ i = .int .i64 j ∧ j ≤ L.length ∧ Hid (B.length = 8 * j ∧ encF (L.drop j) j B = encF L 0 [] ∧ Below w.heap.size w wr)) (fun _ i _ => L.length - (intOf i).toNat)
  case atStart => exact ⟨0, [], rfl, rfl, by omega, ⟨rfl, rfl, Below.refl _ _⟩⟩
  case round =>
    obtain ⟨j, B, rfl, rfl, hj, ⟨hBl, hf, hW⟩⟩ := hrel
    have hws := hW.size
    by_cases hlt : j < L.length
    · obtain ⟨b, off, rfl, hb, hb2, c0, c1, c2, c3, c4⟩ := hL.out.below hW j hlt
      have jl : (j : Int) < L.length := by omega
      have hop := ho.out L[j] (List.getElem_mem hlt)
      have hn := @enc_next L j B hlt
      have hs := @enc_stop L j B hlt
      rw [hf] at hn hs
      generalize L[j] = k at *
      have hR := refRight_any k.op k.a k.b k.c k.m wr hop.1 hop.2
      rw [right_doc _ _ _ _ _ hop.1 hop.2] at hR
      have hR2 : k.right = rightF k.op k.a k.b k.c k.m := rfl
      rw [← hR2] at hR
      clear hR2
      replace hf := Hid.mk hf
      replace hn := Hid.mk hn
      replace hs := Hid.mk hs
      replace hBl := Hid.mk hBl
      replace hW := Hid.mk hW
      by_cases hk : k.right = 0
      · have e0 : (k.right != 0) = false := by simpa using hk
        obtain ⟨⟨a0, a1⟩, ⟨b0, b1⟩, ⟨d0, d1⟩, m0, m1⟩ := right_ranges hop.2 hk
        have hbe := Hid.mk (bytesN_eq hop.2 hk)
        replace hn := Hid.mk (hn.out hk)
        replace hk := Hid.mk hk
        clear hs
        go_wp2_with fail
        refine hR.mono ?_
        rintro x w2 ⟨rfl, hG⟩
        have hW2 := Hid.mk (hW.out.trans (hG.below.mono hws))
        have hb3 : b < w2.heap.size := Nat.lt_of_lt_of_le hb2 hG.below.size
        have f5 : Five w2 b (off + j * 5) k := Five.below ⟨c0, c1, c2, c3, c4⟩ hG.below hb2
        clear c0 c1 c2 c3 c4 hR hG
        obtain ⟨c0, c1, c2, c3, c4⟩ := f5
        by_cases hm : k.m < 0
        · skip
          have g1 : decide (k.m < 0) = true := by simpa using hm
          have hnn : nOf k.m = k.m + 4294967296 := by unfold nOf; rw [if_pos hm]
          have n0 : 0 ≤ k.m + 4294967296 := by omega
          have n1 : k.m + 4294967296 < 4294967296 := by omega
          have hby : bytesOf k = [k.op, k.a, k.b, k.c, (k.m + 4294967296) % 256, (k.m + 4294967296) / 256 % 256, (k.m + 4294967296) / 65536 % 256, (k.m + 4294967296) / 16777216].map fun n => UInt8.ofNat n.toNat := by
            unfold bytesOf
            rw [← hbe.out]
            unfold bytesN
            rw [hnn]
          replace hm := Hid.mk hm
          clear hnn hbe
          go_upto_region 11 with fail
          generalize k.m + 4294967296 = n at *
          have ea : IntKind.u8.wrap k.a = k.a := by rw [IntKind.wrap_u8]; omega
          have eb : IntKind.u8.wrap k.b = k.b := by rw [IntKind.wrap_u8]; omega
          have ec : IntKind.u8.wrap k.c = k.c := by rw [IntKind.wrap_u8]; omega
          have t1 : n.tmod 256 = n % 256 := Int.tmod_eq_emod_of_nonneg n0
          have t2 : n.tdiv 256 = n / 256 := Int.tdiv_eq_ediv_of_nonneg n0
          have t3 : n.tdiv 65536 = n / 65536 := Int.tdiv_eq_ediv_of_nonneg n0
          have t4 : n.tdiv 16777216 = n / 16777216 := Int.tdiv_eq_ediv_of_nonneg n0
          have t5 : IntKind.i64.wrap (n / 256) = n / 256 := by rw [IntKind.wrap_i64]; omega
          have t6 : IntKind.i64.wrap (n / 65536) = n / 65536 := by rw [IntKind.wrap_i64]; omega
          have t7 : IntKind.i64.wrap (n / 16777216) = n / 16777216 := by rw [IntKind.wrap_i64]; omega
          have t8 : (n / 256).tmod 256 = n / 256 % 256 := Int.tmod_eq_emod_of_nonneg (by omega)
          have t9 : (n / 65536).tmod 256 = n / 65536 % 256 := Int.tmod_eq_emod_of_nonneg (by omega)
          have s1 : IntKind.u8.wrap (n % 256) = n % 256 := by rw [IntKind.wrap_u8]; omega
          have s2 : IntKind.u8.wrap (n / 256 % 256) = n / 256 % 256 := by rw [IntKind.wrap_u8]; omega
          have s3 : IntKind.u8.wrap (n / 65536 % 256) = n / 65536 % 256 := by rw [IntKind.wrap_u8]; omega
          have s4 : IntKind.u8.wrap (n / 16777216) = n / 16777216 := by rw [IntKind.wrap_u8]; omega
          have hcv : ∀ (W : World) (X : Nat), W.cell? ⟨X, 0, none⟩ = some (.int .u8 k.op) → W.cell? ⟨X, 1, none⟩ = some (.int .u8 k.a) → W.cell? ⟨X, 2, none⟩ = some (.int .u8 k.b) → W.cell? ⟨X, 3, none⟩ = some (.int .u8 k.c) → W.cell? ⟨X, 4, none⟩ = some (.int .u8 (n % 256)) → W.cell? ⟨X, 5, none⟩ = some (.int .u8 (n / 256 % 256)) → W.cell? ⟨X, 6, none⟩ = some (.int .u8 (n / 65536 % 256)) → W.cell? ⟨X, 7, none⟩ = some (.int .u8 (n / 16777216)) →
              (convert 58 9 (.slice (some ⟨X, 0, none⟩) 8 8)).run Tryz.prog W = .ok (.string (str (bytesOf k))) W := fun W X h0 h1 h2 h3 h4 h5 h6 h7 => by
            rw [hby]
            refine eight_string [k.op, k.a, k.b, k.c, n % 256, n / 256 % 256, n / 65536 % 256, n / 16777216] W X rfl (fun j hj => ?_) (fun v hv => ?_)
            · have : j = 0 ∨ j = 1 ∨ j = 2 ∨ j = 3 ∨ j = 4 ∨ j = 5 ∨ j = 6 ∨ j = 7 := by simp at hj; omega
              rcases this with rfl | rfl | rfl | rfl | rfl | rfl | rfl | rfl <;> assumption
            · simp only [List.mem_cons, List.not_mem_nil, or_false] at hv
              rcases hv with rfl | rfl | rfl | rfl | rfl | rfl | rfl | rfl <;> omega
          have adB := fun W => add_str B (bytesOf k) (by have := hBl.out; rw [bytesOf_length]; omega) W
          clear hby
          obtain ⟨B2, hB2⟩ : ∃ B2, B2 = B ++ bytesOf k := ⟨_, rfl⟩
          rw [← hB2] at adB
          replace hB2 := Hid.mk hB2
          have hbk := Hid.mk (bytesOf_length k)
          generalize bytesOf k = bk at *
          have c5 : ∀ o, (w2.alloc o).cell? ⟨b, off + j * 5, none⟩ = some (.int .u8 k.op) := fun o => (World.cell?_alloc_past o b _ hb3).trans c0
          go_region
          clear ea eb ec t1 t2 t3 t4 t5 t6 t7 t8 t9 s1 s2 s3 s4 hcv adB c5 c0 c1 c2 c3 c4
          have hW3 := Hid.mk (hW2.out.trans ((((Gr.refl w2).alloc (.cells #[.int .u8 k.op, .int .u8 k.a, .int .u8 k.b, .int .u8 k.c, .int .u8 (n % 256), .int .u8 (n / 256 % 256), .int .u8 (n / 65536 % 256), .int .u8 (n / 16777216)] 5)).drew).below.mono hW2.out.size))
          go_wp2_with fail
          go_roundw
          case rel =>
            refine ⟨j + 1, B2, rfl, by simp, by omega, ⟨?_, ?_, hW3.out⟩⟩
            · rw [hB2.out, List.length_append, hbk.out]; have := hBl.out; omega
            · rw [hB2.out]; exact hn.out.symm
          case measure => simp [intOf]; omega
        · skip
          have g1 : decide (k.m < 0) = false := by simpa using hm
          have hnn : nOf k.m = k.m := by unfold nOf; rw [if_neg hm]
          have n0 : 0 ≤ k.m := by omega
          have n1 : k.m < 4294967296 := by omega
          have hby : bytesOf k = [k.op, k.a, k.b, k.c, (k.m) % 256, (k.m) / 256 % 256, (k.m) / 65536 % 256, (k.m) / 16777216].map fun n => UInt8.ofNat n.toNat := by
            unfold bytesOf
            rw [← hbe.out]
            unfold bytesN
            rw [hnn]
          replace hm := Hid.mk hm
          clear hnn hbe
          go_upto_region 11 with fail
          have hkm : (k.m : Int) = k.m := rfl
          obtain ⟨n, hn2⟩ : ∃ n, n = k.m := ⟨_, rfl⟩
          rw [← hn2] at n0 n1 hby ⊢
          rw [← hn2] at c4 m0 m1
          clear hkm hn2
          have ea : IntKind.u8.wrap k.a = k.a := by rw [IntKind.wrap_u8]; omega
          have eb : IntKind.u8.wrap k.b = k.b := by rw [IntKind.wrap_u8]; omega
          have ec : IntKind.u8.wrap k.c = k.c := by rw [IntKind.wrap_u8]; omega
          have t1 : n.tmod 256 = n % 256 := Int.tmod_eq_emod_of_nonneg n0
          have t2 : n.tdiv 256 = n / 256 := Int.tdiv_eq_ediv_of_nonneg n0
          have t3 : n.tdiv 65536 = n / 65536 := Int.tdiv_eq_ediv_of_nonneg n0
          have t4 : n.tdiv 16777216 = n / 16777216 := Int.tdiv_eq_ediv_of_nonneg n0
          have t5 : IntKind.i64.wrap (n / 256) = n / 256 := by rw [IntKind.wrap_i64]; omega
          have t6 : IntKind.i64.wrap (n / 65536) = n / 65536 := by rw [IntKind.wrap_i64]; omega
          have t7 : IntKind.i64.wrap (n / 16777216) = n / 16777216 := by rw [IntKind.wrap_i64]; omega
          have t8 : (n / 256).tmod 256 = n / 256 % 256 := Int.tmod_eq_emod_of_nonneg (by omega)
          have t9 : (n / 65536).tmod 256 = n / 65536 % 256 := Int.tmod_eq_emod_of_nonneg (by omega)
          have s1 : IntKind.u8.wrap (n % 256) = n % 256 := by rw [IntKind.wrap_u8]; omega
          have s2 : IntKind.u8.wrap (n / 256 % 256) = n / 256 % 256 := by rw [IntKind.wrap_u8]; omega
          have s3 : IntKind.u8.wrap (n / 65536 % 256) = n / 65536 % 256 := by rw [IntKind.wrap_u8]; omega
          have s4 : IntKind.u8.wrap (n / 16777216) = n / 16777216 := by rw [IntKind.wrap_u8]; omega
          have hcv : ∀ (W : World) (X : Nat), W.cell? ⟨X, 0, none⟩ = some (.int .u8 k.op) → W.cell? ⟨X, 1, none⟩ = some (.int .u8 k.a) → W.cell? ⟨X, 2, none⟩ = some (.int .u8 k.b) → W.cell? ⟨X, 3, none⟩ = some (.int .u8 k.c) → W.cell? ⟨X, 4, none⟩ = some (.int .u8 (n % 256)) → W.cell? ⟨X, 5, none⟩ = some (.int .u8 (n / 256 % 256)) → W.cell? ⟨X, 6, none⟩ = some (.int .u8 (n / 65536 % 256)) → W.cell? ⟨X, 7, none⟩ = some (.int .u8 (n / 16777216)) →
              (convert 58 9 (.slice (some ⟨X, 0, none⟩) 8 8)).run Tryz.prog W = .ok (.string (str (bytesOf k))) W := fun W X h0 h1 h2 h3 h4 h5 h6 h7 => by
            rw [hby]
            refine eight_string [k.op, k.a, k.b, k.c, n % 256, n / 256 % 256, n / 65536 % 256, n / 16777216] W X rfl (fun j hj => ?_) (fun v hv => ?_)
            · have : j = 0 ∨ j = 1 ∨ j = 2 ∨ j = 3 ∨ j = 4 ∨ j = 5 ∨ j = 6 ∨ j = 7 := by simp at hj; omega
              rcases this with rfl | rfl | rfl | rfl | rfl | rfl | rfl | rfl <;> assumption
            · simp only [List.mem_cons, List.not_mem_nil, or_false] at hv
              rcases hv with rfl | rfl | rfl | rfl | rfl | rfl | rfl | rfl <;> omega
          have adB := fun W => add_str B (bytesOf k) (by have := hBl.out; rw [bytesOf_length]; omega) W
          clear hby
          obtain ⟨B2, hB2⟩ : ∃ B2, B2 = B ++ bytesOf k := ⟨_, rfl⟩
          rw [← hB2] at adB
          replace hB2 := Hid.mk hB2
          have hbk := Hid.mk (bytesOf_length k)
          generalize bytesOf k = bk at *
          have c5 : ∀ o, (w2.alloc o).cell? ⟨b, off + j * 5, none⟩ = some (.int .u8 k.op) := fun o => (World.cell?_alloc_past o b _ hb3).trans c0
          go_region
          clear ea eb ec t1 t2 t3 t4 t5 t6 t7 t8 t9 s1 s2 s3 s4 hcv adB c5 c0 c1 c2 c3 c4
          have hW3 := Hid.mk (hW2.out.trans ((((Gr.refl w2).alloc (.cells #[.int .u8 k.op, .int .u8 k.a, .int .u8 k.b, .int .u8 k.c, .int .u8 (n % 256), .int .u8 (n / 256 % 256), .int .u8 (n / 65536 % 256), .int .u8 (n / 16777216)] 5)).drew).below.mono hW2.out.size))
          go_wp2_with fail
          go_roundw
          case rel =>
            refine ⟨j + 1, B2, rfl, by simp, by omega, ⟨?_, ?_, hW3.out⟩⟩
            · rw [hB2.out, List.length_append, hbk.out]; have := hBl.out; omega
            · rw [hB2.out]; exact hn.out.symm
          case measure => simp [intOf]; omega
      · have e0 : (k.right != 0) = true := by simpa using hk
        replace hs := Hid.mk (hs.out hk)
        replace hk := Hid.mk hk
        go_wp2_with fail
        refine hR.mono ?_
        rintro x w2 ⟨rfl, hG⟩
        have hW2 := Hid.mk (hW.out.trans (hG.below.mono hws))
        clear hR hG
        go_wp2_with fail
        go_ret3
        rw [hs.out]
        exact ⟨rfl, hW2.out⟩
    · have jl : ¬ (j : Int) < L.length := by omega
      rw [enc_end hlt] at hf
      replace hf := Hid.mk hf
      replace hW := Hid.mk hW
      replace hBl := Hid.mk hBl
      go_wp2_with fail
      go_ret3
      rw [← hf.out]
      exact ⟨rfl, hW.out⟩
end Go.Proofs.YtmmakknhaacplaaGreatDoor
