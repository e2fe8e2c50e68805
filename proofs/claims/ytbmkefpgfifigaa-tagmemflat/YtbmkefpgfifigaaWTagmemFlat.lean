/-
  Stage 6, tagmem: TagmemFlat.
-/
import Derived.Test.YtbmkefpgfifigaaTFst
import Derived.Deep.RegionHeld3
namespace Go.Proofs.Ytbmkefpgfifigaa
open Go.RowKit

set_option maxRecDepth 100000 in
set_option maxHeartbeats 40000000 in
theorem walk_TagmemFlat (l1 l2 : List UInt8) (L : List T.Po) (la : Option Addr) (lc : Nat) (w : World) (h1 : l1.length ≤ 140737488355328) (h2 : l2.length ≤ 140737488355328) (hL : (∀ y ∈ L, y.Ok) ∧ T.EIn 12 T.Po.vals w la L) (hl : L.length ≤ maxLen) :
    Calls Try.prog 4 #[.string (T.str l1), .string (T.str l2), .slice la L.length lc] w fun r w' => r = .returned (.bool true) ∧ Below w.heap.size w w' := by
  unfold maxLen at hl
  have f1 := fun W => T.newFlat_any l1 W h1
  have f2 := fun W => T.newFlat_any l2 W h2
  have d1 := fun W => T.dFlat_any l1 W h1
  have d2 := fun W => T.dFlat_any l2 W h2
  generalize T.layB (fun _ => 0) 0 (l1.take 65536) (l1.take 65536).length = b1 at *
  generalize T.layB (fun _ => 0) 0 (l2.take 65536) (l2.take 65536).length = b2 at *
  replace hL := T.Hid.mk hL
  go_enter Try.func4, Try.ntmps4
  go_wp2_with fail
  refine (f1 _).mono ?_
  rintro r w1 ⟨rfl, F1, hF1, g1, k1⟩
  replace hF1 := T.Hid.mk hF1
  replace g1 := T.Hid.mk g1
  replace k1 := T.Hid.mk k1
  go_wp2_with fail
  refine (f2 _).mono ?_
  rintro r w2 ⟨rfl, F2, hF2, g2, k2⟩
  replace hF2 := T.Hid.mk hF2
  replace g2 := T.Hid.mk g2
  replace k2 := T.Hid.mk k2
  have s1 := (T.Sep.nil w.heap.size w).add (T.flOb F1 w.heap.size b1) hF1.out g1.out k1.out (Nat.le_refl _)
  have s2 := s1.add (T.flOb F2 w1.heap.size b2) hF2.out g2.out k2.out k1.out.size
  have hB2 := k1.out.trans (k2.out.mono k1.out.size)
  replace s2 := T.Hid.mk s2
  replace hB2 := T.Hid.mk hB2
  clear s1 hF1 g1 k1 hF2 g2 k2 f1 f2
  go_wp2_with fail
  have s3 := s2.out.add (T.boxOb w2.heap.size #[.pointer (some ⟨w.heap.size, 0, none⟩), .pointer (some ⟨w1.heap.size, 0, none⟩)]) (At.new w2 _ 36) (fun k q => by have : k = w2.heap.size := q; omega) ((Below.refl _ w2).alloc (Nat.le_refl _) _) hB2.out.size
  have hB3 := hB2.out.alloc hB2.out.size (.cells #[.pointer (some ⟨w.heap.size, 0, none⟩), .pointer (some ⟨w1.heap.size, 0, none⟩)] 36)
  refine (d1 _).mono ?_
  rintro r w3 ⟨e1, D1, rfl, hD1, g3, k3⟩
  have s4 := s3.add (T.dOb D1 e1 b1 _ _) hD1 g3 k3 hB3.size
  have hB4 := hB3.trans (k3.mono hB3.size)
  replace s4 := T.Hid.mk s4
  replace hB4 := T.Hid.mk hB4
  clear s3 hB3 hD1 g3 k3 s2 hB2 d1
  go_wp2_with fail
  refine (d2 _).mono ?_
  rintro r w4 ⟨e2, D2, rfl, hD2, g4, k4⟩
  have s5 := s4.out.add (T.dOb D2 e2 b2 _ _) hD2 g4 k4 hB4.out.size
  have hB5 := hB4.out.trans (k4.mono hB4.out.size)
  replace s5 := T.Hid.mk s5
  replace hB5 := T.Hid.mk hB5
  clear hD2 g4 k4 s4 hB4 d2
  have hS : T.Fst w (w4.alloc (.cells #[.pointer (some ⟨e1, 0, none⟩), .pointer (some ⟨e2, 0, none⟩)] 48)) (w.heap.size) (w1.heap.size) (w2.heap.size) (w4.heap.size) e1 e2 b1 b2 b1 b2 [] :=
    ⟨⟨F1, F2, D1, D2, _, _, _, _, s5.out.add (T.boxOb w4.heap.size #[.pointer (some ⟨e1, 0, none⟩), .pointer (some ⟨e2, 0, none⟩)]) (At.new w4 _ _) (fun k q => by have : k = w4.heap.size := q; omega) ((Below.refl _ w4).alloc (Nat.le_refl _) _) hB5.out.size⟩, hB5.out.alloc hB5.out.size _⟩
  replace hS := T.Hid.mk hS
  clear s5 hB5
  go_wp2_with fail
  go_loopw [11] (fun v wr => ∃ (i : Nat) (B1 B2 : Nat → UInt8), v = .int .i64 i ∧ i ≤ L.length ∧ T.Fst w wr (w.heap.size) (w1.heap.size) (w2.heap.size) (w4.heap.size) e1 e2 B1 B2 B1 B2 []) (fun v _ => L.length - (intOf v).toNat)
  case atStart => exact ⟨0, b1, b2, rfl, by omega, hS.out⟩
  case round =>
    clear hS
    obtain ⟨i, B1, B2, rfl, hi, hS⟩ := hrel
    by_cases hlt : i < L.length
    · have jl : (i : Int) < L.length := by omega
      have hok := hL.out.1 _ (List.getElem_mem hlt)
      obtain ⟨bb, off, rfl, hbw, hcells⟩ := T.twelveAt hL.out.2 i hlt
      have hc := hcells wr hS.be
      generalize L[i] = x at *
      have c0 : wr.cell? ⟨bb, off + i * 12, none⟩ = some (.int .i64 x.m) := hc 0 _ rfl
      have c1 : wr.cell? ⟨bb, off + i * 12 + 1, none⟩ = some (.int .i64 x.k) := hc 1 _ rfl
      have c2 : wr.cell? ⟨bb, off + i * 12 + 1 + 1, none⟩ = some (.int .u64 x.a) := hc 2 _ rfl
      have c3 : wr.cell? ⟨bb, off + i * 12 + 1 + 1 + 1, none⟩ = some (.int .u64 x.z) := hc 3 _ rfl
      have c4 : wr.cell? ⟨bb, off + i * 12 + 1 + 1 + 1 + 1, none⟩ = some (.int .u64 x.n) := hc 4 _ rfl
      have c5 : wr.cell? ⟨bb, off + i * 12 + 1 + 1 + 1 + 1 + 1, none⟩ = some (.bool x.v.g) := hc 5 _ rfl
      have c6 : wr.cell? ⟨bb, off + i * 12 + 1 + 1 + 1 + 1 + 1 + 1, none⟩ = some (.int .u64 x.v.n) := hc 6 _ rfl
      have c7 : wr.cell? ⟨bb, off + i * 12 + 1 + 1 + 1 + 1 + 1 + 1 + 1, none⟩ = some (.int .u64 x.v.c.b) := hc 7 _ rfl
      have c8 : wr.cell? ⟨bb, off + i * 12 + 1 + 1 + 1 + 1 + 1 + 1 + 1 + 1, none⟩ = some (.int .u64 x.v.c.e) := hc 8 _ rfl
      have c9 : wr.cell? ⟨bb, off + i * 12 + 1 + 1 + 1 + 1 + 1 + 1 + 1 + 1 + 1, none⟩ = some (.int .u64 x.v.c.c) := hc 9 _ rfl
      have c10 : wr.cell? ⟨bb, off + i * 12 + 1 + 1 + 1 + 1 + 1 + 1 + 1 + 1 + 1 + 1, none⟩ = some (.int .u8 x.v.c.p) := hc 10 _ rfl
      have c11 : wr.cell? ⟨bb, off + i * 12 + 1 + 1 + 1 + 1 + 1 + 1 + 1 + 1 + 1 + 1 + 1, none⟩ = some (.int .i64 x.v.c.s) := hc 11 _ rfl
      have hBx := hS.box #[.int .i64 x.m, .int .i64 x.k, .int .u64 x.a, .int .u64 x.z, .int .u64 x.n, .bool x.v.g, .int .u64 x.v.n, .int .u64 x.v.c.b, .int .u64 x.v.c.e, .int .u64 x.v.c.c, .int .u8 x.v.c.p, .int .i64 x.v.c.s] 54
      have hM := T.pk_lt x.m 2 (by omega)
      have hpk : ∀ W, Calls Try.prog 13 #[.int .i64 x.m, .int .i64 2] W fun r w' => r = .returned (.int .i64 (T.pk x.m 2)) ∧ w' = W := fun W => T.pick_any x.m 2 W hok.rm (by omega) (by omega)
      generalize T.pk x.m 2 = M at *
      obtain ⟨x0, z0⟩ := hS.bxM M hM
      have sx : w2.heap.size < wr.heap.size := hS.bx.1.1
      have sz : w4.heap.size < wr.heap.size := hS.bx.2.1.1
      generalize hsa : T.sel M w.heap.size w1.heap.size = am at *
      generalize hse : T.sel M e1 e2 = em at *
      have hMi : (M : Int) < 2 := by omega
      replace hsa := T.Hid.mk hsa
      replace hse := T.Hid.mk hse
      replace hS := T.Hid.mk hS
      replace hBx := T.Hid.mk hBx
      clear hc hcells hbw
      by_cases k1 : x.k = 1
      · have e1k : (x.k == 1) = true := by simpa using k1
        replace k1 := T.Hid.mk k1
        have cl1 := fun W (g : T.Fst w W (w.heap.size) (w1.heap.size) (w2.heap.size) (w4.heap.size) e1 e2 B1 B2 B1 B2 [T.boxOb wr.heap.size #[.int .i64 x.m, .int .i64 x.k, .int .u64 x.a, .int .u64 x.z, .int .u64 x.n, .bool x.v.g, .int .u64 x.v.n, .int .u64 x.v.c.b, .int .u64 x.v.c.e, .int .u64 x.v.c.c, .int .u8 x.v.c.p, .int .i64 x.v.c.s]]) => g.loadFM M x.a x.z hM hok.ra hok.rz
        have cl2 := fun W (g : T.Fst w W (w.heap.size) (w1.heap.size) (w2.heap.size) (w4.heap.size) e1 e2 B1 B2 B1 B2 [T.boxOb wr.heap.size #[.int .i64 x.m, .int .i64 x.k, .int .u64 x.a, .int .u64 x.z, .int .u64 x.n, .bool x.v.g, .int .u64 x.v.n, .int .u64 x.v.c.b, .int .u64 x.v.c.e, .int .u64 x.v.c.c, .int .u8 x.v.c.p, .int .i64 x.v.c.s]]) => g.loadDM M x.a x.z hM
        generalize T.ldV (T.sel M B1 B2) x.a x.z = V at *
        generalize T.ldE x.a x.z = E at *
        rw [hsa.out] at cl1
        rw [hse.out] at cl2
        replace cl1 := T.Hid.mk cl1
        replace cl2 := T.Hid.mk cl2
        go_wp2_with fail
        refine (hpk _).mono ?_
        rintro r w5 ⟨rfl, rfl⟩
        clear hpk
        go_wp2_with fail
        generalize hR0 : wr.alloc (.cells #[.int .i64 x.m, .int .i64 x.k, .int .u64 x.a, .int .u64 x.z, .int .u64 x.n, .bool x.v.g, .int .u64 x.v.n, .int .u64 x.v.c.b, .int .u64 x.v.c.e, .int .u64 x.v.c.c, .int .u8 x.v.c.p, .int .i64 x.v.c.s] 54) = R0 at *
        have A1 := hBx.out.xs (T.boxOb wr.heap.size #[.int .i64 x.m, .int .i64 x.k, .int .u64 x.a, .int .u64 x.z, .int .u64 x.n, .bool x.v.g, .int .u64 x.v.n, .int .u64 x.v.c.b, .int .u64 x.v.c.e, .int .u64 x.v.c.c, .int .u8 x.v.c.p, .int .i64 x.v.c.s]) (by simp)
        have y1_2 : R0.cell? ⟨wr.heap.size, 2, none⟩ = some (.int .u64 x.a) := A1.2.1 2
        have y1_3 : R0.cell? ⟨wr.heap.size, 3, none⟩ = some (.int .u64 x.z) := A1.2.1 3
        have y1_4 : R0.cell? ⟨wr.heap.size, 4, none⟩ = some (.int .u64 x.n) := A1.2.1 4
        obtain ⟨x1, z1⟩ := hBx.out.bxM M hM
        rw [hsa.out] at x1
        rw [hse.out] at z1
        replace A1 := T.Hid.mk A1
        clear hR0 c0 c1 c2 c3 c4 c5 c6 c7 c8 c9 c10 c11 x0 z0 sx sz hS
        have cl1' := cl1.out _ (hBx.out.gr (Below.drew (Below.refl _ _)))
        apply T.cut_rule
        · intro key
          go_region_with (refine cl1'.mono ?_; rintro r w6 ⟨rfl, h6⟩)
          · revert h6
            revert w6
            exact key.out
          all_goals exact key.out _ h6
        intro w6 h6
        replace h6 := T.Hid.mk h6
        clear cl1' y1_2 y1_3 y1_4 x1 z1
        have A6 := h6.out.xs (T.boxOb wr.heap.size #[.int .i64 x.m, .int .i64 x.k, .int .u64 x.a, .int .u64 x.z, .int .u64 x.n, .bool x.v.g, .int .u64 x.v.n, .int .u64 x.v.c.b, .int .u64 x.v.c.e, .int .u64 x.v.c.c, .int .u8 x.v.c.p, .int .i64 x.v.c.s]) (by simp)
        have y6_2 : w6.cell? ⟨wr.heap.size, 2, none⟩ = some (.int .u64 x.a) := A6.2.1 2
        have y6_3 : w6.cell? ⟨wr.heap.size, 3, none⟩ = some (.int .u64 x.z) := A6.2.1 3
        have y6_4 : w6.cell? ⟨wr.heap.size, 4, none⟩ = some (.int .u64 x.n) := A6.2.1 4
        obtain ⟨x6, z6⟩ := h6.out.bxM M hM
        rw [hsa.out] at x6
        rw [hse.out] at z6
        replace A6 := T.Hid.mk A6
        have cl2' := cl2.out _ (h6.out.gr (Below.drew (Below.refl _ _)))
        go_wp2_with fail
        apply T.cut_rule
        · intro key
          go_region_with (refine cl2'.mono ?_; rintro r w7 ⟨rfl, h7⟩)
          · revert h7
            revert w7
            exact key.out
          all_goals exact key.out _ h7
        intro w7 h7
        replace h7 := T.Hid.mk h7
        clear cl2' y6_2 y6_3 y6_4 x6 z6
        go_wp2_with fail
        exact ⟨⟨i + 1, B1, B2, by go_num, by omega, h7.out.drop⟩, by simp [intOf]; omega⟩
      · by_cases k2 : x.k = 2
        · have e1k : (x.k == 1) = false := by simpa using k1
          have e2k : (x.k == 2) = true := by simpa using k2
          replace k1 := T.Hid.mk k1
          replace k2 := T.Hid.mk k2
          have cl1 := fun W (g : T.Fst w W (w.heap.size) (w1.heap.size) (w2.heap.size) (w4.heap.size) e1 e2 B1 B2 B1 B2 [T.boxOb wr.heap.size #[.int .i64 x.m, .int .i64 x.k, .int .u64 x.a, .int .u64 x.z, .int .u64 x.n, .bool x.v.g, .int .u64 x.v.n, .int .u64 x.v.c.b, .int .u64 x.v.c.e, .int .u64 x.v.c.c, .int .u8 x.v.c.p, .int .i64 x.v.c.s]]) => g.storeFM M x.a x.z x.n hM hok.ra hok.rz
          have cl2 := fun W (g : T.Fst w W (w.heap.size) (w1.heap.size) (w2.heap.size) (w4.heap.size) e1 e2 (T.sel M (T.stB B1 x.a x.z x.n) B1) (T.sel M B2 (T.stB B2 x.a x.z x.n)) B1 B2 [T.boxOb wr.heap.size #[.int .i64 x.m, .int .i64 x.k, .int .u64 x.a, .int .u64 x.z, .int .u64 x.n, .bool x.v.g, .int .u64 x.v.n, .int .u64 x.v.c.b, .int .u64 x.v.c.e, .int .u64 x.v.c.c, .int .u8 x.v.c.p, .int .i64 x.v.c.s]]) => g.storeDM M x.a x.z x.n hM hok.rn
          generalize T.sel M (T.stB B1 x.a x.z x.n) B1 = C1 at *
          generalize T.sel M B2 (T.stB B2 x.a x.z x.n) = C2 at *
          generalize T.ldE x.a x.z = E at *
          rw [hsa.out] at cl1
          rw [hse.out] at cl2
          replace cl1 := T.Hid.mk cl1
          replace cl2 := T.Hid.mk cl2
          go_wp2_with fail
          refine (hpk _).mono ?_
          rintro r w5 ⟨rfl, rfl⟩
          clear hpk
          go_wp2_with fail
          generalize hR0 : wr.alloc (.cells #[.int .i64 x.m, .int .i64 x.k, .int .u64 x.a, .int .u64 x.z, .int .u64 x.n, .bool x.v.g, .int .u64 x.v.n, .int .u64 x.v.c.b, .int .u64 x.v.c.e, .int .u64 x.v.c.c, .int .u8 x.v.c.p, .int .i64 x.v.c.s] 54) = R0 at *
          have A1 := hBx.out.xs (T.boxOb wr.heap.size #[.int .i64 x.m, .int .i64 x.k, .int .u64 x.a, .int .u64 x.z, .int .u64 x.n, .bool x.v.g, .int .u64 x.v.n, .int .u64 x.v.c.b, .int .u64 x.v.c.e, .int .u64 x.v.c.c, .int .u8 x.v.c.p, .int .i64 x.v.c.s]) (by simp)
          have y1_2 : R0.cell? ⟨wr.heap.size, 2, none⟩ = some (.int .u64 x.a) := A1.2.1 2
          have y1_3 : R0.cell? ⟨wr.heap.size, 3, none⟩ = some (.int .u64 x.z) := A1.2.1 3
          have y1_4 : R0.cell? ⟨wr.heap.size, 4, none⟩ = some (.int .u64 x.n) := A1.2.1 4
          obtain ⟨x1, z1⟩ := hBx.out.bxM M hM
          rw [hsa.out] at x1
          rw [hse.out] at z1
          replace A1 := T.Hid.mk A1
          clear hR0 c0 c1 c2 c3 c4 c5 c6 c7 c8 c9 c10 c11 x0 z0 sx sz hS
          have cl1' := cl1.out _ (hBx.out.gr (Below.drew (Below.refl _ _)))
          have KS1 : ∀ D1 D2 D3 D4 W, T.Fst w W (w.heap.size) (w1.heap.size) (w2.heap.size) (w4.heap.size) e1 e2 D1 D2 D3 D4 [T.boxOb wr.heap.size #[.int .i64 x.m, .int .i64 x.k, .int .u64 x.a, .int .u64 x.z, .int .u64 x.n, .bool x.v.g, .int .u64 x.v.n, .int .u64 x.v.c.b, .int .u64 x.v.c.e, .int .u64 x.v.c.c, .int .u8 x.v.c.p, .int .i64 x.v.c.s]] → (fun W => W.cell? ⟨w2.heap.size, M, none⟩ = some (.pointer (some ⟨am, 0, none⟩)) ∧ W.cell? ⟨wr.heap.size, 2, none⟩ = some (.int .u64 x.a) ∧ W.cell? ⟨wr.heap.size, 3, none⟩ = some (.int .u64 x.z) ∧ W.cell? ⟨wr.heap.size, 4, none⟩ = some (.int .u64 x.n)) W := fun D1 D2 D3 D4 W g => by
            have ga := g.xs _ (List.mem_singleton.2 rfl)
            have gb := g.bxM M hM
            rw [hsa.out, hse.out] at gb
            exact ⟨gb.1, ga.2.1 2, ga.2.1 3, ga.2.1 4⟩
          replace KS1 := T.Hid.mk KS1
          apply T.cut_rule
          · intro key
            go_region_held3 (fun W => W.cell? ⟨w2.heap.size, M, none⟩ = some (.pointer (some ⟨am, 0, none⟩)) ∧ W.cell? ⟨wr.heap.size, 2, none⟩ = some (.int .u64 x.a) ∧ W.cell? ⟨wr.heap.size, 3, none⟩ = some (.int .u64 x.z) ∧ W.cell? ⟨wr.heap.size, 4, none⟩ = some (.int .u64 x.n)) (first | exact KS1.out _ _ _ _ _ h6 | exact KS1.out _ _ _ _ _ hBx.out | exact KS1.out _ _ _ _ _ (hBx.out.gr (Below.drew (Below.refl _ _)))) (first | (refine cl1'.mono ?_; rintro r w6 ⟨rfl, h6⟩) | fail)
            · revert h6
              revert w6
              exact key.out
          intro w6 _ h6
          replace h6 := T.Hid.mk h6
          clear cl1' y1_2 y1_3 y1_4 x1 z1
          have A6 := h6.out.xs (T.boxOb wr.heap.size #[.int .i64 x.m, .int .i64 x.k, .int .u64 x.a, .int .u64 x.z, .int .u64 x.n, .bool x.v.g, .int .u64 x.v.n, .int .u64 x.v.c.b, .int .u64 x.v.c.e, .int .u64 x.v.c.c, .int .u8 x.v.c.p, .int .i64 x.v.c.s]) (by simp)
          have y6_2 : w6.cell? ⟨wr.heap.size, 2, none⟩ = some (.int .u64 x.a) := A6.2.1 2
          have y6_3 : w6.cell? ⟨wr.heap.size, 3, none⟩ = some (.int .u64 x.z) := A6.2.1 3
          have y6_4 : w6.cell? ⟨wr.heap.size, 4, none⟩ = some (.int .u64 x.n) := A6.2.1 4
          obtain ⟨x6, z6⟩ := h6.out.bxM M hM
          rw [hsa.out] at x6
          rw [hse.out] at z6
          replace A6 := T.Hid.mk A6
          have cl2' := cl2.out _ (h6.out.gr (Below.drew (Below.refl _ _)))
          go_wp2_with fail
          apply T.cut_rule
          · intro key
            go_region_with (refine cl2'.mono ?_; rintro r w7 ⟨rfl, h7⟩)
            · revert h7
              revert w7
              exact key.out
            all_goals exact key.out _ h7
          intro w7 h7
          replace h7 := T.Hid.mk h7
          clear cl2' y6_2 y6_3 y6_4 x6 z6
          go_wp2_with fail
          exact ⟨⟨i + 1, C1, C2, by go_num, by omega, h7.out.drop⟩, by simp [intOf]; omega⟩
        · by_cases k6 : x.k = 6
          · have e1k : (x.k == 1) = false := by simpa using k1
            have e2k : (x.k == 2) = false := by simpa using k2
            have e6k : (x.k == 6) = true := by simpa using k6
            replace k1 := T.Hid.mk k1
            replace k2 := T.Hid.mk k2
            replace k6 := T.Hid.mk k6
            have cl1 := fun W (g : T.Fst w W (w.heap.size) (w1.heap.size) (w2.heap.size) (w4.heap.size) e1 e2 B1 B2 B1 B2 [T.boxOb wr.heap.size #[.int .i64 x.m, .int .i64 x.k, .int .u64 x.a, .int .u64 x.z, .int .u64 x.n, .bool x.v.g, .int .u64 x.v.n, .int .u64 x.v.c.b, .int .u64 x.v.c.e, .int .u64 x.v.c.c, .int .u8 x.v.c.p, .int .i64 x.v.c.s]]) => g.bytesFM M hM
            have cl2 := fun W (g : T.Fst w W (w.heap.size) (w1.heap.size) (w2.heap.size) (w4.heap.size) e1 e2 B1 B2 B1 B2 [T.boxOb wr.heap.size #[.int .i64 x.m, .int .i64 x.k, .int .u64 x.a, .int .u64 x.z, .int .u64 x.n, .bool x.v.g, .int .u64 x.v.n, .int .u64 x.v.c.b, .int .u64 x.v.c.e, .int .u64 x.v.c.c, .int .u8 x.v.c.p, .int .i64 x.v.c.s]]) => g.bytesDM M hM
            generalize T.allB (T.sel M B1 B2) = N at *
            rw [hsa.out] at cl1
            rw [hse.out] at cl2
            replace cl1 := T.Hid.mk cl1
            replace cl2 := T.Hid.mk cl2
            go_wp2_with fail
            refine (hpk _).mono ?_
            rintro r w5 ⟨rfl, rfl⟩
            clear hpk
            go_wp2_with fail
            generalize hR0 : wr.alloc (.cells #[.int .i64 x.m, .int .i64 x.k, .int .u64 x.a, .int .u64 x.z, .int .u64 x.n, .bool x.v.g, .int .u64 x.v.n, .int .u64 x.v.c.b, .int .u64 x.v.c.e, .int .u64 x.v.c.c, .int .u8 x.v.c.p, .int .i64 x.v.c.s] 54) = R0 at *
            have A1 := hBx.out.xs (T.boxOb wr.heap.size #[.int .i64 x.m, .int .i64 x.k, .int .u64 x.a, .int .u64 x.z, .int .u64 x.n, .bool x.v.g, .int .u64 x.v.n, .int .u64 x.v.c.b, .int .u64 x.v.c.e, .int .u64 x.v.c.c, .int .u8 x.v.c.p, .int .i64 x.v.c.s]) (by simp)
            have y1_2 : R0.cell? ⟨wr.heap.size, 2, none⟩ = some (.int .u64 x.a) := A1.2.1 2
            have y1_3 : R0.cell? ⟨wr.heap.size, 3, none⟩ = some (.int .u64 x.z) := A1.2.1 3
            have y1_4 : R0.cell? ⟨wr.heap.size, 4, none⟩ = some (.int .u64 x.n) := A1.2.1 4
            obtain ⟨x1, z1⟩ := hBx.out.bxM M hM
            rw [hsa.out] at x1
            rw [hse.out] at z1
            replace A1 := T.Hid.mk A1
            clear hR0 c0 c1 c2 c3 c4 c5 c6 c7 c8 c9 c10 c11 x0 z0 sx sz hS
            have cl1' := cl1.out _ (hBx.out.gr (Below.drew (Below.refl _ _)))
            have KS : ∀ W, T.Fst w W (w.heap.size) (w1.heap.size) (w2.heap.size) (w4.heap.size) e1 e2 B1 B2 B1 B2 [T.boxOb wr.heap.size #[.int .i64 x.m, .int .i64 x.k, .int .u64 x.a, .int .u64 x.z, .int .u64 x.n, .bool x.v.g, .int .u64 x.v.n, .int .u64 x.v.c.b, .int .u64 x.v.c.e, .int .u64 x.v.c.c, .int .u8 x.v.c.p, .int .i64 x.v.c.s]] → (fun W => W.cell? ⟨w2.heap.size, M, none⟩ = some (.pointer (some ⟨am, 0, none⟩)) ∧ W.cell? ⟨w4.heap.size, M, none⟩ = some (.pointer (some ⟨em, 0, none⟩))) W := fun W g => by
              have gb := g.bxM M hM
              rw [hsa.out, hse.out] at gb
              exact gb
            replace KS := T.Hid.mk KS
            apply T.cut_rule
            · intro key
              go_region_held3 (fun W => W.cell? ⟨w2.heap.size, M, none⟩ = some (.pointer (some ⟨am, 0, none⟩)) ∧ W.cell? ⟨w4.heap.size, M, none⟩ = some (.pointer (some ⟨em, 0, none⟩))) (first | exact KS.out _ h7 | exact KS.out _ h6 | exact KS.out _ hBx.out | exact KS.out _ (hBx.out.gr (Below.drew (Below.refl _ _)))) (first | (go_at_call 21; refine cl1'.mono ?_; rintro r w6 ⟨rfl, h6⟩) | (go_at_call 22; refine (cl2.out _ h6).mono ?_; rintro r w7 ⟨rfl, h7⟩))
              · revert h7
                revert w7
                exact key.out
            intro w7 _ h7
            replace h7 := T.Hid.mk h7
            clear cl1' y1_2 y1_3 y1_4 x1 z1
            go_wp2_with fail
            exact ⟨⟨i + 1, B1, B2, by go_num, by omega, h7.out.drop⟩, by simp [intOf]; omega⟩
          · have e1k : (x.k == 1) = false := by simpa using k1
            have e2k : (x.k == 2) = false := by simpa using k2
            have e6k : (x.k == 6) = false := by simpa using k6
            replace k1 := T.Hid.mk k1
            replace k2 := T.Hid.mk k2
            replace k6 := T.Hid.mk k6
            go_wp2_with fail
            refine (hpk _).mono ?_
            rintro r w5 ⟨rfl, rfl⟩
            clear hpk
            go_wp2_with fail
            exact ⟨⟨i + 1, B1, B2, by go_num, by omega, hBx.out.drop⟩, by simp [intOf]; omega⟩
    · have jl : ¬ (i : Int) < L.length := by omega
      have p1 := fun W (g : T.Fst w W (w.heap.size) (w1.heap.size) (w2.heap.size) (w4.heap.size) e1 e2 B1 B2 B1 B2 []) => g.bytesF1
      have p2 := fun W (g : T.Fst w W (w.heap.size) (w1.heap.size) (w2.heap.size) (w4.heap.size) e1 e2 B1 B2 B1 B2 []) => g.bytesD1
      have p3 := fun W (g : T.Fst w W (w.heap.size) (w1.heap.size) (w2.heap.size) (w4.heap.size) e1 e2 B1 B2 B1 B2 []) => g.bytesF2
      have p4 := fun W (g : T.Fst w W (w.heap.size) (w1.heap.size) (w2.heap.size) (w4.heap.size) e1 e2 B1 B2 B1 B2 []) => g.bytesD2
      have p5 := fun W (g : T.Fst w W (w.heap.size) (w1.heap.size) (w2.heap.size) (w4.heap.size) e1 e2 B1 B2 B1 B2 []) => g.bx
      generalize T.allB B1 = N1 at *
      generalize T.allB B2 = N2 at *
      replace p1 := T.Hid.mk p1
      replace p2 := T.Hid.mk p2
      replace p3 := T.Hid.mk p3
      replace p4 := T.Hid.mk p4
      replace p5 := T.Hid.mk p5
      replace hS := T.Hid.mk hS
      have KS : ∀ W, T.Fst w W (w.heap.size) (w1.heap.size) (w2.heap.size) (w4.heap.size) e1 e2 B1 B2 B1 B2 [] → (fun W => W.cell? ⟨w4.heap.size, 0, none⟩ = some (.pointer (some ⟨e1, 0, none⟩)) ∧ W.cell? ⟨w4.heap.size, 1, none⟩ = some (.pointer (some ⟨e2, 0, none⟩))) W := fun W g => ⟨g.bx.2.1.2.1 0, g.bx.2.1.2.1 1⟩
      replace KS := T.Hid.mk KS
      have hSd := hS.out.gr (Below.drew (Below.refl _ _))
      have p1' := p1.out _ hSd
      replace hSd := T.Hid.mk hSd
      have cz := KS.out _ hS.out
      go_wp2_with fail
      clear cz
      apply T.cut_rule
      · intro key
        go_region_held3 (fun W => W.cell? ⟨w4.heap.size, 0, none⟩ = some (.pointer (some ⟨e1, 0, none⟩)) ∧ W.cell? ⟨w4.heap.size, 1, none⟩ = some (.pointer (some ⟨e2, 0, none⟩))) (first | exact KS.out _ h9 | exact KS.out _ h8 | exact KS.out _ h7 | exact KS.out _ h6 | exact KS.out _ hS.out | exact KS.out _ hSd.out) (first | (go_at_call 21; refine (p3.out _ h7).mono ?_; rintro r w8 ⟨rfl, h8⟩) | (go_at_call 21; refine p1'.mono ?_; rintro r w6 ⟨rfl, h6⟩) | (go_at_call 22; refine (p4.out _ h8).mono ?_; rintro r w9 ⟨rfl, h9⟩) | (go_at_call 22; refine (p2.out _ h6).mono ?_; rintro r w7 ⟨rfl, h7⟩))
        · revert h9
          revert w9
          exact key.out
      intro w9 _ h9
      replace h9 := T.Hid.mk h9
      go_wp2_with fail
      go_ret
      exact ⟨rfl, h9.out.be⟩
end Go.Proofs.Ytbmkefpgfifigaa
