/-
  Stage 6, tagmem: TagmemKept.
-/
import Derived.Test.YtbmkefpgfifigaaTKeepM
namespace Go.Proofs.Ytbmkefpgfifigaa
open Go.RowKit

set_option maxHeartbeats 4000000 in
theorem walk_TagmemKept (L : List T.Wr) (la : Option Addr) (lc : Nat) (x : T.Wr) (w : World) (hL : (∀ y ∈ L, y.Ok) ∧ T.EIn 8 T.Wr.vals w la L) (hl : L.length ≤ maxLen) (hx : x.Ok) :
    Calls Try.prog 3 #[.slice la L.length lc, .agg x.cells] w fun r w' => r = .returned (.bool true) ∧ Below w.heap.size w w' := by
  unfold maxLen at hl
  have hA0 := At.new w x.cells 28
  have hp1 : ∀ W, Calls Try.prog 13 #[.int .i64 x.a, .int .i64 65529] W fun y w' => y = .returned (.int .i64 (T.pk x.a 65529)) ∧ w' = W := fun W => T.pick_any x.a 65529 W hx.ra (by omega) (by omega)
  have hp2 : ∀ W, Calls Try.prog 13 #[.int .i64 x.k, .int .i64 2] W fun y w' => y = .returned (.int .i64 (T.pk x.k 2)) ∧ w' = W := fun W => T.pick_any x.k 2 W hx.rk (by omega) (by omega)
  have hl1 := T.pk_lt x.a 65529 (by omega)
  have hl2 := T.pk_lt x.k 2 (by omega)
  have hrn := hx.rn
  have hB1 := fun P W a t (q : T.TgIn P W a (T.runB (L.take L.length)) t) => T.tgBytes_all P a _ t W q
  have hB2 := fun Z P W a t (q : T.TgIn P W a (T.stB (T.runB (L.take L.length)) (T.pk x.a 65529) Z x.n) t) => T.tgBytes_all P a _ t W q
  have hS := fun P W a t Z (q : T.TgIn P W a (T.runB (L.take L.length)) t) (hZ : Z < 18446744073709551616) => T.tgStore_any P a (T.pk x.a 65529) Z x.n _ t W q (by omega) hZ
  have hG := fun P W a t Z (q : T.TgIn P W a (T.stB (T.runB (L.take L.length)) (T.pk x.a 65529) Z x.n) t) (hZ : Z < 18446744073709551616) => T.tgLoad_any P a (T.pk x.a 65529) Z _ t W q (by omega) hZ
  have q1 : ∀ Z, Z = 1 ∨ Z = 8 → T.ldE (T.pk x.a 65529) Z = 0 ∧ T.ldV (T.stB (T.runB (L.take L.length)) (T.pk x.a 65529) Z x.n) (T.pk x.a 65529) Z = x.n % 2 ^ (8 * Z) ∧ (T.allB (T.stB (T.runB (L.take L.length)) (T.pk x.a 65529) Z x.n)).extract 0 (T.pk x.a 65529) = (T.allB (T.runB (L.take L.length))).extract 0 (T.pk x.a 65529) ∧ (T.allB (T.stB (T.runB (L.take L.length)) (T.pk x.a 65529) Z x.n)).extract (T.pk x.a 65529 + Z) 65536 = (T.allB (T.runB (L.take L.length))).extract (T.pk x.a 65529 + Z) 65536 := by
    intro Z hZ
    have hw : T.wordB (T.pk x.a 65529) Z = true := by simp [T.wordB]; omega
    unfold T.ldE T.ldV T.stB
    rw [hw]
    simp only [if_true]
    exact ⟨trivial, T.leB_putB _ _ _ _, T.allB_part _ _ _ _ (fun y h1 h2 => T.putB_other _ _ _ _ _ (.inl h2)), T.allB_part _ _ _ _ (fun y h1 h2 => T.putB_other _ _ _ _ _ (.inr h1))⟩
  have z0 := T.allB_size (T.runB (L.take L.length))
  have z1 := fun Z => T.allB_size (T.stB (T.runB (L.take L.length)) (T.pk x.a 65529) Z x.n)
  replace hB1 := T.Hid.mk hB1
  replace hB2 := T.Hid.mk hB2
  replace hS := T.Hid.mk hS
  replace hG := T.Hid.mk hG
  replace q1 := T.Hid.mk q1
  replace z0 := T.Hid.mk z0
  replace z1 := T.Hid.mk z1
  replace hA0 := T.Hid.mk hA0
  replace hp1 := T.Hid.mk hp1
  replace hp2 := T.Hid.mk hp2
  have hN := T.newTagged_none
  have hF := T.newFlat_none
  unfold T.Wr.cells at *
  replace hL := T.Hid.mk hL
  go_enter Try.func3, Try.ntmps3
  go_wp2_with fail
  refine (hN _).mono ?_
  rintro r w1 ⟨rfl, h1, hb1⟩
  replace h1 := T.Hid.mk h1
  replace hb1 := T.Hid.mk hb1
  go_wp2_with fail
  refine (hF _).mono ?_
  rintro r w2 ⟨rfl, F, h2, hF2, hb2⟩
  have hD := T.Ld.begin L h1.out hb1.out h2 hF2 hb2
  rw [World.size_alloc] at hD
  replace hD := T.Hid.mk hD
  clear h1 hb1 h2 hF2 hb2 hN hF
  go_wp2_with fail
  go_loopw [7] (fun v wr => ∃ i : Nat, v = .int .i64 i ∧ i ≤ L.length ∧ T.Ld (w.alloc (.cells x.cells 28)) wr (w.heap.size + 1 + 1) w1.heap.size L i) (fun v _ => L.length - (intOf v).toNat)
  case atStart => exact ⟨0, rfl, by omega, hD.out⟩
  case round =>
    clear hD
    obtain ⟨i, rfl, hi, hD⟩ := hrel
    by_cases hlt : i < L.length
    · have jl : (i : Int) < L.length := by omega
      have hS := hD.step hlt (hL.out.1 _ (List.getElem_mem hlt))
      have hB : Below w.heap.size w wr := ((Below.refl _ w).alloc (Nat.le_refl _) _).trans (hD.below.mono (by simp))
      obtain ⟨bb, off, rfl, hbl, c0, c1, c2, c3, c4, c5, c6, c7⟩ := T.eight (hL.out.2.below hB) i hlt
      unfold T.Wr.cells at hS
      replace hD := T.Hid.mk hD
      replace hB := T.Hid.mk hB
      generalize L[i] = y at *
      go_wp2_with fail
      refine hS.mono ?_
      rintro r w3 ⟨rfl, hD2⟩
      replace hD2 := T.Hid.mk hD2
      go_wp2_with fail
      exact ⟨⟨i + 1, by go_num, by omega, hD2.out⟩, by simp [intOf]; omega⟩
    · have jl : ¬ (i : Int) < L.length := by omega
      have : i = L.length := by omega
      subst this
      replace hD := T.Hid.mk hD
      obtain ⟨P, hP, hPk⟩ := hD.out.tg
      have A0 := T.at_below hA0.out hD.out.below (by simp)
      have y0_0 : wr.cell? ⟨w.heap.size, 0, none⟩ = some (.int .i64 x.a) := A0.2.1 0
      have y0_1 : wr.cell? ⟨w.heap.size, 1, none⟩ = some (.int .i64 x.k) := A0.2.1 1
      have y0_2 : wr.cell? ⟨w.heap.size, 2, none⟩ = some (.int .u64 x.n) := A0.2.1 2
      have hBt := hB1.out P wr _ _ hP
      have d65 : (T.pk x.a 65529 : Int) ≤ 65536 := by omega
      have hBase : Below w.heap.size w wr := ((Below.refl _ w).alloc (Nat.le_refl _) _).trans (hD.out.below.mono (by simp))
      replace hBase := T.Hid.mk hBase
      replace A0 := T.Hid.mk A0
      replace hP := T.Hid.mk hP
      replace hPk := T.Hid.mk hPk
      clear hD
      rcases (by omega : T.pk x.k 2 = 0 ∨ T.pk x.k 2 = 1) with hK | hK
      · obtain ⟨qa, qb, qc, qd⟩ := q1.out 1 (by omega)
        have z1' := z1.out 1
        have z0' := z0.out
        have hS' := fun P W a t q => hS.out P W a t 1 q (by omega)
        have hG' := fun P W a t q => hG.out P W a t 1 q (by omega)
        have hB2' := hB2.out 1
        have hp1' := hp1.out
        have hp2' := hp2.out
        rw [qa] at hS' hG'
        rw [qb] at hG'
        rw [hK] at hp2'
        generalize T.pk x.a 65529 = A at *
        generalize T.allB (T.stB (T.runB (L.take L.length)) A 1 x.n) = N1 at *
        generalize T.allB (T.runB (L.take L.length)) = N0 at *
        generalize T.stB (T.runB (L.take L.length)) A 1 x.n = b1 at *
        replace hS' := T.Hid.mk hS'
        replace hG' := T.Hid.mk hG'
        replace hB2' := T.Hid.mk hB2'
        clear q1 z1 z0 hS hG hB2 hB1 qa qb hp1 hp2 hK
        go_wp2_with fail
        refine hBt.mono ?_
        rintro r w3 ⟨rfl, hb3⟩
        have A1 := T.at_below A0.out hb3 A0.out.1
        have y1_0 : w3.cell? ⟨w.heap.size, 0, none⟩ = some (.int .i64 x.a) := A1.2.1 0
        have y1_1 : w3.cell? ⟨w.heap.size, 1, none⟩ = some (.int .i64 x.k) := A1.2.1 1
        have y1_2 : w3.cell? ⟨w.heap.size, 2, none⟩ = some (.int .u64 x.n) := A1.2.1 2
        have hP1 := hP.out.gr hb3
        have hBase1 := hBase.out.trans (hb3.mono hBase.out.size)
        replace A1 := T.Hid.mk A1
        replace hP1 := T.Hid.mk hP1
        replace hBase1 := T.Hid.mk hBase1
        clear hBt hb3 A0 hP hBase y0_0 y0_1 y0_2
        go_wp2_with fail
        refine (hp1' _).mono ?_
        rintro r w4 ⟨rfl, rfl⟩
        go_wp2_with fail
        refine (hp2' _).mono ?_
        rintro r w4 ⟨rfl, rfl⟩
        go_wp2_with fail
        refine (hS'.out _ _ _ _ hP1.out).mono ?_
        rintro r w5 ⟨rfl, P2, hP2, f2⟩
        have A2 := T.at_kp A1.out f2.kp (fun q => by have := hPk.out _ q; simp at this; omega)
        have y2_0 : w5.cell? ⟨w.heap.size, 0, none⟩ = some (.int .i64 x.a) := A2.2.1 0
        have y2_1 : w5.cell? ⟨w.heap.size, 1, none⟩ = some (.int .i64 x.k) := A2.2.1 1
        have y2_2 : w5.cell? ⟨w.heap.size, 2, none⟩ = some (.int .u64 x.n) := A2.2.1 2
        have hBase2 := hBase1.out.trans (f2.kp.below hBase1.out.size (fun k q => by have := hPk.out k q; simp at this; omega))
        replace A2 := T.Hid.mk A2
        replace hP2 := T.Hid.mk hP2
        replace hBase2 := T.Hid.mk hBase2
        clear f2 A1 hP1 hBase1 y1_0 y1_1 y1_2
        go_wp2_with fail
        refine (hG'.out _ _ _ _ hP2.out).mono ?_
        rintro r w6 ⟨rfl, hb6⟩
        have A3 := T.at_below A2.out hb6 A2.out.1
        have y3_0 : w6.cell? ⟨w.heap.size, 0, none⟩ = some (.int .i64 x.a) := A3.2.1 0
        have y3_1 : w6.cell? ⟨w.heap.size, 1, none⟩ = some (.int .i64 x.k) := A3.2.1 1
        have y3_2 : w6.cell? ⟨w.heap.size, 2, none⟩ = some (.int .u64 x.n) := A3.2.1 2
        have hP3 := hP2.out.gr hb6
        have hBase3 := hBase2.out.trans (hb6.mono hBase2.out.size)
        replace A3 := T.Hid.mk A3
        replace hP3 := T.Hid.mk hP3
        replace hBase3 := T.Hid.mk hBase3
        clear hb6 A2 hP2 hBase2 y2_0 y2_1 y2_2
        go_wp2_with fail
        refine (hB2'.out _ _ _ _ hP3.out).mono ?_
        rintro r w7 ⟨rfl, hb7⟩
        have A4 := T.at_below A3.out hb7 A3.out.1
        have y4_0 : w7.cell? ⟨w.heap.size, 0, none⟩ = some (.int .i64 x.a) := A4.2.1 0
        have y4_1 : w7.cell? ⟨w.heap.size, 1, none⟩ = some (.int .i64 x.k) := A4.2.1 1
        have y4_2 : w7.cell? ⟨w.heap.size, 2, none⟩ = some (.int .u64 x.n) := A4.2.1 2
        have hBase4 := hBase3.out.trans (hb7.mono hBase3.out.size)
        replace A4 := T.Hid.mk A4
        replace hBase4 := T.Hid.mk hBase4
        clear hb7 A3 hP3 hBase3 y3_0 y3_1 y3_2
        go_wp2_with fail
        have g1 : IntKind.i64.wrap ((A : Int) + 1) = (A : Int) + 1 := by rw [IntKind.wrap_i64]; omega
        have g2 : (0 : Int) ≤ (A : Int) + 1 := by omega
        have g3 : (A : Int) + 1 ≤ 65536 := by omega
        go_quiet (fail)
        go_wp2_with fail
        go_ret
        exact ⟨rfl, hBase4.out.trans ((T.drewN_below _ _).mono hBase4.out.size)⟩
      · obtain ⟨qa, qb, qc, qd⟩ := q1.out 8 (by omega)
        have z1' := z1.out 8
        have z0' := z0.out
        have hS' := fun P W a t q => hS.out P W a t 8 q (by omega)
        have hG' := fun P W a t q => hG.out P W a t 8 q (by omega)
        have hB2' := hB2.out 8
        have hp1' := hp1.out
        have hp2' := hp2.out
        rw [qa] at hS' hG'
        rw [qb, Nat.mod_eq_of_lt (by omega)] at hG'
        rw [hK] at hp2'
        generalize T.pk x.a 65529 = A at *
        generalize T.allB (T.stB (T.runB (L.take L.length)) A 8 x.n) = N1 at *
        generalize T.allB (T.runB (L.take L.length)) = N0 at *
        generalize T.stB (T.runB (L.take L.length)) A 8 x.n = b1 at *
        replace hS' := T.Hid.mk hS'
        replace hG' := T.Hid.mk hG'
        replace hB2' := T.Hid.mk hB2'
        clear q1 z1 z0 hS hG hB2 hB1 qa qb hp1 hp2 hK
        go_wp2_with fail
        refine hBt.mono ?_
        rintro r w3 ⟨rfl, hb3⟩
        have A1 := T.at_below A0.out hb3 A0.out.1
        have y1_0 : w3.cell? ⟨w.heap.size, 0, none⟩ = some (.int .i64 x.a) := A1.2.1 0
        have y1_1 : w3.cell? ⟨w.heap.size, 1, none⟩ = some (.int .i64 x.k) := A1.2.1 1
        have y1_2 : w3.cell? ⟨w.heap.size, 2, none⟩ = some (.int .u64 x.n) := A1.2.1 2
        have hP1 := hP.out.gr hb3
        have hBase1 := hBase.out.trans (hb3.mono hBase.out.size)
        replace A1 := T.Hid.mk A1
        replace hP1 := T.Hid.mk hP1
        replace hBase1 := T.Hid.mk hBase1
        clear hBt hb3 A0 hP hBase y0_0 y0_1 y0_2
        go_wp2_with fail
        refine (hp1' _).mono ?_
        rintro r w4 ⟨rfl, rfl⟩
        go_wp2_with fail
        refine (hp2' _).mono ?_
        rintro r w4 ⟨rfl, rfl⟩
        go_wp2_with fail
        refine (hS'.out _ _ _ _ hP1.out).mono ?_
        rintro r w5 ⟨rfl, P2, hP2, f2⟩
        have A2 := T.at_kp A1.out f2.kp (fun q => by have := hPk.out _ q; simp at this; omega)
        have y2_0 : w5.cell? ⟨w.heap.size, 0, none⟩ = some (.int .i64 x.a) := A2.2.1 0
        have y2_1 : w5.cell? ⟨w.heap.size, 1, none⟩ = some (.int .i64 x.k) := A2.2.1 1
        have y2_2 : w5.cell? ⟨w.heap.size, 2, none⟩ = some (.int .u64 x.n) := A2.2.1 2
        have hBase2 := hBase1.out.trans (f2.kp.below hBase1.out.size (fun k q => by have := hPk.out k q; simp at this; omega))
        replace A2 := T.Hid.mk A2
        replace hP2 := T.Hid.mk hP2
        replace hBase2 := T.Hid.mk hBase2
        clear f2 A1 hP1 hBase1 y1_0 y1_1 y1_2
        go_wp2_with fail
        refine (hG'.out _ _ _ _ hP2.out).mono ?_
        rintro r w6 ⟨rfl, hb6⟩
        have A3 := T.at_below A2.out hb6 A2.out.1
        have y3_0 : w6.cell? ⟨w.heap.size, 0, none⟩ = some (.int .i64 x.a) := A3.2.1 0
        have y3_1 : w6.cell? ⟨w.heap.size, 1, none⟩ = some (.int .i64 x.k) := A3.2.1 1
        have y3_2 : w6.cell? ⟨w.heap.size, 2, none⟩ = some (.int .u64 x.n) := A3.2.1 2
        have hP3 := hP2.out.gr hb6
        have hBase3 := hBase2.out.trans (hb6.mono hBase2.out.size)
        replace A3 := T.Hid.mk A3
        replace hP3 := T.Hid.mk hP3
        replace hBase3 := T.Hid.mk hBase3
        clear hb6 A2 hP2 hBase2 y2_0 y2_1 y2_2
        go_wp2_with fail
        refine (hB2'.out _ _ _ _ hP3.out).mono ?_
        rintro r w7 ⟨rfl, hb7⟩
        have A4 := T.at_below A3.out hb7 A3.out.1
        have y4_0 : w7.cell? ⟨w.heap.size, 0, none⟩ = some (.int .i64 x.a) := A4.2.1 0
        have y4_1 : w7.cell? ⟨w.heap.size, 1, none⟩ = some (.int .i64 x.k) := A4.2.1 1
        have y4_2 : w7.cell? ⟨w.heap.size, 2, none⟩ = some (.int .u64 x.n) := A4.2.1 2
        have hBase4 := hBase3.out.trans (hb7.mono hBase3.out.size)
        replace A4 := T.Hid.mk A4
        replace hBase4 := T.Hid.mk hBase4
        clear hb7 A3 hP3 hBase3 y3_0 y3_1 y3_2
        go_wp2_with fail
        have g1 : IntKind.i64.wrap ((A : Int) + 8) = (A : Int) + 8 := by rw [IntKind.wrap_i64]; omega
        have g2 : (0 : Int) ≤ (A : Int) + 8 := by omega
        have g3 : (A : Int) + 8 ≤ 65536 := by omega
        go_quiet (fail)
        go_wp2_with fail
        go_ret
        exact ⟨rfl, hBase4.out.trans ((T.drewN_below _ _).mono hBase4.out.size)⟩
end Go.Proofs.Ytbmkefpgfifigaa
