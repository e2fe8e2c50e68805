/-
  Stage 6, tagmem: TagmemAlike.
-/
import Derived.Test.YtbmkefpgfifigaaTKeepM
namespace Go.Proofs.Ytbmkefpgfifigaa
open Go.RowKit

set_option maxRecDepth 100000 in
set_option maxHeartbeats 4000000 in
theorem walk_TagmemAlike (L : List T.Wr) (la : Option Addr) (lc : Nat) (K : List Int) (ka : Option Addr) (kc : Nat) (w : World) (hL : (∀ y ∈ L, y.Ok) ∧ T.EIn 8 T.Wr.vals w la L) (hl : L.length ≤ maxLen) (hK : (∀ y ∈ K, T.I64 y) ∧ T.EIn 1 T.intV w ka K) (hkl : K.length ≤ maxLen) :
    Calls Try.prog 7 #[.slice la L.length lc, .slice ka K.length kc] w fun r w' => r = .returned (.bool true) ∧ Below w.heap.size w w' := by
  unfold maxLen at hl hkl
  have hN := T.newTagged_none
  have hF := T.newFlat_none
  have z0 := T.allB_size (T.runB (L.take 0))
  replace hL := T.Hid.mk hL
  replace hK := T.Hid.mk hK
  go_enter Try.func7, Try.ntmps7
  go_wp2_with fail
  refine (hN _).mono ?_
  rintro r w1 ⟨rfl, h1, hb1⟩
  replace h1 := T.Hid.mk h1
  replace hb1 := T.Hid.mk hb1
  go_wp2_with fail
  refine (hF _).mono ?_
  rintro r w2 ⟨rfl, F, h2, hF2, hb2⟩
  have hD := T.Ld.begin L h1.out hb1.out h2 hF2 hb2
  have hBy := hD.bytesT
  clear h1 hb1 h2 hF2 hb2 hN hF hD
  generalize T.allB (T.runB (L.take 0)) = N0 at *
  go_wp2_with fail
  refine hBy.mono ?_
  rintro r w3 ⟨rfl, hD⟩
  replace hD := T.Hid.mk hD
  go_wp2_with fail
  go_loopw [7] (fun v wr => ∃ i : Nat, v = .int .i64 i ∧ i ≤ L.length ∧ T.Ld w wr (w.heap.size + 1) w1.heap.size L i) (fun v _ => L.length - (intOf v).toNat)
  case atStart => exact ⟨0, rfl, by omega, hD.out⟩
  case round =>
    clear hD
    obtain ⟨i, rfl, hi, hD⟩ := hrel
    by_cases hlt : i < L.length
    · have jl : (i : Int) < L.length := by omega
      have hS := hD.step hlt (hL.out.1 _ (List.getElem_mem hlt))
      have hB : Below w.heap.size w wr := hD.below
      obtain ⟨bb, off, rfl, hbl, c0, c1, c2, c3, c4, c5, c6, c7⟩ := T.eight (hL.out.2.below hB) i hlt
      unfold T.Wr.cells at hS
      replace hD := T.Hid.mk hD
      replace hB := T.Hid.mk hB
      generalize L[i] = y at *
      go_wp2_with fail
      refine hS.mono ?_
      rintro r w3 ⟨rfl, hD2⟩
      replace hD2 := T.Hid.mk hD2
      go_wp2_with fail
      exact ⟨⟨i + 1, by go_num, by omega, hD2.out⟩, by simp [intOf]; omega⟩
    · have jl : ¬ (i : Int) < L.length := by omega
      have : i = L.length := by omega
      subst this
      replace hD := T.Hid.mk hD
      go_wp2_with fail
      go_loopw [9] (fun v wq => ∃ j : Nat, v = .int .i64 j ∧ j ≤ K.length ∧ T.Ld w wq (w.heap.size + 1) w1.heap.size L L.length) (fun v _ => K.length - (intOf v).toNat)
      case atStart => exact ⟨0, rfl, by omega, hD.out⟩
      case round =>
        clear hD
        obtain ⟨j, rfl, hj, hD⟩ := hrel
        by_cases hjt : j < K.length
        · have jl2 : (j : Int) < K.length := by omega
          obtain ⟨bb, off, rfl, hbl, hc⟩ := (hK.out.2.below hD.below) j hjt
          have c0 : wr.cell? ⟨bb, off + j * 1, none⟩ = some (.int .i64 K[j]) := hc 0 _ rfl
          rw [Nat.mul_one] at c0
          have hpk : ∀ W, Calls Try.prog 13 #[.int .i64 K[j], .int .i64 65536] W fun y w' => y = .returned (.int .i64 (T.pk K[j] 65536)) ∧ w' = W := fun W => T.pick_any K[j] 65536 W (hK.out.1 _ (List.getElem_mem hjt)) (by omega) (by omega)
          have hpl := T.pk_lt K[j] 65536 (by omega)
          generalize T.pk K[j] 65536 = A at *
          generalize K[j] = kj at *
          have e1 : T.ldE A 1 = 0 := by unfold T.ldE; rw [T.word1 hpl]; rfl
          have e8 : T.ldE (A / 8 * 8) 8 = 0 := by unfold T.ldE; rw [T.word8 (by omega)]; rfl
          have l1 := fun W (q : T.Ld w W (w.heap.size + 1) w1.heap.size L L.length) => q.loadT A 1 (by omega) (by omega)
          have l2 := fun W (q : T.Ld w W (w.heap.size + 1) w1.heap.size L L.length) => q.loadF A 1 (by omega) (by omega)
          have l3 := fun W (q : T.Ld w W (w.heap.size + 1) w1.heap.size L L.length) => q.loadT (A / 8 * 8) 8 (by omega) (by omega)
          have l4 := fun W (q : T.Ld w W (w.heap.size + 1) w1.heap.size L L.length) => q.loadF (A / 8 * 8) 8 (by omega) (by omega)
          rw [e1] at l1 l2
          rw [e8] at l3 l4
          generalize T.ldV (T.runB (L.take L.length)) A 1 = V1 at *
          generalize T.ldV (T.runB (L.take L.length)) (A / 8 * 8) 8 = V8 at *
          have ep : (((A / 8 * 8) : Nat) : Int) = (A : Int) / 8 * 8 := by omega
          simp only [ep] at l3 l4
          clear ep e1 e8 hc
          replace l1 := T.Hid.mk l1
          replace l2 := T.Hid.mk l2
          replace l3 := T.Hid.mk l3
          replace l4 := T.Hid.mk l4
          replace hD := T.Hid.mk hD
          go_wp2_with fail
          refine (hpk _).mono ?_
          rintro r w4 ⟨rfl, rfl⟩
          go_wp2_with fail
          refine (l1.out _ hD.out).mono ?_
          rintro r w5 ⟨rfl, hD5⟩
          replace hD5 := T.Hid.mk hD5
          clear hD c0 hbl hpk
          go_wp2_with fail
          refine (l2.out _ hD5.out).mono ?_
          rintro r w6 ⟨rfl, hD6⟩
          replace hD6 := T.Hid.mk hD6
          go_wp2_with fail
          refine (l3.out _ hD6.out).mono ?_
          rintro r w7 ⟨rfl, hD7⟩
          replace hD7 := T.Hid.mk hD7
          go_wp2_with fail
          refine (l4.out _ hD7.out).mono ?_
          rintro r w8 ⟨rfl, hD8⟩
          replace hD8 := T.Hid.mk hD8
          go_wp2_with fail
          exact ⟨⟨j + 1, by go_num, by omega, hD8.out⟩, by simp [intOf]; omega⟩
        · have jl2 : ¬ (j : Int) < K.length := by omega
          have b1 := fun W (q : T.Ld w W (w.heap.size + 1) w1.heap.size L L.length) => q.bytesT
          have b2 := fun W (q : T.Ld w W (w.heap.size + 1) w1.heap.size L L.length) => q.bytesF
          generalize T.allB (T.runB (L.take L.length)) = N1 at *
          replace b1 := T.Hid.mk b1
          replace b2 := T.Hid.mk b2
          replace hD := T.Hid.mk hD
          go_wp2_with fail
          refine (b1.out _ hD.out).mono ?_
          rintro r w5 ⟨rfl, hD5⟩
          replace hD5 := T.Hid.mk hD5
          go_wp2_with fail
          refine (b2.out _ hD5.out).mono ?_
          rintro r w6 ⟨rfl, hD6⟩
          replace hD6 := T.Hid.mk hD6
          go_wp2_with fail
          go_ret
          exact ⟨rfl, hD6.out.below⟩
end Go.Proofs.Ytbmkefpgfifigaa
