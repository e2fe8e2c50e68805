/-
  Stage 6, tagmem: TagmemPlace.
-/
import Derived.Test.YtbmkefpgfifigaaTPlace
namespace Go.Proofs.Ytbmkefpgfifigaa
open Go.RowKit

set_option maxRecDepth 100000 in
set_option maxHeartbeats 4000000 in
theorem walk_TagmemPlace (L : List T.Wr) (la : Option Addr) (lc : Nat) (addr size n : Int) (c : T.Cp) (w : World) (hL : (∀ y ∈ L, y.Ok) ∧ T.EIn 8 T.Wr.vals w la L) (hl : L.length ≤ maxLen) (ha : T.U64 addr) (hs : T.U64 size) (hn : T.U64 n) (_hc : c.Ok) :
    Calls Try.prog 8 #[.slice la L.length lc, .int .u64 addr, .int .u64 size, .int .u64 n, c.agg] w fun r w' => r = .returned (.bool true) ∧ Below w.heap.size w w' := by
  unfold maxLen at hl
  unfold T.U64 at ha hs hn
  obtain ⟨A, rfl⟩ : ∃ A : Nat, addr = A := ⟨addr.toNat, by omega⟩
  obtain ⟨Z, rfl⟩ : ∃ Z : Nat, size = Z := ⟨size.toNat, by omega⟩
  obtain ⟨N, rfl⟩ : ∃ N : Nat, n = N := ⟨n.toNat, by omega⟩
  have hA0 := At.new w #[.int .u64 c.b, .int .u64 c.e, .int .u64 c.c, .int .u8 c.p, .int .i64 c.s] 26
  replace hA0 := T.Hid.mk hA0
  have hN := T.newTagged_none
  have hF := T.newFlat_none
  unfold T.Cp.agg
  replace hL := T.Hid.mk hL
  go_enter Try.func8, Try.ntmps8
  go_wp2_with fail
  refine (hN _).mono ?_
  rintro r w1 ⟨rfl, h1, hb1⟩
  replace h1 := T.Hid.mk h1
  replace hb1 := T.Hid.mk hb1
  go_wp2_with fail
  refine (hF _).mono ?_
  rintro r w2 ⟨rfl, F, h2, hF2, hb2⟩
  have hD := T.Ld.begin L h1.out hb1.out h2 hF2 hb2
  rw [World.size_alloc] at hD
  replace hD := T.Hid.mk hD
  clear h1 hb1 h2 hF2 hb2 hN hF
  go_wp2_with fail
  go_loopw [13] (fun v wr => ∃ i : Nat, v = .int .i64 i ∧ i ≤ L.length ∧ T.Ld (w.alloc (.cells #[.int .u64 c.b, .int .u64 c.e, .int .u64 c.c, .int .u8 c.p, .int .i64 c.s] 26)) wr (w.heap.size + 1 + 1) w1.heap.size L i) (fun v _ => L.length - (intOf v).toNat)
  case atStart => exact ⟨0, rfl, by omega, hD.out⟩
  case round =>
    clear hD
    obtain ⟨i, rfl, hi, hD⟩ := hrel
    by_cases hlt : i < L.length
    · have jl : (i : Int) < L.length := by omega
      have hS := hD.step hlt (hL.out.1 _ (List.getElem_mem hlt))
      have hB : Below w.heap.size w wr := ((Below.refl _ w).alloc (Nat.le_refl _) _).trans (hD.below.mono (by simp))
      obtain ⟨bb, off, rfl, hbl, c0, c1, c2, c3, c4, c5, c6, c7⟩ := T.eight (hL.out.2.below hB) i hlt
      unfold T.Wr.cells at hS
      replace hD := T.Hid.mk hD
      replace hB := T.Hid.mk hB
      generalize L[i] = y at *
      go_wp2_with fail
      refine hS.mono ?_
      rintro r w3 ⟨rfl, hD2⟩
      replace hD2 := T.Hid.mk hD2
      go_wp2_with fail
      exact ⟨⟨i + 1, by go_num, by omega, hD2.out⟩, by simp [intOf]; omega⟩
    · have jl : ¬ (i : Int) < L.length := by omega
      have : i = L.length := by omega
      subst this
      have b1 := hD.bytesT
      have zb := T.allB_size (T.runB (L.take L.length))
      have hcap := fun v W (q : T.Pl (w.alloc (.cells #[.int .u64 c.b, .int .u64 c.e, .int .u64 c.c, .int .u8 c.p, .int .i64 c.s] 26)) W (w.heap.size + 1 + 1) w1.heap.size L v) => T.at_below hA0.out q.ld.below (by simp)
      have l1 := fun v W (q : T.Pl (w.alloc (.cells #[.int .u64 c.b, .int .u64 c.e, .int .u64 c.c, .int .u8 c.p, .int .i64 c.s] 26)) W (w.heap.size + 1 + 1) w1.heap.size L v) => q.loadT A Z (by omega) (by omega)
      have l2 := fun v W (q : T.Pl (w.alloc (.cells #[.int .u64 c.b, .int .u64 c.e, .int .u64 c.c, .int .u8 c.p, .int .i64 c.s] 26)) W (w.heap.size + 1 + 1) w1.heap.size L v) => q.loadF A Z (by omega) (by omega)
      have l3 := fun v W (q : T.Pl (w.alloc (.cells #[.int .u64 c.b, .int .u64 c.e, .int .u64 c.c, .int .u8 c.p, .int .i64 c.s] 26)) W (w.heap.size + 1 + 1) w1.heap.size L v) => q.loadCap A (by omega)
      have l4 := fun v W (q : T.Pl (w.alloc (.cells #[.int .u64 c.b, .int .u64 c.e, .int .u64 c.c, .int .u8 c.p, .int .i64 c.s] 26)) W (w.heap.size + 1 + 1) w1.heap.size L v) => q.storeT A Z N (by omega) (by omega)
      have l5 := fun v W (q : T.Pl (w.alloc (.cells #[.int .u64 c.b, .int .u64 c.e, .int .u64 c.c, .int .u8 c.p, .int .i64 c.s] 26)) W (w.heap.size + 1 + 1) w1.heap.size L v) => q.storeF A Z N (by omega) (by omega)
      have l6 := fun v W (q : T.Pl (w.alloc (.cells #[.int .u64 c.b, .int .u64 c.e, .int .u64 c.c, .int .u8 c.p, .int .i64 c.s] 26)) W (w.heap.size + 1 + 1) w1.heap.size L v) => q.storeCap A c (by omega)
      have l7 := fun v W (q : T.Pl (w.alloc (.cells #[.int .u64 c.b, .int .u64 c.e, .int .u64 c.c, .int .u8 c.p, .int .i64 c.s] 26)) W (w.heap.size + 1 + 1) w1.heap.size L v) => q.bytesT
      have l8 := fun v W (q : T.Pl (w.alloc (.cells #[.int .u64 c.b, .int .u64 c.e, .int .u64 c.c, .int .u8 c.p, .int .i64 c.s] 26)) W (w.heap.size + 1 + 1) w1.heap.size L v) => q.bytesF
      have l9 := fun v W (q : T.Pl (w.alloc (.cells #[.int .u64 c.b, .int .u64 c.e, .int .u64 c.c, .int .u8 c.p, .int .i64 c.s] 26)) W (w.heap.size + 1 + 1) w1.heap.size L v) => q.tags
      have l10 := fun v v' W (q : T.Pl (w.alloc (.cells #[.int .u64 c.b, .int .u64 c.e, .int .u64 c.c, .int .u8 c.p, .int .i64 c.s] 26)) W (w.heap.size + 1 + 1) w1.heap.size L v) (q' : T.Pl (w.alloc (.cells #[.int .u64 c.b, .int .u64 c.e, .int .u64 c.c, .int .u8 c.p, .int .i64 c.s] 26)) W (w.heap.size + 1 + 1) w1.heap.size L v') => q.same q'
      have t0 := fun W (q : T.Ld (w.alloc (.cells #[.int .u64 c.b, .int .u64 c.e, .int .u64 c.c, .int .u8 c.p, .int .i64 c.s] 26)) W (w.heap.size + 1 + 1) w1.heap.size L L.length) => q.tags
      generalize T.allB (T.runB (L.take L.length)) = N0 at *
      replace hcap := T.Hid.mk hcap
      replace l1 := T.Hid.mk l1
      replace l2 := T.Hid.mk l2
      replace l3 := T.Hid.mk l3
      replace l4 := T.Hid.mk l4
      replace l5 := T.Hid.mk l5
      replace l6 := T.Hid.mk l6
      replace l7 := T.Hid.mk l7
      replace l8 := T.Hid.mk l8
      replace l9 := T.Hid.mk l9
      replace l10 := T.Hid.mk l10
      replace t0 := T.Hid.mk t0
      clear hD
      go_wp2_with fail
      refine b1.mono ?_
      rintro r w3 ⟨rfl, hD⟩
      replace hD := T.Hid.mk hD
      clear b1
      go_wp2_with fail
      refine (t0.out _ hD.out).mono ?_
      rintro r w4 ⟨tv, rfl, hP⟩
      replace hP := T.Hid.mk hP
      clear hD t0
      rcases (by omega : Z = 1 ∨ Z = 8 ∨ (Z ≠ 1 ∧ Z ≠ 8)) with hz | hz | hz
      · subst hz
        rcases (by omega : A < 65536 ∨ 65536 ≤ A) with hq | hq
        · by_cases hm16 : A % 16 = 0
          · have hlt1 : (A : Int) < 65536 := by omega
            have hle1 : (A : Int) + 1 ≤ 65536 := by omega
            have hwr : IntKind.u64.wrap ((A : Int) + 1) = (A : Int) + 1 := by rw [IntKind.wrap_u64]; omega
            have hm : (A : Int) % 16 = 0 := by omega
            have eW : T.wordB A 1 = true := by simp [T.wordB]; omega
            have eG : T.granB A = true := by simp [T.granB]; omega
            have l1' := l1.out tv
            have l2' := l2.out tv
            have l3' := l3.out tv
            have l7' := l7.out tv
            have l8' := l8.out tv
            have l9' := l9.out tv
            have l10' := l10.out tv
            have hE1 : T.ldE A 1 = 0 := by unfold T.ldE; rw [eW]; rfl
            have hE2 : T.lcE A = 0 := by unfold T.lcE; rw [eG]; rfl
            rw [hE1] at l1' l2'
            rw [hE2] at l3'
            generalize T.ldV (T.runB (L.take L.length)) A 1 = V1 at *
            generalize T.lcV (T.runB (L.take L.length)) (T.runT (L.take L.length)) A = V2 at *
            simp only [T.Vl.agg] at l3'
            replace l1' := T.Hid.mk l1'
            replace l2' := T.Hid.mk l2'
            replace l3' := T.Hid.mk l3'
            replace l7' := T.Hid.mk l7'
            replace l8' := T.Hid.mk l8'
            replace l9' := T.Hid.mk l9'
            replace l10' := T.Hid.mk l10'
            clear l1 l2 l3 l4 l5 l6 l7 l8 l9 l10 hE1 hE2 eW eG hq hm16
            go_wp2_with fail
            refine (l1'.out _ hP.out).mono ?_
            rintro r w5 ⟨rfl, hP5⟩
            replace hP5 := T.Hid.mk hP5
            clear hP
            go_wp2_with fail
            refine (l2'.out _ hP5.out).mono ?_
            rintro r w6 ⟨rfl, hP6⟩
            replace hP6 := T.Hid.mk hP6
            clear hP5
            go_wp2_with fail
            refine (l3'.out _ hP6.out).mono ?_
            rintro r w7 ⟨rfl, hP7⟩
            replace hP7 := T.Hid.mk hP7
            clear hP6
            have sz7 : w.heap.size < w7.heap.size := by have := hP7.out.ld.below.size; simp at this; omega
            have A6 := hcap.out tv _ hP7.out
            have y0 : w7.cell? ⟨w.heap.size, 0, none⟩ = some (.int .u64 c.b) := A6.2.1 0
            have y1 : w7.cell? ⟨w.heap.size, 1, none⟩ = some (.int .u64 c.e) := A6.2.1 1
            have y2 : w7.cell? ⟨w.heap.size, 2, none⟩ = some (.int .u64 c.c) := A6.2.1 2
            have y3 : w7.cell? ⟨w.heap.size, 3, none⟩ = some (.int .u8 c.p) := A6.2.1 3
            have y4 : w7.cell? ⟨w.heap.size, 4, none⟩ = some (.int .i64 c.s) := A6.2.1 4
            replace A6 := T.Hid.mk A6
            have hA := fun o => hP7.out.gr ((Below.refl _ w7).alloc (Nat.le_refl _) o)
            replace hA := T.Hid.mk hA
            clear hP7
            go_wp2_with fail
            refine (l7'.out _ (hA.out _)).mono ?_
            rintro r w8 ⟨rfl, hP8⟩
            replace hP8 := T.Hid.mk hP8
            clear hA
            go_wp2_with fail
            refine (l8'.out _ hP8.out).mono ?_
            rintro r w9 ⟨rfl, hP9⟩
            replace hP9 := T.Hid.mk hP9
            clear hP8
            go_wp2_with fail
            refine (l9'.out _ hP9.out).mono ?_
            rintro r w10 ⟨tv2, rfl, hT2, hT1⟩
            replace hT1 := T.Hid.mk hT1
            replace hT2 := T.Hid.mk hT2
            clear hP9
            go_wp2_with fail
            refine (l10'.out _ _ hT1.out hT2.out).mono ?_
            rintro r w11 ⟨rfl, hB⟩
            replace hB := T.Hid.mk hB
            go_wp2_with fail
            go_ret
            exact ⟨rfl, ((Below.refl _ w).alloc (Nat.le_refl _) _).trans (hB.out.mono (by simp))⟩
          · have hlt1 : (A : Int) < 65536 := by omega
            have hle1 : (A : Int) + 1 ≤ 65536 := by omega
            have hwr : IntKind.u64.wrap ((A : Int) + 1) = (A : Int) + 1 := by rw [IntKind.wrap_u64]; omega
            have hm : ((A : Int) % 16 == 0) = false := by simpa using (by omega : ¬ (A : Int) % 16 = 0)
            have eW : T.wordB A 1 = true := by simp [T.wordB]; omega
            have eG : T.granB A = false := by simp [T.granB]; omega
            have l1' := l1.out tv
            have l2' := l2.out tv
            have l3' := l3.out tv
            have l7' := l7.out tv
            have l8' := l8.out tv
            have l9' := l9.out tv
            have l10' := l10.out tv
            have hE1 : T.ldE A 1 = 0 := by unfold T.ldE; rw [eW]; rfl
            have hE2 : T.lcE A = 60 := by unfold T.lcE; rw [eG]; rfl
            rw [hE1] at l1' l2'
            rw [hE2] at l3'
            generalize T.ldV (T.runB (L.take L.length)) A 1 = V1 at *
            generalize T.lcV (T.runB (L.take L.length)) (T.runT (L.take L.length)) A = V2 at *
            simp only [T.Vl.agg] at l3'
            replace l1' := T.Hid.mk l1'
            replace l2' := T.Hid.mk l2'
            replace l3' := T.Hid.mk l3'
            replace l7' := T.Hid.mk l7'
            replace l8' := T.Hid.mk l8'
            replace l9' := T.Hid.mk l9'
            replace l10' := T.Hid.mk l10'
            have l6' := fun W q => l6.out tv W q eG
            replace l6' := T.Hid.mk l6'
            clear l1 l2 l3 l4 l5 l6 l7 l8 l9 l10 hE1 hE2 eW eG hq hm16
            go_wp2_with fail
            refine (l1'.out _ hP.out).mono ?_
            rintro r w5 ⟨rfl, hP5⟩
            replace hP5 := T.Hid.mk hP5
            clear hP
            go_wp2_with fail
            refine (l2'.out _ hP5.out).mono ?_
            rintro r w6 ⟨rfl, hP6⟩
            replace hP6 := T.Hid.mk hP6
            clear hP5
            go_wp2_with fail
            refine (l3'.out _ hP6.out).mono ?_
            rintro r w7 ⟨rfl, hP7⟩
            replace hP7 := T.Hid.mk hP7
            clear hP6
            have sz7 : w.heap.size < w7.heap.size := by have := hP7.out.ld.below.size; simp at this; omega
            have A6 := hcap.out tv _ hP7.out
            have y0 : w7.cell? ⟨w.heap.size, 0, none⟩ = some (.int .u64 c.b) := A6.2.1 0
            have y1 : w7.cell? ⟨w.heap.size, 1, none⟩ = some (.int .u64 c.e) := A6.2.1 1
            have y2 : w7.cell? ⟨w.heap.size, 2, none⟩ = some (.int .u64 c.c) := A6.2.1 2
            have y3 : w7.cell? ⟨w.heap.size, 3, none⟩ = some (.int .u8 c.p) := A6.2.1 3
            have y4 : w7.cell? ⟨w.heap.size, 4, none⟩ = some (.int .i64 c.s) := A6.2.1 4
            replace A6 := T.Hid.mk A6
            have hA := fun o => hP7.out.gr ((Below.refl _ w7).alloc (Nat.le_refl _) o)
            replace hA := T.Hid.mk hA
            clear hP7
            go_wp2_with fail
            refine (l6'.out _ (hA.out _)).mono ?_
            rintro r w8 ⟨rfl, hP8⟩
            replace hP8 := T.Hid.mk hP8
            clear hA
            go_wp2_with fail
            refine (l7'.out _ hP8.out).mono ?_
            rintro r w9 ⟨rfl, hP9⟩
            replace hP9 := T.Hid.mk hP9
            clear hP8
            go_wp2_with fail
            refine (l8'.out _ hP9.out).mono ?_
            rintro r w10 ⟨rfl, hP10⟩
            replace hP10 := T.Hid.mk hP10
            clear hP9
            go_wp2_with fail
            refine (l9'.out _ hP10.out).mono ?_
            rintro r w11 ⟨tv2, rfl, hT2, hT1⟩
            replace hT1 := T.Hid.mk hT1
            replace hT2 := T.Hid.mk hT2
            clear hP10
            go_wp2_with fail
            refine (l10'.out _ _ hT1.out hT2.out).mono ?_
            rintro r w12 ⟨rfl, hB⟩
            replace hB := T.Hid.mk hB
            go_wp2_with fail
            go_ret
            exact ⟨rfl, ((Below.refl _ w).alloc (Nat.le_refl _) _).trans (hB.out.mono (by simp))⟩
        · by_cases hm16 : A % 16 = 0
          · have hlt1 : decide ((A : Int) < 65536) = false := by simp; omega
            obtain ⟨Y, hwr⟩ : ∃ Y, IntKind.u64.wrap ((A : Int) + 1) = Y := ⟨_, rfl⟩
            have hm : (A : Int) % 16 = 0 := by omega
            have eW : T.wordB A 1 = false := by simp [T.wordB]; omega
            have eG : T.granB A = false := by simp [T.granB]; omega
            have l1' := l1.out tv
            have l2' := l2.out tv
            have l3' := l3.out tv
            have l7' := l7.out tv
            have l8' := l8.out tv
            have l9' := l9.out tv
            have l10' := l10.out tv
            have hE1 : T.ldE A 1 = 60 := by unfold T.ldE; rw [eW]; rfl
            have hE2 : T.lcE A = 60 := by unfold T.lcE; rw [eG]; rfl
            rw [hE1] at l1' l2'
            rw [hE2] at l3'
            generalize T.ldV (T.runB (L.take L.length)) A 1 = V1 at *
            generalize T.lcV (T.runB (L.take L.length)) (T.runT (L.take L.length)) A = V2 at *
            simp only [T.Vl.agg] at l3'
            replace l1' := T.Hid.mk l1'
            replace l2' := T.Hid.mk l2'
            replace l3' := T.Hid.mk l3'
            replace l7' := T.Hid.mk l7'
            replace l8' := T.Hid.mk l8'
            replace l9' := T.Hid.mk l9'
            replace l10' := T.Hid.mk l10'
            have l4' := fun W q => l4.out tv W q eW
            have l5' := fun W q => l5.out tv W q eW
            replace l4' := T.Hid.mk l4'
            replace l5' := T.Hid.mk l5'
            have l6' := fun W q => l6.out tv W q eG
            replace l6' := T.Hid.mk l6'
            clear l1 l2 l3 l4 l5 l6 l7 l8 l9 l10 hE1 hE2 eW eG hq hm16
            go_wp2_with fail
            refine (l1'.out _ hP.out).mono ?_
            rintro r w5 ⟨rfl, hP5⟩
            replace hP5 := T.Hid.mk hP5
            clear hP
            go_wp2_with fail
            refine (l2'.out _ hP5.out).mono ?_
            rintro r w6 ⟨rfl, hP6⟩
            replace hP6 := T.Hid.mk hP6
            clear hP5
            go_wp2_with fail
            refine (l3'.out _ hP6.out).mono ?_
            rintro r w7 ⟨rfl, hP7⟩
            replace hP7 := T.Hid.mk hP7
            clear hP6
            have sz7 : w.heap.size < w7.heap.size := by have := hP7.out.ld.below.size; simp at this; omega
            have A6 := hcap.out tv _ hP7.out
            have y0 : w7.cell? ⟨w.heap.size, 0, none⟩ = some (.int .u64 c.b) := A6.2.1 0
            have y1 : w7.cell? ⟨w.heap.size, 1, none⟩ = some (.int .u64 c.e) := A6.2.1 1
            have y2 : w7.cell? ⟨w.heap.size, 2, none⟩ = some (.int .u64 c.c) := A6.2.1 2
            have y3 : w7.cell? ⟨w.heap.size, 3, none⟩ = some (.int .u8 c.p) := A6.2.1 3
            have y4 : w7.cell? ⟨w.heap.size, 4, none⟩ = some (.int .i64 c.s) := A6.2.1 4
            replace A6 := T.Hid.mk A6
            have hA := fun o => hP7.out.gr ((Below.refl _ w7).alloc (Nat.le_refl _) o)
            replace hA := T.Hid.mk hA
            clear hP7
            go_wp2_with fail
            refine (l4'.out _ (hA.out _)).mono ?_
            rintro r w8 ⟨rfl, hP8⟩
            replace hP8 := T.Hid.mk hP8
            clear hA
            go_wp2_with fail
            refine (l5'.out _ hP8.out).mono ?_
            rintro r w9 ⟨rfl, hP9⟩
            replace hP9 := T.Hid.mk hP9
            clear hP8
            have A6 := hcap.out tv _ hP9.out
            have y0 : w9.cell? ⟨w.heap.size, 0, none⟩ = some (.int .u64 c.b) := A6.2.1 0
            have y1 : w9.cell? ⟨w.heap.size, 1, none⟩ = some (.int .u64 c.e) := A6.2.1 1
            have y2 : w9.cell? ⟨w.heap.size, 2, none⟩ = some (.int .u64 c.c) := A6.2.1 2
            have y3 : w9.cell? ⟨w.heap.size, 3, none⟩ = some (.int .u8 c.p) := A6.2.1 3
            have y4 : w9.cell? ⟨w.heap.size, 4, none⟩ = some (.int .i64 c.s) := A6.2.1 4
            replace A6 := T.Hid.mk A6
            go_wp2_with fail
            refine (l6'.out _ hP9.out).mono ?_
            rintro r w10 ⟨rfl, hP10⟩
            replace hP10 := T.Hid.mk hP10
            clear hP9
            go_wp2_with fail
            refine (l7'.out _ hP10.out).mono ?_
            rintro r w11 ⟨rfl, hP11⟩
            replace hP11 := T.Hid.mk hP11
            clear hP10
            go_wp2_with fail
            refine (l8'.out _ hP11.out).mono ?_
            rintro r w12 ⟨rfl, hP12⟩
            replace hP12 := T.Hid.mk hP12
            clear hP11
            go_wp2_with fail
            refine (l9'.out _ hP12.out).mono ?_
            rintro r w13 ⟨tv2, rfl, hT2, hT1⟩
            replace hT1 := T.Hid.mk hT1
            replace hT2 := T.Hid.mk hT2
            clear hP12
            go_wp2_with fail
            refine (l10'.out _ _ hT1.out hT2.out).mono ?_
            rintro r w14 ⟨rfl, hB⟩
            replace hB := T.Hid.mk hB
            go_wp2_with fail
            go_ret
            exact ⟨rfl, ((Below.refl _ w).alloc (Nat.le_refl _) _).trans (hB.out.mono (by simp))⟩
          · have hlt1 : decide ((A : Int) < 65536) = false := by simp; omega
            obtain ⟨Y, hwr⟩ : ∃ Y, IntKind.u64.wrap ((A : Int) + 1) = Y := ⟨_, rfl⟩
            have hm : ((A : Int) % 16 == 0) = false := by simpa using (by omega : ¬ (A : Int) % 16 = 0)
            have eW : T.wordB A 1 = false := by simp [T.wordB]; omega
            have eG : T.granB A = false := by simp [T.granB]; omega
            have l1' := l1.out tv
            have l2' := l2.out tv
            have l3' := l3.out tv
            have l7' := l7.out tv
            have l8' := l8.out tv
            have l9' := l9.out tv
            have l10' := l10.out tv
            have hE1 : T.ldE A 1 = 60 := by unfold T.ldE; rw [eW]; rfl
            have hE2 : T.lcE A = 60 := by unfold T.lcE; rw [eG]; rfl
            rw [hE1] at l1' l2'
            rw [hE2] at l3'
            generalize T.ldV (T.runB (L.take L.length)) A 1 = V1 at *
            generalize T.lcV (T.runB (L.take L.length)) (T.runT (L.take L.length)) A = V2 at *
            simp only [T.Vl.agg] at l3'
            replace l1' := T.Hid.mk l1'
            replace l2' := T.Hid.mk l2'
            replace l3' := T.Hid.mk l3'
            replace l7' := T.Hid.mk l7'
            replace l8' := T.Hid.mk l8'
            replace l9' := T.Hid.mk l9'
            replace l10' := T.Hid.mk l10'
            have l4' := fun W q => l4.out tv W q eW
            have l5' := fun W q => l5.out tv W q eW
            replace l4' := T.Hid.mk l4'
            replace l5' := T.Hid.mk l5'
            have l6' := fun W q => l6.out tv W q eG
            replace l6' := T.Hid.mk l6'
            clear l1 l2 l3 l4 l5 l6 l7 l8 l9 l10 hE1 hE2 eW eG hq hm16
            go_wp2_with fail
            refine (l1'.out _ hP.out).mono ?_
            rintro r w5 ⟨rfl, hP5⟩
            replace hP5 := T.Hid.mk hP5
            clear hP
            go_wp2_with fail
            refine (l2'.out _ hP5.out).mono ?_
            rintro r w6 ⟨rfl, hP6⟩
            replace hP6 := T.Hid.mk hP6
            clear hP5
            go_wp2_with fail
            refine (l3'.out _ hP6.out).mono ?_
            rintro r w7 ⟨rfl, hP7⟩
            replace hP7 := T.Hid.mk hP7
            clear hP6
            have sz7 : w.heap.size < w7.heap.size := by have := hP7.out.ld.below.size; simp at this; omega
            have A6 := hcap.out tv _ hP7.out
            have y0 : w7.cell? ⟨w.heap.size, 0, none⟩ = some (.int .u64 c.b) := A6.2.1 0
            have y1 : w7.cell? ⟨w.heap.size, 1, none⟩ = some (.int .u64 c.e) := A6.2.1 1
            have y2 : w7.cell? ⟨w.heap.size, 2, none⟩ = some (.int .u64 c.c) := A6.2.1 2
            have y3 : w7.cell? ⟨w.heap.size, 3, none⟩ = some (.int .u8 c.p) := A6.2.1 3
            have y4 : w7.cell? ⟨w.heap.size, 4, none⟩ = some (.int .i64 c.s) := A6.2.1 4
            replace A6 := T.Hid.mk A6
            have hA := fun o => hP7.out.gr ((Below.refl _ w7).alloc (Nat.le_refl _) o)
            replace hA := T.Hid.mk hA
            clear hP7
            go_wp2_with fail
            refine (l4'.out _ (hA.out _)).mono ?_
            rintro r w8 ⟨rfl, hP8⟩
            replace hP8 := T.Hid.mk hP8
            clear hA
            go_wp2_with fail
            refine (l5'.out _ hP8.out).mono ?_
            rintro r w9 ⟨rfl, hP9⟩
            replace hP9 := T.Hid.mk hP9
            clear hP8
            have A6 := hcap.out tv _ hP9.out
            have y0 : w9.cell? ⟨w.heap.size, 0, none⟩ = some (.int .u64 c.b) := A6.2.1 0
            have y1 : w9.cell? ⟨w.heap.size, 1, none⟩ = some (.int .u64 c.e) := A6.2.1 1
            have y2 : w9.cell? ⟨w.heap.size, 2, none⟩ = some (.int .u64 c.c) := A6.2.1 2
            have y3 : w9.cell? ⟨w.heap.size, 3, none⟩ = some (.int .u8 c.p) := A6.2.1 3
            have y4 : w9.cell? ⟨w.heap.size, 4, none⟩ = some (.int .i64 c.s) := A6.2.1 4
            replace A6 := T.Hid.mk A6
            go_wp2_with fail
            refine (l6'.out _ hP9.out).mono ?_
            rintro r w10 ⟨rfl, hP10⟩
            replace hP10 := T.Hid.mk hP10
            clear hP9
            go_wp2_with fail
            refine (l7'.out _ hP10.out).mono ?_
            rintro r w11 ⟨rfl, hP11⟩
            replace hP11 := T.Hid.mk hP11
            clear hP10
            go_wp2_with fail
            refine (l8'.out _ hP11.out).mono ?_
            rintro r w12 ⟨rfl, hP12⟩
            replace hP12 := T.Hid.mk hP12
            clear hP11
            go_wp2_with fail
            refine (l9'.out _ hP12.out).mono ?_
            rintro r w13 ⟨tv2, rfl, hT2, hT1⟩
            replace hT1 := T.Hid.mk hT1
            replace hT2 := T.Hid.mk hT2
            clear hP12
            go_wp2_with fail
            refine (l10'.out _ _ hT1.out hT2.out).mono ?_
            rintro r w14 ⟨rfl, hB⟩
            replace hB := T.Hid.mk hB
            go_wp2_with fail
            go_ret
            exact ⟨rfl, ((Below.refl _ w).alloc (Nat.le_refl _) _).trans (hB.out.mono (by simp))⟩
      · subst hz
        rcases (by omega : A ≤ 65528 ∨ (65528 < A ∧ A < 65536) ∨ 65536 ≤ A) with hq | hq | hq
        · by_cases hm16 : A % 16 = 0
          · have hlt1 : (A : Int) < 65536 := by omega
            have hle1 : (A : Int) + 8 ≤ 65536 := by omega
            have hwr : IntKind.u64.wrap ((A : Int) + 8) = (A : Int) + 8 := by rw [IntKind.wrap_u64]; omega
            have hm : (A : Int) % 16 = 0 := by omega
            have eW : T.wordB A 8 = true := by simp [T.wordB]; omega
            have eG : T.granB A = true := by simp [T.granB]; omega
            have l1' := l1.out tv
            have l2' := l2.out tv
            have l3' := l3.out tv
            have l7' := l7.out tv
            have l8' := l8.out tv
            have l9' := l9.out tv
            have l10' := l10.out tv
            have hE1 : T.ldE A 8 = 0 := by unfold T.ldE; rw [eW]; rfl
            have hE2 : T.lcE A = 0 := by unfold T.lcE; rw [eG]; rfl
            rw [hE1] at l1' l2'
            rw [hE2] at l3'
            generalize T.ldV (T.runB (L.take L.length)) A 8 = V1 at *
            generalize T.lcV (T.runB (L.take L.length)) (T.runT (L.take L.length)) A = V2 at *
            simp only [T.Vl.agg] at l3'
            replace l1' := T.Hid.mk l1'
            replace l2' := T.Hid.mk l2'
            replace l3' := T.Hid.mk l3'
            replace l7' := T.Hid.mk l7'
            replace l8' := T.Hid.mk l8'
            replace l9' := T.Hid.mk l9'
            replace l10' := T.Hid.mk l10'
            clear l1 l2 l3 l4 l5 l6 l7 l8 l9 l10 hE1 hE2 eW eG hq hm16
            go_wp2_with fail
            refine (l1'.out _ hP.out).mono ?_
            rintro r w5 ⟨rfl, hP5⟩
            replace hP5 := T.Hid.mk hP5
            clear hP
            go_wp2_with fail
            refine (l2'.out _ hP5.out).mono ?_
            rintro r w6 ⟨rfl, hP6⟩
            replace hP6 := T.Hid.mk hP6
            clear hP5
            go_wp2_with fail
            refine (l3'.out _ hP6.out).mono ?_
            rintro r w7 ⟨rfl, hP7⟩
            replace hP7 := T.Hid.mk hP7
            clear hP6
            have sz7 : w.heap.size < w7.heap.size := by have := hP7.out.ld.below.size; simp at this; omega
            have A6 := hcap.out tv _ hP7.out
            have y0 : w7.cell? ⟨w.heap.size, 0, none⟩ = some (.int .u64 c.b) := A6.2.1 0
            have y1 : w7.cell? ⟨w.heap.size, 1, none⟩ = some (.int .u64 c.e) := A6.2.1 1
            have y2 : w7.cell? ⟨w.heap.size, 2, none⟩ = some (.int .u64 c.c) := A6.2.1 2
            have y3 : w7.cell? ⟨w.heap.size, 3, none⟩ = some (.int .u8 c.p) := A6.2.1 3
            have y4 : w7.cell? ⟨w.heap.size, 4, none⟩ = some (.int .i64 c.s) := A6.2.1 4
            replace A6 := T.Hid.mk A6
            have hA := fun o => hP7.out.gr ((Below.refl _ w7).alloc (Nat.le_refl _) o)
            replace hA := T.Hid.mk hA
            clear hP7
            go_wp2_with fail
            refine (l7'.out _ (hA.out _)).mono ?_
            rintro r w8 ⟨rfl, hP8⟩
            replace hP8 := T.Hid.mk hP8
            clear hA
            go_wp2_with fail
            refine (l8'.out _ hP8.out).mono ?_
            rintro r w9 ⟨rfl, hP9⟩
            replace hP9 := T.Hid.mk hP9
            clear hP8
            go_wp2_with fail
            refine (l9'.out _ hP9.out).mono ?_
            rintro r w10 ⟨tv2, rfl, hT2, hT1⟩
            replace hT1 := T.Hid.mk hT1
            replace hT2 := T.Hid.mk hT2
            clear hP9
            go_wp2_with fail
            refine (l10'.out _ _ hT1.out hT2.out).mono ?_
            rintro r w11 ⟨rfl, hB⟩
            replace hB := T.Hid.mk hB
            go_wp2_with fail
            go_ret
            exact ⟨rfl, ((Below.refl _ w).alloc (Nat.le_refl _) _).trans (hB.out.mono (by simp))⟩
          · have hlt1 : (A : Int) < 65536 := by omega
            have hle1 : (A : Int) + 8 ≤ 65536 := by omega
            have hwr : IntKind.u64.wrap ((A : Int) + 8) = (A : Int) + 8 := by rw [IntKind.wrap_u64]; omega
            have hm : ((A : Int) % 16 == 0) = false := by simpa using (by omega : ¬ (A : Int) % 16 = 0)
            have eW : T.wordB A 8 = true := by simp [T.wordB]; omega
            have eG : T.granB A = false := by simp [T.granB]; omega
            have l1' := l1.out tv
            have l2' := l2.out tv
            have l3' := l3.out tv
            have l7' := l7.out tv
            have l8' := l8.out tv
            have l9' := l9.out tv
            have l10' := l10.out tv
            have hE1 : T.ldE A 8 = 0 := by unfold T.ldE; rw [eW]; rfl
            have hE2 : T.lcE A = 60 := by unfold T.lcE; rw [eG]; rfl
            rw [hE1] at l1' l2'
            rw [hE2] at l3'
            generalize T.ldV (T.runB (L.take L.length)) A 8 = V1 at *
            generalize T.lcV (T.runB (L.take L.length)) (T.runT (L.take L.length)) A = V2 at *
            simp only [T.Vl.agg] at l3'
            replace l1' := T.Hid.mk l1'
            replace l2' := T.Hid.mk l2'
            replace l3' := T.Hid.mk l3'
            replace l7' := T.Hid.mk l7'
            replace l8' := T.Hid.mk l8'
            replace l9' := T.Hid.mk l9'
            replace l10' := T.Hid.mk l10'
            have l6' := fun W q => l6.out tv W q eG
            replace l6' := T.Hid.mk l6'
            clear l1 l2 l3 l4 l5 l6 l7 l8 l9 l10 hE1 hE2 eW eG hq hm16
            go_wp2_with fail
            refine (l1'.out _ hP.out).mono ?_
            rintro r w5 ⟨rfl, hP5⟩
            replace hP5 := T.Hid.mk hP5
            clear hP
            go_wp2_with fail
            refine (l2'.out _ hP5.out).mono ?_
            rintro r w6 ⟨rfl, hP6⟩
            replace hP6 := T.Hid.mk hP6
            clear hP5
            go_wp2_with fail
            refine (l3'.out _ hP6.out).mono ?_
            rintro r w7 ⟨rfl, hP7⟩
            replace hP7 := T.Hid.mk hP7
            clear hP6
            have sz7 : w.heap.size < w7.heap.size := by have := hP7.out.ld.below.size; simp at this; omega
            have A6 := hcap.out tv _ hP7.out
            have y0 : w7.cell? ⟨w.heap.size, 0, none⟩ = some (.int .u64 c.b) := A6.2.1 0
            have y1 : w7.cell? ⟨w.heap.size, 1, none⟩ = some (.int .u64 c.e) := A6.2.1 1
            have y2 : w7.cell? ⟨w.heap.size, 2, none⟩ = some (.int .u64 c.c) := A6.2.1 2
            have y3 : w7.cell? ⟨w.heap.size, 3, none⟩ = some (.int .u8 c.p) := A6.2.1 3
            have y4 : w7.cell? ⟨w.heap.size, 4, none⟩ = some (.int .i64 c.s) := A6.2.1 4
            replace A6 := T.Hid.mk A6
            have hA := fun o => hP7.out.gr ((Below.refl _ w7).alloc (Nat.le_refl _) o)
            replace hA := T.Hid.mk hA
            clear hP7
            go_wp2_with fail
            refine (l6'.out _ (hA.out _)).mono ?_
            rintro r w8 ⟨rfl, hP8⟩
            replace hP8 := T.Hid.mk hP8
            clear hA
            go_wp2_with fail
            refine (l7'.out _ hP8.out).mono ?_
            rintro r w9 ⟨rfl, hP9⟩
            replace hP9 := T.Hid.mk hP9
            clear hP8
            go_wp2_with fail
            refine (l8'.out _ hP9.out).mono ?_
            rintro r w10 ⟨rfl, hP10⟩
            replace hP10 := T.Hid.mk hP10
            clear hP9
            go_wp2_with fail
            refine (l9'.out _ hP10.out).mono ?_
            rintro r w11 ⟨tv2, rfl, hT2, hT1⟩
            replace hT1 := T.Hid.mk hT1
            replace hT2 := T.Hid.mk hT2
            clear hP10
            go_wp2_with fail
            refine (l10'.out _ _ hT1.out hT2.out).mono ?_
            rintro r w12 ⟨rfl, hB⟩
            replace hB := T.Hid.mk hB
            go_wp2_with fail
            go_ret
            exact ⟨rfl, ((Below.refl _ w).alloc (Nat.le_refl _) _).trans (hB.out.mono (by simp))⟩
        · by_cases hm16 : A % 16 = 0
          · have hlt1 : (A : Int) < 65536 := by omega
            have hle1 : decide ((A : Int) + 8 ≤ 65536) = false := by simp; omega
            have hwr : IntKind.u64.wrap ((A : Int) + 8) = (A : Int) + 8 := by rw [IntKind.wrap_u64]; omega
            have hm : (A : Int) % 16 = 0 := by omega
            have eW : T.wordB A 8 = false := by simp [T.wordB]; omega
            have eG : T.granB A = true := by simp [T.granB]; omega
            have l1' := l1.out tv
            have l2' := l2.out tv
            have l3' := l3.out tv
            have l7' := l7.out tv
            have l8' := l8.out tv
            have l9' := l9.out tv
            have l10' := l10.out tv
            have hE1 : T.ldE A 8 = 60 := by unfold T.ldE; rw [eW]; rfl
            have hE2 : T.lcE A = 0 := by unfold T.lcE; rw [eG]; rfl
            rw [hE1] at l1' l2'
            rw [hE2] at l3'
            generalize T.ldV (T.runB (L.take L.length)) A 8 = V1 at *
            generalize T.lcV (T.runB (L.take L.length)) (T.runT (L.take L.length)) A = V2 at *
            simp only [T.Vl.agg] at l3'
            replace l1' := T.Hid.mk l1'
            replace l2' := T.Hid.mk l2'
            replace l3' := T.Hid.mk l3'
            replace l7' := T.Hid.mk l7'
            replace l8' := T.Hid.mk l8'
            replace l9' := T.Hid.mk l9'
            replace l10' := T.Hid.mk l10'
            have l4' := fun W q => l4.out tv W q eW
            have l5' := fun W q => l5.out tv W q eW
            replace l4' := T.Hid.mk l4'
            replace l5' := T.Hid.mk l5'
            clear l1 l2 l3 l4 l5 l6 l7 l8 l9 l10 hE1 hE2 eW eG hq hm16
            go_wp2_with fail
            refine (l1'.out _ hP.out).mono ?_
            rintro r w5 ⟨rfl, hP5⟩
            replace hP5 := T.Hid.mk hP5
            clear hP
            go_wp2_with fail
            refine (l2'.out _ hP5.out).mono ?_
            rintro r w6 ⟨rfl, hP6⟩
            replace hP6 := T.Hid.mk hP6
            clear hP5
            go_wp2_with fail
            refine (l3'.out _ hP6.out).mono ?_
            rintro r w7 ⟨rfl, hP7⟩
            replace hP7 := T.Hid.mk hP7
            clear hP6
            have sz7 : w.heap.size < w7.heap.size := by have := hP7.out.ld.below.size; simp at this; omega
            have A6 := hcap.out tv _ hP7.out
            have y0 : w7.cell? ⟨w.heap.size, 0, none⟩ = some (.int .u64 c.b) := A6.2.1 0
            have y1 : w7.cell? ⟨w.heap.size, 1, none⟩ = some (.int .u64 c.e) := A6.2.1 1
            have y2 : w7.cell? ⟨w.heap.size, 2, none⟩ = some (.int .u64 c.c) := A6.2.1 2
            have y3 : w7.cell? ⟨w.heap.size, 3, none⟩ = some (.int .u8 c.p) := A6.2.1 3
            have y4 : w7.cell? ⟨w.heap.size, 4, none⟩ = some (.int .i64 c.s) := A6.2.1 4
            replace A6 := T.Hid.mk A6
            have hA := fun o => hP7.out.gr ((Below.refl _ w7).alloc (Nat.le_refl _) o)
            replace hA := T.Hid.mk hA
            clear hP7
            go_wp2_with fail
            refine (l4'.out _ (hA.out _)).mono ?_
            rintro r w8 ⟨rfl, hP8⟩
            replace hP8 := T.Hid.mk hP8
            clear hA
            go_wp2_with fail
            refine (l5'.out _ hP8.out).mono ?_
            rintro r w9 ⟨rfl, hP9⟩
            replace hP9 := T.Hid.mk hP9
            clear hP8
            go_wp2_with fail
            refine (l7'.out _ hP9.out).mono ?_
            rintro r w10 ⟨rfl, hP10⟩
            replace hP10 := T.Hid.mk hP10
            clear hP9
            go_wp2_with fail
            refine (l8'.out _ hP10.out).mono ?_
            rintro r w11 ⟨rfl, hP11⟩
            replace hP11 := T.Hid.mk hP11
            clear hP10
            go_wp2_with fail
            refine (l9'.out _ hP11.out).mono ?_
            rintro r w12 ⟨tv2, rfl, hT2, hT1⟩
            replace hT1 := T.Hid.mk hT1
            replace hT2 := T.Hid.mk hT2
            clear hP11
            go_wp2_with fail
            refine (l10'.out _ _ hT1.out hT2.out).mono ?_
            rintro r w13 ⟨rfl, hB⟩
            replace hB := T.Hid.mk hB
            go_wp2_with fail
            go_ret
            exact ⟨rfl, ((Below.refl _ w).alloc (Nat.le_refl _) _).trans (hB.out.mono (by simp))⟩
          · have hlt1 : (A : Int) < 65536 := by omega
            have hle1 : decide ((A : Int) + 8 ≤ 65536) = false := by simp; omega
            have hwr : IntKind.u64.wrap ((A : Int) + 8) = (A : Int) + 8 := by rw [IntKind.wrap_u64]; omega
            have hm : ((A : Int) % 16 == 0) = false := by simpa using (by omega : ¬ (A : Int) % 16 = 0)
            have eW : T.wordB A 8 = false := by simp [T.wordB]; omega
            have eG : T.granB A = false := by simp [T.granB]; omega
            have l1' := l1.out tv
            have l2' := l2.out tv
            have l3' := l3.out tv
            have l7' := l7.out tv
            have l8' := l8.out tv
            have l9' := l9.out tv
            have l10' := l10.out tv
            have hE1 : T.ldE A 8 = 60 := by unfold T.ldE; rw [eW]; rfl
            have hE2 : T.lcE A = 60 := by unfold T.lcE; rw [eG]; rfl
            rw [hE1] at l1' l2'
            rw [hE2] at l3'
            generalize T.ldV (T.runB (L.take L.length)) A 8 = V1 at *
            generalize T.lcV (T.runB (L.take L.length)) (T.runT (L.take L.length)) A = V2 at *
            simp only [T.Vl.agg] at l3'
            replace l1' := T.Hid.mk l1'
            replace l2' := T.Hid.mk l2'
            replace l3' := T.Hid.mk l3'
            replace l7' := T.Hid.mk l7'
            replace l8' := T.Hid.mk l8'
            replace l9' := T.Hid.mk l9'
            replace l10' := T.Hid.mk l10'
            have l4' := fun W q => l4.out tv W q eW
            have l5' := fun W q => l5.out tv W q eW
            replace l4' := T.Hid.mk l4'
            replace l5' := T.Hid.mk l5'
            have l6' := fun W q => l6.out tv W q eG
            replace l6' := T.Hid.mk l6'
            clear l1 l2 l3 l4 l5 l6 l7 l8 l9 l10 hE1 hE2 eW eG hq hm16
            go_wp2_with fail
            refine (l1'.out _ hP.out).mono ?_
            rintro r w5 ⟨rfl, hP5⟩
            replace hP5 := T.Hid.mk hP5
            clear hP
            go_wp2_with fail
            refine (l2'.out _ hP5.out).mono ?_
            rintro r w6 ⟨rfl, hP6⟩
            replace hP6 := T.Hid.mk hP6
            clear hP5
            go_wp2_with fail
            refine (l3'.out _ hP6.out).mono ?_
            rintro r w7 ⟨rfl, hP7⟩
            replace hP7 := T.Hid.mk hP7
            clear hP6
            have sz7 : w.heap.size < w7.heap.size := by have := hP7.out.ld.below.size; simp at this; omega
            have A6 := hcap.out tv _ hP7.out
            have y0 : w7.cell? ⟨w.heap.size, 0, none⟩ = some (.int .u64 c.b) := A6.2.1 0
            have y1 : w7.cell? ⟨w.heap.size, 1, none⟩ = some (.int .u64 c.e) := A6.2.1 1
            have y2 : w7.cell? ⟨w.heap.size, 2, none⟩ = some (.int .u64 c.c) := A6.2.1 2
            have y3 : w7.cell? ⟨w.heap.size, 3, none⟩ = some (.int .u8 c.p) := A6.2.1 3
            have y4 : w7.cell? ⟨w.heap.size, 4, none⟩ = some (.int .i64 c.s) := A6.2.1 4
            replace A6 := T.Hid.mk A6
            have hA := fun o => hP7.out.gr ((Below.refl _ w7).alloc (Nat.le_refl _) o)
            replace hA := T.Hid.mk hA
            clear hP7
            go_wp2_with fail
            refine (l4'.out _ (hA.out _)).mono ?_
            rintro r w8 ⟨rfl, hP8⟩
            replace hP8 := T.Hid.mk hP8
            clear hA
            go_wp2_with fail
            refine (l5'.out _ hP8.out).mono ?_
            rintro r w9 ⟨rfl, hP9⟩
            replace hP9 := T.Hid.mk hP9
            clear hP8
            have A6 := hcap.out tv _ hP9.out
            have y0 : w9.cell? ⟨w.heap.size, 0, none⟩ = some (.int .u64 c.b) := A6.2.1 0
            have y1 : w9.cell? ⟨w.heap.size, 1, none⟩ = some (.int .u64 c.e) := A6.2.1 1
            have y2 : w9.cell? ⟨w.heap.size, 2, none⟩ = some (.int .u64 c.c) := A6.2.1 2
            have y3 : w9.cell? ⟨w.heap.size, 3, none⟩ = some (.int .u8 c.p) := A6.2.1 3
            have y4 : w9.cell? ⟨w.heap.size, 4, none⟩ = some (.int .i64 c.s) := A6.2.1 4
            replace A6 := T.Hid.mk A6
            go_wp2_with fail
            refine (l6'.out _ hP9.out).mono ?_
            rintro r w10 ⟨rfl, hP10⟩
            replace hP10 := T.Hid.mk hP10
            clear hP9
            go_wp2_with fail
            refine (l7'.out _ hP10.out).mono ?_
            rintro r w11 ⟨rfl, hP11⟩
            replace hP11 := T.Hid.mk hP11
            clear hP10
            go_wp2_with fail
            refine (l8'.out _ hP11.out).mono ?_
            rintro r w12 ⟨rfl, hP12⟩
            replace hP12 := T.Hid.mk hP12
            clear hP11
            go_wp2_with fail
            refine (l9'.out _ hP12.out).mono ?_
            rintro r w13 ⟨tv2, rfl, hT2, hT1⟩
            replace hT1 := T.Hid.mk hT1
            replace hT2 := T.Hid.mk hT2
            clear hP12
            go_wp2_with fail
            refine (l10'.out _ _ hT1.out hT2.out).mono ?_
            rintro r w14 ⟨rfl, hB⟩
            replace hB := T.Hid.mk hB
            go_wp2_with fail
            go_ret
            exact ⟨rfl, ((Below.refl _ w).alloc (Nat.le_refl _) _).trans (hB.out.mono (by simp))⟩
        · by_cases hm16 : A % 16 = 0
          · have hlt1 : decide ((A : Int) < 65536) = false := by simp; omega
            obtain ⟨Y, hwr⟩ : ∃ Y, IntKind.u64.wrap ((A : Int) + 8) = Y := ⟨_, rfl⟩
            have hm : (A : Int) % 16 = 0 := by omega
            have eW : T.wordB A 8 = false := by simp [T.wordB]; omega
            have eG : T.granB A = false := by simp [T.granB]; omega
            have l1' := l1.out tv
            have l2' := l2.out tv
            have l3' := l3.out tv
            have l7' := l7.out tv
            have l8' := l8.out tv
            have l9' := l9.out tv
            have l10' := l10.out tv
            have hE1 : T.ldE A 8 = 60 := by unfold T.ldE; rw [eW]; rfl
            have hE2 : T.lcE A = 60 := by unfold T.lcE; rw [eG]; rfl
            rw [hE1] at l1' l2'
            rw [hE2] at l3'
            generalize T.ldV (T.runB (L.take L.length)) A 8 = V1 at *
            generalize T.lcV (T.runB (L.take L.length)) (T.runT (L.take L.length)) A = V2 at *
            simp only [T.Vl.agg] at l3'
            replace l1' := T.Hid.mk l1'
            replace l2' := T.Hid.mk l2'
            replace l3' := T.Hid.mk l3'
            replace l7' := T.Hid.mk l7'
            replace l8' := T.Hid.mk l8'
            replace l9' := T.Hid.mk l9'
            replace l10' := T.Hid.mk l10'
            have l4' := fun W q => l4.out tv W q eW
            have l5' := fun W q => l5.out tv W q eW
            replace l4' := T.Hid.mk l4'
            replace l5' := T.Hid.mk l5'
            have l6' := fun W q => l6.out tv W q eG
            replace l6' := T.Hid.mk l6'
            clear l1 l2 l3 l4 l5 l6 l7 l8 l9 l10 hE1 hE2 eW eG hq hm16
            go_wp2_with fail
            refine (l1'.out _ hP.out).mono ?_
            rintro r w5 ⟨rfl, hP5⟩
            replace hP5 := T.Hid.mk hP5
            clear hP
            go_wp2_with fail
            refine (l2'.out _ hP5.out).mono ?_
            rintro r w6 ⟨rfl, hP6⟩
            replace hP6 := T.Hid.mk hP6
            clear hP5
            go_wp2_with fail
            refine (l3'.out _ hP6.out).mono ?_
            rintro r w7 ⟨rfl, hP7⟩
            replace hP7 := T.Hid.mk hP7
            clear hP6
            have sz7 : w.heap.size < w7.heap.size := by have := hP7.out.ld.below.size; simp at this; omega
            have A6 := hcap.out tv _ hP7.out
            have y0 : w7.cell? ⟨w.heap.size, 0, none⟩ = some (.int .u64 c.b) := A6.2.1 0
            have y1 : w7.cell? ⟨w.heap.size, 1, none⟩ = some (.int .u64 c.e) := A6.2.1 1
            have y2 : w7.cell? ⟨w.heap.size, 2, none⟩ = some (.int .u64 c.c) := A6.2.1 2
            have y3 : w7.cell? ⟨w.heap.size, 3, none⟩ = some (.int .u8 c.p) := A6.2.1 3
            have y4 : w7.cell? ⟨w.heap.size, 4, none⟩ = some (.int .i64 c.s) := A6.2.1 4
            replace A6 := T.Hid.mk A6
            have hA := fun o => hP7.out.gr ((Below.refl _ w7).alloc (Nat.le_refl _) o)
            replace hA := T.Hid.mk hA
            clear hP7
            go_wp2_with fail
            refine (l4'.out _ (hA.out _)).mono ?_
            rintro r w8 ⟨rfl, hP8⟩
            replace hP8 := T.Hid.mk hP8
            clear hA
            go_wp2_with fail
            refine (l5'.out _ hP8.out).mono ?_
            rintro r w9 ⟨rfl, hP9⟩
            replace hP9 := T.Hid.mk hP9
            clear hP8
            have A6 := hcap.out tv _ hP9.out
            have y0 : w9.cell? ⟨w.heap.size, 0, none⟩ = some (.int .u64 c.b) := A6.2.1 0
            have y1 : w9.cell? ⟨w.heap.size, 1, none⟩ = some (.int .u64 c.e) := A6.2.1 1
            have y2 : w9.cell? ⟨w.heap.size, 2, none⟩ = some (.int .u64 c.c) := A6.2.1 2
            have y3 : w9.cell? ⟨w.heap.size, 3, none⟩ = some (.int .u8 c.p) := A6.2.1 3
            have y4 : w9.cell? ⟨w.heap.size, 4, none⟩ = some (.int .i64 c.s) := A6.2.1 4
            replace A6 := T.Hid.mk A6
            go_wp2_with fail
            refine (l6'.out _ hP9.out).mono ?_
            rintro r w10 ⟨rfl, hP10⟩
            replace hP10 := T.Hid.mk hP10
            clear hP9
            go_wp2_with fail
            refine (l7'.out _ hP10.out).mono ?_
            rintro r w11 ⟨rfl, hP11⟩
            replace hP11 := T.Hid.mk hP11
            clear hP10
            go_wp2_with fail
            refine (l8'.out _ hP11.out).mono ?_
            rintro r w12 ⟨rfl, hP12⟩
            replace hP12 := T.Hid.mk hP12
            clear hP11
            go_wp2_with fail
            refine (l9'.out _ hP12.out).mono ?_
            rintro r w13 ⟨tv2, rfl, hT2, hT1⟩
            replace hT1 := T.Hid.mk hT1
            replace hT2 := T.Hid.mk hT2
            clear hP12
            go_wp2_with fail
            refine (l10'.out _ _ hT1.out hT2.out).mono ?_
            rintro r w14 ⟨rfl, hB⟩
            replace hB := T.Hid.mk hB
            go_wp2_with fail
            go_ret
            exact ⟨rfl, ((Below.refl _ w).alloc (Nat.le_refl _) _).trans (hB.out.mono (by simp))⟩
          · have hlt1 : decide ((A : Int) < 65536) = false := by simp; omega
            obtain ⟨Y, hwr⟩ : ∃ Y, IntKind.u64.wrap ((A : Int) + 8) = Y := ⟨_, rfl⟩
            have hm : ((A : Int) % 16 == 0) = false := by simpa using (by omega : ¬ (A : Int) % 16 = 0)
            have eW : T.wordB A 8 = false := by simp [T.wordB]; omega
            have eG : T.granB A = false := by simp [T.granB]; omega
            have l1' := l1.out tv
            have l2' := l2.out tv
            have l3' := l3.out tv
            have l7' := l7.out tv
            have l8' := l8.out tv
            have l9' := l9.out tv
            have l10' := l10.out tv
            have hE1 : T.ldE A 8 = 60 := by unfold T.ldE; rw [eW]; rfl
            have hE2 : T.lcE A = 60 := by unfold T.lcE; rw [eG]; rfl
            rw [hE1] at l1' l2'
            rw [hE2] at l3'
            generalize T.ldV (T.runB (L.take L.length)) A 8 = V1 at *
            generalize T.lcV (T.runB (L.take L.length)) (T.runT (L.take L.length)) A = V2 at *
            simp only [T.Vl.agg] at l3'
            replace l1' := T.Hid.mk l1'
            replace l2' := T.Hid.mk l2'
            replace l3' := T.Hid.mk l3'
            replace l7' := T.Hid.mk l7'
            replace l8' := T.Hid.mk l8'
            replace l9' := T.Hid.mk l9'
            replace l10' := T.Hid.mk l10'
            have l4' := fun W q => l4.out tv W q eW
            have l5' := fun W q => l5.out tv W q eW
            replace l4' := T.Hid.mk l4'
            replace l5' := T.Hid.mk l5'
            have l6' := fun W q => l6.out tv W q eG
            replace l6' := T.Hid.mk l6'
            clear l1 l2 l3 l4 l5 l6 l7 l8 l9 l10 hE1 hE2 eW eG hq hm16
            go_wp2_with fail
            refine (l1'.out _ hP.out).mono ?_
            rintro r w5 ⟨rfl, hP5⟩
            replace hP5 := T.Hid.mk hP5
            clear hP
            go_wp2_with fail
            refine (l2'.out _ hP5.out).mono ?_
            rintro r w6 ⟨rfl, hP6⟩
            replace hP6 := T.Hid.mk hP6
            clear hP5
            go_wp2_with fail
            refine (l3'.out _ hP6.out).mono ?_
            rintro r w7 ⟨rfl, hP7⟩
            replace hP7 := T.Hid.mk hP7
            clear hP6
            have sz7 : w.heap.size < w7.heap.size := by have := hP7.out.ld.below.size; simp at this; omega
            have A6 := hcap.out tv _ hP7.out
            have y0 : w7.cell? ⟨w.heap.size, 0, none⟩ = some (.int .u64 c.b) := A6.2.1 0
            have y1 : w7.cell? ⟨w.heap.size, 1, none⟩ = some (.int .u64 c.e) := A6.2.1 1
            have y2 : w7.cell? ⟨w.heap.size, 2, none⟩ = some (.int .u64 c.c) := A6.2.1 2
            have y3 : w7.cell? ⟨w.heap.size, 3, none⟩ = some (.int .u8 c.p) := A6.2.1 3
            have y4 : w7.cell? ⟨w.heap.size, 4, none⟩ = some (.int .i64 c.s) := A6.2.1 4
            replace A6 := T.Hid.mk A6
            have hA := fun o => hP7.out.gr ((Below.refl _ w7).alloc (Nat.le_refl _) o)
            replace hA := T.Hid.mk hA
            clear hP7
            go_wp2_with fail
            refine (l4'.out _ (hA.out _)).mono ?_
            rintro r w8 ⟨rfl, hP8⟩
            replace hP8 := T.Hid.mk hP8
            clear hA
            go_wp2_with fail
            refine (l5'.out _ hP8.out).mono ?_
            rintro r w9 ⟨rfl, hP9⟩
            replace hP9 := T.Hid.mk hP9
            clear hP8
            have A6 := hcap.out tv _ hP9.out
            have y0 : w9.cell? ⟨w.heap.size, 0, none⟩ = some (.int .u64 c.b) := A6.2.1 0
            have y1 : w9.cell? ⟨w.heap.size, 1, none⟩ = some (.int .u64 c.e) := A6.2.1 1
            have y2 : w9.cell? ⟨w.heap.size, 2, none⟩ = some (.int .u64 c.c) := A6.2.1 2
            have y3 : w9.cell? ⟨w.heap.size, 3, none⟩ = some (.int .u8 c.p) := A6.2.1 3
            have y4 : w9.cell? ⟨w.heap.size, 4, none⟩ = some (.int .i64 c.s) := A6.2.1 4
            replace A6 := T.Hid.mk A6
            go_wp2_with fail
            refine (l6'.out _ hP9.out).mono ?_
            rintro r w10 ⟨rfl, hP10⟩
            replace hP10 := T.Hid.mk hP10
            clear hP9
            go_wp2_with fail
            refine (l7'.out _ hP10.out).mono ?_
            rintro r w11 ⟨rfl, hP11⟩
            replace hP11 := T.Hid.mk hP11
            clear hP10
            go_wp2_with fail
            refine (l8'.out _ hP11.out).mono ?_
            rintro r w12 ⟨rfl, hP12⟩
            replace hP12 := T.Hid.mk hP12
            clear hP11
            go_wp2_with fail
            refine (l9'.out _ hP12.out).mono ?_
            rintro r w13 ⟨tv2, rfl, hT2, hT1⟩
            replace hT1 := T.Hid.mk hT1
            replace hT2 := T.Hid.mk hT2
            clear hP12
            go_wp2_with fail
            refine (l10'.out _ _ hT1.out hT2.out).mono ?_
            rintro r w14 ⟨rfl, hB⟩
            replace hB := T.Hid.mk hB
            go_wp2_with fail
            go_ret
            exact ⟨rfl, ((Below.refl _ w).alloc (Nat.le_refl _) _).trans (hB.out.mono (by simp))⟩
      · rcases (by omega : A < 65536 ∨ 65536 ≤ A) with hq | hq
        · by_cases hm16 : A % 16 = 0
          · have d1 : ((Z : Int) == 1) = false := by simpa using (by omega : ¬ (Z : Int) = 1)
            have d8 : ((Z : Int) == 8) = false := by simpa using (by omega : ¬ (Z : Int) = 8)
            have hlt1 : (A : Int) < 65536 := by omega
            obtain ⟨Y, hwr⟩ : ∃ Y, IntKind.u64.wrap ((A : Int) + Z) = Y := ⟨_, rfl⟩
            have hm : (A : Int) % 16 = 0 := by omega
            have eW : T.wordB A Z = false := by simp [T.wordB]; omega
            have eG : T.granB A = true := by simp [T.granB]; omega
            have l1' := l1.out tv
            have l2' := l2.out tv
            have l3' := l3.out tv
            have l7' := l7.out tv
            have l8' := l8.out tv
            have l9' := l9.out tv
            have l10' := l10.out tv
            have hE1 : T.ldE A Z = 60 := by unfold T.ldE; rw [eW]; rfl
            have hE2 : T.lcE A = 0 := by unfold T.lcE; rw [eG]; rfl
            rw [hE1] at l1' l2'
            rw [hE2] at l3'
            generalize T.ldV (T.runB (L.take L.length)) A Z = V1 at *
            generalize T.lcV (T.runB (L.take L.length)) (T.runT (L.take L.length)) A = V2 at *
            simp only [T.Vl.agg] at l3'
            replace l1' := T.Hid.mk l1'
            replace l2' := T.Hid.mk l2'
            replace l3' := T.Hid.mk l3'
            replace l7' := T.Hid.mk l7'
            replace l8' := T.Hid.mk l8'
            replace l9' := T.Hid.mk l9'
            replace l10' := T.Hid.mk l10'
            have l4' := fun W q => l4.out tv W q eW
            have l5' := fun W q => l5.out tv W q eW
            replace l4' := T.Hid.mk l4'
            replace l5' := T.Hid.mk l5'
            clear l1 l2 l3 l4 l5 l6 l7 l8 l9 l10 hE1 hE2 eW eG hq hm16
            go_wp2_with fail
            refine (l1'.out _ hP.out).mono ?_
            rintro r w5 ⟨rfl, hP5⟩
            replace hP5 := T.Hid.mk hP5
            clear hP
            go_wp2_with fail
            refine (l2'.out _ hP5.out).mono ?_
            rintro r w6 ⟨rfl, hP6⟩
            replace hP6 := T.Hid.mk hP6
            clear hP5
            go_wp2_with fail
            refine (l3'.out _ hP6.out).mono ?_
            rintro r w7 ⟨rfl, hP7⟩
            replace hP7 := T.Hid.mk hP7
            clear hP6
            have sz7 : w.heap.size < w7.heap.size := by have := hP7.out.ld.below.size; simp at this; omega
            have A6 := hcap.out tv _ hP7.out
            have y0 : w7.cell? ⟨w.heap.size, 0, none⟩ = some (.int .u64 c.b) := A6.2.1 0
            have y1 : w7.cell? ⟨w.heap.size, 1, none⟩ = some (.int .u64 c.e) := A6.2.1 1
            have y2 : w7.cell? ⟨w.heap.size, 2, none⟩ = some (.int .u64 c.c) := A6.2.1 2
            have y3 : w7.cell? ⟨w.heap.size, 3, none⟩ = some (.int .u8 c.p) := A6.2.1 3
            have y4 : w7.cell? ⟨w.heap.size, 4, none⟩ = some (.int .i64 c.s) := A6.2.1 4
            replace A6 := T.Hid.mk A6
            have hA := fun o => hP7.out.gr ((Below.refl _ w7).alloc (Nat.le_refl _) o)
            replace hA := T.Hid.mk hA
            clear hP7
            go_wp2_with fail
            refine (l4'.out _ (hA.out _)).mono ?_
            rintro r w8 ⟨rfl, hP8⟩
            replace hP8 := T.Hid.mk hP8
            clear hA
            go_wp2_with fail
            refine (l5'.out _ hP8.out).mono ?_
            rintro r w9 ⟨rfl, hP9⟩
            replace hP9 := T.Hid.mk hP9
            clear hP8
            go_wp2_with fail
            refine (l7'.out _ hP9.out).mono ?_
            rintro r w10 ⟨rfl, hP10⟩
            replace hP10 := T.Hid.mk hP10
            clear hP9
            go_wp2_with fail
            refine (l8'.out _ hP10.out).mono ?_
            rintro r w11 ⟨rfl, hP11⟩
            replace hP11 := T.Hid.mk hP11
            clear hP10
            go_wp2_with fail
            refine (l9'.out _ hP11.out).mono ?_
            rintro r w12 ⟨tv2, rfl, hT2, hT1⟩
            replace hT1 := T.Hid.mk hT1
            replace hT2 := T.Hid.mk hT2
            clear hP11
            go_wp2_with fail
            refine (l10'.out _ _ hT1.out hT2.out).mono ?_
            rintro r w13 ⟨rfl, hB⟩
            replace hB := T.Hid.mk hB
            go_wp2_with fail
            go_ret
            exact ⟨rfl, ((Below.refl _ w).alloc (Nat.le_refl _) _).trans (hB.out.mono (by simp))⟩
          · have d1 : ((Z : Int) == 1) = false := by simpa using (by omega : ¬ (Z : Int) = 1)
            have d8 : ((Z : Int) == 8) = false := by simpa using (by omega : ¬ (Z : Int) = 8)
            have hlt1 : (A : Int) < 65536 := by omega
            obtain ⟨Y, hwr⟩ : ∃ Y, IntKind.u64.wrap ((A : Int) + Z) = Y := ⟨_, rfl⟩
            have hm : ((A : Int) % 16 == 0) = false := by simpa using (by omega : ¬ (A : Int) % 16 = 0)
            have eW : T.wordB A Z = false := by simp [T.wordB]; omega
            have eG : T.granB A = false := by simp [T.granB]; omega
            have l1' := l1.out tv
            have l2' := l2.out tv
            have l3' := l3.out tv
            have l7' := l7.out tv
            have l8' := l8.out tv
            have l9' := l9.out tv
            have l10' := l10.out tv
            have hE1 : T.ldE A Z = 60 := by unfold T.ldE; rw [eW]; rfl
            have hE2 : T.lcE A = 60 := by unfold T.lcE; rw [eG]; rfl
            rw [hE1] at l1' l2'
            rw [hE2] at l3'
            generalize T.ldV (T.runB (L.take L.length)) A Z = V1 at *
            generalize T.lcV (T.runB (L.take L.length)) (T.runT (L.take L.length)) A = V2 at *
            simp only [T.Vl.agg] at l3'
            replace l1' := T.Hid.mk l1'
            replace l2' := T.Hid.mk l2'
            replace l3' := T.Hid.mk l3'
            replace l7' := T.Hid.mk l7'
            replace l8' := T.Hid.mk l8'
            replace l9' := T.Hid.mk l9'
            replace l10' := T.Hid.mk l10'
            have l4' := fun W q => l4.out tv W q eW
            have l5' := fun W q => l5.out tv W q eW
            replace l4' := T.Hid.mk l4'
            replace l5' := T.Hid.mk l5'
            have l6' := fun W q => l6.out tv W q eG
            replace l6' := T.Hid.mk l6'
            clear l1 l2 l3 l4 l5 l6 l7 l8 l9 l10 hE1 hE2 eW eG hq hm16
            go_wp2_with fail
            refine (l1'.out _ hP.out).mono ?_
            rintro r w5 ⟨rfl, hP5⟩
            replace hP5 := T.Hid.mk hP5
            clear hP
            go_wp2_with fail
            refine (l2'.out _ hP5.out).mono ?_
            rintro r w6 ⟨rfl, hP6⟩
            replace hP6 := T.Hid.mk hP6
            clear hP5
            go_wp2_with fail
            refine (l3'.out _ hP6.out).mono ?_
            rintro r w7 ⟨rfl, hP7⟩
            replace hP7 := T.Hid.mk hP7
            clear hP6
            have sz7 : w.heap.size < w7.heap.size := by have := hP7.out.ld.below.size; simp at this; omega
            have A6 := hcap.out tv _ hP7.out
            have y0 : w7.cell? ⟨w.heap.size, 0, none⟩ = some (.int .u64 c.b) := A6.2.1 0
            have y1 : w7.cell? ⟨w.heap.size, 1, none⟩ = some (.int .u64 c.e) := A6.2.1 1
            have y2 : w7.cell? ⟨w.heap.size, 2, none⟩ = some (.int .u64 c.c) := A6.2.1 2
            have y3 : w7.cell? ⟨w.heap.size, 3, none⟩ = some (.int .u8 c.p) := A6.2.1 3
            have y4 : w7.cell? ⟨w.heap.size, 4, none⟩ = some (.int .i64 c.s) := A6.2.1 4
            replace A6 := T.Hid.mk A6
            have hA := fun o => hP7.out.gr ((Below.refl _ w7).alloc (Nat.le_refl _) o)
            replace hA := T.Hid.mk hA
            clear hP7
            go_wp2_with fail
            refine (l4'.out _ (hA.out _)).mono ?_
            rintro r w8 ⟨rfl, hP8⟩
            replace hP8 := T.Hid.mk hP8
            clear hA
            go_wp2_with fail
            refine (l5'.out _ hP8.out).mono ?_
            rintro r w9 ⟨rfl, hP9⟩
            replace hP9 := T.Hid.mk hP9
            clear hP8
            have A6 := hcap.out tv _ hP9.out
            have y0 : w9.cell? ⟨w.heap.size, 0, none⟩ = some (.int .u64 c.b) := A6.2.1 0
            have y1 : w9.cell? ⟨w.heap.size, 1, none⟩ = some (.int .u64 c.e) := A6.2.1 1
            have y2 : w9.cell? ⟨w.heap.size, 2, none⟩ = some (.int .u64 c.c) := A6.2.1 2
            have y3 : w9.cell? ⟨w.heap.size, 3, none⟩ = some (.int .u8 c.p) := A6.2.1 3
            have y4 : w9.cell? ⟨w.heap.size, 4, none⟩ = some (.int .i64 c.s) := A6.2.1 4
            replace A6 := T.Hid.mk A6
            go_wp2_with fail
            refine (l6'.out _ hP9.out).mono ?_
            rintro r w10 ⟨rfl, hP10⟩
            replace hP10 := T.Hid.mk hP10
            clear hP9
            go_wp2_with fail
            refine (l7'.out _ hP10.out).mono ?_
            rintro r w11 ⟨rfl, hP11⟩
            replace hP11 := T.Hid.mk hP11
            clear hP10
            go_wp2_with fail
            refine (l8'.out _ hP11.out).mono ?_
            rintro r w12 ⟨rfl, hP12⟩
            replace hP12 := T.Hid.mk hP12
            clear hP11
            go_wp2_with fail
            refine (l9'.out _ hP12.out).mono ?_
            rintro r w13 ⟨tv2, rfl, hT2, hT1⟩
            replace hT1 := T.Hid.mk hT1
            replace hT2 := T.Hid.mk hT2
            clear hP12
            go_wp2_with fail
            refine (l10'.out _ _ hT1.out hT2.out).mono ?_
            rintro r w14 ⟨rfl, hB⟩
            replace hB := T.Hid.mk hB
            go_wp2_with fail
            go_ret
            exact ⟨rfl, ((Below.refl _ w).alloc (Nat.le_refl _) _).trans (hB.out.mono (by simp))⟩
        · by_cases hm16 : A % 16 = 0
          · have d1 : ((Z : Int) == 1) = false := by simpa using (by omega : ¬ (Z : Int) = 1)
            have d8 : ((Z : Int) == 8) = false := by simpa using (by omega : ¬ (Z : Int) = 8)
            have hlt1 : decide ((A : Int) < 65536) = false := by simp; omega
            obtain ⟨Y, hwr⟩ : ∃ Y, IntKind.u64.wrap ((A : Int) + Z) = Y := ⟨_, rfl⟩
            have hm : (A : Int) % 16 = 0 := by omega
            have eW : T.wordB A Z = false := by simp [T.wordB]; omega
            have eG : T.granB A = false := by simp [T.granB]; omega
            have l1' := l1.out tv
            have l2' := l2.out tv
            have l3' := l3.out tv
            have l7' := l7.out tv
            have l8' := l8.out tv
            have l9' := l9.out tv
            have l10' := l10.out tv
            have hE1 : T.ldE A Z = 60 := by unfold T.ldE; rw [eW]; rfl
            have hE2 : T.lcE A = 60 := by unfold T.lcE; rw [eG]; rfl
            rw [hE1] at l1' l2'
            rw [hE2] at l3'
            generalize T.ldV (T.runB (L.take L.length)) A Z = V1 at *
            generalize T.lcV (T.runB (L.take L.length)) (T.runT (L.take L.length)) A = V2 at *
            simp only [T.Vl.agg] at l3'
            replace l1' := T.Hid.mk l1'
            replace l2' := T.Hid.mk l2'
            replace l3' := T.Hid.mk l3'
            replace l7' := T.Hid.mk l7'
            replace l8' := T.Hid.mk l8'
            replace l9' := T.Hid.mk l9'
            replace l10' := T.Hid.mk l10'
            have l4' := fun W q => l4.out tv W q eW
            have l5' := fun W q => l5.out tv W q eW
            replace l4' := T.Hid.mk l4'
            replace l5' := T.Hid.mk l5'
            have l6' := fun W q => l6.out tv W q eG
            replace l6' := T.Hid.mk l6'
            clear l1 l2 l3 l4 l5 l6 l7 l8 l9 l10 hE1 hE2 eW eG hq hm16
            go_wp2_with fail
            refine (l1'.out _ hP.out).mono ?_
            rintro r w5 ⟨rfl, hP5⟩
            replace hP5 := T.Hid.mk hP5
            clear hP
            go_wp2_with fail
            refine (l2'.out _ hP5.out).mono ?_
            rintro r w6 ⟨rfl, hP6⟩
            replace hP6 := T.Hid.mk hP6
            clear hP5
            go_wp2_with fail
            refine (l3'.out _ hP6.out).mono ?_
            rintro r w7 ⟨rfl, hP7⟩
            replace hP7 := T.Hid.mk hP7
            clear hP6
            have sz7 : w.heap.size < w7.heap.size := by have := hP7.out.ld.below.size; simp at this; omega
            have A6 := hcap.out tv _ hP7.out
            have y0 : w7.cell? ⟨w.heap.size, 0, none⟩ = some (.int .u64 c.b) := A6.2.1 0
            have y1 : w7.cell? ⟨w.heap.size, 1, none⟩ = some (.int .u64 c.e) := A6.2.1 1
            have y2 : w7.cell? ⟨w.heap.size, 2, none⟩ = some (.int .u64 c.c) := A6.2.1 2
            have y3 : w7.cell? ⟨w.heap.size, 3, none⟩ = some (.int .u8 c.p) := A6.2.1 3
            have y4 : w7.cell? ⟨w.heap.size, 4, none⟩ = some (.int .i64 c.s) := A6.2.1 4
            replace A6 := T.Hid.mk A6
            have hA := fun o => hP7.out.gr ((Below.refl _ w7).alloc (Nat.le_refl _) o)
            replace hA := T.Hid.mk hA
            clear hP7
            go_wp2_with fail
            refine (l4'.out _ (hA.out _)).mono ?_
            rintro r w8 ⟨rfl, hP8⟩
            replace hP8 := T.Hid.mk hP8
            clear hA
            go_wp2_with fail
            refine (l5'.out _ hP8.out).mono ?_
            rintro r w9 ⟨rfl, hP9⟩
            replace hP9 := T.Hid.mk hP9
            clear hP8
            have A6 := hcap.out tv _ hP9.out
            have y0 : w9.cell? ⟨w.heap.size, 0, none⟩ = some (.int .u64 c.b) := A6.2.1 0
            have y1 : w9.cell? ⟨w.heap.size, 1, none⟩ = some (.int .u64 c.e) := A6.2.1 1
            have y2 : w9.cell? ⟨w.heap.size, 2, none⟩ = some (.int .u64 c.c) := A6.2.1 2
            have y3 : w9.cell? ⟨w.heap.size, 3, none⟩ = some (.int .u8 c.p) := A6.2.1 3
            have y4 : w9.cell? ⟨w.heap.size, 4, none⟩ = some (.int .i64 c.s) := A6.2.1 4
            replace A6 := T.Hid.mk A6
            go_wp2_with fail
            refine (l6'.out _ hP9.out).mono ?_
            rintro r w10 ⟨rfl, hP10⟩
            replace hP10 := T.Hid.mk hP10
            clear hP9
            go_wp2_with fail
            refine (l7'.out _ hP10.out).mono ?_
            rintro r w11 ⟨rfl, hP11⟩
            replace hP11 := T.Hid.mk hP11
            clear hP10
            go_wp2_with fail
            refine (l8'.out _ hP11.out).mono ?_
            rintro r w12 ⟨rfl, hP12⟩
            replace hP12 := T.Hid.mk hP12
            clear hP11
            go_wp2_with fail
            refine (l9'.out _ hP12.out).mono ?_
            rintro r w13 ⟨tv2, rfl, hT2, hT1⟩
            replace hT1 := T.Hid.mk hT1
            replace hT2 := T.Hid.mk hT2
            clear hP12
            go_wp2_with fail
            refine (l10'.out _ _ hT1.out hT2.out).mono ?_
            rintro r w14 ⟨rfl, hB⟩
            replace hB := T.Hid.mk hB
            go_wp2_with fail
            go_ret
            exact ⟨rfl, ((Below.refl _ w).alloc (Nat.le_refl _) _).trans (hB.out.mono (by simp))⟩
          · have d1 : ((Z : Int) == 1) = false := by simpa using (by omega : ¬ (Z : Int) = 1)
            have d8 : ((Z : Int) == 8) = false := by simpa using (by omega : ¬ (Z : Int) = 8)
            have hlt1 : decide ((A : Int) < 65536) = false := by simp; omega
            obtain ⟨Y, hwr⟩ : ∃ Y, IntKind.u64.wrap ((A : Int) + Z) = Y := ⟨_, rfl⟩
            have hm : ((A : Int) % 16 == 0) = false := by simpa using (by omega : ¬ (A : Int) % 16 = 0)
            have eW : T.wordB A Z = false := by simp [T.wordB]; omega
            have eG : T.granB A = false := by simp [T.granB]; omega
            have l1' := l1.out tv
            have l2' := l2.out tv
            have l3' := l3.out tv
            have l7' := l7.out tv
            have l8' := l8.out tv
            have l9' := l9.out tv
            have l10' := l10.out tv
            have hE1 : T.ldE A Z = 60 := by unfold T.ldE; rw [eW]; rfl
            have hE2 : T.lcE A = 60 := by unfold T.lcE; rw [eG]; rfl
            rw [hE1] at l1' l2'
            rw [hE2] at l3'
            generalize T.ldV (T.runB (L.take L.length)) A Z = V1 at *
            generalize T.lcV (T.runB (L.take L.length)) (T.runT (L.take L.length)) A = V2 at *
            simp only [T.Vl.agg] at l3'
            replace l1' := T.Hid.mk l1'
            replace l2' := T.Hid.mk l2'
            replace l3' := T.Hid.mk l3'
            replace l7' := T.Hid.mk l7'
            replace l8' := T.Hid.mk l8'
            replace l9' := T.Hid.mk l9'
            replace l10' := T.Hid.mk l10'
            have l4' := fun W q => l4.out tv W q eW
            have l5' := fun W q => l5.out tv W q eW
            replace l4' := T.Hid.mk l4'
            replace l5' := T.Hid.mk l5'
            have l6' := fun W q => l6.out tv W q eG
            replace l6' := T.Hid.mk l6'
            clear l1 l2 l3 l4 l5 l6 l7 l8 l9 l10 hE1 hE2 eW eG hq hm16
            go_wp2_with fail
            refine (l1'.out _ hP.out).mono ?_
            rintro r w5 ⟨rfl, hP5⟩
            replace hP5 := T.Hid.mk hP5
            clear hP
            go_wp2_with fail
            refine (l2'.out _ hP5.out).mono ?_
            rintro r w6 ⟨rfl, hP6⟩
            replace hP6 := T.Hid.mk hP6
            clear hP5
            go_wp2_with fail
            refine (l3'.out _ hP6.out).mono ?_
            rintro r w7 ⟨rfl, hP7⟩
            replace hP7 := T.Hid.mk hP7
            clear hP6
            have sz7 : w.heap.size < w7.heap.size := by have := hP7.out.ld.below.size; simp at this; omega
            have A6 := hcap.out tv _ hP7.out
            have y0 : w7.cell? ⟨w.heap.size, 0, none⟩ = some (.int .u64 c.b) := A6.2.1 0
            have y1 : w7.cell? ⟨w.heap.size, 1, none⟩ = some (.int .u64 c.e) := A6.2.1 1
            have y2 : w7.cell? ⟨w.heap.size, 2, none⟩ = some (.int .u64 c.c) := A6.2.1 2
            have y3 : w7.cell? ⟨w.heap.size, 3, none⟩ = some (.int .u8 c.p) := A6.2.1 3
            have y4 : w7.cell? ⟨w.heap.size, 4, none⟩ = some (.int .i64 c.s) := A6.2.1 4
            replace A6 := T.Hid.mk A6
            have hA := fun o => hP7.out.gr ((Below.refl _ w7).alloc (Nat.le_refl _) o)
            replace hA := T.Hid.mk hA
            clear hP7
            go_wp2_with fail
            refine (l4'.out _ (hA.out _)).mono ?_
            rintro r w8 ⟨rfl, hP8⟩
            replace hP8 := T.Hid.mk hP8
            clear hA
            go_wp2_with fail
            refine (l5'.out _ hP8.out).mono ?_
            rintro r w9 ⟨rfl, hP9⟩
            replace hP9 := T.Hid.mk hP9
            clear hP8
            have A6 := hcap.out tv _ hP9.out
            have y0 : w9.cell? ⟨w.heap.size, 0, none⟩ = some (.int .u64 c.b) := A6.2.1 0
            have y1 : w9.cell? ⟨w.heap.size, 1, none⟩ = some (.int .u64 c.e) := A6.2.1 1
            have y2 : w9.cell? ⟨w.heap.size, 2, none⟩ = some (.int .u64 c.c) := A6.2.1 2
            have y3 : w9.cell? ⟨w.heap.size, 3, none⟩ = some (.int .u8 c.p) := A6.2.1 3
            have y4 : w9.cell? ⟨w.heap.size, 4, none⟩ = some (.int .i64 c.s) := A6.2.1 4
            replace A6 := T.Hid.mk A6
            go_wp2_with fail
            refine (l6'.out _ hP9.out).mono ?_
            rintro r w10 ⟨rfl, hP10⟩
            replace hP10 := T.Hid.mk hP10
            clear hP9
            go_wp2_with fail
            refine (l7'.out _ hP10.out).mono ?_
            rintro r w11 ⟨rfl, hP11⟩
            replace hP11 := T.Hid.mk hP11
            clear hP10
            go_wp2_with fail
            refine (l8'.out _ hP11.out).mono ?_
            rintro r w12 ⟨rfl, hP12⟩
            replace hP12 := T.Hid.mk hP12
            clear hP11
            go_wp2_with fail
            refine (l9'.out _ hP12.out).mono ?_
            rintro r w13 ⟨tv2, rfl, hT2, hT1⟩
            replace hT1 := T.Hid.mk hT1
            replace hT2 := T.Hid.mk hT2
            clear hP12
            go_wp2_with fail
            refine (l10'.out _ _ hT1.out hT2.out).mono ?_
            rintro r w14 ⟨rfl, hB⟩
            replace hB := T.Hid.mk hB
            go_wp2_with fail
            go_ret
            exact ⟨rfl, ((Below.refl _ w).alloc (Nat.le_refl _) _).trans (hB.out.mono (by simp))⟩
end Go.Proofs.Ytbmkefpgfifigaa
