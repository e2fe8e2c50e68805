import Derived.Test.YtimiofkiadlnbaaZSortG
/-
  Stage 13, fastvm: a whole program sorts what is put in: the walk.
-/
namespace Go.Proofs.Ytimiofkiadlnbaa
namespace Z
open Go.RowKit
open T (Sep Ob Kp Mf FlIn boxOb)

set_option maxRecDepth 100000 in
set_option maxHeartbeats 8000000 in
theorem walk_short (L : List Int) (sa : Option Addr) (sc : Nat) (w : World) (hI : InL w sa sc L) (hw : ∀ x ∈ L, Wd x) (hl : L.length ≤ 10) :
    Calls Try.prog 3 #[.slice sa L.length sc] w fun x w' => x = .returned (.bool true) ∧ Below w.heap.size w w' := by
  replace hI := Hz.mk hI
  replace hw := Hz.mk hw
  have hnn : Hz ((0 : Int) ≤ (L.length : Int) ∧ (L.length : Int) < 18446744073709551616) := Hz.mk (by omega)
  have hl10 := Hz.mk hl
  have hgt : ¬ (10 : Int) < (L.length : Int) := by omega
  have hgt2 : ¬ (L.length : Int) > 10 := by omega
  have hwr : IntKind.u64.wrap (L.length : Int) = (L.length : Int) := by rw [IntKind.wrap_u64]; omega
  go_enter Try.func3, Try.ntmps3
  go_upto_region 1 with fail
  go_wp2_with fail
  refine (examples_any w).mono ?_
  rintro r V1 ⟨rfl, hB⟩
  replace hI := Hz.mk (hI.out.below hB)
  have G := Hz.mk hB
  clear hB
  go_upto_region 5 with fail
  refine wp_region_lit ?_
  refine wpList_plain rfl (fun K hK => ?_)
  go_simp
  with_reducible refine hK _ _ ?_
  clear hK K
  try simp only [Act.put, List.setIfInBounds_toArray, List.set_cons_zero, List.set_cons_succ]
  refine wpList_plain rfl (fun K hK => ?_)
  go_simp
  with_reducible refine hK _ _ ?_
  clear hK K
  try simp only [Act.put, List.setIfInBounds_toArray, List.set_cons_zero, List.set_cons_succ]
  refine wpList_plain rfl (fun K hK => ?_)
  go_simp
  with_reducible refine hK _ _ ?_
  clear hK K
  try simp only [Act.put, List.setIfInBounds_toArray, List.set_cons_zero, List.set_cons_succ]
  refine wpList_plain rfl (fun K hK => ?_)
  go_simp
  with_reducible refine hK _ _ ?_
  clear hK K
  try simp only [Act.put, List.setIfInBounds_toArray, List.set_cons_zero, List.set_cons_succ]
  refine wpList_plain rfl (fun K hK => ?_)
  go_simp
  with_reducible refine hK _ _ ?_
  clear hK K
  try simp only [Act.put, List.setIfInBounds_toArray, List.set_cons_zero, List.set_cons_succ]
  refine wpList_plain rfl (fun K hK => ?_)
  go_simp
  with_reducible refine hK _ _ ?_
  clear hK K
  try simp only [Act.put, List.setIfInBounds_toArray, List.set_cons_zero, List.set_cons_succ]
  refine wpList_plain rfl (fun K hK => ?_)
  go_simp
  with_reducible refine hK _ _ ?_
  clear hK K
  try simp only [Act.put, List.setIfInBounds_toArray, List.set_cons_zero, List.set_cons_succ]
  refine wpList_plain rfl (fun K hK => ?_)
  go_simp
  with_reducible refine hK _ _ ?_
  clear hK K
  try simp only [Act.put, List.setIfInBounds_toArray, List.set_cons_zero, List.set_cons_succ]
  refine wpList_plain rfl (fun K hK => ?_)
  go_simp
  with_reducible refine hK _ _ ?_
  clear hK K
  try simp only [Act.put, List.setIfInBounds_toArray, List.set_cons_zero, List.set_cons_succ]
  refine wpList_plain rfl (fun K hK => ?_)
  go_simp
  with_reducible refine hK _ _ ?_
  clear hK K
  try simp only [Act.put, List.setIfInBounds_toArray, List.set_cons_zero, List.set_cons_succ]
  refine wpList_plain rfl (fun K hK => ?_)
  go_simp
  with_reducible refine hK _ _ ?_
  clear hK K
  try simp only [Act.put, List.setIfInBounds_toArray, List.set_cons_zero, List.set_cons_succ]
  refine wpList_plain rfl (fun K hK => ?_)
  go_simp
  with_reducible refine hK _ _ ?_
  clear hK K
  try simp only [Act.put, List.setIfInBounds_toArray, List.set_cons_zero, List.set_cons_succ]
  refine wpList_plain rfl (fun K hK => ?_)
  go_simp
  with_reducible refine hK _ _ ?_
  clear hK K
  try simp only [Act.put, List.setIfInBounds_toArray, List.set_cons_zero, List.set_cons_succ]
  refine wpList_plain rfl (fun K hK => ?_)
  go_simp
  with_reducible refine hK _ _ ?_
  clear hK K
  try simp only [Act.put, List.setIfInBounds_toArray, List.set_cons_zero, List.set_cons_succ]
  refine wpList_plain rfl (fun K hK => ?_)
  go_simp
  with_reducible refine hK _ _ ?_
  clear hK K
  try simp only [Act.put, List.setIfInBounds_toArray, List.set_cons_zero, List.set_cons_succ]
  refine wpList_plain rfl (fun K hK => ?_)
  go_simp
  with_reducible refine hK _ _ ?_
  clear hK K
  try simp only [Act.put, List.setIfInBounds_toArray, List.set_cons_zero, List.set_cons_succ]
  refine wpList_plain rfl (fun K hK => ?_)
  go_simp
  with_reducible refine hK _ _ ?_
  clear hK K
  try simp only [Act.put, List.setIfInBounds_toArray, List.set_cons_zero, List.set_cons_succ]
  refine wpList_plain rfl (fun K hK => ?_)
  go_simp
  with_reducible refine hK _ _ ?_
  clear hK K
  try simp only [Act.put, List.setIfInBounds_toArray, List.set_cons_zero, List.set_cons_succ]
  refine wpList_plain rfl (fun K hK => ?_)
  go_simp
  with_reducible refine hK _ _ ?_
  clear hK K
  try simp only [Act.put, List.setIfInBounds_toArray, List.set_cons_zero, List.set_cons_succ]
  refine wpList_plain rfl (fun K hK => ?_)
  go_simp
  with_reducible refine hK _ _ ?_
  clear hK K
  try simp only [Act.put, List.setIfInBounds_toArray, List.set_cons_zero, List.set_cons_succ]
  refine wpList_plain rfl (fun K hK => ?_)
  go_simp
  with_reducible refine hK _ _ ?_
  clear hK K
  try simp only [Act.put, List.setIfInBounds_toArray, List.set_cons_zero, List.set_cons_succ]
  refine wpList_plain rfl (fun K hK => ?_)
  go_simp
  with_reducible refine hK _ _ ?_
  clear hK K
  try simp only [Act.put, List.setIfInBounds_toArray, List.set_cons_zero, List.set_cons_succ]
  refine wpList_plain rfl (fun K hK => ?_)
  go_simp
  with_reducible refine hK _ _ ?_
  clear hK K
  try simp only [Act.put, List.setIfInBounds_toArray, List.set_cons_zero, List.set_cons_succ]
  refine wpList_plain rfl (fun K hK => ?_)
  go_simp
  with_reducible refine hK _ _ ?_
  clear hK K
  try simp only [Act.put, List.setIfInBounds_toArray, List.set_cons_zero, List.set_cons_succ]
  refine wpList_plain rfl (fun K hK => ?_)
  go_simp
  with_reducible refine hK _ _ ?_
  clear hK K
  try simp only [Act.put, List.setIfInBounds_toArray, List.set_cons_zero, List.set_cons_succ]
  refine wpList_plain rfl (fun K hK => ?_)
  go_simp
  with_reducible refine hK _ _ ?_
  clear hK K
  try simp only [Act.put, List.setIfInBounds_toArray, List.set_cons_zero, List.set_cons_succ]
  refine wpList_plain rfl (fun K hK => ?_)
  go_simp
  with_reducible refine hK _ _ ?_
  clear hK K
  try simp only [Act.put, List.setIfInBounds_toArray, List.set_cons_zero, List.set_cons_succ]
  refine wpList_plain rfl (fun K hK => ?_)
  go_simp
  with_reducible refine hK _ _ ?_
  clear hK K
  try simp only [Act.put, List.setIfInBounds_toArray, List.set_cons_zero, List.set_cons_succ]
  refine wpList_plain rfl (fun K hK => ?_)
  go_simp
  with_reducible refine hK _ _ ?_
  clear hK K
  try simp only [Act.put, List.setIfInBounds_toArray, List.set_cons_zero, List.set_cons_succ]
  refine wpList_plain rfl (fun K hK => ?_)
  go_simp
  with_reducible refine hK _ _ ?_
  clear hK K
  try simp only [Act.put, List.setIfInBounds_toArray, List.set_cons_zero, List.set_cons_succ]
  refine wpList_plain rfl (fun K hK => ?_)
  go_simp
  with_reducible refine hK _ _ ?_
  clear hK K
  try simp only [Act.put, List.setIfInBounds_toArray, List.set_cons_zero, List.set_cons_succ]
  refine wpList_plain rfl (fun K' hK => ?_)
  refine wp_build30 (L.length : Int) _ rfl (by kernel_rfl) ?_
  with_reducible refine hK _ _ ?_
  clear hK K'
  try simp only [Act.put, List.setIfInBounds_toArray, List.set_cons_zero, List.set_cons_succ]
  have hA := At.new V1 ((srtL (L.length : Int)).flatMap Fi.vals).toArray 32
  have gA : Gr V1 (V1.alloc (.cells ((srtL (L.length : Int)).flatMap Fi.vals).toArray 32)) := (Gr.refl V1).alloc _
  generalize hW1 : V1.alloc (.cells ((srtL (L.length : Int)).flatMap Fi.vals).toArray 32) = W1 at *
  clear hW1
  replace hA := Hz.mk hA
  replace gA := Hz.mk gA
  refine wpList_plain rfl (fun K' hK => ?_)
  go_simp
  refine (one30 V1.heap.size W1).mono ?_
  rintro r W2 ⟨rfl, g2, hs2, c2, r2⟩
  with_reducible refine hK _ _ ?_
  clear hK K'
  try simp only [Act.put, List.setIfInBounds_toArray, List.set_cons_zero, List.set_cons_succ]
  have hA2 := Hz.mk (hA.out.gr g2)
  have hs1 : W1.heap.size + 1 < W2.heap.size := by omega
  have hR : Hz (RwIn W2 (some ⟨W1.heap.size + 1, 0, none⟩) (some ⟨W1.heap.size + 1 + 1, 0, none⟩) (srtP (L.length : Int))) := Hz.mk (srtRw hA2.out c2 hs1 r2 hs2)
  have G2 := Hz.mk (gA.out.trans g2)
  clear hA gA g2 c2 r2 hA2
  generalize W1.heap.size + 1 + 1 = kg at *
  generalize W1.heap.size + 1 = kc at *
  clear W1 hs1 hs2
  go_upto_region 6 with fail
  refine wp_world (fun X => At X W2.heap.size #[.slice (some ⟨kc, 0, none⟩) 1 1, .slice (some ⟨kg, 0, none⟩) 1 1, .string ⟨#[]⟩, .int .i64 1] ∧ Gr W2 X) ⟨At.new W2 _ _, (Gr.refl _).alloc _⟩ ?_
  rintro W3 ⟨hA3, g3⟩
  replace hR := Hz.mk (hR.out.gr g3)
  replace G2 := Hz.mk (G2.out.trans g3)
  replace G := Hz.mk (G.out.trans (G2.out.below.mono G.out.size))
  replace hI := Hz.mk (hI.out.below G2.out.below)
  clear g3 G2
  have d0 : W3.cell? ⟨W2.heap.size, 0, none⟩ = some (.slice (some ⟨kc, 0, none⟩) 1 1) := hA3.2.1 0
  have d1 : W3.cell? ⟨W2.heap.size, 1, none⟩ = some (.slice (some ⟨kg, 0, none⟩) 1 1) := hA3.2.1 1
  have d2 : W3.cell? ⟨W2.heap.size, 2, none⟩ = some (.string ⟨#[]⟩) := hA3.2.1 2
  have d3 : W3.cell? ⟨W2.heap.size, 3, none⟩ = some (.int .i64 1) := hA3.2.1 3
  have hnw : Hz (Calls Try.prog 6 #[.agg #[.slice (some ⟨kc, 0, none⟩) 1 1, .slice (some ⟨kg, 0, none⟩) 1 1, .string ⟨#[]⟩, .int .i64 1], .int .i64 0, .slice none 0 0, .slice sa L.length sc] W3 fun x w' => ∃ a, x = .returned (.tuple #[.pointer (some ⟨a, 0, none⟩), .int .i64 0]) ∧ MIn W3.heap.size w' a (srtP (L.length : Int)) (srtS L) [] ∧ Below W3.heap.size W3 w') := Hz.mk (by
    have q := new_ok (srtP (L.length : Int)) (some ⟨kc, 0, none⟩) (some ⟨kg, 0, none⟩) 1 1 [] 0 none 0 0 (fun _ => 0) sa sc L W3 hR.out (srt_ok (L.length : Int) hnn.out) (by decide) (show (0 : Nat) < 1 by decide) rfl (.inl rfl) (Nat.le_trans hl10.out (by decide)) hI.out
    exact q)
  replace hA3 := Hz.mk hA3
  go_wp2_with fail
  refine hnw.out.mono ?_
  rintro r W4 ⟨a, rfl, hM, hB4⟩
  clear d0 d1 d2 d3 hnw hR hA3
  have hBw : Hz (w.heap.size ≤ W3.heap.size) := Hz.mk G.out.size
  replace hB4 := Hz.mk hB4
  replace hM := Hz.mk hM
  obtain ⟨V, u, hpm, hsr, hu, e1, e2, e3, e4, e5, e6⟩ := srt_done (L.length : Int) L rfl hw.out hl10.out
  have hVl : Hz (V.length = L.length) := Hz.mk (hpm.length_eq)
  have hrn : Hz (Calls Try.prog 7 #[.pointer (some ⟨a, 0, none⟩), .int .i64 20000] W4 fun x w' => x = .returned (.agg #[.int .i64 1, .int .u64 (L.length : Int), .int .i64 0, .int .i64 0, .int .i64 27]) ∧ MIn W3.heap.size w' a (srtP (L.length : Int)) u [] ∧ Below W3.heap.size W4 w') := Hz.mk (by
    have q := run_oc (srtP (L.length : Int)) (srt_ok (L.length : Int) hnn.out) (srt_rr (L.length : Int)) (srtS L) 0 20000 (srtS_okn (L.length : Int) L hw.out hl10.out) (by decide) (by decide) u hu W3.heap.size W4 a [] hM.out
    rw [e1, e2, e3, e4, e5] at q
    exact q)
  clear e1 e2 e3 e4 e5
  replace hpm := Hz.mk hpm
  replace hsr := Hz.mk hsr
  replace hu := Hz.mk hu
  replace e6 := Hz.mk e6
  go_wp2_with fail
  refine hrn.out.mono ?_
  rintro r W5 ⟨rfl, hM5, hB5⟩
  clear hrn hu
  replace hB4 := Hz.mk (hB4.out.trans hB5)
  replace G := Hz.mk (G.out.trans (hB4.out.mono hBw.out))
  replace hI := Hz.mk (hI.out.below hB4.out)
  replace hM := Hz.mk hM5
  clear hB4 hB5 hM5
  go_upto_region 10 with fail
  refine wp_world (fun X => At X W5.heap.size (List.toArray [Value.int .i64 1, .int .u64 (L.length : Int), .int .i64 0, .int .i64 0, .int .i64 27]) ∧ Gr W5 X) ⟨At.new W5 _ _, (Gr.refl _).alloc _⟩ ?_
  rintro W6 ⟨hA6, g6⟩
  replace G := Hz.mk (G.out.trans (g6.below.mono G.out.size))
  replace hI := Hz.mk (hI.out.below g6.below)
  replace hM := Hz.mk (hM.out.gr g6.below)
  clear g6
  generalize W5.heap.size = ko at *
  have hou : Hz (Calls Try.prog 8 #[.pointer (some ⟨a, 0, none⟩)] W6 fun x w' => ∃ va c, x = .returned (.slice va L.length c) ∧ WIn w' va V ∧ Below W6.heap.size W6 w') := Hz.mk (by
    have q := outs_any W3.heap.size W6 a (srtP (L.length : Int)) u [] hM.out (by rw [e6.out, hVl.out]; have := hl10.out; omega)
    rw [e6.out, hVl.out] at q
    exact q)
  replace hA6 := Hz.mk hA6
  go_wp2_with fail
  refine hou.out.mono ?_
  rintro r W7 ⟨va, vc, rfl, hV, hB7⟩
  replace G := Hz.mk (G.out.trans (hB7.mono G.out.size))
  replace hI := Hz.mk (hI.out.below hB7)
  replace hA6 := Hz.mk (at_below hA6.out hB7 hA6.out.1)
  replace hV := Hz.mk hV
  clear hou hB7 hM e6 hBw
  have d0 : W7.cell? ⟨ko, 0, none⟩ = some (.int .i64 1) := hA6.out.2.1 0
  have d1 : W7.cell? ⟨ko, 1, none⟩ = some (.int .u64 (L.length : Int)) := hA6.out.2.1 1
  have d2 : W7.cell? ⟨ko, 2, none⟩ = some (.int .i64 0) := hA6.out.2.1 2
  have d3 : W7.cell? ⟨ko, 3, none⟩ = some (.int .i64 0) := hA6.out.2.1 3
  have d4 : W7.cell? ⟨ko, 4, none⟩ = some (.int .i64 27) := hA6.out.2.1 4
  have hoc := fun W => oc_ne5 1 (L.length : Int) 0 0 27 W
  clear hA6
  go_upto_region 14 with fail
  clear d0 d1 d2 d3 d4 hoc
  go_loopw [10] (fun x wr => ∃ i : Nat, x = .int .i64 i ∧ i ≤ L.length ∧ Hz (Gr W7 wr)) (fun x _ => L.length - (intOf x).toNat)
  case atStart => exact ⟨0, rfl, Nat.zero_le _, Hz.mk (Gr.refl _)⟩
  case round =>
    obtain ⟨i, rfl, hi, G7⟩ := hrel
    by_cases hi1 : i < L.length
    · have hii : (i : Int) < (L.length : Int) := by omega
      have hiV : i < V.length := by rw [hVl.out]; exact hi1
      obtain ⟨y, hy⟩ : ∃ y, V[i] = y := ⟨_, rfl⟩
      replace hy := Hz.mk hy
      have hiM : i < L.length := hi1
      obtain ⟨vb, vo, hva, -, -⟩ := hV.out i hiV
      obtain ⟨mb, mo, hma, -, -⟩ := hI.out.win i hiM
      cases hva
      cases hma
      have hVc := Hz.mk hV.out.at
      have hMc := Hz.mk hI.out.win.at
      clear hV hI
      go_upto_region 19 with fail
      rename World => wo
      go_loopw [11, 12, 13] (fun x z q wr => ∃ k : Nat, x = .int .i64 ((cE V y k : Nat) : Int) ∧ z = .int .i64 ((cE L y k : Nat) : Int) ∧ q = .int .i64 k ∧ k ≤ L.length ∧ Hz (Gr W7 wr)) (fun _ _ q _ => L.length - (intOf q).toNat)
      case atStart => exact ⟨0, by rw [cE_zero]; rfl, by rw [cE_zero]; rfl, rfl, Nat.zero_le _, G7⟩
      case round =>
        clear G7
        obtain ⟨k, rfl, rfl, rfl, hkl, G7⟩ := hrel
        by_cases hk : k < L.length
        · have hki : (k : Int) < (L.length : Int) := by omega
          have hk1 : k ≤ 100 := by have := hl10.out; omega
          have hkV : k < V.length := by rw [hVl.out]; exact hk
          have hkM : k < L.length := hk
          obtain ⟨lv, cv⟩ := hVc.out.gr G7.out k hkV
          obtain ⟨lm, cm⟩ := hMc.out.gr G7.out k hkM
          obtain ⟨-, ci⟩ := hVc.out.gr G7.out i hiV
          rw [hy.out] at ci
          obtain ⟨vk, hvk⟩ : ∃ v, V[k] = v := ⟨_, rfl⟩
          obtain ⟨mk, hmk⟩ : ∃ v, L[k] = v := ⟨_, rfl⟩
          rw [hvk] at cv
          rw [hmk] at cm
          replace hvk := Hz.mk hvk
          replace hmk := Hz.mk hmk
          by_cases he1 : vk = y
          · skip
            have hb1 : (vk == y) = true := by simpa using he1
            replace he1 := Hz.mk (show V[k]'hkV = y from hvk.out.trans he1)
            by_cases he2 : mk = y
            · skip
              have hb2 : (mk == y) = true := by simpa using he2
              replace he2 := Hz.mk (show L[k]'hkM = y from hmk.out.trans he2)
              clear hvk hmk
              go_upto_region 21 with fail
              have GD : Gr wr wr.drew := (Gr.refl wr).drew
              refine wp_region_held_drew (S := (fun W => W.cell? ⟨vb, vo + k, none⟩ = some (.int .u64 vk) ∧ W.cell? ⟨vb, vo + i, none⟩ = some (.int .u64 y))) (by kernel_rfl) (⟨(T.cell_of_block (GD.below.block vb lv) _).trans cv, (T.cell_of_block (GD.below.block vb lv) _).trans ci⟩) (fun hHeld => ?_)
              refine wpAnyH_take (i := 0) (oi := { dst := some 99, op := Op.move (Operand.tmp 9), type := 22, pos := "keeps.go:217", after := #[], guard := none }) (v := ?_) rfl (by kernel_rfl) (by kernel_rfl) (by kernel_rfl) (fun _ _ _ h => h) (Or.inl ⟨by rfl, ?_⟩) (by assumption) ?_
              rotate_left
              · intro w hSw; (try dsimp only at hSw); go_simp; first | done | with_reducible rfl
              try simp only [Act.put, List.setIfInBounds_toArray, List.set_cons_zero, List.set_cons_succ]
              refine wpAnyH_take (i := 1) (oi := { dst := some 100, op := Op.move (Operand.tmp 13), type := 3, pos := "keeps.go:217", after := #[], guard := none }) (v := ?_) rfl (by kernel_rfl) (by kernel_rfl) (by kernel_rfl) (fun _ _ _ h => h) (Or.inl ⟨by rfl, ?_⟩) (by assumption) ?_
              rotate_left
              · intro w hSw; (try dsimp only at hSw); go_simp; first | done | with_reducible rfl
              try simp only [Act.put, List.setIfInBounds_toArray, List.set_cons_zero, List.set_cons_succ]
              refine wpAnyH_take (i := 2) (oi := { dst := some 101, op := Op.indexAddr 22 (Operand.tmp 99) (Operand.tmp 100), type := 0, pos := "keeps.go:217", after := #[{ on := 0, ground := Ground.data }, { on := 1, ground := Ground.data }], guard := none }) (v := ?_) rfl (by kernel_rfl) (by kernel_rfl) (by kernel_rfl) (fun _ _ _ h => h) (Or.inl ⟨by rfl, ?_⟩) (by assumption) ?_
              rotate_left
              · intro w hSw; (try dsimp only at hSw); go_simp; first | done | with_reducible rfl
              try simp only [Act.put, List.setIfInBounds_toArray, List.set_cons_zero, List.set_cons_succ]
              refine wpAnyH_take (i := 3) (oi := { dst := some 102, op := Op.load 24 (Operand.tmp 101), type := 24, pos := "keeps.go:217", after := #[{ on := 2, ground := Ground.data }], guard := none }) (v := ?_) rfl (by kernel_rfl) (by kernel_rfl) (by kernel_rfl) (fun _ _ _ h => h) (Or.inl ⟨by rfl, ?_⟩) (by assumption) ?_
              rotate_left
              · intro w hSw; (try dsimp only at hSw); go_simp; first | done | with_reducible rfl
              try simp only [Act.put, List.setIfInBounds_toArray, List.set_cons_zero, List.set_cons_succ]
              refine wpAnyH_take (i := 4) (oi := { dst := some 103, op := Op.move (Operand.tmp 9), type := 22, pos := "keeps.go:217", after := #[], guard := none }) (v := ?_) rfl (by kernel_rfl) (by kernel_rfl) (by kernel_rfl) (fun _ _ _ h => h) (Or.inl ⟨by rfl, ?_⟩) (by assumption) ?_
              rotate_left
              · intro w hSw; (try dsimp only at hSw); go_simp; first | done | with_reducible rfl
              try simp only [Act.put, List.setIfInBounds_toArray, List.set_cons_zero, List.set_cons_succ]
              refine wpAnyH_take (i := 5) (oi := { dst := some 104, op := Op.move (Operand.tmp 10), type := 3, pos := "keeps.go:217", after := #[], guard := none }) (v := ?_) rfl (by kernel_rfl) (by kernel_rfl) (by kernel_rfl) (fun _ _ _ h => h) (Or.inl ⟨by rfl, ?_⟩) (by assumption) ?_
              rotate_left
              · intro w hSw; (try dsimp only at hSw); go_simp; first | done | with_reducible rfl
              try simp only [Act.put, List.setIfInBounds_toArray, List.set_cons_zero, List.set_cons_succ]
              refine wpAnyH_take (i := 6) (oi := { dst := some 105, op := Op.indexAddr 22 (Operand.tmp 103) (Operand.tmp 104), type := 0, pos := "keeps.go:217", after := #[{ on := 4, ground := Ground.data }, { on := 5, ground := Ground.data }], guard := none }) (v := ?_) rfl (by kernel_rfl) (by kernel_rfl) (by kernel_rfl) (fun _ _ _ h => h) (Or.inl ⟨by rfl, ?_⟩) (by assumption) ?_
              rotate_left
              · intro w hSw; (try dsimp only at hSw); go_simp; first | done | with_reducible rfl
              try simp only [Act.put, List.setIfInBounds_toArray, List.set_cons_zero, List.set_cons_succ]
              refine wpAnyH_take (i := 7) (oi := { dst := some 106, op := Op.load 24 (Operand.tmp 105), type := 24, pos := "keeps.go:217", after := #[{ on := 6, ground := Ground.data }], guard := none }) (v := ?_) rfl (by kernel_rfl) (by kernel_rfl) (by kernel_rfl) (fun _ _ _ h => h) (Or.inl ⟨by rfl, ?_⟩) (by assumption) ?_
              rotate_left
              · intro w hSw; (try dsimp only at hSw); go_simp; first | done | with_reducible rfl
              try simp only [Act.put, List.setIfInBounds_toArray, List.set_cons_zero, List.set_cons_succ]
              refine wpAnyH_take (i := 8) (oi := { dst := some 107, op := Op.binOp BinOp.eql 24 (Operand.tmp 102) (Operand.tmp 106) 24, type := 4, pos := "keeps.go:217", after := #[{ on := 3, ground := Ground.data }, { on := 7, ground := Ground.data }], guard := none }) (v := ?_) rfl (by kernel_rfl) (by kernel_rfl) (by kernel_rfl) (fun _ _ _ h => h) (Or.inl ⟨by rfl, ?_⟩) (by assumption) ?_
              rotate_left
              · intro w hSw; (try dsimp only at hSw); go_simp; first | done | with_reducible rfl
              try simp only [Act.put, List.setIfInBounds_toArray, List.set_cons_zero, List.set_cons_succ]
              refine wpAnyH_done (by kernel_rfl) ?_ _
              clear hHeld
              replace cm := Hz.mk ((T.cell_of_block (GD.below.block mb lm) _).trans cm)
              replace ci := Hz.mk ((T.cell_of_block (GD.below.block vb lv) _).trans ci)
              replace lm : mb < wr.drew.heap.size := Nat.lt_of_lt_of_le lm GD.below.size
              replace lv : vb < wr.drew.heap.size := Nat.lt_of_lt_of_le lv GD.below.size
              have G3 := Hz.mk (G7.out.trans GD)
              clear cv GD G7
              generalize wr.drew = wd at *
              rename World => wr
              replace cm := cm.out
              replace ci := ci.out
              go_upto_region 23 with fail
              have GD : Gr wr wr.drew := (Gr.refl wr).drew
              refine wp_region_held_drew (S := (fun W => W.cell? ⟨mb, mo + k, none⟩ = some (.int .u64 mk) ∧ W.cell? ⟨vb, vo + i, none⟩ = some (.int .u64 y))) (by kernel_rfl) (⟨(T.cell_of_block (GD.below.block mb lm) _).trans cm, (T.cell_of_block (GD.below.block vb lv) _).trans ci⟩) (fun hHeld => ?_)
              refine wpAnyH_take (i := 0) (oi := { dst := some 110, op := Op.move (Operand.tmp 0), type := 22, pos := "keeps.go:220", after := #[], guard := none }) (v := ?_) rfl (by kernel_rfl) (by kernel_rfl) (by kernel_rfl) (fun _ _ _ h => h) (Or.inl ⟨by rfl, ?_⟩) (by assumption) ?_
              rotate_left
              · intro w hSw; (try dsimp only at hSw); go_simp; first | done | with_reducible rfl
              try simp only [Act.put, List.setIfInBounds_toArray, List.set_cons_zero, List.set_cons_succ]
              refine wpAnyH_take (i := 1) (oi := { dst := some 111, op := Op.move (Operand.tmp 13), type := 3, pos := "keeps.go:220", after := #[], guard := none }) (v := ?_) rfl (by kernel_rfl) (by kernel_rfl) (by kernel_rfl) (fun _ _ _ h => h) (Or.inl ⟨by rfl, ?_⟩) (by assumption) ?_
              rotate_left
              · intro w hSw; (try dsimp only at hSw); go_simp; first | done | with_reducible rfl
              try simp only [Act.put, List.setIfInBounds_toArray, List.set_cons_zero, List.set_cons_succ]
              refine wpAnyH_take (i := 2) (oi := { dst := some 112, op := Op.indexAddr 22 (Operand.tmp 110) (Operand.tmp 111), type := 0, pos := "keeps.go:220", after := #[{ on := 0, ground := Ground.data }, { on := 1, ground := Ground.data }], guard := none }) (v := ?_) rfl (by kernel_rfl) (by kernel_rfl) (by kernel_rfl) (fun _ _ _ h => h) (Or.inl ⟨by rfl, ?_⟩) (by assumption) ?_
              rotate_left
              · intro w hSw; (try dsimp only at hSw); go_simp; first | done | with_reducible rfl
              try simp only [Act.put, List.setIfInBounds_toArray, List.set_cons_zero, List.set_cons_succ]
              refine wpAnyH_take (i := 3) (oi := { dst := some 113, op := Op.load 24 (Operand.tmp 112), type := 24, pos := "keeps.go:220", after := #[{ on := 2, ground := Ground.data }], guard := none }) (v := ?_) rfl (by kernel_rfl) (by kernel_rfl) (by kernel_rfl) (fun _ _ _ h => h) (Or.inl ⟨by rfl, ?_⟩) (by assumption) ?_
              rotate_left
              · intro w hSw; (try dsimp only at hSw); go_simp; first | done | with_reducible rfl
              try simp only [Act.put, List.setIfInBounds_toArray, List.set_cons_zero, List.set_cons_succ]
              refine wpAnyH_take (i := 4) (oi := { dst := some 114, op := Op.move (Operand.tmp 9), type := 22, pos := "keeps.go:220", after := #[], guard := none }) (v := ?_) rfl (by kernel_rfl) (by kernel_rfl) (by kernel_rfl) (fun _ _ _ h => h) (Or.inl ⟨by rfl, ?_⟩) (by assumption) ?_
              rotate_left
              · intro w hSw; (try dsimp only at hSw); go_simp; first | done | with_reducible rfl
              try simp only [Act.put, List.setIfInBounds_toArray, List.set_cons_zero, List.set_cons_succ]
              refine wpAnyH_take (i := 5) (oi := { dst := some 115, op := Op.move (Operand.tmp 10), type := 3, pos := "keeps.go:220", after := #[], guard := none }) (v := ?_) rfl (by kernel_rfl) (by kernel_rfl) (by kernel_rfl) (fun _ _ _ h => h) (Or.inl ⟨by rfl, ?_⟩) (by assumption) ?_
              rotate_left
              · intro w hSw; (try dsimp only at hSw); go_simp; first | done | with_reducible rfl
              try simp only [Act.put, List.setIfInBounds_toArray, List.set_cons_zero, List.set_cons_succ]
              refine wpAnyH_take (i := 6) (oi := { dst := some 116, op := Op.indexAddr 22 (Operand.tmp 114) (Operand.tmp 115), type := 0, pos := "keeps.go:220", after := #[{ on := 4, ground := Ground.data }, { on := 5, ground := Ground.data }], guard := none }) (v := ?_) rfl (by kernel_rfl) (by kernel_rfl) (by kernel_rfl) (fun _ _ _ h => h) (Or.inl ⟨by rfl, ?_⟩) (by assumption) ?_
              rotate_left
              · intro w hSw; (try dsimp only at hSw); go_simp; first | done | with_reducible rfl
              try simp only [Act.put, List.setIfInBounds_toArray, List.set_cons_zero, List.set_cons_succ]
              refine wpAnyH_take (i := 7) (oi := { dst := some 117, op := Op.load 24 (Operand.tmp 116), type := 24, pos := "keeps.go:220", after := #[{ on := 6, ground := Ground.data }], guard := none }) (v := ?_) rfl (by kernel_rfl) (by kernel_rfl) (by kernel_rfl) (fun _ _ _ h => h) (Or.inl ⟨by rfl, ?_⟩) (by assumption) ?_
              rotate_left
              · intro w hSw; (try dsimp only at hSw); go_simp; first | done | with_reducible rfl
              try simp only [Act.put, List.setIfInBounds_toArray, List.set_cons_zero, List.set_cons_succ]
              refine wpAnyH_take (i := 8) (oi := { dst := some 118, op := Op.binOp BinOp.eql 24 (Operand.tmp 113) (Operand.tmp 117) 24, type := 4, pos := "keeps.go:220", after := #[{ on := 3, ground := Ground.data }, { on := 7, ground := Ground.data }], guard := none }) (v := ?_) rfl (by kernel_rfl) (by kernel_rfl) (by kernel_rfl) (fun _ _ _ h => h) (Or.inl ⟨by rfl, ?_⟩) (by assumption) ?_
              rotate_left
              · intro w hSw; (try dsimp only at hSw); go_simp; first | done | with_reducible rfl
              try simp only [Act.put, List.setIfInBounds_toArray, List.set_cons_zero, List.set_cons_succ]
              refine wpAnyH_done (by kernel_rfl) ?_ _
              clear hHeld
              replace G3 := Hz.mk (G3.out.trans GD)
              clear GD cm ci lm lv
              go_wp2_with fail
              refine And.intro (Exists.intro (k + 1) ⟨cw_yes V y k hkV hk1 he1.out, cw_yes L y k hkM hk1 he2.out, kw_next k, hk, G3⟩) ?_
              exact kw_meas _ k hk
            · skip
              have hb2 : (mk == y) = false := by simpa using he2
              replace he2 := Hz.mk (show L[k]'hkM ≠ y from fun q => he2 (hmk.out.symm.trans q))
              clear hvk hmk
              go_upto_region 21 with fail
              have GD : Gr wr wr.drew := (Gr.refl wr).drew
              refine wp_region_held_drew (S := (fun W => W.cell? ⟨vb, vo + k, none⟩ = some (.int .u64 vk) ∧ W.cell? ⟨vb, vo + i, none⟩ = some (.int .u64 y))) (by kernel_rfl) (⟨(T.cell_of_block (GD.below.block vb lv) _).trans cv, (T.cell_of_block (GD.below.block vb lv) _).trans ci⟩) (fun hHeld => ?_)
              refine wpAnyH_take (i := 0) (oi := { dst := some 99, op := Op.move (Operand.tmp 9), type := 22, pos := "keeps.go:217", after := #[], guard := none }) (v := ?_) rfl (by kernel_rfl) (by kernel_rfl) (by kernel_rfl) (fun _ _ _ h => h) (Or.inl ⟨by rfl, ?_⟩) (by assumption) ?_
              rotate_left
              · intro w hSw; (try dsimp only at hSw); go_simp; first | done | with_reducible rfl
              try simp only [Act.put, List.setIfInBounds_toArray, List.set_cons_zero, List.set_cons_succ]
              refine wpAnyH_take (i := 1) (oi := { dst := some 100, op := Op.move (Operand.tmp 13), type := 3, pos := "keeps.go:217", after := #[], guard := none }) (v := ?_) rfl (by kernel_rfl) (by kernel_rfl) (by kernel_rfl) (fun _ _ _ h => h) (Or.inl ⟨by rfl, ?_⟩) (by assumption) ?_
              rotate_left
              · intro w hSw; (try dsimp only at hSw); go_simp; first | done | with_reducible rfl
              try simp only [Act.put, List.setIfInBounds_toArray, List.set_cons_zero, List.set_cons_succ]
              refine wpAnyH_take (i := 2) (oi := { dst := some 101, op := Op.indexAddr 22 (Operand.tmp 99) (Operand.tmp 100), type := 0, pos := "keeps.go:217", after := #[{ on := 0, ground := Ground.data }, { on := 1, ground := Ground.data }], guard := none }) (v := ?_) rfl (by kernel_rfl) (by kernel_rfl) (by kernel_rfl) (fun _ _ _ h => h) (Or.inl ⟨by rfl, ?_⟩) (by assumption) ?_
              rotate_left
              · intro w hSw; (try dsimp only at hSw); go_simp; first | done | with_reducible rfl
              try simp only [Act.put, List.setIfInBounds_toArray, List.set_cons_zero, List.set_cons_succ]
              refine wpAnyH_take (i := 3) (oi := { dst := some 102, op := Op.load 24 (Operand.tmp 101), type := 24, pos := "keeps.go:217", after := #[{ on := 2, ground := Ground.data }], guard := none }) (v := ?_) rfl (by kernel_rfl) (by kernel_rfl) (by kernel_rfl) (fun _ _ _ h => h) (Or.inl ⟨by rfl, ?_⟩) (by assumption) ?_
              rotate_left
              · intro w hSw; (try dsimp only at hSw); go_simp; first | done | with_reducible rfl
              try simp only [Act.put, List.setIfInBounds_toArray, List.set_cons_zero, List.set_cons_succ]
              refine wpAnyH_take (i := 4) (oi := { dst := some 103, op := Op.move (Operand.tmp 9), type := 22, pos := "keeps.go:217", after := #[], guard := none }) (v := ?_) rfl (by kernel_rfl) (by kernel_rfl) (by kernel_rfl) (fun _ _ _ h => h) (Or.inl ⟨by rfl, ?_⟩) (by assumption) ?_
              rotate_left
              · intro w hSw; (try dsimp only at hSw); go_simp; first | done | with_reducible rfl
              try simp only [Act.put, List.setIfInBounds_toArray, List.set_cons_zero, List.set_cons_succ]
              refine wpAnyH_take (i := 5) (oi := { dst := some 104, op := Op.move (Operand.tmp 10), type := 3, pos := "keeps.go:217", after := #[], guard := none }) (v := ?_) rfl (by kernel_rfl) (by kernel_rfl) (by kernel_rfl) (fun _ _ _ h => h) (Or.inl ⟨by rfl, ?_⟩) (by assumption) ?_
              rotate_left
              · intro w hSw; (try dsimp only at hSw); go_simp; first | done | with_reducible rfl
              try simp only [Act.put, List.setIfInBounds_toArray, List.set_cons_zero, List.set_cons_succ]
              refine wpAnyH_take (i := 6) (oi := { dst := some 105, op := Op.indexAddr 22 (Operand.tmp 103) (Operand.tmp 104), type := 0, pos := "keeps.go:217", after := #[{ on := 4, ground := Ground.data }, { on := 5, ground := Ground.data }], guard := none }) (v := ?_) rfl (by kernel_rfl) (by kernel_rfl) (by kernel_rfl) (fun _ _ _ h => h) (Or.inl ⟨by rfl, ?_⟩) (by assumption) ?_
              rotate_left
              · intro w hSw; (try dsimp only at hSw); go_simp; first | done | with_reducible rfl
              try simp only [Act.put, List.setIfInBounds_toArray, List.set_cons_zero, List.set_cons_succ]
              refine wpAnyH_take (i := 7) (oi := { dst := some 106, op := Op.load 24 (Operand.tmp 105), type := 24, pos := "keeps.go:217", after := #[{ on := 6, ground := Ground.data }], guard := none }) (v := ?_) rfl (by kernel_rfl) (by kernel_rfl) (by kernel_rfl) (fun _ _ _ h => h) (Or.inl ⟨by rfl, ?_⟩) (by assumption) ?_
              rotate_left
              · intro w hSw; (try dsimp only at hSw); go_simp; first | done | with_reducible rfl
              try simp only [Act.put, List.setIfInBounds_toArray, List.set_cons_zero, List.set_cons_succ]
              refine wpAnyH_take (i := 8) (oi := { dst := some 107, op := Op.binOp BinOp.eql 24 (Operand.tmp 102) (Operand.tmp 106) 24, type := 4, pos := "keeps.go:217", after := #[{ on := 3, ground := Ground.data }, { on := 7, ground := Ground.data }], guard := none }) (v := ?_) rfl (by kernel_rfl) (by kernel_rfl) (by kernel_rfl) (fun _ _ _ h => h) (Or.inl ⟨by rfl, ?_⟩) (by assumption) ?_
              rotate_left
              · intro w hSw; (try dsimp only at hSw); go_simp; first | done | with_reducible rfl
              try simp only [Act.put, List.setIfInBounds_toArray, List.set_cons_zero, List.set_cons_succ]
              refine wpAnyH_done (by kernel_rfl) ?_ _
              clear hHeld
              replace cm := Hz.mk ((T.cell_of_block (GD.below.block mb lm) _).trans cm)
              replace ci := Hz.mk ((T.cell_of_block (GD.below.block vb lv) _).trans ci)
              replace lm : mb < wr.drew.heap.size := Nat.lt_of_lt_of_le lm GD.below.size
              replace lv : vb < wr.drew.heap.size := Nat.lt_of_lt_of_le lv GD.below.size
              have G3 := Hz.mk (G7.out.trans GD)
              clear cv GD G7
              generalize wr.drew = wd at *
              rename World => wr
              replace cm := cm.out
              replace ci := ci.out
              go_upto_region 23 with fail
              have GD : Gr wr wr.drew := (Gr.refl wr).drew
              refine wp_region_held_drew (S := (fun W => W.cell? ⟨mb, mo + k, none⟩ = some (.int .u64 mk) ∧ W.cell? ⟨vb, vo + i, none⟩ = some (.int .u64 y))) (by kernel_rfl) (⟨(T.cell_of_block (GD.below.block mb lm) _).trans cm, (T.cell_of_block (GD.below.block vb lv) _).trans ci⟩) (fun hHeld => ?_)
              refine wpAnyH_take (i := 0) (oi := { dst := some 110, op := Op.move (Operand.tmp 0), type := 22, pos := "keeps.go:220", after := #[], guard := none }) (v := ?_) rfl (by kernel_rfl) (by kernel_rfl) (by kernel_rfl) (fun _ _ _ h => h) (Or.inl ⟨by rfl, ?_⟩) (by assumption) ?_
              rotate_left
              · intro w hSw; (try dsimp only at hSw); go_simp; first | done | with_reducible rfl
              try simp only [Act.put, List.setIfInBounds_toArray, List.set_cons_zero, List.set_cons_succ]
              refine wpAnyH_take (i := 1) (oi := { dst := some 111, op := Op.move (Operand.tmp 13), type := 3, pos := "keeps.go:220", after := #[], guard := none }) (v := ?_) rfl (by kernel_rfl) (by kernel_rfl) (by kernel_rfl) (fun _ _ _ h => h) (Or.inl ⟨by rfl, ?_⟩) (by assumption) ?_
              rotate_left
              · intro w hSw; (try dsimp only at hSw); go_simp; first | done | with_reducible rfl
              try simp only [Act.put, List.setIfInBounds_toArray, List.set_cons_zero, List.set_cons_succ]
              refine wpAnyH_take (i := 2) (oi := { dst := some 112, op := Op.indexAddr 22 (Operand.tmp 110) (Operand.tmp 111), type := 0, pos := "keeps.go:220", after := #[{ on := 0, ground := Ground.data }, { on := 1, ground := Ground.data }], guard := none }) (v := ?_) rfl (by kernel_rfl) (by kernel_rfl) (by kernel_rfl) (fun _ _ _ h => h) (Or.inl ⟨by rfl, ?_⟩) (by assumption) ?_
              rotate_left
              · intro w hSw; (try dsimp only at hSw); go_simp; first | done | with_reducible rfl
              try simp only [Act.put, List.setIfInBounds_toArray, List.set_cons_zero, List.set_cons_succ]
              refine wpAnyH_take (i := 3) (oi := { dst := some 113, op := Op.load 24 (Operand.tmp 112), type := 24, pos := "keeps.go:220", after := #[{ on := 2, ground := Ground.data }], guard := none }) (v := ?_) rfl (by kernel_rfl) (by kernel_rfl) (by kernel_rfl) (fun _ _ _ h => h) (Or.inl ⟨by rfl, ?_⟩) (by assumption) ?_
              rotate_left
              · intro w hSw; (try dsimp only at hSw); go_simp; first | done | with_reducible rfl
              try simp only [Act.put, List.setIfInBounds_toArray, List.set_cons_zero, List.set_cons_succ]
              refine wpAnyH_take (i := 4) (oi := { dst := some 114, op := Op.move (Operand.tmp 9), type := 22, pos := "keeps.go:220", after := #[], guard := none }) (v := ?_) rfl (by kernel_rfl) (by kernel_rfl) (by kernel_rfl) (fun _ _ _ h => h) (Or.inl ⟨by rfl, ?_⟩) (by assumption) ?_
              rotate_left
              · intro w hSw; (try dsimp only at hSw); go_simp; first | done | with_reducible rfl
              try simp only [Act.put, List.setIfInBounds_toArray, List.set_cons_zero, List.set_cons_succ]
              refine wpAnyH_take (i := 5) (oi := { dst := some 115, op := Op.move (Operand.tmp 10), type := 3, pos := "keeps.go:220", after := #[], guard := none }) (v := ?_) rfl (by kernel_rfl) (by kernel_rfl) (by kernel_rfl) (fun _ _ _ h => h) (Or.inl ⟨by rfl, ?_⟩) (by assumption) ?_
              rotate_left
              · intro w hSw; (try dsimp only at hSw); go_simp; first | done | with_reducible rfl
              try simp only [Act.put, List.setIfInBounds_toArray, List.set_cons_zero, List.set_cons_succ]
              refine wpAnyH_take (i := 6) (oi := { dst := some 116, op := Op.indexAddr 22 (Operand.tmp 114) (Operand.tmp 115), type := 0, pos := "keeps.go:220", after := #[{ on := 4, ground := Ground.data }, { on := 5, ground := Ground.data }], guard := none }) (v := ?_) rfl (by kernel_rfl) (by kernel_rfl) (by kernel_rfl) (fun _ _ _ h => h) (Or.inl ⟨by rfl, ?_⟩) (by assumption) ?_
              rotate_left
              · intro w hSw; (try dsimp only at hSw); go_simp; first | done | with_reducible rfl
              try simp only [Act.put, List.setIfInBounds_toArray, List.set_cons_zero, List.set_cons_succ]
              refine wpAnyH_take (i := 7) (oi := { dst := some 117, op := Op.load 24 (Operand.tmp 116), type := 24, pos := "keeps.go:220", after := #[{ on := 6, ground := Ground.data }], guard := none }) (v := ?_) rfl (by kernel_rfl) (by kernel_rfl) (by kernel_rfl) (fun _ _ _ h => h) (Or.inl ⟨by rfl, ?_⟩) (by assumption) ?_
              rotate_left
              · intro w hSw; (try dsimp only at hSw); go_simp; first | done | with_reducible rfl
              try simp only [Act.put, List.setIfInBounds_toArray, List.set_cons_zero, List.set_cons_succ]
              refine wpAnyH_take (i := 8) (oi := { dst := some 118, op := Op.binOp BinOp.eql 24 (Operand.tmp 113) (Operand.tmp 117) 24, type := 4, pos := "keeps.go:220", after := #[{ on := 3, ground := Ground.data }, { on := 7, ground := Ground.data }], guard := none }) (v := ?_) rfl (by kernel_rfl) (by kernel_rfl) (by kernel_rfl) (fun _ _ _ h => h) (Or.inl ⟨by rfl, ?_⟩) (by assumption) ?_
              rotate_left
              · intro w hSw; (try dsimp only at hSw); go_simp; first | done | with_reducible rfl
              try simp only [Act.put, List.setIfInBounds_toArray, List.set_cons_zero, List.set_cons_succ]
              refine wpAnyH_done (by kernel_rfl) ?_ _
              clear hHeld
              replace G3 := Hz.mk (G3.out.trans GD)
              clear GD cm ci lm lv
              go_wp2_with fail
              refine And.intro (Exists.intro (k + 1) ⟨cw_yes V y k hkV hk1 he1.out, cw_no L y k hkM he2.out, kw_next k, hk, G3⟩) ?_
              exact kw_meas _ k hk
          · skip
            have hb1 : (vk == y) = false := by simpa using he1
            replace he1 := Hz.mk (show V[k]'hkV ≠ y from fun q => he1 (hvk.out.symm.trans q))
            by_cases he2 : mk = y
            · skip
              have hb2 : (mk == y) = true := by simpa using he2
              replace he2 := Hz.mk (show L[k]'hkM = y from hmk.out.trans he2)
              clear hvk hmk
              go_upto_region 21 with fail
              have GD : Gr wr wr.drew := (Gr.refl wr).drew
              refine wp_region_held_drew (S := (fun W => W.cell? ⟨vb, vo + k, none⟩ = some (.int .u64 vk) ∧ W.cell? ⟨vb, vo + i, none⟩ = some (.int .u64 y))) (by kernel_rfl) (⟨(T.cell_of_block (GD.below.block vb lv) _).trans cv, (T.cell_of_block (GD.below.block vb lv) _).trans ci⟩) (fun hHeld => ?_)
              refine wpAnyH_take (i := 0) (oi := { dst := some 99, op := Op.move (Operand.tmp 9), type := 22, pos := "keeps.go:217", after := #[], guard := none }) (v := ?_) rfl (by kernel_rfl) (by kernel_rfl) (by kernel_rfl) (fun _ _ _ h => h) (Or.inl ⟨by rfl, ?_⟩) (by assumption) ?_
              rotate_left
              · intro w hSw; (try dsimp only at hSw); go_simp; first | done | with_reducible rfl
              try simp only [Act.put, List.setIfInBounds_toArray, List.set_cons_zero, List.set_cons_succ]
              refine wpAnyH_take (i := 1) (oi := { dst := some 100, op := Op.move (Operand.tmp 13), type := 3, pos := "keeps.go:217", after := #[], guard := none }) (v := ?_) rfl (by kernel_rfl) (by kernel_rfl) (by kernel_rfl) (fun _ _ _ h => h) (Or.inl ⟨by rfl, ?_⟩) (by assumption) ?_
              rotate_left
              · intro w hSw; (try dsimp only at hSw); go_simp; first | done | with_reducible rfl
              try simp only [Act.put, List.setIfInBounds_toArray, List.set_cons_zero, List.set_cons_succ]
              refine wpAnyH_take (i := 2) (oi := { dst := some 101, op := Op.indexAddr 22 (Operand.tmp 99) (Operand.tmp 100), type := 0, pos := "keeps.go:217", after := #[{ on := 0, ground := Ground.data }, { on := 1, ground := Ground.data }], guard := none }) (v := ?_) rfl (by kernel_rfl) (by kernel_rfl) (by kernel_rfl) (fun _ _ _ h => h) (Or.inl ⟨by rfl, ?_⟩) (by assumption) ?_
              rotate_left
              · intro w hSw; (try dsimp only at hSw); go_simp; first | done | with_reducible rfl
              try simp only [Act.put, List.setIfInBounds_toArray, List.set_cons_zero, List.set_cons_succ]
              refine wpAnyH_take (i := 3) (oi := { dst := some 102, op := Op.load 24 (Operand.tmp 101), type := 24, pos := "keeps.go:217", after := #[{ on := 2, ground := Ground.data }], guard := none }) (v := ?_) rfl (by kernel_rfl) (by kernel_rfl) (by kernel_rfl) (fun _ _ _ h => h) (Or.inl ⟨by rfl, ?_⟩) (by assumption) ?_
              rotate_left
              · intro w hSw; (try dsimp only at hSw); go_simp; first | done | with_reducible rfl
              try simp only [Act.put, List.setIfInBounds_toArray, List.set_cons_zero, List.set_cons_succ]
              refine wpAnyH_take (i := 4) (oi := { dst := some 103, op := Op.move (Operand.tmp 9), type := 22, pos := "keeps.go:217", after := #[], guard := none }) (v := ?_) rfl (by kernel_rfl) (by kernel_rfl) (by kernel_rfl) (fun _ _ _ h => h) (Or.inl ⟨by rfl, ?_⟩) (by assumption) ?_
              rotate_left
              · intro w hSw; (try dsimp only at hSw); go_simp; first | done | with_reducible rfl
              try simp only [Act.put, List.setIfInBounds_toArray, List.set_cons_zero, List.set_cons_succ]
              refine wpAnyH_take (i := 5) (oi := { dst := some 104, op := Op.move (Operand.tmp 10), type := 3, pos := "keeps.go:217", after := #[], guard := none }) (v := ?_) rfl (by kernel_rfl) (by kernel_rfl) (by kernel_rfl) (fun _ _ _ h => h) (Or.inl ⟨by rfl, ?_⟩) (by assumption) ?_
              rotate_left
              · intro w hSw; (try dsimp only at hSw); go_simp; first | done | with_reducible rfl
              try simp only [Act.put, List.setIfInBounds_toArray, List.set_cons_zero, List.set_cons_succ]
              refine wpAnyH_take (i := 6) (oi := { dst := some 105, op := Op.indexAddr 22 (Operand.tmp 103) (Operand.tmp 104), type := 0, pos := "keeps.go:217", after := #[{ on := 4, ground := Ground.data }, { on := 5, ground := Ground.data }], guard := none }) (v := ?_) rfl (by kernel_rfl) (by kernel_rfl) (by kernel_rfl) (fun _ _ _ h => h) (Or.inl ⟨by rfl, ?_⟩) (by assumption) ?_
              rotate_left
              · intro w hSw; (try dsimp only at hSw); go_simp; first | done | with_reducible rfl
              try simp only [Act.put, List.setIfInBounds_toArray, List.set_cons_zero, List.set_cons_succ]
              refine wpAnyH_take (i := 7) (oi := { dst := some 106, op := Op.load 24 (Operand.tmp 105), type := 24, pos := "keeps.go:217", after := #[{ on := 6, ground := Ground.data }], guard := none }) (v := ?_) rfl (by kernel_rfl) (by kernel_rfl) (by kernel_rfl) (fun _ _ _ h => h) (Or.inl ⟨by rfl, ?_⟩) (by assumption) ?_
              rotate_left
              · intro w hSw; (try dsimp only at hSw); go_simp; first | done | with_reducible rfl
              try simp only [Act.put, List.setIfInBounds_toArray, List.set_cons_zero, List.set_cons_succ]
              refine wpAnyH_take (i := 8) (oi := { dst := some 107, op := Op.binOp BinOp.eql 24 (Operand.tmp 102) (Operand.tmp 106) 24, type := 4, pos := "keeps.go:217", after := #[{ on := 3, ground := Ground.data }, { on := 7, ground := Ground.data }], guard := none }) (v := ?_) rfl (by kernel_rfl) (by kernel_rfl) (by kernel_rfl) (fun _ _ _ h => h) (Or.inl ⟨by rfl, ?_⟩) (by assumption) ?_
              rotate_left
              · intro w hSw; (try dsimp only at hSw); go_simp; first | done | with_reducible rfl
              try simp only [Act.put, List.setIfInBounds_toArray, List.set_cons_zero, List.set_cons_succ]
              refine wpAnyH_done (by kernel_rfl) ?_ _
              clear hHeld
              replace cm := Hz.mk ((T.cell_of_block (GD.below.block mb lm) _).trans cm)
              replace ci := Hz.mk ((T.cell_of_block (GD.below.block vb lv) _).trans ci)
              replace lm : mb < wr.drew.heap.size := Nat.lt_of_lt_of_le lm GD.below.size
              replace lv : vb < wr.drew.heap.size := Nat.lt_of_lt_of_le lv GD.below.size
              have G3 := Hz.mk (G7.out.trans GD)
              clear cv GD G7
              generalize wr.drew = wd at *
              rename World => wr
              replace cm := cm.out
              replace ci := ci.out
              go_upto_region 23 with fail
              have GD : Gr wr wr.drew := (Gr.refl wr).drew
              refine wp_region_held_drew (S := (fun W => W.cell? ⟨mb, mo + k, none⟩ = some (.int .u64 mk) ∧ W.cell? ⟨vb, vo + i, none⟩ = some (.int .u64 y))) (by kernel_rfl) (⟨(T.cell_of_block (GD.below.block mb lm) _).trans cm, (T.cell_of_block (GD.below.block vb lv) _).trans ci⟩) (fun hHeld => ?_)
              refine wpAnyH_take (i := 0) (oi := { dst := some 110, op := Op.move (Operand.tmp 0), type := 22, pos := "keeps.go:220", after := #[], guard := none }) (v := ?_) rfl (by kernel_rfl) (by kernel_rfl) (by kernel_rfl) (fun _ _ _ h => h) (Or.inl ⟨by rfl, ?_⟩) (by assumption) ?_
              rotate_left
              · intro w hSw; (try dsimp only at hSw); go_simp; first | done | with_reducible rfl
              try simp only [Act.put, List.setIfInBounds_toArray, List.set_cons_zero, List.set_cons_succ]
              refine wpAnyH_take (i := 1) (oi := { dst := some 111, op := Op.move (Operand.tmp 13), type := 3, pos := "keeps.go:220", after := #[], guard := none }) (v := ?_) rfl (by kernel_rfl) (by kernel_rfl) (by kernel_rfl) (fun _ _ _ h => h) (Or.inl ⟨by rfl, ?_⟩) (by assumption) ?_
              rotate_left
              · intro w hSw; (try dsimp only at hSw); go_simp; first | done | with_reducible rfl
              try simp only [Act.put, List.setIfInBounds_toArray, List.set_cons_zero, List.set_cons_succ]
              refine wpAnyH_take (i := 2) (oi := { dst := some 112, op := Op.indexAddr 22 (Operand.tmp 110) (Operand.tmp 111), type := 0, pos := "keeps.go:220", after := #[{ on := 0, ground := Ground.data }, { on := 1, ground := Ground.data }], guard := none }) (v := ?_) rfl (by kernel_rfl) (by kernel_rfl) (by kernel_rfl) (fun _ _ _ h => h) (Or.inl ⟨by rfl, ?_⟩) (by assumption) ?_
              rotate_left
              · intro w hSw; (try dsimp only at hSw); go_simp; first | done | with_reducible rfl
              try simp only [Act.put, List.setIfInBounds_toArray, List.set_cons_zero, List.set_cons_succ]
              refine wpAnyH_take (i := 3) (oi := { dst := some 113, op := Op.load 24 (Operand.tmp 112), type := 24, pos := "keeps.go:220", after := #[{ on := 2, ground := Ground.data }], guard := none }) (v := ?_) rfl (by kernel_rfl) (by kernel_rfl) (by kernel_rfl) (fun _ _ _ h => h) (Or.inl ⟨by rfl, ?_⟩) (by assumption) ?_
              rotate_left
              · intro w hSw; (try dsimp only at hSw); go_simp; first | done | with_reducible rfl
              try simp only [Act.put, List.setIfInBounds_toArray, List.set_cons_zero, List.set_cons_succ]
              refine wpAnyH_take (i := 4) (oi := { dst := some 114, op := Op.move (Operand.tmp 9), type := 22, pos := "keeps.go:220", after := #[], guard := none }) (v := ?_) rfl (by kernel_rfl) (by kernel_rfl) (by kernel_rfl) (fun _ _ _ h => h) (Or.inl ⟨by rfl, ?_⟩) (by assumption) ?_
              rotate_left
              · intro w hSw; (try dsimp only at hSw); go_simp; first | done | with_reducible rfl
              try simp only [Act.put, List.setIfInBounds_toArray, List.set_cons_zero, List.set_cons_succ]
              refine wpAnyH_take (i := 5) (oi := { dst := some 115, op := Op.move (Operand.tmp 10), type := 3, pos := "keeps.go:220", after := #[], guard := none }) (v := ?_) rfl (by kernel_rfl) (by kernel_rfl) (by kernel_rfl) (fun _ _ _ h => h) (Or.inl ⟨by rfl, ?_⟩) (by assumption) ?_
              rotate_left
              · intro w hSw; (try dsimp only at hSw); go_simp; first | done | with_reducible rfl
              try simp only [Act.put, List.setIfInBounds_toArray, List.set_cons_zero, List.set_cons_succ]
              refine wpAnyH_take (i := 6) (oi := { dst := some 116, op := Op.indexAddr 22 (Operand.tmp 114) (Operand.tmp 115), type := 0, pos := "keeps.go:220", after := #[{ on := 4, ground := Ground.data }, { on := 5, ground := Ground.data }], guard := none }) (v := ?_) rfl (by kernel_rfl) (by kernel_rfl) (by kernel_rfl) (fun _ _ _ h => h) (Or.inl ⟨by rfl, ?_⟩) (by assumption) ?_
              rotate_left
              · intro w hSw; (try dsimp only at hSw); go_simp; first | done | with_reducible rfl
              try simp only [Act.put, List.setIfInBounds_toArray, List.set_cons_zero, List.set_cons_succ]
              refine wpAnyH_take (i := 7) (oi := { dst := some 117, op := Op.load 24 (Operand.tmp 116), type := 24, pos := "keeps.go:220", after := #[{ on := 6, ground := Ground.data }], guard := none }) (v := ?_) rfl (by kernel_rfl) (by kernel_rfl) (by kernel_rfl) (fun _ _ _ h => h) (Or.inl ⟨by rfl, ?_⟩) (by assumption) ?_
              rotate_left
              · intro w hSw; (try dsimp only at hSw); go_simp; first | done | with_reducible rfl
              try simp only [Act.put, List.setIfInBounds_toArray, List.set_cons_zero, List.set_cons_succ]
              refine wpAnyH_take (i := 8) (oi := { dst := some 118, op := Op.binOp BinOp.eql 24 (Operand.tmp 113) (Operand.tmp 117) 24, type := 4, pos := "keeps.go:220", after := #[{ on := 3, ground := Ground.data }, { on := 7, ground := Ground.data }], guard := none }) (v := ?_) rfl (by kernel_rfl) (by kernel_rfl) (by kernel_rfl) (fun _ _ _ h => h) (Or.inl ⟨by rfl, ?_⟩) (by assumption) ?_
              rotate_left
              · intro w hSw; (try dsimp only at hSw); go_simp; first | done | with_reducible rfl
              try simp only [Act.put, List.setIfInBounds_toArray, List.set_cons_zero, List.set_cons_succ]
              refine wpAnyH_done (by kernel_rfl) ?_ _
              clear hHeld
              replace G3 := Hz.mk (G3.out.trans GD)
              clear GD cm ci lm lv
              go_wp2_with fail
              refine And.intro (Exists.intro (k + 1) ⟨cw_no V y k hkV he1.out, cw_yes L y k hkM hk1 he2.out, kw_next k, hk, G3⟩) ?_
              exact kw_meas _ k hk
            · skip
              have hb2 : (mk == y) = false := by simpa using he2
              replace he2 := Hz.mk (show L[k]'hkM ≠ y from fun q => he2 (hmk.out.symm.trans q))
              clear hvk hmk
              go_upto_region 21 with fail
              have GD : Gr wr wr.drew := (Gr.refl wr).drew
              refine wp_region_held_drew (S := (fun W => W.cell? ⟨vb, vo + k, none⟩ = some (.int .u64 vk) ∧ W.cell? ⟨vb, vo + i, none⟩ = some (.int .u64 y))) (by kernel_rfl) (⟨(T.cell_of_block (GD.below.block vb lv) _).trans cv, (T.cell_of_block (GD.below.block vb lv) _).trans ci⟩) (fun hHeld => ?_)
              refine wpAnyH_take (i := 0) (oi := { dst := some 99, op := Op.move (Operand.tmp 9), type := 22, pos := "keeps.go:217", after := #[], guard := none }) (v := ?_) rfl (by kernel_rfl) (by kernel_rfl) (by kernel_rfl) (fun _ _ _ h => h) (Or.inl ⟨by rfl, ?_⟩) (by assumption) ?_
              rotate_left
              · intro w hSw; (try dsimp only at hSw); go_simp; first | done | with_reducible rfl
              try simp only [Act.put, List.setIfInBounds_toArray, List.set_cons_zero, List.set_cons_succ]
              refine wpAnyH_take (i := 1) (oi := { dst := some 100, op := Op.move (Operand.tmp 13), type := 3, pos := "keeps.go:217", after := #[], guard := none }) (v := ?_) rfl (by kernel_rfl) (by kernel_rfl) (by kernel_rfl) (fun _ _ _ h => h) (Or.inl ⟨by rfl, ?_⟩) (by assumption) ?_
              rotate_left
              · intro w hSw; (try dsimp only at hSw); go_simp; first | done | with_reducible rfl
              try simp only [Act.put, List.setIfInBounds_toArray, List.set_cons_zero, List.set_cons_succ]
              refine wpAnyH_take (i := 2) (oi := { dst := some 101, op := Op.indexAddr 22 (Operand.tmp 99) (Operand.tmp 100), type := 0, pos := "keeps.go:217", after := #[{ on := 0, ground := Ground.data }, { on := 1, ground := Ground.data }], guard := none }) (v := ?_) rfl (by kernel_rfl) (by kernel_rfl) (by kernel_rfl) (fun _ _ _ h => h) (Or.inl ⟨by rfl, ?_⟩) (by assumption) ?_
              rotate_left
              · intro w hSw; (try dsimp only at hSw); go_simp; first | done | with_reducible rfl
              try simp only [Act.put, List.setIfInBounds_toArray, List.set_cons_zero, List.set_cons_succ]
              refine wpAnyH_take (i := 3) (oi := { dst := some 102, op := Op.load 24 (Operand.tmp 101), type := 24, pos := "keeps.go:217", after := #[{ on := 2, ground := Ground.data }], guard := none }) (v := ?_) rfl (by kernel_rfl) (by kernel_rfl) (by kernel_rfl) (fun _ _ _ h => h) (Or.inl ⟨by rfl, ?_⟩) (by assumption) ?_
              rotate_left
              · intro w hSw; (try dsimp only at hSw); go_simp; first | done | with_reducible rfl
              try simp only [Act.put, List.setIfInBounds_toArray, List.set_cons_zero, List.set_cons_succ]
              refine wpAnyH_take (i := 4) (oi := { dst := some 103, op := Op.move (Operand.tmp 9), type := 22, pos := "keeps.go:217", after := #[], guard := none }) (v := ?_) rfl (by kernel_rfl) (by kernel_rfl) (by kernel_rfl) (fun _ _ _ h => h) (Or.inl ⟨by rfl, ?_⟩) (by assumption) ?_
              rotate_left
              · intro w hSw; (try dsimp only at hSw); go_simp; first | done | with_reducible rfl
              try simp only [Act.put, List.setIfInBounds_toArray, List.set_cons_zero, List.set_cons_succ]
              refine wpAnyH_take (i := 5) (oi := { dst := some 104, op := Op.move (Operand.tmp 10), type := 3, pos := "keeps.go:217", after := #[], guard := none }) (v := ?_) rfl (by kernel_rfl) (by kernel_rfl) (by kernel_rfl) (fun _ _ _ h => h) (Or.inl ⟨by rfl, ?_⟩) (by assumption) ?_
              rotate_left
              · intro w hSw; (try dsimp only at hSw); go_simp; first | done | with_reducible rfl
              try simp only [Act.put, List.setIfInBounds_toArray, List.set_cons_zero, List.set_cons_succ]
              refine wpAnyH_take (i := 6) (oi := { dst := some 105, op := Op.indexAddr 22 (Operand.tmp 103) (Operand.tmp 104), type := 0, pos := "keeps.go:217", after := #[{ on := 4, ground := Ground.data }, { on := 5, ground := Ground.data }], guard := none }) (v := ?_) rfl (by kernel_rfl) (by kernel_rfl) (by kernel_rfl) (fun _ _ _ h => h) (Or.inl ⟨by rfl, ?_⟩) (by assumption) ?_
              rotate_left
              · intro w hSw; (try dsimp only at hSw); go_simp; first | done | with_reducible rfl
              try simp only [Act.put, List.setIfInBounds_toArray, List.set_cons_zero, List.set_cons_succ]
              refine wpAnyH_take (i := 7) (oi := { dst := some 106, op := Op.load 24 (Operand.tmp 105), type := 24, pos := "keeps.go:217", after := #[{ on := 6, ground := Ground.data }], guard := none }) (v := ?_) rfl (by kernel_rfl) (by kernel_rfl) (by kernel_rfl) (fun _ _ _ h => h) (Or.inl ⟨by rfl, ?_⟩) (by assumption) ?_
              rotate_left
              · intro w hSw; (try dsimp only at hSw); go_simp; first | done | with_reducible rfl
              try simp only [Act.put, List.setIfInBounds_toArray, List.set_cons_zero, List.set_cons_succ]
              refine wpAnyH_take (i := 8) (oi := { dst := some 107, op := Op.binOp BinOp.eql 24 (Operand.tmp 102) (Operand.tmp 106) 24, type := 4, pos := "keeps.go:217", after := #[{ on := 3, ground := Ground.data }, { on := 7, ground := Ground.data }], guard := none }) (v := ?_) rfl (by kernel_rfl) (by kernel_rfl) (by kernel_rfl) (fun _ _ _ h => h) (Or.inl ⟨by rfl, ?_⟩) (by assumption) ?_
              rotate_left
              · intro w hSw; (try dsimp only at hSw); go_simp; first | done | with_reducible rfl
              try simp only [Act.put, List.setIfInBounds_toArray, List.set_cons_zero, List.set_cons_succ]
              refine wpAnyH_done (by kernel_rfl) ?_ _
              clear hHeld
              replace cm := Hz.mk ((T.cell_of_block (GD.below.block mb lm) _).trans cm)
              replace ci := Hz.mk ((T.cell_of_block (GD.below.block vb lv) _).trans ci)
              replace lm : mb < wr.drew.heap.size := Nat.lt_of_lt_of_le lm GD.below.size
              replace lv : vb < wr.drew.heap.size := Nat.lt_of_lt_of_le lv GD.below.size
              have G3 := Hz.mk (G7.out.trans GD)
              clear cv GD G7
              generalize wr.drew = wd at *
              rename World => wr
              replace cm := cm.out
              replace ci := ci.out
              go_upto_region 23 with fail
              have GD : Gr wr wr.drew := (Gr.refl wr).drew
              refine wp_region_held_drew (S := (fun W => W.cell? ⟨mb, mo + k, none⟩ = some (.int .u64 mk) ∧ W.cell? ⟨vb, vo + i, none⟩ = some (.int .u64 y))) (by kernel_rfl) (⟨(T.cell_of_block (GD.below.block mb lm) _).trans cm, (T.cell_of_block (GD.below.block vb lv) _).trans ci⟩) (fun hHeld => ?_)
              refine wpAnyH_take (i := 0) (oi := { dst := some 110, op := Op.move (Operand.tmp 0), type := 22, pos := "keeps.go:220", after := #[], guard := none }) (v := ?_) rfl (by kernel_rfl) (by kernel_rfl) (by kernel_rfl) (fun _ _ _ h => h) (Or.inl ⟨by rfl, ?_⟩) (by assumption) ?_
              rotate_left
              · intro w hSw; (try dsimp only at hSw); go_simp; first | done | with_reducible rfl
              try simp only [Act.put, List.setIfInBounds_toArray, List.set_cons_zero, List.set_cons_succ]
              refine wpAnyH_take (i := 1) (oi := { dst := some 111, op := Op.move (Operand.tmp 13), type := 3, pos := "keeps.go:220", after := #[], guard := none }) (v := ?_) rfl (by kernel_rfl) (by kernel_rfl) (by kernel_rfl) (fun _ _ _ h => h) (Or.inl ⟨by rfl, ?_⟩) (by assumption) ?_
              rotate_left
              · intro w hSw; (try dsimp only at hSw); go_simp; first | done | with_reducible rfl
              try simp only [Act.put, List.setIfInBounds_toArray, List.set_cons_zero, List.set_cons_succ]
              refine wpAnyH_take (i := 2) (oi := { dst := some 112, op := Op.indexAddr 22 (Operand.tmp 110) (Operand.tmp 111), type := 0, pos := "keeps.go:220", after := #[{ on := 0, ground := Ground.data }, { on := 1, ground := Ground.data }], guard := none }) (v := ?_) rfl (by kernel_rfl) (by kernel_rfl) (by kernel_rfl) (fun _ _ _ h => h) (Or.inl ⟨by rfl, ?_⟩) (by assumption) ?_
              rotate_left
              · intro w hSw; (try dsimp only at hSw); go_simp; first | done | with_reducible rfl
              try simp only [Act.put, List.setIfInBounds_toArray, List.set_cons_zero, List.set_cons_succ]
              refine wpAnyH_take (i := 3) (oi := { dst := some 113, op := Op.load 24 (Operand.tmp 112), type := 24, pos := "keeps.go:220", after := #[{ on := 2, ground := Ground.data }], guard := none }) (v := ?_) rfl (by kernel_rfl) (by kernel_rfl) (by kernel_rfl) (fun _ _ _ h => h) (Or.inl ⟨by rfl, ?_⟩) (by assumption) ?_
              rotate_left
              · intro w hSw; (try dsimp only at hSw); go_simp; first | done | with_reducible rfl
              try simp only [Act.put, List.setIfInBounds_toArray, List.set_cons_zero, List.set_cons_succ]
              refine wpAnyH_take (i := 4) (oi := { dst := some 114, op := Op.move (Operand.tmp 9), type := 22, pos := "keeps.go:220", after := #[], guard := none }) (v := ?_) rfl (by kernel_rfl) (by kernel_rfl) (by kernel_rfl) (fun _ _ _ h => h) (Or.inl ⟨by rfl, ?_⟩) (by assumption) ?_
              rotate_left
              · intro w hSw; (try dsimp only at hSw); go_simp; first | done | with_reducible rfl
              try simp only [Act.put, List.setIfInBounds_toArray, List.set_cons_zero, List.set_cons_succ]
              refine wpAnyH_take (i := 5) (oi := { dst := some 115, op := Op.move (Operand.tmp 10), type := 3, pos := "keeps.go:220", after := #[], guard := none }) (v := ?_) rfl (by kernel_rfl) (by kernel_rfl) (by kernel_rfl) (fun _ _ _ h => h) (Or.inl ⟨by rfl, ?_⟩) (by assumption) ?_
              rotate_left
              · intro w hSw; (try dsimp only at hSw); go_simp; first | done | with_reducible rfl
              try simp only [Act.put, List.setIfInBounds_toArray, List.set_cons_zero, List.set_cons_succ]
              refine wpAnyH_take (i := 6) (oi := { dst := some 116, op := Op.indexAddr 22 (Operand.tmp 114) (Operand.tmp 115), type := 0, pos := "keeps.go:220", after := #[{ on := 4, ground := Ground.data }, { on := 5, ground := Ground.data }], guard := none }) (v := ?_) rfl (by kernel_rfl) (by kernel_rfl) (by kernel_rfl) (fun _ _ _ h => h) (Or.inl ⟨by rfl, ?_⟩) (by assumption) ?_
              rotate_left
              · intro w hSw; (try dsimp only at hSw); go_simp; first | done | with_reducible rfl
              try simp only [Act.put, List.setIfInBounds_toArray, List.set_cons_zero, List.set_cons_succ]
              refine wpAnyH_take (i := 7) (oi := { dst := some 117, op := Op.load 24 (Operand.tmp 116), type := 24, pos := "keeps.go:220", after := #[{ on := 6, ground := Ground.data }], guard := none }) (v := ?_) rfl (by kernel_rfl) (by kernel_rfl) (by kernel_rfl) (fun _ _ _ h => h) (Or.inl ⟨by rfl, ?_⟩) (by assumption) ?_
              rotate_left
              · intro w hSw; (try dsimp only at hSw); go_simp; first | done | with_reducible rfl
              try simp only [Act.put, List.setIfInBounds_toArray, List.set_cons_zero, List.set_cons_succ]
              refine wpAnyH_take (i := 8) (oi := { dst := some 118, op := Op.binOp BinOp.eql 24 (Operand.tmp 113) (Operand.tmp 117) 24, type := 4, pos := "keeps.go:220", after := #[{ on := 3, ground := Ground.data }, { on := 7, ground := Ground.data }], guard := none }) (v := ?_) rfl (by kernel_rfl) (by kernel_rfl) (by kernel_rfl) (fun _ _ _ h => h) (Or.inl ⟨by rfl, ?_⟩) (by assumption) ?_
              rotate_left
              · intro w hSw; (try dsimp only at hSw); go_simp; first | done | with_reducible rfl
              try simp only [Act.put, List.setIfInBounds_toArray, List.set_cons_zero, List.set_cons_succ]
              refine wpAnyH_done (by kernel_rfl) ?_ _
              clear hHeld
              replace G3 := Hz.mk (G3.out.trans GD)
              clear GD cm ci lm lv
              go_wp2_with fail
              refine And.intro (Exists.intro (k + 1) ⟨cw_no V y k hkV he1.out, cw_no L y k hkM he2.out, kw_next k, hk, G3⟩) ?_
              exact kw_meas _ k hk
        · have hki : ¬ (k : Int) < (L.length : Int) := by omega
          have hkN : k = V.length := by rw [hVl.out]; omega
          have hcc : cE L y k = cE V y k := by rw [hkN]; exact (cE_all hpm.out y).symm
          rw [hcc]
          clear hcc hkN
          obtain ⟨lv, ci⟩ := hVc.out.gr G7.out i hiV
          rw [hy.out] at ci
          have hi2 : i ≤ 100 := by have := hl10.out; omega
          by_cases h0 : i = 0
          · have hz : ¬ (0 : Int) < (i : Int) := by omega
            have hz2 : ¬ 0 < i := by omega
            clear h0
            go_upto_region 25 with fail
            have GD : Gr wr wr.drew := (Gr.refl wr).drew
            refine wp_region_held_drew (S := (fun W => W.cell? ⟨vb, vo + i, none⟩ = some (.int .u64 y) ∧ W.cell? ⟨vb, vo + i, none⟩ = some (.int .u64 y))) (by kernel_rfl) (⟨(T.cell_of_block (GD.below.block vb lv) _).trans ci, (T.cell_of_block (GD.below.block vb lv) _).trans ci⟩) (fun hHeld => ?_)
            refine wpAnyH_take (i := 0) (oi := { dst := some 121, op := Op.move (Operand.tmp 11), type := 3, pos := "keeps.go:224", after := #[], guard := none }) (v := ?_) rfl (by kernel_rfl) (by kernel_rfl) (by kernel_rfl) (fun _ _ _ h => h) (Or.inl ⟨by rfl, ?_⟩) (by assumption) ?_
            rotate_left
            · intro w hSw; (try dsimp only at hSw); go_simp; first | done | with_reducible rfl
            try simp only [Act.put, List.setIfInBounds_toArray, List.set_cons_zero, List.set_cons_succ]
            refine wpAnyH_take (i := 1) (oi := { dst := some 122, op := Op.move (Operand.tmp 12), type := 3, pos := "keeps.go:224", after := #[], guard := none }) (v := ?_) rfl (by kernel_rfl) (by kernel_rfl) (by kernel_rfl) (fun _ _ _ h => h) (Or.inl ⟨by rfl, ?_⟩) (by assumption) ?_
            rotate_left
            · intro w hSw; (try dsimp only at hSw); go_simp; first | done | with_reducible rfl
            try simp only [Act.put, List.setIfInBounds_toArray, List.set_cons_zero, List.set_cons_succ]
            refine wpAnyH_take (i := 2) (oi := { dst := some 123, op := Op.binOp BinOp.neq 3 (Operand.tmp 121) (Operand.tmp 122) 3, type := 4, pos := "keeps.go:224", after := #[{ on := 0, ground := Ground.data }, { on := 1, ground := Ground.data }], guard := none }) (v := ?_) rfl (by kernel_rfl) (by kernel_rfl) (by kernel_rfl) (fun _ _ _ h => h) (Or.inl ⟨by rfl, ?_⟩) (by assumption) ?_
            rotate_left
            · intro w hSw; (try dsimp only at hSw); go_simp; first | done | with_reducible rfl
            try simp only [Act.put, List.setIfInBounds_toArray, List.set_cons_zero, List.set_cons_succ]
            refine wpAnyH_take (i := 3) (oi := { dst := some 124, op := Op.move (Operand.tmp 123), type := 4, pos := "keeps.go:224", after := #[{ on := 2, ground := Ground.data }], guard := none }) (v := ?_) rfl (by kernel_rfl) (by kernel_rfl) (by kernel_rfl) (fun _ _ _ h => h) (Or.inl ⟨by rfl, ?_⟩) (by assumption) ?_
            rotate_left
            · intro w hSw; (try dsimp only at hSw); go_simp; first | done | with_reducible rfl
            try simp only [Act.put, List.setIfInBounds_toArray, List.set_cons_zero, List.set_cons_succ]
            refine wpAnyH_take (i := 4) (oi := { dst := some 125, op := Op.move (Operand.tmp 10), type := 3, pos := "keeps.go:224", after := #[{ on := 3, ground := Ground.guard }], guard := some (3, false) }) (v := ?_) rfl (by kernel_rfl) (by kernel_rfl) (by kernel_rfl) (fun _ _ _ h => h) (Or.inl ⟨by rfl, ?_⟩) (by assumption) ?_
            rotate_left
            · intro w hSw; (try dsimp only at hSw); go_simp; first | done | with_reducible rfl
            try simp only [Act.put, List.setIfInBounds_toArray, List.set_cons_zero, List.set_cons_succ]
            refine wpAnyH_take (i := 5) (oi := { dst := some 126, op := Op.binOp BinOp.gtr 3 (Operand.tmp 125) (Operand.const (Value.int IntKind.i64 0)) 3, type := 4, pos := "keeps.go:224", after := #[{ on := 4, ground := Ground.data }, { on := 3, ground := Ground.guard }], guard := some (3, false) }) (v := .bool false) rfl (by kernel_rfl) (by kernel_rfl) (by kernel_rfl) (fun _ _ _ h => h) (Or.inl ⟨by rfl, ?_⟩) (by assumption) ?_
            · intro w hSw; (try dsimp only at hSw); go_simp; first | done | (simp [hz2])
            try simp only [Act.put, List.setIfInBounds_toArray, List.set_cons_zero, List.set_cons_succ]
            refine wpAnyH_take (i := 6) (oi := { dst := some 127, op := Op.move (Operand.tmp 126), type := 4, pos := "keeps.go:224", after := #[{ on := 5, ground := Ground.data }, { on := 3, ground := Ground.chain }, { on := 3, ground := Ground.guard }], guard := some (3, false) }) (v := ?_) rfl (by kernel_rfl) (by kernel_rfl) (by kernel_rfl) (fun _ _ _ h => h) (Or.inl ⟨by rfl, ?_⟩) (by assumption) ?_
            rotate_left
            · intro w hSw; (try dsimp only at hSw); go_simp; first | done | with_reducible rfl
            try simp only [Act.put, List.setIfInBounds_toArray, List.set_cons_zero, List.set_cons_succ]
            refine wpAnyH_take (i := 7) (oi := { dst := some 128, op := Op.move (Operand.tmp 9), type := 22, pos := "keeps.go:224", after := #[{ on := 6, ground := Ground.guard }], guard := some (6, true) }) (v := undef) rfl (by kernel_rfl) (by kernel_rfl) (by kernel_rfl) (fun _ _ _ h => h) (Or.inr ⟨by rfl, rfl⟩) (by assumption) ?_
            try simp only [Act.put, List.setIfInBounds_toArray, List.set_cons_zero, List.set_cons_succ]
            refine wpAnyH_take (i := 8) (oi := { dst := some 129, op := Op.move (Operand.tmp 10), type := 3, pos := "keeps.go:224", after := #[{ on := 6, ground := Ground.guard }], guard := some (6, true) }) (v := undef) rfl (by kernel_rfl) (by kernel_rfl) (by kernel_rfl) (fun _ _ _ h => h) (Or.inr ⟨by rfl, rfl⟩) (by assumption) ?_
            try simp only [Act.put, List.setIfInBounds_toArray, List.set_cons_zero, List.set_cons_succ]
            refine wpAnyH_take (i := 9) (oi := { dst := some 130, op := Op.binOp BinOp.sub 3 (Operand.tmp 129) (Operand.const (Value.int IntKind.i64 1)) 3, type := 3, pos := "keeps.go:224", after := #[{ on := 8, ground := Ground.data }, { on := 6, ground := Ground.guard }], guard := some (6, true) }) (v := undef) rfl (by kernel_rfl) (by kernel_rfl) (by kernel_rfl) (fun _ _ _ h => h) (Or.inr ⟨by rfl, rfl⟩) (by assumption) ?_
            try simp only [Act.put, List.setIfInBounds_toArray, List.set_cons_zero, List.set_cons_succ]
            refine wpAnyH_take (i := 10) (oi := { dst := some 131, op := Op.indexAddr 22 (Operand.tmp 128) (Operand.tmp 130), type := 0, pos := "keeps.go:224", after := #[{ on := 7, ground := Ground.data }, { on := 9, ground := Ground.data }, { on := 6, ground := Ground.guard }], guard := some (6, true) }) (v := undef) rfl (by kernel_rfl) (by kernel_rfl) (by kernel_rfl) (fun _ _ _ h => h) (Or.inr ⟨by rfl, rfl⟩) (by assumption) ?_
            try simp only [Act.put, List.setIfInBounds_toArray, List.set_cons_zero, List.set_cons_succ]
            refine wpAnyH_take (i := 11) (oi := { dst := some 132, op := Op.load 24 (Operand.tmp 131), type := 24, pos := "keeps.go:224", after := #[{ on := 10, ground := Ground.data }, { on := 6, ground := Ground.guard }], guard := some (6, true) }) (v := undef) rfl (by kernel_rfl) (by kernel_rfl) (by kernel_rfl) (fun _ _ _ h => h) (Or.inr ⟨by rfl, rfl⟩) (by assumption) ?_
            try simp only [Act.put, List.setIfInBounds_toArray, List.set_cons_zero, List.set_cons_succ]
            refine wpAnyH_take (i := 12) (oi := { dst := some 133, op := Op.move (Operand.tmp 9), type := 22, pos := "keeps.go:224", after := #[{ on := 6, ground := Ground.guard }], guard := some (6, true) }) (v := undef) rfl (by kernel_rfl) (by kernel_rfl) (by kernel_rfl) (fun _ _ _ h => h) (Or.inr ⟨by rfl, rfl⟩) (by assumption) ?_
            try simp only [Act.put, List.setIfInBounds_toArray, List.set_cons_zero, List.set_cons_succ]
            refine wpAnyH_take (i := 13) (oi := { dst := some 134, op := Op.move (Operand.tmp 10), type := 3, pos := "keeps.go:224", after := #[{ on := 6, ground := Ground.guard }], guard := some (6, true) }) (v := undef) rfl (by kernel_rfl) (by kernel_rfl) (by kernel_rfl) (fun _ _ _ h => h) (Or.inr ⟨by rfl, rfl⟩) (by assumption) ?_
            try simp only [Act.put, List.setIfInBounds_toArray, List.set_cons_zero, List.set_cons_succ]
            refine wpAnyH_take (i := 14) (oi := { dst := some 135, op := Op.indexAddr 22 (Operand.tmp 133) (Operand.tmp 134), type := 0, pos := "keeps.go:224", after := #[{ on := 12, ground := Ground.data }, { on := 13, ground := Ground.data }, { on := 6, ground := Ground.guard }], guard := some (6, true) }) (v := undef) rfl (by kernel_rfl) (by kernel_rfl) (by kernel_rfl) (fun _ _ _ h => h) (Or.inr ⟨by rfl, rfl⟩) (by assumption) ?_
            try simp only [Act.put, List.setIfInBounds_toArray, List.set_cons_zero, List.set_cons_succ]
            refine wpAnyH_take (i := 15) (oi := { dst := some 136, op := Op.load 24 (Operand.tmp 135), type := 24, pos := "keeps.go:224", after := #[{ on := 14, ground := Ground.data }, { on := 6, ground := Ground.guard }], guard := some (6, true) }) (v := undef) rfl (by kernel_rfl) (by kernel_rfl) (by kernel_rfl) (fun _ _ _ h => h) (Or.inr ⟨by rfl, rfl⟩) (by assumption) ?_
            try simp only [Act.put, List.setIfInBounds_toArray, List.set_cons_zero, List.set_cons_succ]
            refine wpAnyH_take (i := 16) (oi := { dst := some 137, op := Op.binOp BinOp.gtr 24 (Operand.tmp 132) (Operand.tmp 136) 24, type := 4, pos := "keeps.go:224", after := #[{ on := 11, ground := Ground.data }, { on := 15, ground := Ground.data }, { on := 6, ground := Ground.guard }], guard := some (6, true) }) (v := undef) rfl (by kernel_rfl) (by kernel_rfl) (by kernel_rfl) (fun _ _ _ h => h) (Or.inr ⟨by rfl, rfl⟩) (by assumption) ?_
            try simp only [Act.put, List.setIfInBounds_toArray, List.set_cons_zero, List.set_cons_succ]
            refine wpAnyH_take (i := 17) (oi := { dst := some 138, op := Op.pick (Operand.tmp 127) (Operand.tmp 137) (Operand.const (Value.bool false)), type := 4, pos := "keeps.go:224", after := #[{ on := 6, ground := Ground.data }, { on := 16, ground := Ground.data }, { on := 3, ground := Ground.guard }], guard := some (3, false) }) (v := ?_) rfl (by kernel_rfl) (by kernel_rfl) (by kernel_rfl) (fun _ _ _ h => h) (Or.inl ⟨by rfl, ?_⟩) (by assumption) ?_
            rotate_left
            · intro w hSw; (try dsimp only at hSw); go_simp; first | done | with_reducible rfl
            try simp only [Act.put, List.setIfInBounds_toArray, List.set_cons_zero, List.set_cons_succ]
            refine wpAnyH_take (i := 18) (oi := { dst := some 139, op := Op.pick (Operand.tmp 124) (Operand.const (Value.bool true)) (Operand.tmp 138), type := 4, pos := "keeps.go:224", after := #[{ on := 3, ground := Ground.data }, { on := 17, ground := Ground.data }], guard := none }) (v := ?_) rfl (by kernel_rfl) (by kernel_rfl) (by kernel_rfl) (fun _ _ _ h => h) (Or.inl ⟨by rfl, ?_⟩) (by assumption) ?_
            rotate_left
            · intro w hSw; (try dsimp only at hSw); go_simp; first | done | with_reducible rfl
            try simp only [Act.put, List.setIfInBounds_toArray, List.set_cons_zero, List.set_cons_succ]
            refine wpAnyH_done (by kernel_rfl) ?_ _
            clear hHeld
            replace G7 := Hz.mk (G7.out.trans GD)
            clear GD ci lv
            go_wp2_with fail
            refine And.intro (Exists.intro (i + 1) ⟨kw_next i, hi1, G7⟩) ?_
            exact kw_meas _ i hi1
          · have hz : (0 : Int) < (i : Int) := by omega
            have hz2 : 0 < i := by omega
            obtain ⟨p, hp⟩ : ∃ p, i = p + 1 := ⟨i - 1, by omega⟩
            have hpV : p < V.length := by omega
            have hpN : (p : Int) < (L.length : Int) := by omega
            have hpw := kw_pred i p hp (by omega)
            obtain ⟨-, cp⟩ := hVc.out.gr G7.out p hpV
            obtain ⟨vp, hvp⟩ : ∃ v, V[p] = v := ⟨_, rfl⟩
            have hle : ¬ y < vp := by
              have q := hsr.out p (by omega)
              have e : V[p + 1]'(by omega) = y := by rw [← hy.out]; congr 1; exact hp.symm
              rw [e, hvp] at q
              omega
            have hle2 : decide (y < vp) = false := decide_eq_false hle
            have hp0 : (0 : Int) ≤ (p : Int) := Int.natCast_nonneg p
            rw [hvp] at cp
            clear hvp h0 hp
            go_upto_region 25 with fail
            have GD : Gr wr wr.drew := (Gr.refl wr).drew
            refine wp_region_held_drew (S := (fun W => W.cell? ⟨vb, vo + p, none⟩ = some (.int .u64 vp) ∧ W.cell? ⟨vb, vo + i, none⟩ = some (.int .u64 y))) (by kernel_rfl) (⟨(T.cell_of_block (GD.below.block vb lv) _).trans cp, (T.cell_of_block (GD.below.block vb lv) _).trans ci⟩) (fun hHeld => ?_)
            refine wpAnyH_take (i := 0) (oi := { dst := some 121, op := Op.move (Operand.tmp 11), type := 3, pos := "keeps.go:224", after := #[], guard := none }) (v := ?_) rfl (by kernel_rfl) (by kernel_rfl) (by kernel_rfl) (fun _ _ _ h => h) (Or.inl ⟨by rfl, ?_⟩) (by assumption) ?_
            rotate_left
            · intro w hSw; (try dsimp only at hSw); go_simp; first | done | with_reducible rfl
            try simp only [Act.put, List.setIfInBounds_toArray, List.set_cons_zero, List.set_cons_succ]
            refine wpAnyH_take (i := 1) (oi := { dst := some 122, op := Op.move (Operand.tmp 12), type := 3, pos := "keeps.go:224", after := #[], guard := none }) (v := ?_) rfl (by kernel_rfl) (by kernel_rfl) (by kernel_rfl) (fun _ _ _ h => h) (Or.inl ⟨by rfl, ?_⟩) (by assumption) ?_
            rotate_left
            · intro w hSw; (try dsimp only at hSw); go_simp; first | done | with_reducible rfl
            try simp only [Act.put, List.setIfInBounds_toArray, List.set_cons_zero, List.set_cons_succ]
            refine wpAnyH_take (i := 2) (oi := { dst := some 123, op := Op.binOp BinOp.neq 3 (Operand.tmp 121) (Operand.tmp 122) 3, type := 4, pos := "keeps.go:224", after := #[{ on := 0, ground := Ground.data }, { on := 1, ground := Ground.data }], guard := none }) (v := ?_) rfl (by kernel_rfl) (by kernel_rfl) (by kernel_rfl) (fun _ _ _ h => h) (Or.inl ⟨by rfl, ?_⟩) (by assumption) ?_
            rotate_left
            · intro w hSw; (try dsimp only at hSw); go_simp; first | done | with_reducible rfl
            try simp only [Act.put, List.setIfInBounds_toArray, List.set_cons_zero, List.set_cons_succ]
            refine wpAnyH_take (i := 3) (oi := { dst := some 124, op := Op.move (Operand.tmp 123), type := 4, pos := "keeps.go:224", after := #[{ on := 2, ground := Ground.data }], guard := none }) (v := ?_) rfl (by kernel_rfl) (by kernel_rfl) (by kernel_rfl) (fun _ _ _ h => h) (Or.inl ⟨by rfl, ?_⟩) (by assumption) ?_
            rotate_left
            · intro w hSw; (try dsimp only at hSw); go_simp; first | done | with_reducible rfl
            try simp only [Act.put, List.setIfInBounds_toArray, List.set_cons_zero, List.set_cons_succ]
            refine wpAnyH_take (i := 4) (oi := { dst := some 125, op := Op.move (Operand.tmp 10), type := 3, pos := "keeps.go:224", after := #[{ on := 3, ground := Ground.guard }], guard := some (3, false) }) (v := ?_) rfl (by kernel_rfl) (by kernel_rfl) (by kernel_rfl) (fun _ _ _ h => h) (Or.inl ⟨by rfl, ?_⟩) (by assumption) ?_
            rotate_left
            · intro w hSw; (try dsimp only at hSw); go_simp; first | done | with_reducible rfl
            try simp only [Act.put, List.setIfInBounds_toArray, List.set_cons_zero, List.set_cons_succ]
            refine wpAnyH_take (i := 5) (oi := { dst := some 126, op := Op.binOp BinOp.gtr 3 (Operand.tmp 125) (Operand.const (Value.int IntKind.i64 0)) 3, type := 4, pos := "keeps.go:224", after := #[{ on := 4, ground := Ground.data }, { on := 3, ground := Ground.guard }], guard := some (3, false) }) (v := .bool true) rfl (by kernel_rfl) (by kernel_rfl) (by kernel_rfl) (fun _ _ _ h => h) (Or.inl ⟨by rfl, ?_⟩) (by assumption) ?_
            · intro w hSw; (try dsimp only at hSw); go_simp; first | done | (simp [hz2])
            try simp only [Act.put, List.setIfInBounds_toArray, List.set_cons_zero, List.set_cons_succ]
            refine wpAnyH_take (i := 6) (oi := { dst := some 127, op := Op.move (Operand.tmp 126), type := 4, pos := "keeps.go:224", after := #[{ on := 5, ground := Ground.data }, { on := 3, ground := Ground.chain }, { on := 3, ground := Ground.guard }], guard := some (3, false) }) (v := ?_) rfl (by kernel_rfl) (by kernel_rfl) (by kernel_rfl) (fun _ _ _ h => h) (Or.inl ⟨by rfl, ?_⟩) (by assumption) ?_
            rotate_left
            · intro w hSw; (try dsimp only at hSw); go_simp; first | done | with_reducible rfl
            try simp only [Act.put, List.setIfInBounds_toArray, List.set_cons_zero, List.set_cons_succ]
            refine wpAnyH_take (i := 7) (oi := { dst := some 128, op := Op.move (Operand.tmp 9), type := 22, pos := "keeps.go:224", after := #[{ on := 6, ground := Ground.guard }], guard := some (6, true) }) (v := ?_) rfl (by kernel_rfl) (by kernel_rfl) (by kernel_rfl) (fun _ _ _ h => h) (Or.inl ⟨by rfl, ?_⟩) (by assumption) ?_
            rotate_left
            · intro w hSw; (try dsimp only at hSw); go_simp; first | done | with_reducible rfl
            try simp only [Act.put, List.setIfInBounds_toArray, List.set_cons_zero, List.set_cons_succ]
            refine wpAnyH_take (i := 8) (oi := { dst := some 129, op := Op.move (Operand.tmp 10), type := 3, pos := "keeps.go:224", after := #[{ on := 6, ground := Ground.guard }], guard := some (6, true) }) (v := ?_) rfl (by kernel_rfl) (by kernel_rfl) (by kernel_rfl) (fun _ _ _ h => h) (Or.inl ⟨by rfl, ?_⟩) (by assumption) ?_
            rotate_left
            · intro w hSw; (try dsimp only at hSw); go_simp; first | done | with_reducible rfl
            try simp only [Act.put, List.setIfInBounds_toArray, List.set_cons_zero, List.set_cons_succ]
            refine wpAnyH_take (i := 9) (oi := { dst := some 130, op := Op.binOp BinOp.sub 3 (Operand.tmp 129) (Operand.const (Value.int IntKind.i64 1)) 3, type := 3, pos := "keeps.go:224", after := #[{ on := 8, ground := Ground.data }, { on := 6, ground := Ground.guard }], guard := some (6, true) }) (v := .int .i64 (p : Int)) rfl (by kernel_rfl) (by kernel_rfl) (by kernel_rfl) (fun _ _ _ h => h) (Or.inl ⟨by rfl, ?_⟩) (by assumption) ?_
            · intro w hSw; (try dsimp only at hSw); go_simp; first | done | (rw [hpw])
            try simp only [Act.put, List.setIfInBounds_toArray, List.set_cons_zero, List.set_cons_succ]
            refine wpAnyH_take (i := 10) (oi := { dst := some 131, op := Op.indexAddr 22 (Operand.tmp 128) (Operand.tmp 130), type := 0, pos := "keeps.go:224", after := #[{ on := 7, ground := Ground.data }, { on := 9, ground := Ground.data }, { on := 6, ground := Ground.guard }], guard := some (6, true) }) (v := ?_) rfl (by kernel_rfl) (by kernel_rfl) (by kernel_rfl) (fun _ _ _ h => h) (Or.inl ⟨by rfl, ?_⟩) (by assumption) ?_
            rotate_left
            · intro w hSw; (try dsimp only at hSw); go_simp; first | done | with_reducible rfl
            try simp only [Act.put, List.setIfInBounds_toArray, List.set_cons_zero, List.set_cons_succ]
            refine wpAnyH_take (i := 11) (oi := { dst := some 132, op := Op.load 24 (Operand.tmp 131), type := 24, pos := "keeps.go:224", after := #[{ on := 10, ground := Ground.data }, { on := 6, ground := Ground.guard }], guard := some (6, true) }) (v := ?_) rfl (by kernel_rfl) (by kernel_rfl) (by kernel_rfl) (fun _ _ _ h => h) (Or.inl ⟨by rfl, ?_⟩) (by assumption) ?_
            rotate_left
            · intro w hSw; (try dsimp only at hSw); go_simp; first | done | with_reducible rfl
            try simp only [Act.put, List.setIfInBounds_toArray, List.set_cons_zero, List.set_cons_succ]
            refine wpAnyH_take (i := 12) (oi := { dst := some 133, op := Op.move (Operand.tmp 9), type := 22, pos := "keeps.go:224", after := #[{ on := 6, ground := Ground.guard }], guard := some (6, true) }) (v := ?_) rfl (by kernel_rfl) (by kernel_rfl) (by kernel_rfl) (fun _ _ _ h => h) (Or.inl ⟨by rfl, ?_⟩) (by assumption) ?_
            rotate_left
            · intro w hSw; (try dsimp only at hSw); go_simp; first | done | with_reducible rfl
            try simp only [Act.put, List.setIfInBounds_toArray, List.set_cons_zero, List.set_cons_succ]
            refine wpAnyH_take (i := 13) (oi := { dst := some 134, op := Op.move (Operand.tmp 10), type := 3, pos := "keeps.go:224", after := #[{ on := 6, ground := Ground.guard }], guard := some (6, true) }) (v := ?_) rfl (by kernel_rfl) (by kernel_rfl) (by kernel_rfl) (fun _ _ _ h => h) (Or.inl ⟨by rfl, ?_⟩) (by assumption) ?_
            rotate_left
            · intro w hSw; (try dsimp only at hSw); go_simp; first | done | with_reducible rfl
            try simp only [Act.put, List.setIfInBounds_toArray, List.set_cons_zero, List.set_cons_succ]
            refine wpAnyH_take (i := 14) (oi := { dst := some 135, op := Op.indexAddr 22 (Operand.tmp 133) (Operand.tmp 134), type := 0, pos := "keeps.go:224", after := #[{ on := 12, ground := Ground.data }, { on := 13, ground := Ground.data }, { on := 6, ground := Ground.guard }], guard := some (6, true) }) (v := ?_) rfl (by kernel_rfl) (by kernel_rfl) (by kernel_rfl) (fun _ _ _ h => h) (Or.inl ⟨by rfl, ?_⟩) (by assumption) ?_
            rotate_left
            · intro w hSw; (try dsimp only at hSw); go_simp; first | done | with_reducible rfl
            try simp only [Act.put, List.setIfInBounds_toArray, List.set_cons_zero, List.set_cons_succ]
            refine wpAnyH_take (i := 15) (oi := { dst := some 136, op := Op.load 24 (Operand.tmp 135), type := 24, pos := "keeps.go:224", after := #[{ on := 14, ground := Ground.data }, { on := 6, ground := Ground.guard }], guard := some (6, true) }) (v := ?_) rfl (by kernel_rfl) (by kernel_rfl) (by kernel_rfl) (fun _ _ _ h => h) (Or.inl ⟨by rfl, ?_⟩) (by assumption) ?_
            rotate_left
            · intro w hSw; (try dsimp only at hSw); go_simp; first | done | with_reducible rfl
            try simp only [Act.put, List.setIfInBounds_toArray, List.set_cons_zero, List.set_cons_succ]
            refine wpAnyH_take (i := 16) (oi := { dst := some 137, op := Op.binOp BinOp.gtr 24 (Operand.tmp 132) (Operand.tmp 136) 24, type := 4, pos := "keeps.go:224", after := #[{ on := 11, ground := Ground.data }, { on := 15, ground := Ground.data }, { on := 6, ground := Ground.guard }], guard := some (6, true) }) (v := .bool false) rfl (by kernel_rfl) (by kernel_rfl) (by kernel_rfl) (fun _ _ _ h => h) (Or.inl ⟨by rfl, ?_⟩) (by assumption) ?_
            · intro w hSw; (try dsimp only at hSw); go_simp; first | done | (simp [hle])
            try simp only [Act.put, List.setIfInBounds_toArray, List.set_cons_zero, List.set_cons_succ]
            refine wpAnyH_take (i := 17) (oi := { dst := some 138, op := Op.pick (Operand.tmp 127) (Operand.tmp 137) (Operand.const (Value.bool false)), type := 4, pos := "keeps.go:224", after := #[{ on := 6, ground := Ground.data }, { on := 16, ground := Ground.data }, { on := 3, ground := Ground.guard }], guard := some (3, false) }) (v := ?_) rfl (by kernel_rfl) (by kernel_rfl) (by kernel_rfl) (fun _ _ _ h => h) (Or.inl ⟨by rfl, ?_⟩) (by assumption) ?_
            rotate_left
            · intro w hSw; (try dsimp only at hSw); go_simp; first | done | with_reducible rfl
            try simp only [Act.put, List.setIfInBounds_toArray, List.set_cons_zero, List.set_cons_succ]
            refine wpAnyH_take (i := 18) (oi := { dst := some 139, op := Op.pick (Operand.tmp 124) (Operand.const (Value.bool true)) (Operand.tmp 138), type := 4, pos := "keeps.go:224", after := #[{ on := 3, ground := Ground.data }, { on := 17, ground := Ground.data }], guard := none }) (v := ?_) rfl (by kernel_rfl) (by kernel_rfl) (by kernel_rfl) (fun _ _ _ h => h) (Or.inl ⟨by rfl, ?_⟩) (by assumption) ?_
            rotate_left
            · intro w hSw; (try dsimp only at hSw); go_simp; first | done | with_reducible rfl
            try simp only [Act.put, List.setIfInBounds_toArray, List.set_cons_zero, List.set_cons_succ]
            refine wpAnyH_done (by kernel_rfl) ?_ _
            clear hHeld
            replace G7 := Hz.mk (G7.out.trans GD)
            clear GD ci lv
            go_wp2_with fail
            refine And.intro (Exists.intro (i + 1) ⟨kw_next i, hi1, G7⟩) ?_
            exact kw_meas _ i hi1
    · have hii : ¬ (i : Int) < (L.length : Int) := by omega
      have hend : Hz (Below w.heap.size w wr) := Hz.mk (G.out.trans (G7.out.below.mono G.out.size))
      go_wp2_with fail
      go_ret
      exact ⟨rfl, hend.out⟩
set_option maxRecDepth 100000 in
set_option maxHeartbeats 8000000 in
theorem walk_long (M : List Int) (mb mo N sc : Nat) (w : World) (hI : InL w (some ⟨mb, mo, none⟩) sc M) (hw : ∀ x ∈ M, Wd x) (hMl : M.length = 10) (hN : 10 < N) (hc : N ≤ sc) :
    Calls Try.prog 3 #[.slice (some ⟨mb, mo, none⟩) N sc] w fun x w' => x = .returned (.bool true) ∧ Below w.heap.size w w' := by
  replace hI := Hz.mk hI
  replace hw := Hz.mk hw
  replace hMl := Hz.mk hMl
  have hnl : Hz ((10 : Int) = (M.length : Int)) := Hz.mk (by rw [hMl.out]; rfl)
  have hnn : Hz ((0 : Int) ≤ (10 : Int) ∧ (10 : Int) < 18446744073709551616) := Hz.mk (by decide)
  have hl10 : Hz (M.length ≤ 10) := Hz.mk (by rw [hMl.out]; exact Nat.le_refl _)
  have hgt : (10 : Int) < (N : Int) := by omega
  have hc10 : 10 ≤ sc := by omega
  have hc11 : (10 : Int) ≤ (sc : Int) := by omega
  go_enter Try.func3, Try.ntmps3
  go_upto_region 1 with fail
  go_wp2_with fail
  refine (examples_any w).mono ?_
  rintro r V1 ⟨rfl, hB⟩
  replace hI := Hz.mk (hI.out.below hB)
  have G := Hz.mk hB
  clear hB
  go_upto_region 5 with fail
  refine wp_region_lit ?_
  refine wpList_plain rfl (fun K hK => ?_)
  go_simp
  with_reducible refine hK _ _ ?_
  clear hK K
  try simp only [Act.put, List.setIfInBounds_toArray, List.set_cons_zero, List.set_cons_succ]
  refine wpList_plain rfl (fun K hK => ?_)
  go_simp
  with_reducible refine hK _ _ ?_
  clear hK K
  try simp only [Act.put, List.setIfInBounds_toArray, List.set_cons_zero, List.set_cons_succ]
  refine wpList_plain rfl (fun K hK => ?_)
  go_simp
  with_reducible refine hK _ _ ?_
  clear hK K
  try simp only [Act.put, List.setIfInBounds_toArray, List.set_cons_zero, List.set_cons_succ]
  refine wpList_plain rfl (fun K hK => ?_)
  go_simp
  with_reducible refine hK _ _ ?_
  clear hK K
  try simp only [Act.put, List.setIfInBounds_toArray, List.set_cons_zero, List.set_cons_succ]
  refine wpList_plain rfl (fun K hK => ?_)
  go_simp
  with_reducible refine hK _ _ ?_
  clear hK K
  try simp only [Act.put, List.setIfInBounds_toArray, List.set_cons_zero, List.set_cons_succ]
  refine wpList_plain rfl (fun K hK => ?_)
  go_simp
  with_reducible refine hK _ _ ?_
  clear hK K
  try simp only [Act.put, List.setIfInBounds_toArray, List.set_cons_zero, List.set_cons_succ]
  refine wpList_plain rfl (fun K hK => ?_)
  go_simp
  with_reducible refine hK _ _ ?_
  clear hK K
  try simp only [Act.put, List.setIfInBounds_toArray, List.set_cons_zero, List.set_cons_succ]
  refine wpList_plain rfl (fun K hK => ?_)
  go_simp
  with_reducible refine hK _ _ ?_
  clear hK K
  try simp only [Act.put, List.setIfInBounds_toArray, List.set_cons_zero, List.set_cons_succ]
  refine wpList_plain rfl (fun K hK => ?_)
  go_simp
  with_reducible refine hK _ _ ?_
  clear hK K
  try simp only [Act.put, List.setIfInBounds_toArray, List.set_cons_zero, List.set_cons_succ]
  refine wpList_plain rfl (fun K hK => ?_)
  go_simp
  with_reducible refine hK _ _ ?_
  clear hK K
  try simp only [Act.put, List.setIfInBounds_toArray, List.set_cons_zero, List.set_cons_succ]
  refine wpList_plain rfl (fun K hK => ?_)
  go_simp
  with_reducible refine hK _ _ ?_
  clear hK K
  try simp only [Act.put, List.setIfInBounds_toArray, List.set_cons_zero, List.set_cons_succ]
  refine wpList_plain rfl (fun K hK => ?_)
  go_simp
  with_reducible refine hK _ _ ?_
  clear hK K
  try simp only [Act.put, List.setIfInBounds_toArray, List.set_cons_zero, List.set_cons_succ]
  refine wpList_plain rfl (fun K hK => ?_)
  go_simp
  with_reducible refine hK _ _ ?_
  clear hK K
  try simp only [Act.put, List.setIfInBounds_toArray, List.set_cons_zero, List.set_cons_succ]
  refine wpList_plain rfl (fun K hK => ?_)
  go_simp
  with_reducible refine hK _ _ ?_
  clear hK K
  try simp only [Act.put, List.setIfInBounds_toArray, List.set_cons_zero, List.set_cons_succ]
  refine wpList_plain rfl (fun K hK => ?_)
  go_simp
  with_reducible refine hK _ _ ?_
  clear hK K
  try simp only [Act.put, List.setIfInBounds_toArray, List.set_cons_zero, List.set_cons_succ]
  refine wpList_plain rfl (fun K hK => ?_)
  go_simp
  with_reducible refine hK _ _ ?_
  clear hK K
  try simp only [Act.put, List.setIfInBounds_toArray, List.set_cons_zero, List.set_cons_succ]
  refine wpList_plain rfl (fun K hK => ?_)
  go_simp
  with_reducible refine hK _ _ ?_
  clear hK K
  try simp only [Act.put, List.setIfInBounds_toArray, List.set_cons_zero, List.set_cons_succ]
  refine wpList_plain rfl (fun K hK => ?_)
  go_simp
  with_reducible refine hK _ _ ?_
  clear hK K
  try simp only [Act.put, List.setIfInBounds_toArray, List.set_cons_zero, List.set_cons_succ]
  refine wpList_plain rfl (fun K hK => ?_)
  go_simp
  with_reducible refine hK _ _ ?_
  clear hK K
  try simp only [Act.put, List.setIfInBounds_toArray, List.set_cons_zero, List.set_cons_succ]
  refine wpList_plain rfl (fun K hK => ?_)
  go_simp
  with_reducible refine hK _ _ ?_
  clear hK K
  try simp only [Act.put, List.setIfInBounds_toArray, List.set_cons_zero, List.set_cons_succ]
  refine wpList_plain rfl (fun K hK => ?_)
  go_simp
  with_reducible refine hK _ _ ?_
  clear hK K
  try simp only [Act.put, List.setIfInBounds_toArray, List.set_cons_zero, List.set_cons_succ]
  refine wpList_plain rfl (fun K hK => ?_)
  go_simp
  with_reducible refine hK _ _ ?_
  clear hK K
  try simp only [Act.put, List.setIfInBounds_toArray, List.set_cons_zero, List.set_cons_succ]
  refine wpList_plain rfl (fun K hK => ?_)
  go_simp
  with_reducible refine hK _ _ ?_
  clear hK K
  try simp only [Act.put, List.setIfInBounds_toArray, List.set_cons_zero, List.set_cons_succ]
  refine wpList_plain rfl (fun K hK => ?_)
  go_simp
  with_reducible refine hK _ _ ?_
  clear hK K
  try simp only [Act.put, List.setIfInBounds_toArray, List.set_cons_zero, List.set_cons_succ]
  refine wpList_plain rfl (fun K hK => ?_)
  go_simp
  with_reducible refine hK _ _ ?_
  clear hK K
  try simp only [Act.put, List.setIfInBounds_toArray, List.set_cons_zero, List.set_cons_succ]
  refine wpList_plain rfl (fun K hK => ?_)
  go_simp
  with_reducible refine hK _ _ ?_
  clear hK K
  try simp only [Act.put, List.setIfInBounds_toArray, List.set_cons_zero, List.set_cons_succ]
  refine wpList_plain rfl (fun K hK => ?_)
  go_simp
  with_reducible refine hK _ _ ?_
  clear hK K
  try simp only [Act.put, List.setIfInBounds_toArray, List.set_cons_zero, List.set_cons_succ]
  refine wpList_plain rfl (fun K hK => ?_)
  go_simp
  with_reducible refine hK _ _ ?_
  clear hK K
  try simp only [Act.put, List.setIfInBounds_toArray, List.set_cons_zero, List.set_cons_succ]
  refine wpList_plain rfl (fun K hK => ?_)
  go_simp
  with_reducible refine hK _ _ ?_
  clear hK K
  try simp only [Act.put, List.setIfInBounds_toArray, List.set_cons_zero, List.set_cons_succ]
  refine wpList_plain rfl (fun K hK => ?_)
  go_simp
  with_reducible refine hK _ _ ?_
  clear hK K
  try simp only [Act.put, List.setIfInBounds_toArray, List.set_cons_zero, List.set_cons_succ]
  refine wpList_plain rfl (fun K hK => ?_)
  go_simp
  with_reducible refine hK _ _ ?_
  clear hK K
  try simp only [Act.put, List.setIfInBounds_toArray, List.set_cons_zero, List.set_cons_succ]
  refine wpList_plain rfl (fun K' hK => ?_)
  refine wp_build30 10 _ rfl (by kernel_rfl) ?_
  with_reducible refine hK _ _ ?_
  clear hK K'
  try simp only [Act.put, List.setIfInBounds_toArray, List.set_cons_zero, List.set_cons_succ]
  have hA := At.new V1 ((srtL 10).flatMap Fi.vals).toArray 32
  have gA : Gr V1 (V1.alloc (.cells ((srtL 10).flatMap Fi.vals).toArray 32)) := (Gr.refl V1).alloc _
  generalize hW1 : V1.alloc (.cells ((srtL 10).flatMap Fi.vals).toArray 32) = W1 at *
  clear hW1
  replace hA := Hz.mk hA
  replace gA := Hz.mk gA
  refine wpList_plain rfl (fun K' hK => ?_)
  go_simp
  refine (one30 V1.heap.size W1).mono ?_
  rintro r W2 ⟨rfl, g2, hs2, c2, r2⟩
  with_reducible refine hK _ _ ?_
  clear hK K'
  try simp only [Act.put, List.setIfInBounds_toArray, List.set_cons_zero, List.set_cons_succ]
  have hA2 := Hz.mk (hA.out.gr g2)
  have hs1 : W1.heap.size + 1 < W2.heap.size := by omega
  have hR : Hz (RwIn W2 (some ⟨W1.heap.size + 1, 0, none⟩) (some ⟨W1.heap.size + 1 + 1, 0, none⟩) (srtP 10)) := Hz.mk (srtRw hA2.out c2 hs1 r2 hs2)
  have G2 := Hz.mk (gA.out.trans g2)
  clear hA gA g2 c2 r2 hA2
  generalize W1.heap.size + 1 + 1 = kg at *
  generalize W1.heap.size + 1 = kc at *
  clear W1 hs1 hs2
  go_upto_region 6 with fail
  refine wp_world (fun X => At X W2.heap.size #[.slice (some ⟨kc, 0, none⟩) 1 1, .slice (some ⟨kg, 0, none⟩) 1 1, .string ⟨#[]⟩, .int .i64 1] ∧ Gr W2 X) ⟨At.new W2 _ _, (Gr.refl _).alloc _⟩ ?_
  rintro W3 ⟨hA3, g3⟩
  replace hR := Hz.mk (hR.out.gr g3)
  replace G2 := Hz.mk (G2.out.trans g3)
  replace G := Hz.mk (G.out.trans (G2.out.below.mono G.out.size))
  replace hI := Hz.mk (hI.out.below G2.out.below)
  clear g3 G2
  have d0 : W3.cell? ⟨W2.heap.size, 0, none⟩ = some (.slice (some ⟨kc, 0, none⟩) 1 1) := hA3.2.1 0
  have d1 : W3.cell? ⟨W2.heap.size, 1, none⟩ = some (.slice (some ⟨kg, 0, none⟩) 1 1) := hA3.2.1 1
  have d2 : W3.cell? ⟨W2.heap.size, 2, none⟩ = some (.string ⟨#[]⟩) := hA3.2.1 2
  have d3 : W3.cell? ⟨W2.heap.size, 3, none⟩ = some (.int .i64 1) := hA3.2.1 3
  have hnw : Hz (Calls Try.prog 6 #[.agg #[.slice (some ⟨kc, 0, none⟩) 1 1, .slice (some ⟨kg, 0, none⟩) 1 1, .string ⟨#[]⟩, .int .i64 1], .int .i64 0, .slice none 0 0, .slice (some ⟨mb, mo, none⟩) 10 sc] W3 fun x w' => ∃ a, x = .returned (.tuple #[.pointer (some ⟨a, 0, none⟩), .int .i64 0]) ∧ MIn W3.heap.size w' a (srtP 10) (srtS M) [] ∧ Below W3.heap.size W3 w') := Hz.mk (by
    have q := new_ok (srtP 10) (some ⟨kc, 0, none⟩) (some ⟨kg, 0, none⟩) 1 1 [] 0 none 0 0 (fun _ => 0) (some ⟨mb, mo, none⟩) sc M W3 hR.out (srt_ok 10 hnn.out) (by decide) (show (0 : Nat) < 1 by decide) rfl (.inl rfl) (Nat.le_trans hl10.out (by decide)) hI.out
    rw [hMl.out] at q
    exact q)
  replace hA3 := Hz.mk hA3
  go_wp2_with fail
  refine hnw.out.mono ?_
  rintro r W4 ⟨a, rfl, hM, hB4⟩
  clear d0 d1 d2 d3 hnw hR hA3
  have hBw : Hz (w.heap.size ≤ W3.heap.size) := Hz.mk G.out.size
  replace hB4 := Hz.mk hB4
  replace hM := Hz.mk hM
  obtain ⟨V, u, hpm, hsr, hu, e1, e2, e3, e4, e5, e6⟩ := srt_done 10 M hnl.out hw.out hl10.out
  have hVl : Hz (V.length = 10) := Hz.mk (hpm.length_eq.trans hMl.out)
  have hrn : Hz (Calls Try.prog 7 #[.pointer (some ⟨a, 0, none⟩), .int .i64 20000] W4 fun x w' => x = .returned (.agg #[.int .i64 1, .int .u64 10, .int .i64 0, .int .i64 0, .int .i64 27]) ∧ MIn W3.heap.size w' a (srtP 10) u [] ∧ Below W3.heap.size W4 w') := Hz.mk (by
    have q := run_oc (srtP 10) (srt_ok 10 hnn.out) (srt_rr 10) (srtS M) 0 20000 (srtS_okn 10 M hw.out hl10.out) (by decide) (by decide) u hu W3.heap.size W4 a [] hM.out
    rw [e1, e2, e3, e4, e5] at q
    exact q)
  clear e1 e2 e3 e4 e5
  replace hpm := Hz.mk hpm
  replace hsr := Hz.mk hsr
  replace hu := Hz.mk hu
  replace e6 := Hz.mk e6
  go_wp2_with fail
  refine hrn.out.mono ?_
  rintro r W5 ⟨rfl, hM5, hB5⟩
  clear hrn hu
  replace hB4 := Hz.mk (hB4.out.trans hB5)
  replace G := Hz.mk (G.out.trans (hB4.out.mono hBw.out))
  replace hI := Hz.mk (hI.out.below hB4.out)
  replace hM := Hz.mk hM5
  clear hB4 hB5 hM5
  go_upto_region 10 with fail
  refine wp_world (fun X => At X W5.heap.size (List.toArray [Value.int .i64 1, .int .u64 10, .int .i64 0, .int .i64 0, .int .i64 27]) ∧ Gr W5 X) ⟨At.new W5 _ _, (Gr.refl _).alloc _⟩ ?_
  rintro W6 ⟨hA6, g6⟩
  replace G := Hz.mk (G.out.trans (g6.below.mono G.out.size))
  replace hI := Hz.mk (hI.out.below g6.below)
  replace hM := Hz.mk (hM.out.gr g6.below)
  clear g6
  generalize W5.heap.size = ko at *
  have hou : Hz (Calls Try.prog 8 #[.pointer (some ⟨a, 0, none⟩)] W6 fun x w' => ∃ va c, x = .returned (.slice va 10 c) ∧ WIn w' va V ∧ Below W6.heap.size W6 w') := Hz.mk (by
    have q := outs_any W3.heap.size W6 a (srtP 10) u [] hM.out (by rw [e6.out, hVl.out]; have := hl10.out; omega)
    rw [e6.out, hVl.out] at q
    exact q)
  replace hA6 := Hz.mk hA6
  go_wp2_with fail
  refine hou.out.mono ?_
  rintro r W7 ⟨va, vc, rfl, hV, hB7⟩
  replace G := Hz.mk (G.out.trans (hB7.mono G.out.size))
  replace hI := Hz.mk (hI.out.below hB7)
  replace hA6 := Hz.mk (at_below hA6.out hB7 hA6.out.1)
  replace hV := Hz.mk hV
  clear hou hB7 hM e6 hBw
  have d0 : W7.cell? ⟨ko, 0, none⟩ = some (.int .i64 1) := hA6.out.2.1 0
  have d1 : W7.cell? ⟨ko, 1, none⟩ = some (.int .u64 10) := hA6.out.2.1 1
  have d2 : W7.cell? ⟨ko, 2, none⟩ = some (.int .i64 0) := hA6.out.2.1 2
  have d3 : W7.cell? ⟨ko, 3, none⟩ = some (.int .i64 0) := hA6.out.2.1 3
  have d4 : W7.cell? ⟨ko, 4, none⟩ = some (.int .i64 27) := hA6.out.2.1 4
  have hoc := fun W => oc_ne5 1 10 0 0 27 W
  clear hA6
  go_upto_region 14 with fail
  clear d0 d1 d2 d3 d4 hoc
  go_loopw [10] (fun x wr => ∃ i : Nat, x = .int .i64 i ∧ i ≤ 10 ∧ Hz (Gr W7 wr)) (fun x _ => 10 - (intOf x).toNat)
  case atStart => exact ⟨0, rfl, Nat.zero_le _, Hz.mk (Gr.refl _)⟩
  case round =>
    obtain ⟨i, rfl, hi, G7⟩ := hrel
    by_cases hi1 : i < 10
    · have hii : (i : Int) < (10 : Int) := by omega
      have hiV : i < V.length := by rw [hVl.out]; exact hi1
      obtain ⟨y, hy⟩ : ∃ y, V[i] = y := ⟨_, rfl⟩
      replace hy := Hz.mk hy
      have hiM : i < M.length := by rw [hMl.out]; exact hi1
      obtain ⟨vb, vo, hva, -, -⟩ := hV.out i hiV
      obtain ⟨mb, mo, hma, -, -⟩ := hI.out.win i hiM
      cases hva
      cases hma
      have hVc := Hz.mk hV.out.at
      have hMc := Hz.mk hI.out.win.at
      clear hV hI
      go_upto_region 19 with fail
      rename World => wo
      go_loopw [11, 12, 13] (fun x z q wr => ∃ k : Nat, x = .int .i64 ((cE V y k : Nat) : Int) ∧ z = .int .i64 ((cE M y k : Nat) : Int) ∧ q = .int .i64 k ∧ k ≤ 10 ∧ Hz (Gr W7 wr)) (fun _ _ q _ => 10 - (intOf q).toNat)
      case atStart => exact ⟨0, by rw [cE_zero]; rfl, by rw [cE_zero]; rfl, rfl, Nat.zero_le _, G7⟩
      case round =>
        clear G7
        obtain ⟨k, rfl, rfl, rfl, hkl, G7⟩ := hrel
        by_cases hk : k < 10
        · have hki : (k : Int) < (10 : Int) := by omega
          have hk1 : k ≤ 100 := by have := hl10.out; omega
          have hkV : k < V.length := by rw [hVl.out]; exact hk
          have hkM : k < M.length := by rw [hMl.out]; exact hk
          obtain ⟨lv, cv⟩ := hVc.out.gr G7.out k hkV
          obtain ⟨lm, cm⟩ := hMc.out.gr G7.out k hkM
          obtain ⟨-, ci⟩ := hVc.out.gr G7.out i hiV
          rw [hy.out] at ci
          obtain ⟨vk, hvk⟩ : ∃ v, V[k] = v := ⟨_, rfl⟩
          obtain ⟨mk, hmk⟩ : ∃ v, M[k] = v := ⟨_, rfl⟩
          rw [hvk] at cv
          rw [hmk] at cm
          replace hvk := Hz.mk hvk
          replace hmk := Hz.mk hmk
          by_cases he1 : vk = y
          · skip
            have hb1 : (vk == y) = true := by simpa using he1
            replace he1 := Hz.mk (show V[k]'hkV = y from hvk.out.trans he1)
            by_cases he2 : mk = y
            · skip
              have hb2 : (mk == y) = true := by simpa using he2
              replace he2 := Hz.mk (show M[k]'hkM = y from hmk.out.trans he2)
              clear hvk hmk
              go_upto_region 21 with fail
              have GD : Gr wr wr.drew := (Gr.refl wr).drew
              refine wp_region_held_drew (S := (fun W => W.cell? ⟨vb, vo + k, none⟩ = some (.int .u64 vk) ∧ W.cell? ⟨vb, vo + i, none⟩ = some (.int .u64 y))) (by kernel_rfl) (⟨(T.cell_of_block (GD.below.block vb lv) _).trans cv, (T.cell_of_block (GD.below.block vb lv) _).trans ci⟩) (fun hHeld => ?_)
              refine wpAnyH_take (i := 0) (oi := { dst := some 99, op := Op.move (Operand.tmp 9), type := 22, pos := "keeps.go:217", after := #[], guard := none }) (v := ?_) rfl (by kernel_rfl) (by kernel_rfl) (by kernel_rfl) (fun _ _ _ h => h) (Or.inl ⟨by rfl, ?_⟩) (by assumption) ?_
              rotate_left
              · intro w hSw; (try dsimp only at hSw); go_simp; first | done | with_reducible rfl
              try simp only [Act.put, List.setIfInBounds_toArray, List.set_cons_zero, List.set_cons_succ]
              refine wpAnyH_take (i := 1) (oi := { dst := some 100, op := Op.move (Operand.tmp 13), type := 3, pos := "keeps.go:217", after := #[], guard := none }) (v := ?_) rfl (by kernel_rfl) (by kernel_rfl) (by kernel_rfl) (fun _ _ _ h => h) (Or.inl ⟨by rfl, ?_⟩) (by assumption) ?_
              rotate_left
              · intro w hSw; (try dsimp only at hSw); go_simp; first | done | with_reducible rfl
              try simp only [Act.put, List.setIfInBounds_toArray, List.set_cons_zero, List.set_cons_succ]
              refine wpAnyH_take (i := 2) (oi := { dst := some 101, op := Op.indexAddr 22 (Operand.tmp 99) (Operand.tmp 100), type := 0, pos := "keeps.go:217", after := #[{ on := 0, ground := Ground.data }, { on := 1, ground := Ground.data }], guard := none }) (v := ?_) rfl (by kernel_rfl) (by kernel_rfl) (by kernel_rfl) (fun _ _ _ h => h) (Or.inl ⟨by rfl, ?_⟩) (by assumption) ?_
              rotate_left
              · intro w hSw; (try dsimp only at hSw); go_simp; first | done | with_reducible rfl
              try simp only [Act.put, List.setIfInBounds_toArray, List.set_cons_zero, List.set_cons_succ]
              refine wpAnyH_take (i := 3) (oi := { dst := some 102, op := Op.load 24 (Operand.tmp 101), type := 24, pos := "keeps.go:217", after := #[{ on := 2, ground := Ground.data }], guard := none }) (v := ?_) rfl (by kernel_rfl) (by kernel_rfl) (by kernel_rfl) (fun _ _ _ h => h) (Or.inl ⟨by rfl, ?_⟩) (by assumption) ?_
              rotate_left
              · intro w hSw; (try dsimp only at hSw); go_simp; first | done | with_reducible rfl
              try simp only [Act.put, List.setIfInBounds_toArray, List.set_cons_zero, List.set_cons_succ]
              refine wpAnyH_take (i := 4) (oi := { dst := some 103, op := Op.move (Operand.tmp 9), type := 22, pos := "keeps.go:217", after := #[], guard := none }) (v := ?_) rfl (by kernel_rfl) (by kernel_rfl) (by kernel_rfl) (fun _ _ _ h => h) (Or.inl ⟨by rfl, ?_⟩) (by assumption) ?_
              rotate_left
              · intro w hSw; (try dsimp only at hSw); go_simp; first | done | with_reducible rfl
              try simp only [Act.put, List.setIfInBounds_toArray, List.set_cons_zero, List.set_cons_succ]
              refine wpAnyH_take (i := 5) (oi := { dst := some 104, op := Op.move (Operand.tmp 10), type := 3, pos := "keeps.go:217", after := #[], guard := none }) (v := ?_) rfl (by kernel_rfl) (by kernel_rfl) (by kernel_rfl) (fun _ _ _ h => h) (Or.inl ⟨by rfl, ?_⟩) (by assumption) ?_
              rotate_left
              · intro w hSw; (try dsimp only at hSw); go_simp; first | done | with_reducible rfl
              try simp only [Act.put, List.setIfInBounds_toArray, List.set_cons_zero, List.set_cons_succ]
              refine wpAnyH_take (i := 6) (oi := { dst := some 105, op := Op.indexAddr 22 (Operand.tmp 103) (Operand.tmp 104), type := 0, pos := "keeps.go:217", after := #[{ on := 4, ground := Ground.data }, { on := 5, ground := Ground.data }], guard := none }) (v := ?_) rfl (by kernel_rfl) (by kernel_rfl) (by kernel_rfl) (fun _ _ _ h => h) (Or.inl ⟨by rfl, ?_⟩) (by assumption) ?_
              rotate_left
              · intro w hSw; (try dsimp only at hSw); go_simp; first | done | with_reducible rfl
              try simp only [Act.put, List.setIfInBounds_toArray, List.set_cons_zero, List.set_cons_succ]
              refine wpAnyH_take (i := 7) (oi := { dst := some 106, op := Op.load 24 (Operand.tmp 105), type := 24, pos := "keeps.go:217", after := #[{ on := 6, ground := Ground.data }], guard := none }) (v := ?_) rfl (by kernel_rfl) (by kernel_rfl) (by kernel_rfl) (fun _ _ _ h => h) (Or.inl ⟨by rfl, ?_⟩) (by assumption) ?_
              rotate_left
              · intro w hSw; (try dsimp only at hSw); go_simp; first | done | with_reducible rfl
              try simp only [Act.put, List.setIfInBounds_toArray, List.set_cons_zero, List.set_cons_succ]
              refine wpAnyH_take (i := 8) (oi := { dst := some 107, op := Op.binOp BinOp.eql 24 (Operand.tmp 102) (Operand.tmp 106) 24, type := 4, pos := "keeps.go:217", after := #[{ on := 3, ground := Ground.data }, { on := 7, ground := Ground.data }], guard := none }) (v := ?_) rfl (by kernel_rfl) (by kernel_rfl) (by kernel_rfl) (fun _ _ _ h => h) (Or.inl ⟨by rfl, ?_⟩) (by assumption) ?_
              rotate_left
              · intro w hSw; (try dsimp only at hSw); go_simp; first | done | with_reducible rfl
              try simp only [Act.put, List.setIfInBounds_toArray, List.set_cons_zero, List.set_cons_succ]
              refine wpAnyH_done (by kernel_rfl) ?_ _
              clear hHeld
              replace cm := Hz.mk ((T.cell_of_block (GD.below.block mb lm) _).trans cm)
              replace ci := Hz.mk ((T.cell_of_block (GD.below.block vb lv) _).trans ci)
              replace lm : mb < wr.drew.heap.size := Nat.lt_of_lt_of_le lm GD.below.size
              replace lv : vb < wr.drew.heap.size := Nat.lt_of_lt_of_le lv GD.below.size
              have G3 := Hz.mk (G7.out.trans GD)
              clear cv GD G7
              generalize wr.drew = wd at *
              rename World => wr
              replace cm := cm.out
              replace ci := ci.out
              go_upto_region 23 with fail
              have GD : Gr wr wr.drew := (Gr.refl wr).drew
              refine wp_region_held_drew (S := (fun W => W.cell? ⟨mb, mo + k, none⟩ = some (.int .u64 mk) ∧ W.cell? ⟨vb, vo + i, none⟩ = some (.int .u64 y))) (by kernel_rfl) (⟨(T.cell_of_block (GD.below.block mb lm) _).trans cm, (T.cell_of_block (GD.below.block vb lv) _).trans ci⟩) (fun hHeld => ?_)
              refine wpAnyH_take (i := 0) (oi := { dst := some 110, op := Op.move (Operand.tmp 0), type := 22, pos := "keeps.go:220", after := #[], guard := none }) (v := ?_) rfl (by kernel_rfl) (by kernel_rfl) (by kernel_rfl) (fun _ _ _ h => h) (Or.inl ⟨by rfl, ?_⟩) (by assumption) ?_
              rotate_left
              · intro w hSw; (try dsimp only at hSw); go_simp; first | done | with_reducible rfl
              try simp only [Act.put, List.setIfInBounds_toArray, List.set_cons_zero, List.set_cons_succ]
              refine wpAnyH_take (i := 1) (oi := { dst := some 111, op := Op.move (Operand.tmp 13), type := 3, pos := "keeps.go:220", after := #[], guard := none }) (v := ?_) rfl (by kernel_rfl) (by kernel_rfl) (by kernel_rfl) (fun _ _ _ h => h) (Or.inl ⟨by rfl, ?_⟩) (by assumption) ?_
              rotate_left
              · intro w hSw; (try dsimp only at hSw); go_simp; first | done | with_reducible rfl
              try simp only [Act.put, List.setIfInBounds_toArray, List.set_cons_zero, List.set_cons_succ]
              refine wpAnyH_take (i := 2) (oi := { dst := some 112, op := Op.indexAddr 22 (Operand.tmp 110) (Operand.tmp 111), type := 0, pos := "keeps.go:220", after := #[{ on := 0, ground := Ground.data }, { on := 1, ground := Ground.data }], guard := none }) (v := ?_) rfl (by kernel_rfl) (by kernel_rfl) (by kernel_rfl) (fun _ _ _ h => h) (Or.inl ⟨by rfl, ?_⟩) (by assumption) ?_
              rotate_left
              · intro w hSw; (try dsimp only at hSw); go_simp; first | done | with_reducible rfl
              try simp only [Act.put, List.setIfInBounds_toArray, List.set_cons_zero, List.set_cons_succ]
              refine wpAnyH_take (i := 3) (oi := { dst := some 113, op := Op.load 24 (Operand.tmp 112), type := 24, pos := "keeps.go:220", after := #[{ on := 2, ground := Ground.data }], guard := none }) (v := ?_) rfl (by kernel_rfl) (by kernel_rfl) (by kernel_rfl) (fun _ _ _ h => h) (Or.inl ⟨by rfl, ?_⟩) (by assumption) ?_
              rotate_left
              · intro w hSw; (try dsimp only at hSw); go_simp; first | done | with_reducible rfl
              try simp only [Act.put, List.setIfInBounds_toArray, List.set_cons_zero, List.set_cons_succ]
              refine wpAnyH_take (i := 4) (oi := { dst := some 114, op := Op.move (Operand.tmp 9), type := 22, pos := "keeps.go:220", after := #[], guard := none }) (v := ?_) rfl (by kernel_rfl) (by kernel_rfl) (by kernel_rfl) (fun _ _ _ h => h) (Or.inl ⟨by rfl, ?_⟩) (by assumption) ?_
              rotate_left
              · intro w hSw; (try dsimp only at hSw); go_simp; first | done | with_reducible rfl
              try simp only [Act.put, List.setIfInBounds_toArray, List.set_cons_zero, List.set_cons_succ]
              refine wpAnyH_take (i := 5) (oi := { dst := some 115, op := Op.move (Operand.tmp 10), type := 3, pos := "keeps.go:220", after := #[], guard := none }) (v := ?_) rfl (by kernel_rfl) (by kernel_rfl) (by kernel_rfl) (fun _ _ _ h => h) (Or.inl ⟨by rfl, ?_⟩) (by assumption) ?_
              rotate_left
              · intro w hSw; (try dsimp only at hSw); go_simp; first | done | with_reducible rfl
              try simp only [Act.put, List.setIfInBounds_toArray, List.set_cons_zero, List.set_cons_succ]
              refine wpAnyH_take (i := 6) (oi := { dst := some 116, op := Op.indexAddr 22 (Operand.tmp 114) (Operand.tmp 115), type := 0, pos := "keeps.go:220", after := #[{ on := 4, ground := Ground.data }, { on := 5, ground := Ground.data }], guard := none }) (v := ?_) rfl (by kernel_rfl) (by kernel_rfl) (by kernel_rfl) (fun _ _ _ h => h) (Or.inl ⟨by rfl, ?_⟩) (by assumption) ?_
              rotate_left
              · intro w hSw; (try dsimp only at hSw); go_simp; first | done | with_reducible rfl
              try simp only [Act.put, List.setIfInBounds_toArray, List.set_cons_zero, List.set_cons_succ]
              refine wpAnyH_take (i := 7) (oi := { dst := some 117, op := Op.load 24 (Operand.tmp 116), type := 24, pos := "keeps.go:220", after := #[{ on := 6, ground := Ground.data }], guard := none }) (v := ?_) rfl (by kernel_rfl) (by kernel_rfl) (by kernel_rfl) (fun _ _ _ h => h) (Or.inl ⟨by rfl, ?_⟩) (by assumption) ?_
              rotate_left
              · intro w hSw; (try dsimp only at hSw); go_simp; first | done | with_reducible rfl
              try simp only [Act.put, List.setIfInBounds_toArray, List.set_cons_zero, List.set_cons_succ]
              refine wpAnyH_take (i := 8) (oi := { dst := some 118, op := Op.binOp BinOp.eql 24 (Operand.tmp 113) (Operand.tmp 117) 24, type := 4, pos := "keeps.go:220", after := #[{ on := 3, ground := Ground.data }, { on := 7, ground := Ground.data }], guard := none }) (v := ?_) rfl (by kernel_rfl) (by kernel_rfl) (by kernel_rfl) (fun _ _ _ h => h) (Or.inl ⟨by rfl, ?_⟩) (by assumption) ?_
              rotate_left
              · intro w hSw; (try dsimp only at hSw); go_simp; first | done | with_reducible rfl
              try simp only [Act.put, List.setIfInBounds_toArray, List.set_cons_zero, List.set_cons_succ]
              refine wpAnyH_done (by kernel_rfl) ?_ _
              clear hHeld
              replace G3 := Hz.mk (G3.out.trans GD)
              clear GD cm ci lm lv
              go_wp2_with fail
              refine And.intro (Exists.intro (k + 1) ⟨cw_yes V y k hkV hk1 he1.out, cw_yes M y k hkM hk1 he2.out, kw_next k, hk, G3⟩) ?_
              exact kw_meas _ k hk
            · skip
              have hb2 : (mk == y) = false := by simpa using he2
              replace he2 := Hz.mk (show M[k]'hkM ≠ y from fun q => he2 (hmk.out.symm.trans q))
              clear hvk hmk
              go_upto_region 21 with fail
              have GD : Gr wr wr.drew := (Gr.refl wr).drew
              refine wp_region_held_drew (S := (fun W => W.cell? ⟨vb, vo + k, none⟩ = some (.int .u64 vk) ∧ W.cell? ⟨vb, vo + i, none⟩ = some (.int .u64 y))) (by kernel_rfl) (⟨(T.cell_of_block (GD.below.block vb lv) _).trans cv, (T.cell_of_block (GD.below.block vb lv) _).trans ci⟩) (fun hHeld => ?_)
              refine wpAnyH_take (i := 0) (oi := { dst := some 99, op := Op.move (Operand.tmp 9), type := 22, pos := "keeps.go:217", after := #[], guard := none }) (v := ?_) rfl (by kernel_rfl) (by kernel_rfl) (by kernel_rfl) (fun _ _ _ h => h) (Or.inl ⟨by rfl, ?_⟩) (by assumption) ?_
              rotate_left
              · intro w hSw; (try dsimp only at hSw); go_simp; first | done | with_reducible rfl
              try simp only [Act.put, List.setIfInBounds_toArray, List.set_cons_zero, List.set_cons_succ]
              refine wpAnyH_take (i := 1) (oi := { dst := some 100, op := Op.move (Operand.tmp 13), type := 3, pos := "keeps.go:217", after := #[], guard := none }) (v := ?_) rfl (by kernel_rfl) (by kernel_rfl) (by kernel_rfl) (fun _ _ _ h => h) (Or.inl ⟨by rfl, ?_⟩) (by assumption) ?_
              rotate_left
              · intro w hSw; (try dsimp only at hSw); go_simp; first | done | with_reducible rfl
              try simp only [Act.put, List.setIfInBounds_toArray, List.set_cons_zero, List.set_cons_succ]
              refine wpAnyH_take (i := 2) (oi := { dst := some 101, op := Op.indexAddr 22 (Operand.tmp 99) (Operand.tmp 100), type := 0, pos := "keeps.go:217", after := #[{ on := 0, ground := Ground.data }, { on := 1, ground := Ground.data }], guard := none }) (v := ?_) rfl (by kernel_rfl) (by kernel_rfl) (by kernel_rfl) (fun _ _ _ h => h) (Or.inl ⟨by rfl, ?_⟩) (by assumption) ?_
              rotate_left
              · intro w hSw; (try dsimp only at hSw); go_simp; first | done | with_reducible rfl
              try simp only [Act.put, List.setIfInBounds_toArray, List.set_cons_zero, List.set_cons_succ]
              refine wpAnyH_take (i := 3) (oi := { dst := some 102, op := Op.load 24 (Operand.tmp 101), type := 24, pos := "keeps.go:217", after := #[{ on := 2, ground := Ground.data }], guard := none }) (v := ?_) rfl (by kernel_rfl) (by kernel_rfl) (by kernel_rfl) (fun _ _ _ h => h) (Or.inl ⟨by rfl, ?_⟩) (by assumption) ?_
              rotate_left
              · intro w hSw; (try dsimp only at hSw); go_simp; first | done | with_reducible rfl
              try simp only [Act.put, List.setIfInBounds_toArray, List.set_cons_zero, List.set_cons_succ]
              refine wpAnyH_take (i := 4) (oi := { dst := some 103, op := Op.move (Operand.tmp 9), type := 22, pos := "keeps.go:217", after := #[], guard := none }) (v := ?_) rfl (by kernel_rfl) (by kernel_rfl) (by kernel_rfl) (fun _ _ _ h => h) (Or.inl ⟨by rfl, ?_⟩) (by assumption) ?_
              rotate_left
              · intro w hSw; (try dsimp only at hSw); go_simp; first | done | with_reducible rfl
              try simp only [Act.put, List.setIfInBounds_toArray, List.set_cons_zero, List.set_cons_succ]
              refine wpAnyH_take (i := 5) (oi := { dst := some 104, op := Op.move (Operand.tmp 10), type := 3, pos := "keeps.go:217", after := #[], guard := none }) (v := ?_) rfl (by kernel_rfl) (by kernel_rfl) (by kernel_rfl) (fun _ _ _ h => h) (Or.inl ⟨by rfl, ?_⟩) (by assumption) ?_
              rotate_left
              · intro w hSw; (try dsimp only at hSw); go_simp; first | done | with_reducible rfl
              try simp only [Act.put, List.setIfInBounds_toArray, List.set_cons_zero, List.set_cons_succ]
              refine wpAnyH_take (i := 6) (oi := { dst := some 105, op := Op.indexAddr 22 (Operand.tmp 103) (Operand.tmp 104), type := 0, pos := "keeps.go:217", after := #[{ on := 4, ground := Ground.data }, { on := 5, ground := Ground.data }], guard := none }) (v := ?_) rfl (by kernel_rfl) (by kernel_rfl) (by kernel_rfl) (fun _ _ _ h => h) (Or.inl ⟨by rfl, ?_⟩) (by assumption) ?_
              rotate_left
              · intro w hSw; (try dsimp only at hSw); go_simp; first | done | with_reducible rfl
              try simp only [Act.put, List.setIfInBounds_toArray, List.set_cons_zero, List.set_cons_succ]
              refine wpAnyH_take (i := 7) (oi := { dst := some 106, op := Op.load 24 (Operand.tmp 105), type := 24, pos := "keeps.go:217", after := #[{ on := 6, ground := Ground.data }], guard := none }) (v := ?_) rfl (by kernel_rfl) (by kernel_rfl) (by kernel_rfl) (fun _ _ _ h => h) (Or.inl ⟨by rfl, ?_⟩) (by assumption) ?_
              rotate_left
              · intro w hSw; (try dsimp only at hSw); go_simp; first | done | with_reducible rfl
              try simp only [Act.put, List.setIfInBounds_toArray, List.set_cons_zero, List.set_cons_succ]
              refine wpAnyH_take (i := 8) (oi := { dst := some 107, op := Op.binOp BinOp.eql 24 (Operand.tmp 102) (Operand.tmp 106) 24, type := 4, pos := "keeps.go:217", after := #[{ on := 3, ground := Ground.data }, { on := 7, ground := Ground.data }], guard := none }) (v := ?_) rfl (by kernel_rfl) (by kernel_rfl) (by kernel_rfl) (fun _ _ _ h => h) (Or.inl ⟨by rfl, ?_⟩) (by assumption) ?_
              rotate_left
              · intro w hSw; (try dsimp only at hSw); go_simp; first | done | with_reducible rfl
              try simp only [Act.put, List.setIfInBounds_toArray, List.set_cons_zero, List.set_cons_succ]
              refine wpAnyH_done (by kernel_rfl) ?_ _
              clear hHeld
              replace cm := Hz.mk ((T.cell_of_block (GD.below.block mb lm) _).trans cm)
              replace ci := Hz.mk ((T.cell_of_block (GD.below.block vb lv) _).trans ci)
              replace lm : mb < wr.drew.heap.size := Nat.lt_of_lt_of_le lm GD.below.size
              replace lv : vb < wr.drew.heap.size := Nat.lt_of_lt_of_le lv GD.below.size
              have G3 := Hz.mk (G7.out.trans GD)
              clear cv GD G7
              generalize wr.drew = wd at *
              rename World => wr
              replace cm := cm.out
              replace ci := ci.out
              go_upto_region 23 with fail
              have GD : Gr wr wr.drew := (Gr.refl wr).drew
              refine wp_region_held_drew (S := (fun W => W.cell? ⟨mb, mo + k, none⟩ = some (.int .u64 mk) ∧ W.cell? ⟨vb, vo + i, none⟩ = some (.int .u64 y))) (by kernel_rfl) (⟨(T.cell_of_block (GD.below.block mb lm) _).trans cm, (T.cell_of_block (GD.below.block vb lv) _).trans ci⟩) (fun hHeld => ?_)
              refine wpAnyH_take (i := 0) (oi := { dst := some 110, op := Op.move (Operand.tmp 0), type := 22, pos := "keeps.go:220", after := #[], guard := none }) (v := ?_) rfl (by kernel_rfl) (by kernel_rfl) (by kernel_rfl) (fun _ _ _ h => h) (Or.inl ⟨by rfl, ?_⟩) (by assumption) ?_
              rotate_left
              · intro w hSw; (try dsimp only at hSw); go_simp; first | done | with_reducible rfl
              try simp only [Act.put, List.setIfInBounds_toArray, List.set_cons_zero, List.set_cons_succ]
              refine wpAnyH_take (i := 1) (oi := { dst := some 111, op := Op.move (Operand.tmp 13), type := 3, pos := "keeps.go:220", after := #[], guard := none }) (v := ?_) rfl (by kernel_rfl) (by kernel_rfl) (by kernel_rfl) (fun _ _ _ h => h) (Or.inl ⟨by rfl, ?_⟩) (by assumption) ?_
              rotate_left
              · intro w hSw; (try dsimp only at hSw); go_simp; first | done | with_reducible rfl
              try simp only [Act.put, List.setIfInBounds_toArray, List.set_cons_zero, List.set_cons_succ]
              refine wpAnyH_take (i := 2) (oi := { dst := some 112, op := Op.indexAddr 22 (Operand.tmp 110) (Operand.tmp 111), type := 0, pos := "keeps.go:220", after := #[{ on := 0, ground := Ground.data }, { on := 1, ground := Ground.data }], guard := none }) (v := ?_) rfl (by kernel_rfl) (by kernel_rfl) (by kernel_rfl) (fun _ _ _ h => h) (Or.inl ⟨by rfl, ?_⟩) (by assumption) ?_
              rotate_left
              · intro w hSw; (try dsimp only at hSw); go_simp; first | done | with_reducible rfl
              try simp only [Act.put, List.setIfInBounds_toArray, List.set_cons_zero, List.set_cons_succ]
              refine wpAnyH_take (i := 3) (oi := { dst := some 113, op := Op.load 24 (Operand.tmp 112), type := 24, pos := "keeps.go:220", after := #[{ on := 2, ground := Ground.data }], guard := none }) (v := ?_) rfl (by kernel_rfl) (by kernel_rfl) (by kernel_rfl) (fun _ _ _ h => h) (Or.inl ⟨by rfl, ?_⟩) (by assumption) ?_
              rotate_left
              · intro w hSw; (try dsimp only at hSw); go_simp; first | done | with_reducible rfl
              try simp only [Act.put, List.setIfInBounds_toArray, List.set_cons_zero, List.set_cons_succ]
              refine wpAnyH_take (i := 4) (oi := { dst := some 114, op := Op.move (Operand.tmp 9), type := 22, pos := "keeps.go:220", after := #[], guard := none }) (v := ?_) rfl (by kernel_rfl) (by kernel_rfl) (by kernel_rfl) (fun _ _ _ h => h) (Or.inl ⟨by rfl, ?_⟩) (by assumption) ?_
              rotate_left
              · intro w hSw; (try dsimp only at hSw); go_simp; first | done | with_reducible rfl
              try simp only [Act.put, List.setIfInBounds_toArray, List.set_cons_zero, List.set_cons_succ]
              refine wpAnyH_take (i := 5) (oi := { dst := some 115, op := Op.move (Operand.tmp 10), type := 3, pos := "keeps.go:220", after := #[], guard := none }) (v := ?_) rfl (by kernel_rfl) (by kernel_rfl) (by kernel_rfl) (fun _ _ _ h => h) (Or.inl ⟨by rfl, ?_⟩) (by assumption) ?_
              rotate_left
              · intro w hSw; (try dsimp only at hSw); go_simp; first | done | with_reducible rfl
              try simp only [Act.put, List.setIfInBounds_toArray, List.set_cons_zero, List.set_cons_succ]
              refine wpAnyH_take (i := 6) (oi := { dst := some 116, op := Op.indexAddr 22 (Operand.tmp 114) (Operand.tmp 115), type := 0, pos := "keeps.go:220", after := #[{ on := 4, ground := Ground.data }, { on := 5, ground := Ground.data }], guard := none }) (v := ?_) rfl (by kernel_rfl) (by kernel_rfl) (by kernel_rfl) (fun _ _ _ h => h) (Or.inl ⟨by rfl, ?_⟩) (by assumption) ?_
              rotate_left
              · intro w hSw; (try dsimp only at hSw); go_simp; first | done | with_reducible rfl
              try simp only [Act.put, List.setIfInBounds_toArray, List.set_cons_zero, List.set_cons_succ]
              refine wpAnyH_take (i := 7) (oi := { dst := some 117, op := Op.load 24 (Operand.tmp 116), type := 24, pos := "keeps.go:220", after := #[{ on := 6, ground := Ground.data }], guard := none }) (v := ?_) rfl (by kernel_rfl) (by kernel_rfl) (by kernel_rfl) (fun _ _ _ h => h) (Or.inl ⟨by rfl, ?_⟩) (by assumption) ?_
              rotate_left
              · intro w hSw; (try dsimp only at hSw); go_simp; first | done | with_reducible rfl
              try simp only [Act.put, List.setIfInBounds_toArray, List.set_cons_zero, List.set_cons_succ]
              refine wpAnyH_take (i := 8) (oi := { dst := some 118, op := Op.binOp BinOp.eql 24 (Operand.tmp 113) (Operand.tmp 117) 24, type := 4, pos := "keeps.go:220", after := #[{ on := 3, ground := Ground.data }, { on := 7, ground := Ground.data }], guard := none }) (v := ?_) rfl (by kernel_rfl) (by kernel_rfl) (by kernel_rfl) (fun _ _ _ h => h) (Or.inl ⟨by rfl, ?_⟩) (by assumption) ?_
              rotate_left
              · intro w hSw; (try dsimp only at hSw); go_simp; first | done | with_reducible rfl
              try simp only [Act.put, List.setIfInBounds_toArray, List.set_cons_zero, List.set_cons_succ]
              refine wpAnyH_done (by kernel_rfl) ?_ _
              clear hHeld
              replace G3 := Hz.mk (G3.out.trans GD)
              clear GD cm ci lm lv
              go_wp2_with fail
              refine And.intro (Exists.intro (k + 1) ⟨cw_yes V y k hkV hk1 he1.out, cw_no M y k hkM he2.out, kw_next k, hk, G3⟩) ?_
              exact kw_meas _ k hk
          · skip
            have hb1 : (vk == y) = false := by simpa using he1
            replace he1 := Hz.mk (show V[k]'hkV ≠ y from fun q => he1 (hvk.out.symm.trans q))
            by_cases he2 : mk = y
            · skip
              have hb2 : (mk == y) = true := by simpa using he2
              replace he2 := Hz.mk (show M[k]'hkM = y from hmk.out.trans he2)
              clear hvk hmk
              go_upto_region 21 with fail
              have GD : Gr wr wr.drew := (Gr.refl wr).drew
              refine wp_region_held_drew (S := (fun W => W.cell? ⟨vb, vo + k, none⟩ = some (.int .u64 vk) ∧ W.cell? ⟨vb, vo + i, none⟩ = some (.int .u64 y))) (by kernel_rfl) (⟨(T.cell_of_block (GD.below.block vb lv) _).trans cv, (T.cell_of_block (GD.below.block vb lv) _).trans ci⟩) (fun hHeld => ?_)
              refine wpAnyH_take (i := 0) (oi := { dst := some 99, op := Op.move (Operand.tmp 9), type := 22, pos := "keeps.go:217", after := #[], guard := none }) (v := ?_) rfl (by kernel_rfl) (by kernel_rfl) (by kernel_rfl) (fun _ _ _ h => h) (Or.inl ⟨by rfl, ?_⟩) (by assumption) ?_
              rotate_left
              · intro w hSw; (try dsimp only at hSw); go_simp; first | done | with_reducible rfl
              try simp only [Act.put, List.setIfInBounds_toArray, List.set_cons_zero, List.set_cons_succ]
              refine wpAnyH_take (i := 1) (oi := { dst := some 100, op := Op.move (Operand.tmp 13), type := 3, pos := "keeps.go:217", after := #[], guard := none }) (v := ?_) rfl (by kernel_rfl) (by kernel_rfl) (by kernel_rfl) (fun _ _ _ h => h) (Or.inl ⟨by rfl, ?_⟩) (by assumption) ?_
              rotate_left
              · intro w hSw; (try dsimp only at hSw); go_simp; first | done | with_reducible rfl
              try simp only [Act.put, List.setIfInBounds_toArray, List.set_cons_zero, List.set_cons_succ]
              refine wpAnyH_take (i := 2) (oi := { dst := some 101, op := Op.indexAddr 22 (Operand.tmp 99) (Operand.tmp 100), type := 0, pos := "keeps.go:217", after := #[{ on := 0, ground := Ground.data }, { on := 1, ground := Ground.data }], guard := none }) (v := ?_) rfl (by kernel_rfl) (by kernel_rfl) (by kernel_rfl) (fun _ _ _ h => h) (Or.inl ⟨by rfl, ?_⟩) (by assumption) ?_
              rotate_left
              · intro w hSw; (try dsimp only at hSw); go_simp; first | done | with_reducible rfl
              try simp only [Act.put, List.setIfInBounds_toArray, List.set_cons_zero, List.set_cons_succ]
              refine wpAnyH_take (i := 3) (oi := { dst := some 102, op := Op.load 24 (Operand.tmp 101), type := 24, pos := "keeps.go:217", after := #[{ on := 2, ground := Ground.data }], guard := none }) (v := ?_) rfl (by kernel_rfl) (by kernel_rfl) (by kernel_rfl) (fun _ _ _ h => h) (Or.inl ⟨by rfl, ?_⟩) (by assumption) ?_
              rotate_left
              · intro w hSw; (try dsimp only at hSw); go_simp; first | done | with_reducible rfl
              try simp only [Act.put, List.setIfInBounds_toArray, List.set_cons_zero, List.set_cons_succ]
              refine wpAnyH_take (i := 4) (oi := { dst := some 103, op := Op.move (Operand.tmp 9), type := 22, pos := "keeps.go:217", after := #[], guard := none }) (v := ?_) rfl (by kernel_rfl) (by kernel_rfl) (by kernel_rfl) (fun _ _ _ h => h) (Or.inl ⟨by rfl, ?_⟩) (by assumption) ?_
              rotate_left
              · intro w hSw; (try dsimp only at hSw); go_simp; first | done | with_reducible rfl
              try simp only [Act.put, List.setIfInBounds_toArray, List.set_cons_zero, List.set_cons_succ]
              refine wpAnyH_take (i := 5) (oi := { dst := some 104, op := Op.move (Operand.tmp 10), type := 3, pos := "keeps.go:217", after := #[], guard := none }) (v := ?_) rfl (by kernel_rfl) (by kernel_rfl) (by kernel_rfl) (fun _ _ _ h => h) (Or.inl ⟨by rfl, ?_⟩) (by assumption) ?_
              rotate_left
              · intro w hSw; (try dsimp only at hSw); go_simp; first | done | with_reducible rfl
              try simp only [Act.put, List.setIfInBounds_toArray, List.set_cons_zero, List.set_cons_succ]
              refine wpAnyH_take (i := 6) (oi := { dst := some 105, op := Op.indexAddr 22 (Operand.tmp 103) (Operand.tmp 104), type := 0, pos := "keeps.go:217", after := #[{ on := 4, ground := Ground.data }, { on := 5, ground := Ground.data }], guard := none }) (v := ?_) rfl (by kernel_rfl) (by kernel_rfl) (by kernel_rfl) (fun _ _ _ h => h) (Or.inl ⟨by rfl, ?_⟩) (by assumption) ?_
              rotate_left
              · intro w hSw; (try dsimp only at hSw); go_simp; first | done | with_reducible rfl
              try simp only [Act.put, List.setIfInBounds_toArray, List.set_cons_zero, List.set_cons_succ]
              refine wpAnyH_take (i := 7) (oi := { dst := some 106, op := Op.load 24 (Operand.tmp 105), type := 24, pos := "keeps.go:217", after := #[{ on := 6, ground := Ground.data }], guard := none }) (v := ?_) rfl (by kernel_rfl) (by kernel_rfl) (by kernel_rfl) (fun _ _ _ h => h) (Or.inl ⟨by rfl, ?_⟩) (by assumption) ?_
              rotate_left
              · intro w hSw; (try dsimp only at hSw); go_simp; first | done | with_reducible rfl
              try simp only [Act.put, List.setIfInBounds_toArray, List.set_cons_zero, List.set_cons_succ]
              refine wpAnyH_take (i := 8) (oi := { dst := some 107, op := Op.binOp BinOp.eql 24 (Operand.tmp 102) (Operand.tmp 106) 24, type := 4, pos := "keeps.go:217", after := #[{ on := 3, ground := Ground.data }, { on := 7, ground := Ground.data }], guard := none }) (v := ?_) rfl (by kernel_rfl) (by kernel_rfl) (by kernel_rfl) (fun _ _ _ h => h) (Or.inl ⟨by rfl, ?_⟩) (by assumption) ?_
              rotate_left
              · intro w hSw; (try dsimp only at hSw); go_simp; first | done | with_reducible rfl
              try simp only [Act.put, List.setIfInBounds_toArray, List.set_cons_zero, List.set_cons_succ]
              refine wpAnyH_done (by kernel_rfl) ?_ _
              clear hHeld
              replace cm := Hz.mk ((T.cell_of_block (GD.below.block mb lm) _).trans cm)
              replace ci := Hz.mk ((T.cell_of_block (GD.below.block vb lv) _).trans ci)
              replace lm : mb < wr.drew.heap.size := Nat.lt_of_lt_of_le lm GD.below.size
              replace lv : vb < wr.drew.heap.size := Nat.lt_of_lt_of_le lv GD.below.size
              have G3 := Hz.mk (G7.out.trans GD)
              clear cv GD G7
              generalize wr.drew = wd at *
              rename World => wr
              replace cm := cm.out
              replace ci := ci.out
              go_upto_region 23 with fail
              have GD : Gr wr wr.drew := (Gr.refl wr).drew
              refine wp_region_held_drew (S := (fun W => W.cell? ⟨mb, mo + k, none⟩ = some (.int .u64 mk) ∧ W.cell? ⟨vb, vo + i, none⟩ = some (.int .u64 y))) (by kernel_rfl) (⟨(T.cell_of_block (GD.below.block mb lm) _).trans cm, (T.cell_of_block (GD.below.block vb lv) _).trans ci⟩) (fun hHeld => ?_)
              refine wpAnyH_take (i := 0) (oi := { dst := some 110, op := Op.move (Operand.tmp 0), type := 22, pos := "keeps.go:220", after := #[], guard := none }) (v := ?_) rfl (by kernel_rfl) (by kernel_rfl) (by kernel_rfl) (fun _ _ _ h => h) (Or.inl ⟨by rfl, ?_⟩) (by assumption) ?_
              rotate_left
              · intro w hSw; (try dsimp only at hSw); go_simp; first | done | with_reducible rfl
              try simp only [Act.put, List.setIfInBounds_toArray, List.set_cons_zero, List.set_cons_succ]
              refine wpAnyH_take (i := 1) (oi := { dst := some 111, op := Op.move (Operand.tmp 13), type := 3, pos := "keeps.go:220", after := #[], guard := none }) (v := ?_) rfl (by kernel_rfl) (by kernel_rfl) (by kernel_rfl) (fun _ _ _ h => h) (Or.inl ⟨by rfl, ?_⟩) (by assumption) ?_
              rotate_left
              · intro w hSw; (try dsimp only at hSw); go_simp; first | done | with_reducible rfl
              try simp only [Act.put, List.setIfInBounds_toArray, List.set_cons_zero, List.set_cons_succ]
              refine wpAnyH_take (i := 2) (oi := { dst := some 112, op := Op.indexAddr 22 (Operand.tmp 110) (Operand.tmp 111), type := 0, pos := "keeps.go:220", after := #[{ on := 0, ground := Ground.data }, { on := 1, ground := Ground.data }], guard := none }) (v := ?_) rfl (by kernel_rfl) (by kernel_rfl) (by kernel_rfl) (fun _ _ _ h => h) (Or.inl ⟨by rfl, ?_⟩) (by assumption) ?_
              rotate_left
              · intro w hSw; (try dsimp only at hSw); go_simp; first | done | with_reducible rfl
              try simp only [Act.put, List.setIfInBounds_toArray, List.set_cons_zero, List.set_cons_succ]
              refine wpAnyH_take (i := 3) (oi := { dst := some 113, op := Op.load 24 (Operand.tmp 112), type := 24, pos := "keeps.go:220", after := #[{ on := 2, ground := Ground.data }], guard := none }) (v := ?_) rfl (by kernel_rfl) (by kernel_rfl) (by kernel_rfl) (fun _ _ _ h => h) (Or.inl ⟨by rfl, ?_⟩) (by assumption) ?_
              rotate_left
              · intro w hSw; (try dsimp only at hSw); go_simp; first | done | with_reducible rfl
              try simp only [Act.put, List.setIfInBounds_toArray, List.set_cons_zero, List.set_cons_succ]
              refine wpAnyH_take (i := 4) (oi := { dst := some 114, op := Op.move (Operand.tmp 9), type := 22, pos := "keeps.go:220", after := #[], guard := none }) (v := ?_) rfl (by kernel_rfl) (by kernel_rfl) (by kernel_rfl) (fun _ _ _ h => h) (Or.inl ⟨by rfl, ?_⟩) (by assumption) ?_
              rotate_left
              · intro w hSw; (try dsimp only at hSw); go_simp; first | done | with_reducible rfl
              try simp only [Act.put, List.setIfInBounds_toArray, List.set_cons_zero, List.set_cons_succ]
              refine wpAnyH_take (i := 5) (oi := { dst := some 115, op := Op.move (Operand.tmp 10), type := 3, pos := "keeps.go:220", after := #[], guard := none }) (v := ?_) rfl (by kernel_rfl) (by kernel_rfl) (by kernel_rfl) (fun _ _ _ h => h) (Or.inl ⟨by rfl, ?_⟩) (by assumption) ?_
              rotate_left
              · intro w hSw; (try dsimp only at hSw); go_simp; first | done | with_reducible rfl
              try simp only [Act.put, List.setIfInBounds_toArray, List.set_cons_zero, List.set_cons_succ]
              refine wpAnyH_take (i := 6) (oi := { dst := some 116, op := Op.indexAddr 22 (Operand.tmp 114) (Operand.tmp 115), type := 0, pos := "keeps.go:220", after := #[{ on := 4, ground := Ground.data }, { on := 5, ground := Ground.data }], guard := none }) (v := ?_) rfl (by kernel_rfl) (by kernel_rfl) (by kernel_rfl) (fun _ _ _ h => h) (Or.inl ⟨by rfl, ?_⟩) (by assumption) ?_
              rotate_left
              · intro w hSw; (try dsimp only at hSw); go_simp; first | done | with_reducible rfl
              try simp only [Act.put, List.setIfInBounds_toArray, List.set_cons_zero, List.set_cons_succ]
              refine wpAnyH_take (i := 7) (oi := { dst := some 117, op := Op.load 24 (Operand.tmp 116), type := 24, pos := "keeps.go:220", after := #[{ on := 6, ground := Ground.data }], guard := none }) (v := ?_) rfl (by kernel_rfl) (by kernel_rfl) (by kernel_rfl) (fun _ _ _ h => h) (Or.inl ⟨by rfl, ?_⟩) (by assumption) ?_
              rotate_left
              · intro w hSw; (try dsimp only at hSw); go_simp; first | done | with_reducible rfl
              try simp only [Act.put, List.setIfInBounds_toArray, List.set_cons_zero, List.set_cons_succ]
              refine wpAnyH_take (i := 8) (oi := { dst := some 118, op := Op.binOp BinOp.eql 24 (Operand.tmp 113) (Operand.tmp 117) 24, type := 4, pos := "keeps.go:220", after := #[{ on := 3, ground := Ground.data }, { on := 7, ground := Ground.data }], guard := none }) (v := ?_) rfl (by kernel_rfl) (by kernel_rfl) (by kernel_rfl) (fun _ _ _ h => h) (Or.inl ⟨by rfl, ?_⟩) (by assumption) ?_
              rotate_left
              · intro w hSw; (try dsimp only at hSw); go_simp; first | done | with_reducible rfl
              try simp only [Act.put, List.setIfInBounds_toArray, List.set_cons_zero, List.set_cons_succ]
              refine wpAnyH_done (by kernel_rfl) ?_ _
              clear hHeld
              replace G3 := Hz.mk (G3.out.trans GD)
              clear GD cm ci lm lv
              go_wp2_with fail
              refine And.intro (Exists.intro (k + 1) ⟨cw_no V y k hkV he1.out, cw_yes M y k hkM hk1 he2.out, kw_next k, hk, G3⟩) ?_
              exact kw_meas _ k hk
            · skip
              have hb2 : (mk == y) = false := by simpa using he2
              replace he2 := Hz.mk (show M[k]'hkM ≠ y from fun q => he2 (hmk.out.symm.trans q))
              clear hvk hmk
              go_upto_region 21 with fail
              have GD : Gr wr wr.drew := (Gr.refl wr).drew
              refine wp_region_held_drew (S := (fun W => W.cell? ⟨vb, vo + k, none⟩ = some (.int .u64 vk) ∧ W.cell? ⟨vb, vo + i, none⟩ = some (.int .u64 y))) (by kernel_rfl) (⟨(T.cell_of_block (GD.below.block vb lv) _).trans cv, (T.cell_of_block (GD.below.block vb lv) _).trans ci⟩) (fun hHeld => ?_)
              refine wpAnyH_take (i := 0) (oi := { dst := some 99, op := Op.move (Operand.tmp 9), type := 22, pos := "keeps.go:217", after := #[], guard := none }) (v := ?_) rfl (by kernel_rfl) (by kernel_rfl) (by kernel_rfl) (fun _ _ _ h => h) (Or.inl ⟨by rfl, ?_⟩) (by assumption) ?_
              rotate_left
              · intro w hSw; (try dsimp only at hSw); go_simp; first | done | with_reducible rfl
              try simp only [Act.put, List.setIfInBounds_toArray, List.set_cons_zero, List.set_cons_succ]
              refine wpAnyH_take (i := 1) (oi := { dst := some 100, op := Op.move (Operand.tmp 13), type := 3, pos := "keeps.go:217", after := #[], guard := none }) (v := ?_) rfl (by kernel_rfl) (by kernel_rfl) (by kernel_rfl) (fun _ _ _ h => h) (Or.inl ⟨by rfl, ?_⟩) (by assumption) ?_
              rotate_left
              · intro w hSw; (try dsimp only at hSw); go_simp; first | done | with_reducible rfl
              try simp only [Act.put, List.setIfInBounds_toArray, List.set_cons_zero, List.set_cons_succ]
              refine wpAnyH_take (i := 2) (oi := { dst := some 101, op := Op.indexAddr 22 (Operand.tmp 99) (Operand.tmp 100), type := 0, pos := "keeps.go:217", after := #[{ on := 0, ground := Ground.data }, { on := 1, ground := Ground.data }], guard := none }) (v := ?_) rfl (by kernel_rfl) (by kernel_rfl) (by kernel_rfl) (fun _ _ _ h => h) (Or.inl ⟨by rfl, ?_⟩) (by assumption) ?_
              rotate_left
              · intro w hSw; (try dsimp only at hSw); go_simp; first | done | with_reducible rfl
              try simp only [Act.put, List.setIfInBounds_toArray, List.set_cons_zero, List.set_cons_succ]
              refine wpAnyH_take (i := 3) (oi := { dst := some 102, op := Op.load 24 (Operand.tmp 101), type := 24, pos := "keeps.go:217", after := #[{ on := 2, ground := Ground.data }], guard := none }) (v := ?_) rfl (by kernel_rfl) (by kernel_rfl) (by kernel_rfl) (fun _ _ _ h => h) (Or.inl ⟨by rfl, ?_⟩) (by assumption) ?_
              rotate_left
              · intro w hSw; (try dsimp only at hSw); go_simp; first | done | with_reducible rfl
              try simp only [Act.put, List.setIfInBounds_toArray, List.set_cons_zero, List.set_cons_succ]
              refine wpAnyH_take (i := 4) (oi := { dst := some 103, op := Op.move (Operand.tmp 9), type := 22, pos := "keeps.go:217", after := #[], guard := none }) (v := ?_) rfl (by kernel_rfl) (by kernel_rfl) (by kernel_rfl) (fun _ _ _ h => h) (Or.inl ⟨by rfl, ?_⟩) (by assumption) ?_
              rotate_left
              · intro w hSw; (try dsimp only at hSw); go_simp; first | done | with_reducible rfl
              try simp only [Act.put, List.setIfInBounds_toArray, List.set_cons_zero, List.set_cons_succ]
              refine wpAnyH_take (i := 5) (oi := { dst := some 104, op := Op.move (Operand.tmp 10), type := 3, pos := "keeps.go:217", after := #[], guard := none }) (v := ?_) rfl (by kernel_rfl) (by kernel_rfl) (by kernel_rfl) (fun _ _ _ h => h) (Or.inl ⟨by rfl, ?_⟩) (by assumption) ?_
              rotate_left
              · intro w hSw; (try dsimp only at hSw); go_simp; first | done | with_reducible rfl
              try simp only [Act.put, List.setIfInBounds_toArray, List.set_cons_zero, List.set_cons_succ]
              refine wpAnyH_take (i := 6) (oi := { dst := some 105, op := Op.indexAddr 22 (Operand.tmp 103) (Operand.tmp 104), type := 0, pos := "keeps.go:217", after := #[{ on := 4, ground := Ground.data }, { on := 5, ground := Ground.data }], guard := none }) (v := ?_) rfl (by kernel_rfl) (by kernel_rfl) (by kernel_rfl) (fun _ _ _ h => h) (Or.inl ⟨by rfl, ?_⟩) (by assumption) ?_
              rotate_left
              · intro w hSw; (try dsimp only at hSw); go_simp; first | done | with_reducible rfl
              try simp only [Act.put, List.setIfInBounds_toArray, List.set_cons_zero, List.set_cons_succ]
              refine wpAnyH_take (i := 7) (oi := { dst := some 106, op := Op.load 24 (Operand.tmp 105), type := 24, pos := "keeps.go:217", after := #[{ on := 6, ground := Ground.data }], guard := none }) (v := ?_) rfl (by kernel_rfl) (by kernel_rfl) (by kernel_rfl) (fun _ _ _ h => h) (Or.inl ⟨by rfl, ?_⟩) (by assumption) ?_
              rotate_left
              · intro w hSw; (try dsimp only at hSw); go_simp; first | done | with_reducible rfl
              try simp only [Act.put, List.setIfInBounds_toArray, List.set_cons_zero, List.set_cons_succ]
              refine wpAnyH_take (i := 8) (oi := { dst := some 107, op := Op.binOp BinOp.eql 24 (Operand.tmp 102) (Operand.tmp 106) 24, type := 4, pos := "keeps.go:217", after := #[{ on := 3, ground := Ground.data }, { on := 7, ground := Ground.data }], guard := none }) (v := ?_) rfl (by kernel_rfl) (by kernel_rfl) (by kernel_rfl) (fun _ _ _ h => h) (Or.inl ⟨by rfl, ?_⟩) (by assumption) ?_
              rotate_left
              · intro w hSw; (try dsimp only at hSw); go_simp; first | done | with_reducible rfl
              try simp only [Act.put, List.setIfInBounds_toArray, List.set_cons_zero, List.set_cons_succ]
              refine wpAnyH_done (by kernel_rfl) ?_ _
              clear hHeld
              replace cm := Hz.mk ((T.cell_of_block (GD.below.block mb lm) _).trans cm)
              replace ci := Hz.mk ((T.cell_of_block (GD.below.block vb lv) _).trans ci)
              replace lm : mb < wr.drew.heap.size := Nat.lt_of_lt_of_le lm GD.below.size
              replace lv : vb < wr.drew.heap.size := Nat.lt_of_lt_of_le lv GD.below.size
              have G3 := Hz.mk (G7.out.trans GD)
              clear cv GD G7
              generalize wr.drew = wd at *
              rename World => wr
              replace cm := cm.out
              replace ci := ci.out
              go_upto_region 23 with fail
              have GD : Gr wr wr.drew := (Gr.refl wr).drew
              refine wp_region_held_drew (S := (fun W => W.cell? ⟨mb, mo + k, none⟩ = some (.int .u64 mk) ∧ W.cell? ⟨vb, vo + i, none⟩ = some (.int .u64 y))) (by kernel_rfl) (⟨(T.cell_of_block (GD.below.block mb lm) _).trans cm, (T.cell_of_block (GD.below.block vb lv) _).trans ci⟩) (fun hHeld => ?_)
              refine wpAnyH_take (i := 0) (oi := { dst := some 110, op := Op.move (Operand.tmp 0), type := 22, pos := "keeps.go:220", after := #[], guard := none }) (v := ?_) rfl (by kernel_rfl) (by kernel_rfl) (by kernel_rfl) (fun _ _ _ h => h) (Or.inl ⟨by rfl, ?_⟩) (by assumption) ?_
              rotate_left
              · intro w hSw; (try dsimp only at hSw); go_simp; first | done | with_reducible rfl
              try simp only [Act.put, List.setIfInBounds_toArray, List.set_cons_zero, List.set_cons_succ]
              refine wpAnyH_take (i := 1) (oi := { dst := some 111, op := Op.move (Operand.tmp 13), type := 3, pos := "keeps.go:220", after := #[], guard := none }) (v := ?_) rfl (by kernel_rfl) (by kernel_rfl) (by kernel_rfl) (fun _ _ _ h => h) (Or.inl ⟨by rfl, ?_⟩) (by assumption) ?_
              rotate_left
              · intro w hSw; (try dsimp only at hSw); go_simp; first | done | with_reducible rfl
              try simp only [Act.put, List.setIfInBounds_toArray, List.set_cons_zero, List.set_cons_succ]
              refine wpAnyH_take (i := 2) (oi := { dst := some 112, op := Op.indexAddr 22 (Operand.tmp 110) (Operand.tmp 111), type := 0, pos := "keeps.go:220", after := #[{ on := 0, ground := Ground.data }, { on := 1, ground := Ground.data }], guard := none }) (v := ?_) rfl (by kernel_rfl) (by kernel_rfl) (by kernel_rfl) (fun _ _ _ h => h) (Or.inl ⟨by rfl, ?_⟩) (by assumption) ?_
              rotate_left
              · intro w hSw; (try dsimp only at hSw); go_simp; first | done | with_reducible rfl
              try simp only [Act.put, List.setIfInBounds_toArray, List.set_cons_zero, List.set_cons_succ]
              refine wpAnyH_take (i := 3) (oi := { dst := some 113, op := Op.load 24 (Operand.tmp 112), type := 24, pos := "keeps.go:220", after := #[{ on := 2, ground := Ground.data }], guard := none }) (v := ?_) rfl (by kernel_rfl) (by kernel_rfl) (by kernel_rfl) (fun _ _ _ h => h) (Or.inl ⟨by rfl, ?_⟩) (by assumption) ?_
              rotate_left
              · intro w hSw; (try dsimp only at hSw); go_simp; first | done | with_reducible rfl
              try simp only [Act.put, List.setIfInBounds_toArray, List.set_cons_zero, List.set_cons_succ]
              refine wpAnyH_take (i := 4) (oi := { dst := some 114, op := Op.move (Operand.tmp 9), type := 22, pos := "keeps.go:220", after := #[], guard := none }) (v := ?_) rfl (by kernel_rfl) (by kernel_rfl) (by kernel_rfl) (fun _ _ _ h => h) (Or.inl ⟨by rfl, ?_⟩) (by assumption) ?_
              rotate_left
              · intro w hSw; (try dsimp only at hSw); go_simp; first | done | with_reducible rfl
              try simp only [Act.put, List.setIfInBounds_toArray, List.set_cons_zero, List.set_cons_succ]
              refine wpAnyH_take (i := 5) (oi := { dst := some 115, op := Op.move (Operand.tmp 10), type := 3, pos := "keeps.go:220", after := #[], guard := none }) (v := ?_) rfl (by kernel_rfl) (by kernel_rfl) (by kernel_rfl) (fun _ _ _ h => h) (Or.inl ⟨by rfl, ?_⟩) (by assumption) ?_
              rotate_left
              · intro w hSw; (try dsimp only at hSw); go_simp; first | done | with_reducible rfl
              try simp only [Act.put, List.setIfInBounds_toArray, List.set_cons_zero, List.set_cons_succ]
              refine wpAnyH_take (i := 6) (oi := { dst := some 116, op := Op.indexAddr 22 (Operand.tmp 114) (Operand.tmp 115), type := 0, pos := "keeps.go:220", after := #[{ on := 4, ground := Ground.data }, { on := 5, ground := Ground.data }], guard := none }) (v := ?_) rfl (by kernel_rfl) (by kernel_rfl) (by kernel_rfl) (fun _ _ _ h => h) (Or.inl ⟨by rfl, ?_⟩) (by assumption) ?_
              rotate_left
              · intro w hSw; (try dsimp only at hSw); go_simp; first | done | with_reducible rfl
              try simp only [Act.put, List.setIfInBounds_toArray, List.set_cons_zero, List.set_cons_succ]
              refine wpAnyH_take (i := 7) (oi := { dst := some 117, op := Op.load 24 (Operand.tmp 116), type := 24, pos := "keeps.go:220", after := #[{ on := 6, ground := Ground.data }], guard := none }) (v := ?_) rfl (by kernel_rfl) (by kernel_rfl) (by kernel_rfl) (fun _ _ _ h => h) (Or.inl ⟨by rfl, ?_⟩) (by assumption) ?_
              rotate_left
              · intro w hSw; (try dsimp only at hSw); go_simp; first | done | with_reducible rfl
              try simp only [Act.put, List.setIfInBounds_toArray, List.set_cons_zero, List.set_cons_succ]
              refine wpAnyH_take (i := 8) (oi := { dst := some 118, op := Op.binOp BinOp.eql 24 (Operand.tmp 113) (Operand.tmp 117) 24, type := 4, pos := "keeps.go:220", after := #[{ on := 3, ground := Ground.data }, { on := 7, ground := Ground.data }], guard := none }) (v := ?_) rfl (by kernel_rfl) (by kernel_rfl) (by kernel_rfl) (fun _ _ _ h => h) (Or.inl ⟨by rfl, ?_⟩) (by assumption) ?_
              rotate_left
              · intro w hSw; (try dsimp only at hSw); go_simp; first | done | with_reducible rfl
              try simp only [Act.put, List.setIfInBounds_toArray, List.set_cons_zero, List.set_cons_succ]
              refine wpAnyH_done (by kernel_rfl) ?_ _
              clear hHeld
              replace G3 := Hz.mk (G3.out.trans GD)
              clear GD cm ci lm lv
              go_wp2_with fail
              refine And.intro (Exists.intro (k + 1) ⟨cw_no V y k hkV he1.out, cw_no M y k hkM he2.out, kw_next k, hk, G3⟩) ?_
              exact kw_meas _ k hk
        · have hki : ¬ (k : Int) < (10 : Int) := by omega
          have hkN : k = V.length := by rw [hVl.out]; omega
          have hcc : cE M y k = cE V y k := by rw [hkN]; exact (cE_all hpm.out y).symm
          rw [hcc]
          clear hcc hkN
          obtain ⟨lv, ci⟩ := hVc.out.gr G7.out i hiV
          rw [hy.out] at ci
          have hi2 : i ≤ 100 := by have := hl10.out; omega
          by_cases h0 : i = 0
          · have hz : ¬ (0 : Int) < (i : Int) := by omega
            have hz2 : ¬ 0 < i := by omega
            clear h0
            go_upto_region 25 with fail
            have GD : Gr wr wr.drew := (Gr.refl wr).drew
            refine wp_region_held_drew (S := (fun W => W.cell? ⟨vb, vo + i, none⟩ = some (.int .u64 y) ∧ W.cell? ⟨vb, vo + i, none⟩ = some (.int .u64 y))) (by kernel_rfl) (⟨(T.cell_of_block (GD.below.block vb lv) _).trans ci, (T.cell_of_block (GD.below.block vb lv) _).trans ci⟩) (fun hHeld => ?_)
            refine wpAnyH_take (i := 0) (oi := { dst := some 121, op := Op.move (Operand.tmp 11), type := 3, pos := "keeps.go:224", after := #[], guard := none }) (v := ?_) rfl (by kernel_rfl) (by kernel_rfl) (by kernel_rfl) (fun _ _ _ h => h) (Or.inl ⟨by rfl, ?_⟩) (by assumption) ?_
            rotate_left
            · intro w hSw; (try dsimp only at hSw); go_simp; first | done | with_reducible rfl
            try simp only [Act.put, List.setIfInBounds_toArray, List.set_cons_zero, List.set_cons_succ]
            refine wpAnyH_take (i := 1) (oi := { dst := some 122, op := Op.move (Operand.tmp 12), type := 3, pos := "keeps.go:224", after := #[], guard := none }) (v := ?_) rfl (by kernel_rfl) (by kernel_rfl) (by kernel_rfl) (fun _ _ _ h => h) (Or.inl ⟨by rfl, ?_⟩) (by assumption) ?_
            rotate_left
            · intro w hSw; (try dsimp only at hSw); go_simp; first | done | with_reducible rfl
            try simp only [Act.put, List.setIfInBounds_toArray, List.set_cons_zero, List.set_cons_succ]
            refine wpAnyH_take (i := 2) (oi := { dst := some 123, op := Op.binOp BinOp.neq 3 (Operand.tmp 121) (Operand.tmp 122) 3, type := 4, pos := "keeps.go:224", after := #[{ on := 0, ground := Ground.data }, { on := 1, ground := Ground.data }], guard := none }) (v := ?_) rfl (by kernel_rfl) (by kernel_rfl) (by kernel_rfl) (fun _ _ _ h => h) (Or.inl ⟨by rfl, ?_⟩) (by assumption) ?_
            rotate_left
            · intro w hSw; (try dsimp only at hSw); go_simp; first | done | with_reducible rfl
            try simp only [Act.put, List.setIfInBounds_toArray, List.set_cons_zero, List.set_cons_succ]
            refine wpAnyH_take (i := 3) (oi := { dst := some 124, op := Op.move (Operand.tmp 123), type := 4, pos := "keeps.go:224", after := #[{ on := 2, ground := Ground.data }], guard := none }) (v := ?_) rfl (by kernel_rfl) (by kernel_rfl) (by kernel_rfl) (fun _ _ _ h => h) (Or.inl ⟨by rfl, ?_⟩) (by assumption) ?_
            rotate_left
            · intro w hSw; (try dsimp only at hSw); go_simp; first | done | with_reducible rfl
            try simp only [Act.put, List.setIfInBounds_toArray, List.set_cons_zero, List.set_cons_succ]
            refine wpAnyH_take (i := 4) (oi := { dst := some 125, op := Op.move (Operand.tmp 10), type := 3, pos := "keeps.go:224", after := #[{ on := 3, ground := Ground.guard }], guard := some (3, false) }) (v := ?_) rfl (by kernel_rfl) (by kernel_rfl) (by kernel_rfl) (fun _ _ _ h => h) (Or.inl ⟨by rfl, ?_⟩) (by assumption) ?_
            rotate_left
            · intro w hSw; (try dsimp only at hSw); go_simp; first | done | with_reducible rfl
            try simp only [Act.put, List.setIfInBounds_toArray, List.set_cons_zero, List.set_cons_succ]
            refine wpAnyH_take (i := 5) (oi := { dst := some 126, op := Op.binOp BinOp.gtr 3 (Operand.tmp 125) (Operand.const (Value.int IntKind.i64 0)) 3, type := 4, pos := "keeps.go:224", after := #[{ on := 4, ground := Ground.data }, { on := 3, ground := Ground.guard }], guard := some (3, false) }) (v := .bool false) rfl (by kernel_rfl) (by kernel_rfl) (by kernel_rfl) (fun _ _ _ h => h) (Or.inl ⟨by rfl, ?_⟩) (by assumption) ?_
            · intro w hSw; (try dsimp only at hSw); go_simp; first | done | (simp [hz2])
            try simp only [Act.put, List.setIfInBounds_toArray, List.set_cons_zero, List.set_cons_succ]
            refine wpAnyH_take (i := 6) (oi := { dst := some 127, op := Op.move (Operand.tmp 126), type := 4, pos := "keeps.go:224", after := #[{ on := 5, ground := Ground.data }, { on := 3, ground := Ground.chain }, { on := 3, ground := Ground.guard }], guard := some (3, false) }) (v := ?_) rfl (by kernel_rfl) (by kernel_rfl) (by kernel_rfl) (fun _ _ _ h => h) (Or.inl ⟨by rfl, ?_⟩) (by assumption) ?_
            rotate_left
            · intro w hSw; (try dsimp only at hSw); go_simp; first | done | with_reducible rfl
            try simp only [Act.put, List.setIfInBounds_toArray, List.set_cons_zero, List.set_cons_succ]
            refine wpAnyH_take (i := 7) (oi := { dst := some 128, op := Op.move (Operand.tmp 9), type := 22, pos := "keeps.go:224", after := #[{ on := 6, ground := Ground.guard }], guard := some (6, true) }) (v := undef) rfl (by kernel_rfl) (by kernel_rfl) (by kernel_rfl) (fun _ _ _ h => h) (Or.inr ⟨by rfl, rfl⟩) (by assumption) ?_
            try simp only [Act.put, List.setIfInBounds_toArray, List.set_cons_zero, List.set_cons_succ]
            refine wpAnyH_take (i := 8) (oi := { dst := some 129, op := Op.move (Operand.tmp 10), type := 3, pos := "keeps.go:224", after := #[{ on := 6, ground := Ground.guard }], guard := some (6, true) }) (v := undef) rfl (by kernel_rfl) (by kernel_rfl) (by kernel_rfl) (fun _ _ _ h => h) (Or.inr ⟨by rfl, rfl⟩) (by assumption) ?_
            try simp only [Act.put, List.setIfInBounds_toArray, List.set_cons_zero, List.set_cons_succ]
            refine wpAnyH_take (i := 9) (oi := { dst := some 130, op := Op.binOp BinOp.sub 3 (Operand.tmp 129) (Operand.const (Value.int IntKind.i64 1)) 3, type := 3, pos := "keeps.go:224", after := #[{ on := 8, ground := Ground.data }, { on := 6, ground := Ground.guard }], guard := some (6, true) }) (v := undef) rfl (by kernel_rfl) (by kernel_rfl) (by kernel_rfl) (fun _ _ _ h => h) (Or.inr ⟨by rfl, rfl⟩) (by assumption) ?_
            try simp only [Act.put, List.setIfInBounds_toArray, List.set_cons_zero, List.set_cons_succ]
            refine wpAnyH_take (i := 10) (oi := { dst := some 131, op := Op.indexAddr 22 (Operand.tmp 128) (Operand.tmp 130), type := 0, pos := "keeps.go:224", after := #[{ on := 7, ground := Ground.data }, { on := 9, ground := Ground.data }, { on := 6, ground := Ground.guard }], guard := some (6, true) }) (v := undef) rfl (by kernel_rfl) (by kernel_rfl) (by kernel_rfl) (fun _ _ _ h => h) (Or.inr ⟨by rfl, rfl⟩) (by assumption) ?_
            try simp only [Act.put, List.setIfInBounds_toArray, List.set_cons_zero, List.set_cons_succ]
            refine wpAnyH_take (i := 11) (oi := { dst := some 132, op := Op.load 24 (Operand.tmp 131), type := 24, pos := "keeps.go:224", after := #[{ on := 10, ground := Ground.data }, { on := 6, ground := Ground.guard }], guard := some (6, true) }) (v := undef) rfl (by kernel_rfl) (by kernel_rfl) (by kernel_rfl) (fun _ _ _ h => h) (Or.inr ⟨by rfl, rfl⟩) (by assumption) ?_
            try simp only [Act.put, List.setIfInBounds_toArray, List.set_cons_zero, List.set_cons_succ]
            refine wpAnyH_take (i := 12) (oi := { dst := some 133, op := Op.move (Operand.tmp 9), type := 22, pos := "keeps.go:224", after := #[{ on := 6, ground := Ground.guard }], guard := some (6, true) }) (v := undef) rfl (by kernel_rfl) (by kernel_rfl) (by kernel_rfl) (fun _ _ _ h => h) (Or.inr ⟨by rfl, rfl⟩) (by assumption) ?_
            try simp only [Act.put, List.setIfInBounds_toArray, List.set_cons_zero, List.set_cons_succ]
            refine wpAnyH_take (i := 13) (oi := { dst := some 134, op := Op.move (Operand.tmp 10), type := 3, pos := "keeps.go:224", after := #[{ on := 6, ground := Ground.guard }], guard := some (6, true) }) (v := undef) rfl (by kernel_rfl) (by kernel_rfl) (by kernel_rfl) (fun _ _ _ h => h) (Or.inr ⟨by rfl, rfl⟩) (by assumption) ?_
            try simp only [Act.put, List.setIfInBounds_toArray, List.set_cons_zero, List.set_cons_succ]
            refine wpAnyH_take (i := 14) (oi := { dst := some 135, op := Op.indexAddr 22 (Operand.tmp 133) (Operand.tmp 134), type := 0, pos := "keeps.go:224", after := #[{ on := 12, ground := Ground.data }, { on := 13, ground := Ground.data }, { on := 6, ground := Ground.guard }], guard := some (6, true) }) (v := undef) rfl (by kernel_rfl) (by kernel_rfl) (by kernel_rfl) (fun _ _ _ h => h) (Or.inr ⟨by rfl, rfl⟩) (by assumption) ?_
            try simp only [Act.put, List.setIfInBounds_toArray, List.set_cons_zero, List.set_cons_succ]
            refine wpAnyH_take (i := 15) (oi := { dst := some 136, op := Op.load 24 (Operand.tmp 135), type := 24, pos := "keeps.go:224", after := #[{ on := 14, ground := Ground.data }, { on := 6, ground := Ground.guard }], guard := some (6, true) }) (v := undef) rfl (by kernel_rfl) (by kernel_rfl) (by kernel_rfl) (fun _ _ _ h => h) (Or.inr ⟨by rfl, rfl⟩) (by assumption) ?_
            try simp only [Act.put, List.setIfInBounds_toArray, List.set_cons_zero, List.set_cons_succ]
            refine wpAnyH_take (i := 16) (oi := { dst := some 137, op := Op.binOp BinOp.gtr 24 (Operand.tmp 132) (Operand.tmp 136) 24, type := 4, pos := "keeps.go:224", after := #[{ on := 11, ground := Ground.data }, { on := 15, ground := Ground.data }, { on := 6, ground := Ground.guard }], guard := some (6, true) }) (v := undef) rfl (by kernel_rfl) (by kernel_rfl) (by kernel_rfl) (fun _ _ _ h => h) (Or.inr ⟨by rfl, rfl⟩) (by assumption) ?_
            try simp only [Act.put, List.setIfInBounds_toArray, List.set_cons_zero, List.set_cons_succ]
            refine wpAnyH_take (i := 17) (oi := { dst := some 138, op := Op.pick (Operand.tmp 127) (Operand.tmp 137) (Operand.const (Value.bool false)), type := 4, pos := "keeps.go:224", after := #[{ on := 6, ground := Ground.data }, { on := 16, ground := Ground.data }, { on := 3, ground := Ground.guard }], guard := some (3, false) }) (v := ?_) rfl (by kernel_rfl) (by kernel_rfl) (by kernel_rfl) (fun _ _ _ h => h) (Or.inl ⟨by rfl, ?_⟩) (by assumption) ?_
            rotate_left
            · intro w hSw; (try dsimp only at hSw); go_simp; first | done | with_reducible rfl
            try simp only [Act.put, List.setIfInBounds_toArray, List.set_cons_zero, List.set_cons_succ]
            refine wpAnyH_take (i := 18) (oi := { dst := some 139, op := Op.pick (Operand.tmp 124) (Operand.const (Value.bool true)) (Operand.tmp 138), type := 4, pos := "keeps.go:224", after := #[{ on := 3, ground := Ground.data }, { on := 17, ground := Ground.data }], guard := none }) (v := ?_) rfl (by kernel_rfl) (by kernel_rfl) (by kernel_rfl) (fun _ _ _ h => h) (Or.inl ⟨by rfl, ?_⟩) (by assumption) ?_
            rotate_left
            · intro w hSw; (try dsimp only at hSw); go_simp; first | done | with_reducible rfl
            try simp only [Act.put, List.setIfInBounds_toArray, List.set_cons_zero, List.set_cons_succ]
            refine wpAnyH_done (by kernel_rfl) ?_ _
            clear hHeld
            replace G7 := Hz.mk (G7.out.trans GD)
            clear GD ci lv
            go_wp2_with fail
            refine And.intro (Exists.intro (i + 1) ⟨kw_next i, hi1, G7⟩) ?_
            exact kw_meas _ i hi1
          · have hz : (0 : Int) < (i : Int) := by omega
            have hz2 : 0 < i := by omega
            obtain ⟨p, hp⟩ : ∃ p, i = p + 1 := ⟨i - 1, by omega⟩
            have hpV : p < V.length := by omega
            have hpN : (p : Int) < (10 : Int) := by omega
            have hpw := kw_pred i p hp (by omega)
            obtain ⟨-, cp⟩ := hVc.out.gr G7.out p hpV
            obtain ⟨vp, hvp⟩ : ∃ v, V[p] = v := ⟨_, rfl⟩
            have hle : ¬ y < vp := by
              have q := hsr.out p (by omega)
              have e : V[p + 1]'(by omega) = y := by rw [← hy.out]; congr 1; exact hp.symm
              rw [e, hvp] at q
              omega
            have hle2 : decide (y < vp) = false := decide_eq_false hle
            have hp0 : (0 : Int) ≤ (p : Int) := Int.natCast_nonneg p
            rw [hvp] at cp
            clear hvp h0 hp
            go_upto_region 25 with fail
            have GD : Gr wr wr.drew := (Gr.refl wr).drew
            refine wp_region_held_drew (S := (fun W => W.cell? ⟨vb, vo + p, none⟩ = some (.int .u64 vp) ∧ W.cell? ⟨vb, vo + i, none⟩ = some (.int .u64 y))) (by kernel_rfl) (⟨(T.cell_of_block (GD.below.block vb lv) _).trans cp, (T.cell_of_block (GD.below.block vb lv) _).trans ci⟩) (fun hHeld => ?_)
            refine wpAnyH_take (i := 0) (oi := { dst := some 121, op := Op.move (Operand.tmp 11), type := 3, pos := "keeps.go:224", after := #[], guard := none }) (v := ?_) rfl (by kernel_rfl) (by kernel_rfl) (by kernel_rfl) (fun _ _ _ h => h) (Or.inl ⟨by rfl, ?_⟩) (by assumption) ?_
            rotate_left
            · intro w hSw; (try dsimp only at hSw); go_simp; first | done | with_reducible rfl
            try simp only [Act.put, List.setIfInBounds_toArray, List.set_cons_zero, List.set_cons_succ]
            refine wpAnyH_take (i := 1) (oi := { dst := some 122, op := Op.move (Operand.tmp 12), type := 3, pos := "keeps.go:224", after := #[], guard := none }) (v := ?_) rfl (by kernel_rfl) (by kernel_rfl) (by kernel_rfl) (fun _ _ _ h => h) (Or.inl ⟨by rfl, ?_⟩) (by assumption) ?_
            rotate_left
            · intro w hSw; (try dsimp only at hSw); go_simp; first | done | with_reducible rfl
            try simp only [Act.put, List.setIfInBounds_toArray, List.set_cons_zero, List.set_cons_succ]
            refine wpAnyH_take (i := 2) (oi := { dst := some 123, op := Op.binOp BinOp.neq 3 (Operand.tmp 121) (Operand.tmp 122) 3, type := 4, pos := "keeps.go:224", after := #[{ on := 0, ground := Ground.data }, { on := 1, ground := Ground.data }], guard := none }) (v := ?_) rfl (by kernel_rfl) (by kernel_rfl) (by kernel_rfl) (fun _ _ _ h => h) (Or.inl ⟨by rfl, ?_⟩) (by assumption) ?_
            rotate_left
            · intro w hSw; (try dsimp only at hSw); go_simp; first | done | with_reducible rfl
            try simp only [Act.put, List.setIfInBounds_toArray, List.set_cons_zero, List.set_cons_succ]
            refine wpAnyH_take (i := 3) (oi := { dst := some 124, op := Op.move (Operand.tmp 123), type := 4, pos := "keeps.go:224", after := #[{ on := 2, ground := Ground.data }], guard := none }) (v := ?_) rfl (by kernel_rfl) (by kernel_rfl) (by kernel_rfl) (fun _ _ _ h => h) (Or.inl ⟨by rfl, ?_⟩) (by assumption) ?_
            rotate_left
            · intro w hSw; (try dsimp only at hSw); go_simp; first | done | with_reducible rfl
            try simp only [Act.put, List.setIfInBounds_toArray, List.set_cons_zero, List.set_cons_succ]
            refine wpAnyH_take (i := 4) (oi := { dst := some 125, op := Op.move (Operand.tmp 10), type := 3, pos := "keeps.go:224", after := #[{ on := 3, ground := Ground.guard }], guard := some (3, false) }) (v := ?_) rfl (by kernel_rfl) (by kernel_rfl) (by kernel_rfl) (fun _ _ _ h => h) (Or.inl ⟨by rfl, ?_⟩) (by assumption) ?_
            rotate_left
            · intro w hSw; (try dsimp only at hSw); go_simp; first | done | with_reducible rfl
            try simp only [Act.put, List.setIfInBounds_toArray, List.set_cons_zero, List.set_cons_succ]
            refine wpAnyH_take (i := 5) (oi := { dst := some 126, op := Op.binOp BinOp.gtr 3 (Operand.tmp 125) (Operand.const (Value.int IntKind.i64 0)) 3, type := 4, pos := "keeps.go:224", after := #[{ on := 4, ground := Ground.data }, { on := 3, ground := Ground.guard }], guard := some (3, false) }) (v := .bool true) rfl (by kernel_rfl) (by kernel_rfl) (by kernel_rfl) (fun _ _ _ h => h) (Or.inl ⟨by rfl, ?_⟩) (by assumption) ?_
            · intro w hSw; (try dsimp only at hSw); go_simp; first | done | (simp [hz2])
            try simp only [Act.put, List.setIfInBounds_toArray, List.set_cons_zero, List.set_cons_succ]
            refine wpAnyH_take (i := 6) (oi := { dst := some 127, op := Op.move (Operand.tmp 126), type := 4, pos := "keeps.go:224", after := #[{ on := 5, ground := Ground.data }, { on := 3, ground := Ground.chain }, { on := 3, ground := Ground.guard }], guard := some (3, false) }) (v := ?_) rfl (by kernel_rfl) (by kernel_rfl) (by kernel_rfl) (fun _ _ _ h => h) (Or.inl ⟨by rfl, ?_⟩) (by assumption) ?_
            rotate_left
            · intro w hSw; (try dsimp only at hSw); go_simp; first | done | with_reducible rfl
            try simp only [Act.put, List.setIfInBounds_toArray, List.set_cons_zero, List.set_cons_succ]
            refine wpAnyH_take (i := 7) (oi := { dst := some 128, op := Op.move (Operand.tmp 9), type := 22, pos := "keeps.go:224", after := #[{ on := 6, ground := Ground.guard }], guard := some (6, true) }) (v := ?_) rfl (by kernel_rfl) (by kernel_rfl) (by kernel_rfl) (fun _ _ _ h => h) (Or.inl ⟨by rfl, ?_⟩) (by assumption) ?_
            rotate_left
            · intro w hSw; (try dsimp only at hSw); go_simp; first | done | with_reducible rfl
            try simp only [Act.put, List.setIfInBounds_toArray, List.set_cons_zero, List.set_cons_succ]
            refine wpAnyH_take (i := 8) (oi := { dst := some 129, op := Op.move (Operand.tmp 10), type := 3, pos := "keeps.go:224", after := #[{ on := 6, ground := Ground.guard }], guard := some (6, true) }) (v := ?_) rfl (by kernel_rfl) (by kernel_rfl) (by kernel_rfl) (fun _ _ _ h => h) (Or.inl ⟨by rfl, ?_⟩) (by assumption) ?_
            rotate_left
            · intro w hSw; (try dsimp only at hSw); go_simp; first | done | with_reducible rfl
            try simp only [Act.put, List.setIfInBounds_toArray, List.set_cons_zero, List.set_cons_succ]
            refine wpAnyH_take (i := 9) (oi := { dst := some 130, op := Op.binOp BinOp.sub 3 (Operand.tmp 129) (Operand.const (Value.int IntKind.i64 1)) 3, type := 3, pos := "keeps.go:224", after := #[{ on := 8, ground := Ground.data }, { on := 6, ground := Ground.guard }], guard := some (6, true) }) (v := .int .i64 (p : Int)) rfl (by kernel_rfl) (by kernel_rfl) (by kernel_rfl) (fun _ _ _ h => h) (Or.inl ⟨by rfl, ?_⟩) (by assumption) ?_
            · intro w hSw; (try dsimp only at hSw); go_simp; first | done | (rw [hpw])
            try simp only [Act.put, List.setIfInBounds_toArray, List.set_cons_zero, List.set_cons_succ]
            refine wpAnyH_take (i := 10) (oi := { dst := some 131, op := Op.indexAddr 22 (Operand.tmp 128) (Operand.tmp 130), type := 0, pos := "keeps.go:224", after := #[{ on := 7, ground := Ground.data }, { on := 9, ground := Ground.data }, { on := 6, ground := Ground.guard }], guard := some (6, true) }) (v := ?_) rfl (by kernel_rfl) (by kernel_rfl) (by kernel_rfl) (fun _ _ _ h => h) (Or.inl ⟨by rfl, ?_⟩) (by assumption) ?_
            rotate_left
            · intro w hSw; (try dsimp only at hSw); go_simp; first | done | with_reducible rfl
            try simp only [Act.put, List.setIfInBounds_toArray, List.set_cons_zero, List.set_cons_succ]
            refine wpAnyH_take (i := 11) (oi := { dst := some 132, op := Op.load 24 (Operand.tmp 131), type := 24, pos := "keeps.go:224", after := #[{ on := 10, ground := Ground.data }, { on := 6, ground := Ground.guard }], guard := some (6, true) }) (v := ?_) rfl (by kernel_rfl) (by kernel_rfl) (by kernel_rfl) (fun _ _ _ h => h) (Or.inl ⟨by rfl, ?_⟩) (by assumption) ?_
            rotate_left
            · intro w hSw; (try dsimp only at hSw); go_simp; first | done | with_reducible rfl
            try simp only [Act.put, List.setIfInBounds_toArray, List.set_cons_zero, List.set_cons_succ]
            refine wpAnyH_take (i := 12) (oi := { dst := some 133, op := Op.move (Operand.tmp 9), type := 22, pos := "keeps.go:224", after := #[{ on := 6, ground := Ground.guard }], guard := some (6, true) }) (v := ?_) rfl (by kernel_rfl) (by kernel_rfl) (by kernel_rfl) (fun _ _ _ h => h) (Or.inl ⟨by rfl, ?_⟩) (by assumption) ?_
            rotate_left
            · intro w hSw; (try dsimp only at hSw); go_simp; first | done | with_reducible rfl
            try simp only [Act.put, List.setIfInBounds_toArray, List.set_cons_zero, List.set_cons_succ]
            refine wpAnyH_take (i := 13) (oi := { dst := some 134, op := Op.move (Operand.tmp 10), type := 3, pos := "keeps.go:224", after := #[{ on := 6, ground := Ground.guard }], guard := some (6, true) }) (v := ?_) rfl (by kernel_rfl) (by kernel_rfl) (by kernel_rfl) (fun _ _ _ h => h) (Or.inl ⟨by rfl, ?_⟩) (by assumption) ?_
            rotate_left
            · intro w hSw; (try dsimp only at hSw); go_simp; first | done | with_reducible rfl
            try simp only [Act.put, List.setIfInBounds_toArray, List.set_cons_zero, List.set_cons_succ]
            refine wpAnyH_take (i := 14) (oi := { dst := some 135, op := Op.indexAddr 22 (Operand.tmp 133) (Operand.tmp 134), type := 0, pos := "keeps.go:224", after := #[{ on := 12, ground := Ground.data }, { on := 13, ground := Ground.data }, { on := 6, ground := Ground.guard }], guard := some (6, true) }) (v := ?_) rfl (by kernel_rfl) (by kernel_rfl) (by kernel_rfl) (fun _ _ _ h => h) (Or.inl ⟨by rfl, ?_⟩) (by assumption) ?_
            rotate_left
            · intro w hSw; (try dsimp only at hSw); go_simp; first | done | with_reducible rfl
            try simp only [Act.put, List.setIfInBounds_toArray, List.set_cons_zero, List.set_cons_succ]
            refine wpAnyH_take (i := 15) (oi := { dst := some 136, op := Op.load 24 (Operand.tmp 135), type := 24, pos := "keeps.go:224", after := #[{ on := 14, ground := Ground.data }, { on := 6, ground := Ground.guard }], guard := some (6, true) }) (v := ?_) rfl (by kernel_rfl) (by kernel_rfl) (by kernel_rfl) (fun _ _ _ h => h) (Or.inl ⟨by rfl, ?_⟩) (by assumption) ?_
            rotate_left
            · intro w hSw; (try dsimp only at hSw); go_simp; first | done | with_reducible rfl
            try simp only [Act.put, List.setIfInBounds_toArray, List.set_cons_zero, List.set_cons_succ]
            refine wpAnyH_take (i := 16) (oi := { dst := some 137, op := Op.binOp BinOp.gtr 24 (Operand.tmp 132) (Operand.tmp 136) 24, type := 4, pos := "keeps.go:224", after := #[{ on := 11, ground := Ground.data }, { on := 15, ground := Ground.data }, { on := 6, ground := Ground.guard }], guard := some (6, true) }) (v := .bool false) rfl (by kernel_rfl) (by kernel_rfl) (by kernel_rfl) (fun _ _ _ h => h) (Or.inl ⟨by rfl, ?_⟩) (by assumption) ?_
            · intro w hSw; (try dsimp only at hSw); go_simp; first | done | (simp [hle])
            try simp only [Act.put, List.setIfInBounds_toArray, List.set_cons_zero, List.set_cons_succ]
            refine wpAnyH_take (i := 17) (oi := { dst := some 138, op := Op.pick (Operand.tmp 127) (Operand.tmp 137) (Operand.const (Value.bool false)), type := 4, pos := "keeps.go:224", after := #[{ on := 6, ground := Ground.data }, { on := 16, ground := Ground.data }, { on := 3, ground := Ground.guard }], guard := some (3, false) }) (v := ?_) rfl (by kernel_rfl) (by kernel_rfl) (by kernel_rfl) (fun _ _ _ h => h) (Or.inl ⟨by rfl, ?_⟩) (by assumption) ?_
            rotate_left
            · intro w hSw; (try dsimp only at hSw); go_simp; first | done | with_reducible rfl
            try simp only [Act.put, List.setIfInBounds_toArray, List.set_cons_zero, List.set_cons_succ]
            refine wpAnyH_take (i := 18) (oi := { dst := some 139, op := Op.pick (Operand.tmp 124) (Operand.const (Value.bool true)) (Operand.tmp 138), type := 4, pos := "keeps.go:224", after := #[{ on := 3, ground := Ground.data }, { on := 17, ground := Ground.data }], guard := none }) (v := ?_) rfl (by kernel_rfl) (by kernel_rfl) (by kernel_rfl) (fun _ _ _ h => h) (Or.inl ⟨by rfl, ?_⟩) (by assumption) ?_
            rotate_left
            · intro w hSw; (try dsimp only at hSw); go_simp; first | done | with_reducible rfl
            try simp only [Act.put, List.setIfInBounds_toArray, List.set_cons_zero, List.set_cons_succ]
            refine wpAnyH_done (by kernel_rfl) ?_ _
            clear hHeld
            replace G7 := Hz.mk (G7.out.trans GD)
            clear GD ci lv
            go_wp2_with fail
            refine And.intro (Exists.intro (i + 1) ⟨kw_next i, hi1, G7⟩) ?_
            exact kw_meas _ i hi1
    · have hii : ¬ (i : Int) < (10 : Int) := by omega
      have hend : Hz (Below w.heap.size w wr) := Hz.mk (G.out.trans (G7.out.below.mono G.out.size))
      go_wp2_with fail
      go_ret
      exact ⟨rfl, hend.out⟩
theorem walk_FastvmSort (L : List Int) (sa : Option Addr) (sc : Nat) (w : World) (hI : InL w sa sc L) (hw : ∀ x ∈ L, Wd x) (hc : ∀ a, sa = some a → L.length ≤ sc) :
    Calls Try.prog 3 #[.slice sa L.length sc] w fun x w' => x = .returned (.bool true) ∧ Below w.heap.size w w' := by
  by_cases hl : L.length ≤ 10
  · exact walk_short L sa sc w hI hw hl
  · rcases hI with ⟨_, h2, _⟩ | ⟨b, off, h1, h2, h3⟩
    · rw [h2] at hl
      exact absurd (Nat.zero_le 10) hl
    · subst h1
      have hm : (L.take 10).length = 10 := by rw [List.length_take]; omega
      refine walk_long (L.take 10) b off L.length sc w (.inr ⟨b, off, rfl, h2, fun i hi => ?_⟩) (fun x hx => hw x (List.mem_of_mem_take hx)) hm (by omega) (hc _ rfl)
      rw [h3 i (by omega), List.getElem_take]
end Z
end Go.Proofs.Ytimiofkiadlnbaa
