import Derived.Test.YtcljibdikhpnlaaDoorQWr
import Derived.Test.YtcljibdikhpnlaaDoorQOver
/-
  Programs whose owner writes over them: mark, over.
-/
namespace Go.Proofs.YtcljibdikhpnlaaDoor
namespace Q
open Go.RowKit

/-- The block of one of a program's three rows. -/
def IsHd (nr nc ng kr kc kg b : Nat) : Prop := (0 < nr ∧ b = kr) ∨ (0 < nc ∧ b = kc) ∨ (0 < ng ∧ b = kg)
/-- A program's rows, and of each list within what 'L' says. -/
structure Hdr (L : TypeId → Nat → Option Addr → Nat → Nat → Prop) (lo hi kr kc kg : Nat) (W : World) (ra ca ga : Option Addr) (nr nc ng : Nat) : Prop where
  r : ∀ i, i < nr → ra = some ⟨kr, 0, none⟩ ∧ ∃ a n c, W.cell? ⟨kr, i * 4 + 1 + 1 + 1, none⟩ = some (.slice a n c) ∧ L 69 8 a n c
  c : ∀ i, i < nc → ca = some ⟨kc, 0, none⟩ ∧ ∃ a n c a' n' c', W.cell? ⟨kc, i * 2, none⟩ = some (.slice a n c) ∧ L 71 6 a n c ∧ W.cell? ⟨kc, i * 2 + 1, none⟩ = some (.slice a' n' c') ∧ L 74 5 a' n' c'
  g : ∀ i, i < ng → ga = some ⟨kg, 0, none⟩ ∧ ∃ a n c a' n' c', W.cell? ⟨kg, i * 4 + 1 + 1, none⟩ = some (.slice a n c) ∧ L 67 7 a n c ∧ W.cell? ⟨kg, i * 4 + 1 + 1 + 1, none⟩ = some (.slice a' n' c') ∧ L 67 7 a' n' c'
  hr : 0 < nr → lo ≤ kr ∧ kr < hi ∧ W.there kr 0 (nr * 4)
  hc : 0 < nc → lo ≤ kc ∧ kc < hi ∧ W.there kc 0 (nc * 2)
  hg : 0 < ng → lo ≤ kg ∧ kg < hi ∧ W.there kg 0 (ng * 4)
  n1 : 0 < nr → 0 < nc → kr ≠ kc
  n2 : 0 < nr → 0 < ng → kr ≠ kg
  n3 : 0 < nc → 0 < ng → kc ≠ kg
/-- A list that may be written: none, or all of it there, in no row of the program's. -/
def Lw (lo hi : Nat) (N : Nat → Prop) (W : World) (_ : TypeId) (size : Nat) (a : Option Addr) (n _ : Nat) : Prop := n ≤ 281474976710648 ∧ (0 < n → ∃ g, a = some ⟨g, 0, none⟩ ∧ lo ≤ g ∧ g < hi ∧ ¬ N g ∧ W.there g 0 (n * size))
set_option maxRecDepth 100000 in
set_option maxHeartbeats 2000000 in
theorem markW_any (lo hi : Nat) (H : Nat → Nat → Prop) (W0 w : World) (a : Option Addr) (n cap : Nat) (h : Wr lo hi H W0 w) (hb : 0 < n → ∃ g, a = some ⟨g, 0, none⟩ ∧ (lo ≤ g ∧ g < hi ∨ W0.heap.size ≤ g) ∧ (∀ o, ¬ H g o) ∧ w.there g 0 (n * 8)) (hn : n ≤ 281474976710648) : Calls Tryd.prog 16 #[.slice a n cap] w fun x w' => x = .returned (.tuple #[]) ∧ Wr lo hi H W0 w' := by
  replace h := Hid.mk h
  replace hb := Hid.mk hb
  go_enter Tryd.func16, Tryd.ntmps16
  go_upto_region 1 with fail
  go_loopw [2] (fun x wr => ∃ i : Nat, x = .int .i64 i ∧ i ≤ n ∧ Hid (Wr lo hi H W0 wr ∧ ∀ b o m, w.there b o m → wr.there b o m)) (fun x _ => n - (intOf x).toNat)
  case atStart => exact ⟨0, rfl, Nat.zero_le _, Hid.mk ⟨h.out, fun _ _ _ q => q⟩⟩
  case round =>
    clear h
    obtain ⟨i, rfl, hi, hI⟩ := hrel
    by_cases hlt : i < n
    · have hi1 : (i : Int) < (n : Int) := Int.ofNat_lt.2 hlt
      obtain ⟨g, rfl, hg1, hg2, hg3⟩ := hb.out (by omega)
      obtain ⟨y, c1, f1⟩ := there_one (hI.out.2 _ _ _ hg3) (el_lt hlt 7 (by decide))
      have hN := Hid.mk (And.intro (hI.out.1.sets (H' := H) g (i * 8 + 7) [.int .u64 77] hg1 (fun _ _ q => q) (fun o q => absurd q (hg2 o))) (fun b o m (q : w.there b o m) => World.there_setCells (hI.out.2 b o m q) g (i * 8 + 7) [.int .u64 77]))
      simp only [World.setCells] at hN
      clear hI
      go_wp2_with fail
      refine ⟨⟨i + 1, ?_, hlt, hN⟩, ?_⟩
      · first | rfl | rw [next_wO hlt hn] | go_num
      · first | exact next_mO hlt | (rw [next_wO hlt hn]; exact next_mO hlt)
    · have hi1 : ¬ (i : Int) < (n : Int) := fun q => hlt (Int.ofNat_lt.1 q)
      go_wp2_with fail
      simp [bodyPost, results, Tryd.results16, go_sem]
      exact hI.out.1
theorem cell_gr {W W' : World} (g : Gr W W') {b o : Nat} {v : Value} (h : W.cell? ⟨b, o, none⟩ = some v) : W'.cell? ⟨b, o, none⟩ = some v :=
  (World.cell?_of_block (a := ⟨b, o, none⟩) (g.below.block b (World.block_lt_of_cell? W ⟨b, o, none⟩ h))).trans h
theorem there_gr {W W' : World} (g : Gr W W') {b o n : Nat} (h : W.there b o n) : W'.there b o n := fun j hj => by
  have q := h j hj
  obtain ⟨y, hy⟩ := Option.isSome_iff_exists.1 q.1
  have e := g.below.block b (World.block_lt_of_cell? W ⟨b, o + j, none⟩ hy)
  rw [World.cell?_of_block (a := ⟨b, o + j, none⟩) e, World.frozen?_of_block (a := ⟨b, o + j, none⟩) e]
  exact q
theorem Lw.gr {lo hi : Nat} {N : Nat → Prop} {W W' : World} {t : TypeId} {size : Nat} {a : Option Addr} {n c : Nat} (h : Lw lo hi N W t size a n c) (g : Gr W W') : Lw lo hi N W' t size a n c :=
  ⟨h.1, fun q => by
    obtain ⟨b, q1, q2, q3, q4, q5⟩ := h.2 q
    exact ⟨b, q1, q2, q3, q4, there_gr g q5⟩⟩
theorem Hdr.gr {lo hi kr kc kg : Nat} {N : Nat → Prop} {W W' : World} {ra ca ga : Option Addr} {nr nc ng : Nat} (h : Hdr (Lw lo hi N W) lo hi kr kc kg W ra ca ga nr nc ng) (g : Gr W W') : Hdr (Lw lo hi N W') lo hi kr kc kg W' ra ca ga nr nc ng := by
  refine ⟨fun i q => ?_, fun i q => ?_, fun i q => ?_, fun q => ⟨(h.hr q).1, (h.hr q).2.1, there_gr g (h.hr q).2.2⟩, fun q => ⟨(h.hc q).1, (h.hc q).2.1, there_gr g (h.hc q).2.2⟩, fun q => ⟨(h.hg q).1, (h.hg q).2.1, there_gr g (h.hg q).2.2⟩, h.n1, h.n2, h.n3⟩
  · obtain ⟨e, a, n, c, q1, q2⟩ := h.r i q
    exact ⟨e, a, n, c, cell_gr g q1, q2.gr g⟩
  · obtain ⟨e, a, n, c, a', n', c', q1, q2, q3, q4⟩ := h.c i q
    exact ⟨e, a, n, c, a', n', c', cell_gr g q1, q2.gr g, cell_gr g q3, q4.gr g⟩
  · obtain ⟨e, a, n, c, a', n', c', q1, q2, q3, q4⟩ := h.g i q
    exact ⟨e, a, n, c, a', n', c', cell_gr g q1, q2.gr g, cell_gr g q3, q4.gr g⟩
set_option maxRecDepth 100000 in
set_option maxHeartbeats 16000000 in
theorem overW_any (lo hi kr kc kg nr nc ng : Nat) (ra ca ga : Option Addr) (rc cc gc : Nat) (d : Int) (w : World) (hI : Hdr (Lw lo hi (IsHd nr nc ng kr kc kg) w) lo hi kr kc kg w ra ca ga nr nc ng) (hhi : hi ≤ w.heap.size) (hl0 : nr ≤ 281474976710648) (hl1 : nc ≤ 281474976710648) (hl2 : ng ≤ 281474976710648) :
    Calls Tryd.prog 9 #[.agg #[.slice ra nr rc, .slice ca nc cc, .slice ga ng gc, .int .i64 d]] w fun x w' => x = .returned (.tuple #[]) ∧ ∃ W0, Gr w W0 ∧ Wr lo hi (fun _ _ => False) W0 w' := by
  have hsz := hhi
  replace hI := Hid.mk hI
  have ne1 : nr = 0 ∨ nc = 0 ∨ kr ≠ kc := by by_cases a : 0 < nr <;> by_cases b : 0 < nc <;> first | exact .inr (.inr (hI.out.n1 a b)) | omega
  have ne2 : nr = 0 ∨ ng = 0 ∨ kr ≠ kg := by by_cases a : 0 < nr <;> by_cases b : 0 < ng <;> first | exact .inr (.inr (hI.out.n2 a b)) | omega
  have ne3 : nc = 0 ∨ ng = 0 ∨ kc ≠ kg := by by_cases a : 0 < nc <;> by_cases b : 0 < ng <;> first | exact .inr (.inr (hI.out.n3 a b)) | omega
  go_enter Tryd.func9, Tryd.ntmps9
  go_upto_region 1 with fail
  refine wp_world (fun W => At W w.heap.size #[.slice ra nr rc, .slice ca nc cc, .slice ga ng gc, .int .i64 d] ∧ Gr w W) ⟨At.new w _ _, (Gr.refl w).alloc _⟩ ?_
  rintro W0 ⟨BM, G0⟩
  replace BM := Hid.mk BM
  replace hI : Hid (Hdr (Lw lo hi (IsHd nr nc ng kr kc kg) W0) lo hi kr kc kg W0 ra ca ga nr nc ng) := Hid.mk (hI.out.gr G0)
  have hW0 : w.heap.size < W0.heap.size := BM.out.1
  have V0 : Hid (Wr lo hi (fun b o => (b = kr ∧ 0 * 4 ≤ o) ∨ (0 < nc ∧ b = kc) ∨ (0 < ng ∧ b = kg)) W0 W0) := Hid.mk (Wr.refl _ _ _ _)
  replace G0 := Hid.mk G0
  go_upto_region 2 with fail
  go_loopw [2] (fun x wr => ∃ i : Nat, x = .int .i64 i ∧ i ≤ nr ∧ Hid (Wr lo hi (fun b o => (b = kr ∧ i * 4 ≤ o) ∨ (0 < nc ∧ b = kc) ∨ (0 < ng ∧ b = kg)) W0 wr)) (fun x _ => nr - (intOf x).toNat)
  case atStart => exact ⟨0, rfl, Nat.zero_le _, V0⟩
  case round =>
    clear V0
    obtain ⟨i, rfl, hi', VV⟩ := hrel
    by_cases hn : i < nr
    · have hi1 : (i : Int) < (nr : Int) := Int.ofNat_lt.2 hn
      obtain ⟨l1, l2, l3⟩ := hI.out.hr (by omega)
      replace l3 := Hid.mk l3
      obtain ⟨rfl, a1, n, c1, e3, hL⟩ := hI.out.r i hn
      replace e3 := (VV.out.hd kr _ (by omega) (.inl ⟨rfl, by omega⟩)).trans e3
      have hcl := Hid.mk (markW_any lo hi _ W0 wr a1 n c1 VV.out (fun q => by
        obtain ⟨g, q1, q2, q3, q4, q5⟩ := hL.2 q
        exact ⟨g, q1, .inl ⟨q2, q3⟩, fun o r => q4 (by unfold IsHd; (try dsimp only at r); omega), VV.out.th q5⟩) hL.1)
      clear hL
      have m0 : wr.cell? ⟨w.heap.size, 0, none⟩ = some (.slice (some ⟨kr, 0, none⟩) nr rc) := (VV.out.at_ BM.out (by omega)).2.1 0
      go_wp2_with fail
      refine hcl.out.mono ?_
      rintro x V1 ⟨rfl, q1⟩
      clear m0 e3 hcl VV
      have VV := Hid.mk q1
      clear q1
      have m0 : V1.cell? ⟨w.heap.size, 0, none⟩ = some (.slice (some ⟨kr, 0, none⟩) nr rc) := (VV.out.at_ BM.out (by omega)).2.1 0
      go_upto_region 5 with fail
      refine wp_region_lit ?_
      refine wpList_plain rfl (fun K hK => ?_)
      go_simp
      with_reducible refine hK _ _ ?_
      clear hK K
      try simp only [Act.put, List.setIfInBounds_toArray, List.set_cons_zero, List.set_cons_succ]
      refine wpList_plain rfl (fun K hK => ?_)
      go_simp
      with_reducible refine hK _ _ ?_
      clear hK K
      try simp only [Act.put, List.setIfInBounds_toArray, List.set_cons_zero, List.set_cons_succ]
      refine wpList_plain rfl (fun K hK => ?_)
      go_simp
      with_reducible refine hK _ _ ?_
      clear hK K
      try simp only [Act.put, List.setIfInBounds_toArray, List.set_cons_zero, List.set_cons_succ]
      refine wpList_plain rfl (fun K hK => ?_)
      go_simp
      with_reducible refine hK _ _ ?_
      clear hK K
      try simp only [Act.put, List.setIfInBounds_toArray, List.set_cons_zero, List.set_cons_succ]
      refine wpList_plain rfl (fun K hK => ?_)
      go_simp
      with_reducible refine hK _ _ ?_
      clear hK K
      try simp only [Act.put, List.setIfInBounds_toArray, List.set_cons_zero, List.set_cons_succ]
      have hT := Hid.mk (VV.out.th (there_mid (k := 4) l3.out (el_le hn)))
      replace VV : Hid (Wr lo hi (fun b o => (b = kr ∧ (i + 1) * 4 ≤ o) ∨ (0 < nc ∧ b = kc) ∨ (0 < ng ∧ b = kg)) W0 _) := Hid.mk (VV.out.sets kr (i * 4) (RgV.vals (⟨5, 0, [], nilS⟩ : RgV)) (.inl ⟨l1, l2⟩) (fun b o q => by (try dsimp only at q ⊢); omega) (fun o' q => by (try dsimp only at q); rw [rg_len]; omega))
      refine wpList_plain rfl (fun K hK => ?_)
      refine wp_store_mid _ _ _ rfl _ _ (List.toArray (RgV.vals (⟨5, 0, [], nilS⟩ : RgV))) rfl rfl hT.out (by kernel_rfl) (all_oneCell_toArray (rg_one _)) (hK _ _ ?_)
      clear hK K hT
      try simp only [Act.put]
      generalize World.setCells _ _ _ _ = V9 at *
      clear m0
      go_wp2_with fail
      refine ⟨⟨i + 1, ?_, hn, VV⟩, ?_⟩
      · first | rfl | rw [next_wO hn hl0] | go_num
      · first | exact next_mO hn | (rw [next_wO hn hl0]; exact next_mO hn)
    · have hi1 : ¬ (i : Int) < (nr : Int) := fun q => hn (Int.ofNat_lt.1 q)
      have m0 : wr.cell? ⟨w.heap.size, 0, none⟩ = some (.slice ra nr rc) := (VV.out.at_ BM.out (by omega)).2.1 0
      go_upto_region 7 with fail
      clear m0
      have V2 : Hid (Wr lo hi (fun b o => (0 < nc ∧ b = kc ∧ 0 * 2 ≤ o) ∨ (0 < ng ∧ b = kg)) W0 wr) := Hid.mk (VV.out.weak (fun b o q => by (try dsimp only at q ⊢); omega))
      clear VV
      go_loopw [3] (fun x wr => ∃ i : Nat, x = .int .i64 i ∧ i ≤ nc ∧ Hid (Wr lo hi (fun b o => (0 < nc ∧ b = kc ∧ i * 2 ≤ o) ∨ (0 < ng ∧ b = kg)) W0 wr)) (fun x _ => nc - (intOf x).toNat)
      case atStart => exact ⟨0, rfl, Nat.zero_le _, V2⟩
      case round =>
        clear V2
        obtain ⟨i, rfl, hi', VV⟩ := hrel
        by_cases hn : i < nc
        · have hi1 : (i : Int) < (nc : Int) := Int.ofNat_lt.2 hn
          obtain ⟨l1, l2, l3⟩ := hI.out.hc (by omega)
          replace l3 := Hid.mk l3
          obtain ⟨rfl, a1, n, c1, a2, n', c2, ea1, hL, ea2, hL2⟩ := hI.out.c i hn
          replace ea1 := Hid.mk ea1
          replace ea2 := Hid.mk ea2
          replace hL := Hid.mk hL
          replace hL2 := Hid.mk hL2
          have m1 : wr.cell? ⟨w.heap.size, 1, none⟩ = some (.slice (some ⟨kc, 0, none⟩) nc cc) := (VV.out.at_ BM.out (by omega)).2.1 1
          go_upto_region 10 with fail
          clear m1
          have VV0 := VV
          clear VV
          go_loopw [4] (fun x wr => ∃ k : Nat, x = .int .i64 k ∧ k ≤ n' ∧ Hid (Wr lo hi (fun b o => (0 < nc ∧ b = kc ∧ i * 2 ≤ o) ∨ (0 < ng ∧ b = kg)) W0 wr)) (fun x _ => n' - (intOf x).toNat)
          case atStart => exact ⟨0, rfl, Nat.zero_le _, VV0⟩
          case round =>
            clear VV0
            obtain ⟨k, rfl, hk', VV⟩ := hrel
            have m1 : wr.cell? ⟨w.heap.size, 1, none⟩ = some (.slice (some ⟨kc, 0, none⟩) nc cc) := (VV.out.at_ BM.out (by omega)).2.1 1
            have e3 : wr.cell? ⟨kc, i * 2 + 1, none⟩ = some (.slice a2 n' c2) := (VV.out.hd kc _ (by omega) (by first | exact .inl ⟨by omega, rfl, by omega⟩ | exact ⟨by omega, rfl, by omega⟩)).trans ea2.out
            by_cases hk : k < n'
            · have hk1 : (k : Int) < (n' : Int) := Int.ofNat_lt.2 hk
              obtain ⟨g1, rfl, g2, g3, g4, g5⟩ := hL2.out.2 (by omega)
              replace g5 := Hid.mk g5
              have hT := Hid.mk (there_mid (k := 5) (VV.out.th g5.out) (el_le hk))
              go_upto_region 12 with fail
              refine wp_region_lit ?_
              refine wpList_plain rfl (fun K hK => ?_)
              go_simp
              with_reducible refine hK _ _ ?_
              clear hK K
              try simp only [Act.put, List.setIfInBounds_toArray, List.set_cons_zero, List.set_cons_succ]
              refine wpList_plain rfl (fun K hK => ?_)
              go_simp
              with_reducible refine hK _ _ ?_
              clear hK K
              try simp only [Act.put, List.setIfInBounds_toArray, List.set_cons_zero, List.set_cons_succ]
              refine wpList_plain rfl (fun K hK => ?_)
              go_simp
              with_reducible refine hK _ _ ?_
              clear hK K
              try simp only [Act.put, List.setIfInBounds_toArray, List.set_cons_zero, List.set_cons_succ]
              refine wpList_plain rfl (fun K hK => ?_)
              go_simp
              with_reducible refine hK _ _ ?_
              clear hK K
              try simp only [Act.put, List.setIfInBounds_toArray, List.set_cons_zero, List.set_cons_succ]
              refine wpList_plain rfl (fun K hK => ?_)
              go_simp
              with_reducible refine hK _ _ ?_
              clear hK K
              try simp only [Act.put, List.setIfInBounds_toArray, List.set_cons_zero, List.set_cons_succ]
              refine wpList_plain rfl (fun K hK => ?_)
              go_simp
              with_reducible refine hK _ _ ?_
              clear hK K
              try simp only [Act.put, List.setIfInBounds_toArray, List.set_cons_zero, List.set_cons_succ]
              refine wpList_plain rfl (fun K hK => ?_)
              go_simp
              with_reducible refine hK _ _ ?_
              clear hK K
              try simp only [Act.put, List.setIfInBounds_toArray, List.set_cons_zero, List.set_cons_succ]
              refine wpList_plain rfl (fun K hK => ?_)
              go_simp
              with_reducible refine hK _ _ ?_
              clear hK K
              try simp only [Act.put, List.setIfInBounds_toArray, List.set_cons_zero, List.set_cons_succ]
              refine wpList_plain rfl (fun K hK => ?_)
              go_simp
              with_reducible refine hK _ _ ?_
              clear hK K
              try simp only [Act.put, List.setIfInBounds_toArray, List.set_cons_zero, List.set_cons_succ]
              replace VV : Hid (Wr lo hi (fun b o => (0 < nc ∧ b = kc ∧ i * 2 ≤ o) ∨ (0 < ng ∧ b = kg)) W0 _) := Hid.mk (VV.out.sets g1 (k * 5) (Ins.vals ({ op := 99, a := 0, b := 0, c := 0, m := 0 } : Ins)) (.inl ⟨g2, g3⟩) (fun _ _ q => q) (fun o' q => absurd q (fun r => g4 (by unfold IsHd; (try dsimp only at r); omega))))
              refine wpList_plain rfl (fun K hK => ?_)
              refine wp_store_mid _ _ _ rfl _ _ (List.toArray (Ins.vals ({ op := 99, a := 0, b := 0, c := 0, m := 0 } : Ins))) rfl rfl hT.out (by kernel_rfl) (all_oneCell_toArray (ins_one _)) (hK _ _ ?_)
              clear hK K hT
              try simp only [Act.put]
              generalize World.setCells _ _ _ _ = V9 at *
              clear m1 e3
              go_wp2_with fail
              refine ⟨⟨k + 1, ?_, hk, VV⟩, ?_⟩
              · first | rfl | rw [next_wO hk hL2.out.1] | go_num
              · first | exact next_mO hk | (rw [next_wO hk hL2.out.1]; exact next_mO hk)
            · have hk1 : ¬ (k : Int) < (n' : Int) := fun q => hk (Int.ofNat_lt.1 q)
              go_upto_region 14 with fail
              clear m1 e3
              have VV0 := VV
              clear VV
              go_loopw [5] (fun x wr => ∃ k : Nat, x = .int .i64 k ∧ k ≤ n ∧ Hid (Wr lo hi (fun b o => (0 < nc ∧ b = kc ∧ i * 2 ≤ o) ∨ (0 < ng ∧ b = kg)) W0 wr)) (fun x _ => n - (intOf x).toNat)
              case atStart => exact ⟨0, rfl, Nat.zero_le _, VV0⟩
              case round =>
                clear VV0
                obtain ⟨k, rfl, hk', VV⟩ := hrel
                have m1 : wr.cell? ⟨w.heap.size, 1, none⟩ = some (.slice (some ⟨kc, 0, none⟩) nc cc) := (VV.out.at_ BM.out (by omega)).2.1 1
                have e3 : wr.cell? ⟨kc, i * 2, none⟩ = some (.slice a1 n c1) := (VV.out.hd kc _ (by omega) (by first | exact .inl ⟨by omega, rfl, by omega⟩ | exact ⟨by omega, rfl, by omega⟩)).trans ea1.out
                by_cases hk : k < n
                · have hk1 : (k : Int) < (n : Int) := Int.ofNat_lt.2 hk
                  obtain ⟨g1, rfl, g2, g3, g4, g5⟩ := hL.out.2 (by omega)
                  replace g5 := Hid.mk g5
                  have hT := Hid.mk (there_mid (k := 6) (VV.out.th g5.out) (el_le hk))
                  go_upto_region 16 with fail
                  refine wp_region_lit ?_
                  refine wpList_plain rfl (fun K hK => ?_)
                  go_simp
                  with_reducible refine hK _ _ ?_
                  clear hK K
                  try simp only [Act.put, List.setIfInBounds_toArray, List.set_cons_zero, List.set_cons_succ]
                  refine wpList_plain rfl (fun K hK => ?_)
                  go_simp
                  with_reducible refine hK _ _ ?_
                  clear hK K
                  try simp only [Act.put, List.setIfInBounds_toArray, List.set_cons_zero, List.set_cons_succ]
                  refine wpList_plain rfl (fun K hK => ?_)
                  go_simp
                  with_reducible refine hK _ _ ?_
                  clear hK K
                  try simp only [Act.put, List.setIfInBounds_toArray, List.set_cons_zero, List.set_cons_succ]
                  refine wpList_plain rfl (fun K hK => ?_)
                  go_simp
                  with_reducible refine hK _ _ ?_
                  clear hK K
                  try simp only [Act.put, List.setIfInBounds_toArray, List.set_cons_zero, List.set_cons_succ]
                  refine wpList_plain rfl (fun K hK => ?_)
                  go_simp
                  with_reducible refine hK _ _ ?_
                  clear hK K
                  try simp only [Act.put, List.setIfInBounds_toArray, List.set_cons_zero, List.set_cons_succ]
                  refine wpList_plain rfl (fun K hK => ?_)
                  go_simp
                  with_reducible refine hK _ _ ?_
                  clear hK K
                  try simp only [Act.put, List.setIfInBounds_toArray, List.set_cons_zero, List.set_cons_succ]
                  refine wpList_plain rfl (fun K hK => ?_)
                  go_simp
                  with_reducible refine hK _ _ ?_
                  clear hK K
                  try simp only [Act.put, List.setIfInBounds_toArray, List.set_cons_zero, List.set_cons_succ]
                  refine wpList_plain rfl (fun K hK => ?_)
                  go_simp
                  with_reducible refine hK _ _ ?_
                  clear hK K
                  try simp only [Act.put, List.setIfInBounds_toArray, List.set_cons_zero, List.set_cons_succ]
                  refine wpList_plain rfl (fun K hK => ?_)
                  go_simp
                  with_reducible refine hK _ _ ?_
                  clear hK K
                  try simp only [Act.put, List.setIfInBounds_toArray, List.set_cons_zero, List.set_cons_succ]
                  replace VV : Hid (Wr lo hi (fun b o => (0 < nc ∧ b = kc ∧ i * 2 ≤ o) ∨ (0 < ng ∧ b = kg)) W0 _) := Hid.mk (VV.out.sets g1 (k * 6) (PRoot.vals ({ r := 99, b := 0, e := 0, c := 0, p := 0, s := 0 } : PRoot)) (.inl ⟨g2, g3⟩) (fun _ _ q => q) (fun o' q => absurd q (fun r => g4 (by unfold IsHd; (try dsimp only at r); omega))))
                  refine wpList_plain rfl (fun K hK => ?_)
                  refine wp_store_mid _ _ _ rfl _ _ (List.toArray (PRoot.vals ({ r := 99, b := 0, e := 0, c := 0, p := 0, s := 0 } : PRoot))) rfl rfl hT.out (by kernel_rfl) (all_oneCell_toArray (rot_one _)) (hK _ _ ?_)
                  clear hK K hT
                  try simp only [Act.put]
                  generalize World.setCells _ _ _ _ = V9 at *
                  clear m1 e3
                  go_wp2_with fail
                  refine ⟨⟨k + 1, ?_, hk, VV⟩, ?_⟩
                  · first | rfl | rw [next_wO hk hL.out.1] | go_num
                  · first | exact next_mO hk | (rw [next_wO hk hL.out.1]; exact next_mO hk)
                · have hk1 : ¬ (k : Int) < (n : Int) := fun q => hk (Int.ofNat_lt.1 q)
                  go_upto_region 17 with fail
                  refine wp_region_lit ?_
                  refine wpList_plain rfl (fun K hK => ?_)
                  go_simp
                  with_reducible refine hK _ _ ?_
                  clear hK K
                  try simp only [Act.put, List.setIfInBounds_toArray, List.set_cons_zero, List.set_cons_succ]
                  refine wpList_plain rfl (fun K hK => ?_)
                  go_simp
                  with_reducible refine hK _ _ ?_
                  clear hK K
                  try simp only [Act.put, List.setIfInBounds_toArray, List.set_cons_zero, List.set_cons_succ]
                  refine wpList_plain rfl (fun K hK => ?_)
                  go_simp
                  with_reducible refine hK _ _ ?_
                  clear hK K
                  try simp only [Act.put, List.setIfInBounds_toArray, List.set_cons_zero, List.set_cons_succ]
                  refine wpList_plain rfl (fun K hK => ?_)
                  go_simp
                  with_reducible refine hK _ _ ?_
                  clear hK K
                  try simp only [Act.put, List.setIfInBounds_toArray, List.set_cons_zero, List.set_cons_succ]
                  refine wpList_plain rfl (fun K hK => ?_)
                  go_simp
                  with_reducible refine hK _ _ ?_
                  clear hK K
                  try simp only [Act.put, List.setIfInBounds_toArray, List.set_cons_zero, List.set_cons_succ]
                  have hT := Hid.mk (VV.out.th (there_mid (k := 2) l3.out (el_le hn)))
                  replace VV : Hid (Wr lo hi (fun b o => (0 < nc ∧ b = kc ∧ (i + 1) * 2 ≤ o) ∨ (0 < ng ∧ b = kg)) W0 _) := Hid.mk (VV.out.sets kc (i * 2) (CpV.vals cpZ) (.inl ⟨l1, l2⟩) (fun b o q => by (try dsimp only at q ⊢); omega) (fun o' q => by (try dsimp only at q); rw [cp_len]; omega))
                  refine wpList_plain rfl (fun K hK => ?_)
                  refine wp_store_mid _ _ _ rfl _ _ (List.toArray (CpV.vals cpZ)) rfl rfl hT.out (by kernel_rfl) (all_oneCell_toArray (cp_one _)) (hK _ _ ?_)
                  clear hK K hT
                  try simp only [Act.put]
                  generalize World.setCells _ _ _ _ = V9 at *
                  clear m1
                  go_wp2_with fail
                  refine ⟨⟨i + 1, ?_, hn, VV⟩, ?_⟩
                  · first | rfl | rw [next_wO hn hl1] | go_num
                  · first | exact next_mO hn | (rw [next_wO hn hl1]; exact next_mO hn)
        · have hi1 : ¬ (i : Int) < (nc : Int) := fun q => hn (Int.ofNat_lt.1 q)
          have m1 : wr.cell? ⟨w.heap.size, 1, none⟩ = some (.slice ca nc cc) := (VV.out.at_ BM.out (by omega)).2.1 1
          go_upto_region 19 with fail
          clear m1
          have V3 : Hid (Wr lo hi (fun b o => 0 < ng ∧ b = kg ∧ 0 * 4 ≤ o) W0 wr) := Hid.mk (VV.out.weak (fun b o q => by (try dsimp only at q ⊢); omega))
          clear VV
          go_loopw [6] (fun x wr => ∃ i : Nat, x = .int .i64 i ∧ i ≤ ng ∧ Hid (Wr lo hi (fun b o => 0 < ng ∧ b = kg ∧ i * 4 ≤ o) W0 wr)) (fun x _ => ng - (intOf x).toNat)
          case atStart => exact ⟨0, rfl, Nat.zero_le _, V3⟩
          case round =>
            clear V3
            obtain ⟨i, rfl, hi', VV⟩ := hrel
            by_cases hn : i < ng
            · have hi1 : (i : Int) < (ng : Int) := Int.ofNat_lt.2 hn
              obtain ⟨l1, l2, l3⟩ := hI.out.hg (by omega)
              replace l3 := Hid.mk l3
              obtain ⟨rfl, a1, n, c1, a2, n', c2, ea1, hL, ea2, hL2⟩ := hI.out.g i hn
              replace ea1 := Hid.mk ea1
              replace ea2 := Hid.mk ea2
              replace hL := Hid.mk hL
              replace hL2 := Hid.mk hL2
              have m2 : wr.cell? ⟨w.heap.size, 2, none⟩ = some (.slice (some ⟨kg, 0, none⟩) ng gc) := (VV.out.at_ BM.out (by omega)).2.1 2
              go_upto_region 22 with fail
              clear m2
              have VV0 := VV
              clear VV
              go_loopw [7] (fun x wr => ∃ k : Nat, x = .int .i64 k ∧ k ≤ n ∧ Hid (Wr lo hi (fun b o => 0 < ng ∧ b = kg ∧ i * 4 ≤ o) W0 wr)) (fun x _ => n - (intOf x).toNat)
              case atStart => exact ⟨0, rfl, Nat.zero_le _, VV0⟩
              case round =>
                clear VV0
                obtain ⟨k, rfl, hk', VV⟩ := hrel
                have m2 : wr.cell? ⟨w.heap.size, 2, none⟩ = some (.slice (some ⟨kg, 0, none⟩) ng gc) := (VV.out.at_ BM.out (by omega)).2.1 2
                have e3 : wr.cell? ⟨kg, i * 4 + 1 + 1, none⟩ = some (.slice a1 n c1) := (VV.out.hd kg _ (by omega) (by first | exact .inl ⟨by omega, rfl, by omega⟩ | exact ⟨by omega, rfl, by omega⟩)).trans ea1.out
                by_cases hk : k < n
                · have hk1 : (k : Int) < (n : Int) := Int.ofNat_lt.2 hk
                  obtain ⟨g1, rfl, g2, g3, g4, g5⟩ := hL.out.2 (by omega)
                  replace g5 := Hid.mk g5
                  obtain ⟨y9, c9, f9⟩ := there_one (VV.out.th g5.out) (el_lt hk 4 (by decide))
                  replace VV : Hid (Wr lo hi (fun b o => 0 < ng ∧ b = kg ∧ i * 4 ≤ o) W0 _) := Hid.mk (VV.out.sets g1 (k * 7 + 4) [.int .u64 99] (.inl ⟨g2, g3⟩) (fun _ _ q => q) (fun o' q => absurd q (fun r => g4 (by unfold IsHd; (try dsimp only at r); omega))))
                  simp only [World.setCells] at VV
                  go_wp2_with fail
                  refine ⟨⟨k + 1, ?_, hk, VV⟩, ?_⟩
                  · first | rfl | rw [next_wO hk hL.out.1] | go_num
                  · first | exact next_mO hk | (rw [next_wO hk hL.out.1]; exact next_mO hk)
                · have hk1 : ¬ (k : Int) < (n : Int) := fun q => hk (Int.ofNat_lt.1 q)
                  go_upto_region 26 with fail
                  clear m2 e3
                  have VV0 := VV
                  clear VV
                  go_loopw [8] (fun x wr => ∃ k : Nat, x = .int .i64 k ∧ k ≤ n' ∧ Hid (Wr lo hi (fun b o => 0 < ng ∧ b = kg ∧ i * 4 ≤ o) W0 wr)) (fun x _ => n' - (intOf x).toNat)
                  case atStart => exact ⟨0, rfl, Nat.zero_le _, VV0⟩
                  case round =>
                    clear VV0
                    obtain ⟨k, rfl, hk', VV⟩ := hrel
                    have m2 : wr.cell? ⟨w.heap.size, 2, none⟩ = some (.slice (some ⟨kg, 0, none⟩) ng gc) := (VV.out.at_ BM.out (by omega)).2.1 2
                    have e3 : wr.cell? ⟨kg, i * 4 + 1 + 1 + 1, none⟩ = some (.slice a2 n' c2) := (VV.out.hd kg _ (by omega) (by first | exact .inl ⟨by omega, rfl, by omega⟩ | exact ⟨by omega, rfl, by omega⟩)).trans ea2.out
                    by_cases hk : k < n'
                    · have hk1 : (k : Int) < (n' : Int) := Int.ofNat_lt.2 hk
                      obtain ⟨g1, rfl, g2, g3, g4, g5⟩ := hL2.out.2 (by omega)
                      replace g5 := Hid.mk g5
                      obtain ⟨y9, c9, f9⟩ := there_one (VV.out.th g5.out) (el_lt hk 4 (by decide))
                      replace VV : Hid (Wr lo hi (fun b o => 0 < ng ∧ b = kg ∧ i * 4 ≤ o) W0 _) := Hid.mk (VV.out.sets g1 (k * 7 + 4) [.int .u64 99] (.inl ⟨g2, g3⟩) (fun _ _ q => q) (fun o' q => absurd q (fun r => g4 (by unfold IsHd; (try dsimp only at r); omega))))
                      simp only [World.setCells] at VV
                      go_wp2_with fail
                      refine ⟨⟨k + 1, ?_, hk, VV⟩, ?_⟩
                      · first | rfl | rw [next_wO hk hL2.out.1] | go_num
                      · first | exact next_mO hk | (rw [next_wO hk hL2.out.1]; exact next_mO hk)
                    · have hk1 : ¬ (k : Int) < (n' : Int) := fun q => hk (Int.ofNat_lt.1 q)
                      go_upto_region 29 with fail
                      refine wp_region_lit ?_
                      refine wpList_plain rfl (fun K hK => ?_)
                      go_simp
                      with_reducible refine hK _ _ ?_
                      clear hK K
                      try simp only [Act.put, List.setIfInBounds_toArray, List.set_cons_zero, List.set_cons_succ]
                      refine wpList_plain rfl (fun K hK => ?_)
                      go_simp
                      with_reducible refine hK _ _ ?_
                      clear hK K
                      try simp only [Act.put, List.setIfInBounds_toArray, List.set_cons_zero, List.set_cons_succ]
                      refine wpList_plain rfl (fun K hK => ?_)
                      go_simp
                      with_reducible refine hK _ _ ?_
                      clear hK K
                      try simp only [Act.put, List.setIfInBounds_toArray, List.set_cons_zero, List.set_cons_succ]
                      refine wpList_plain rfl (fun K hK => ?_)
                      go_simp
                      with_reducible refine hK _ _ ?_
                      clear hK K
                      try simp only [Act.put, List.setIfInBounds_toArray, List.set_cons_zero, List.set_cons_succ]
                      refine wpList_plain rfl (fun K hK => ?_)
                      go_simp
                      with_reducible refine hK _ _ ?_
                      clear hK K
                      try simp only [Act.put, List.setIfInBounds_toArray, List.set_cons_zero, List.set_cons_succ]
                      have hT := Hid.mk (VV.out.th (there_mid (k := 4) l3.out (el_le hn)))
                      replace VV : Hid (Wr lo hi (fun b o => 0 < ng ∧ b = kg ∧ (i + 1) * 4 ≤ o) W0 _) := Hid.mk (VV.out.sets kg (i * 4) (GtV.vals (⟨99, 0, nilS, nilS⟩ : GtV)) (.inl ⟨l1, l2⟩) (fun b o q => by (try dsimp only at q ⊢); omega) (fun o' q => by (try dsimp only at q); rw [gt_len]; omega))
                      refine wpList_plain rfl (fun K hK => ?_)
                      refine wp_store_mid _ _ _ rfl _ _ (List.toArray (GtV.vals (⟨99, 0, nilS, nilS⟩ : GtV))) rfl rfl hT.out (by kernel_rfl) (all_oneCell_toArray (gt_one _)) (hK _ _ ?_)
                      clear hK K hT
                      try simp only [Act.put]
                      generalize World.setCells _ _ _ _ = V9 at *
                      clear m2
                      go_wp2_with fail
                      refine ⟨⟨i + 1, ?_, hn, VV⟩, ?_⟩
                      · first | rfl | rw [next_wO hn hl2] | go_num
                      · first | exact next_mO hn | (rw [next_wO hn hl2]; exact next_mO hn)
            · have hi1 : ¬ (i : Int) < (ng : Int) := fun q => hn (Int.ofNat_lt.1 q)
              have m2 : wr.cell? ⟨w.heap.size, 2, none⟩ = some (.slice ga ng gc) := (VV.out.at_ BM.out (by omega)).2.1 2
              go_wp2_with fail
              simp [bodyPost, results, Tryd.results9, go_sem]
              exact ⟨W0, G0.out, VV.out.weak (fun _ _ q => q.elim)⟩
end Q
end Go.Proofs.YtcljibdikhpnlaaDoor
