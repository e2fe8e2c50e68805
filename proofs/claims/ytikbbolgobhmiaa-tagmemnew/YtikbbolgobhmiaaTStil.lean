import Derived.Test.YtikbbolgobhmiaaTLent
import Derived.Deep.RegionHeld3
import Derived.BigFrame
/-
  Stage 6, tagmem: regions that are lent: what is handed in, whether all is as it was.
-/
namespace Go.Proofs.Ytikbbolgobhmiaa
namespace T
open Go.RowKit

theorem next_wS {k n : Nat} (h : k < n + 6) (hn : (n + 6) * 56 ≤ 140737488355328) : wrap64 ((k : Int) + 1) = ((k + 1 : Nat) : Int) := by unfold wrap64; omega
theorem next_wS2 {k n : Nat} (h : k < n + 6) (hn : (n + 6) * 64 ≤ 140737488355328) : wrap64 ((k : Int) + 1) = ((k + 1 : Nat) : Int) := by unfold wrap64; omega
set_option maxHeartbeats 1000000 in
theorem slot_neq (s : Sl) (W : World) : (binOp .neq 45 (.agg (Sl.vals s).toArray) (.agg (Sl.vals s).toArray)).run Try.prog W = .ok (.bool false) W := by
  obtain ⟨c, b, e, lo, hi, p, q, n⟩ := s
  simp only [Sl.vals]
  simp [go_sem]
theorem reg_len (z : Zr) : z.reg.length = 4 := rfl
theorem rowz_len (z : Zr) : z.row.length = 1 := rfl
theorem rg_cells {lo : Nat} {W : World} {gA cA : Nat} {rv : Value} {Z : List Zr} (h : LtIn lo W (.slice (some ⟨gA, 0, none⟩) (Z.length + 6) cA) rv Z 6) (i : Nat) (hi : i < Z.length) : ∀ j v, Z[i].reg[j]? = some v → W.cell? ⟨gA, i * 4 + j, none⟩ = some v := fun j v q => by
  have hj : j < 4 := (List.getElem?_eq_some_iff.1 q).1
  refine own_cell h.all rfl _ _ ?_
  rw [List.getElem?_append_left (by rw [flatMap_len reg_len]; have : (i + 1) * 4 ≤ Z.length * 4 := Nat.mul_le_mul_right 4 hi; omega), flatMap_get reg_len Z i j hi hj]
  exact q
theorem mks6 (k j : Nat) (hk : k < 6) (hj : j < 4) : (mks 6)[k * 4 + j]? = m77[j]? := by
  have hk' : k = 0 ∨ k = 1 ∨ k = 2 ∨ k = 3 ∨ k = 4 ∨ k = 5 := by omega
  have hj' : j = 0 ∨ j = 1 ∨ j = 2 ∨ j = 3 := by omega
  rcases hk' with rfl | rfl | rfl | rfl | rfl | rfl <;> rcases hj' with rfl | rfl | rfl | rfl <;> rfl
theorem mk_cells {lo : Nat} {W : World} {gA cA : Nat} {rv : Value} {Z : List Zr} (h : LtIn lo W (.slice (some ⟨gA, 0, none⟩) (Z.length + 6) cA) rv Z 6) (i : Nat) (h1 : Z.length ≤ i) (h2 : i < Z.length + 6) : ∀ j v, m77[j]? = some v → W.cell? ⟨gA, i * 4 + j, none⟩ = some v := fun j v q => by
  have hj : j < 4 := (List.getElem?_eq_some_iff.1 q).1
  refine own_cell h.all rfl _ _ ?_
  rw [List.getElem?_append_right (by rw [flatMap_len reg_len]; have : Z.length * 4 ≤ i * 4 := Nat.mul_le_mul_right 4 h1; omega), flatMap_len reg_len, show i * 4 + j - Z.length * 4 = (i - Z.length) * 4 + j by rw [Nat.sub_mul]; have : Z.length * 4 ≤ i * 4 := Nat.mul_le_mul_right 4 h1; omega, mks6 _ _ (by omega) hj]
  exact q
theorem rows_at {Z : List Zr} {i : Nat} (hi : i < Z.length) : (Z.flatMap Zr.row)[i]? = some Z[i].val := by
  have := flatMap_get rowz_len Z i 0 hi (by omega)
  rw [Nat.mul_one, Nat.add_zero] at this
  rw [this]
  rfl
theorem slR.elem {lo : Nat} {W : World} {av rv : Value} {Z : List Zr} {n : Nat} (h : LtIn lo W av rv Z n) {i : Nat} (hi : i < Z.length) (k : Nat) (_ : k < Z[i].r.slots.length + 6) (s : Sl) (hs : (Z[i].r.slots ++ List.replicate 6 s77)[k]? = some s) : W.rangeAt Z[i].g (k * 8) (Sl.vals s) := fun j v q => by
  have hj : j < 8 := (List.getElem?_eq_some_iff.1 q).1
  have ho := h.sl _ (List.getElem_mem hi)
  unfold Zr.own slR Zr.val at ho
  have hl : (Z[i].r.slots ++ List.replicate 6 s77).length = Z[i].r.slots.length + 6 := by simp
  rw [hl] at ho
  refine own_cell ho rfl _ _ ?_
  obtain ⟨hk2, e⟩ := List.getElem?_eq_some_iff.1 hs
  rw [flatMap_get sl_len _ k j hk2 hj, e]
  exact q
theorem lt_rg {lo : Nat} {W : World} {gA cA : Nat} {rv : Value} {Z : List Zr} (h : LtIn lo W (.slice (some ⟨gA, 0, none⟩) (Z.length + 6) cA) rv Z 6) : RgIn W (some ⟨gA, 0, none⟩) (Z.map Zr.r) := fun i hi => by
  have hi' : i < Z.length := by simpa using hi
  have c := rg_cells h i hi'
  have hlt : gA < W.heap.size := (own_block h.all gA rfl).2
  refine ⟨gA, 0, some ⟨Z[i].g, 0, none⟩, Z[i].c, rfl, hlt, ?_, ?_, ?_, ?_, ?_⟩
  · rw [List.getElem_map, Nat.zero_add]; exact c 0 _ rfl
  · rw [List.getElem_map, Nat.zero_add]; exact c 1 _ rfl
  · rw [List.getElem_map, Nat.zero_add]; exact c 2 _ rfl
  · rw [List.getElem_map, Nat.zero_add]; exact c 3 _ rfl
  · rw [List.getElem_map]
    intro k hk
    refine ⟨Z[i].g, 0, rfl, (own_block (h.sl _ (List.getElem_mem hi')) Z[i].g rfl).2, fun j v q => ?_⟩
    rw [Nat.zero_add]
    exact slR.elem h hi' k (by omega) _ (by rw [List.getElem?_append_left hk, List.getElem?_eq_getElem hk]) j v q
set_option maxHeartbeats 1000000 in
theorem given_any (gA cA : Nat) (rv : Value) (n : Nat) (w : World) (hc : n + 6 ≤ cA) : Calls Try.prog 9 #[.agg #[.slice (some ⟨gA, 0, none⟩) (n + 6) cA, rv, .int .i64 n]] w fun x w' => x = .returned (.slice (some ⟨gA, 0, none⟩) n cA) ∧ Gr w w' := by
  have h1 : (n : Int) ≤ (cA : Int) := by omega
  have h0 : (0 : Int) ≤ (n : Int) := by omega
  go_enter Try.func9, Try.ntmps9
  go_wp2_with fail
  go_ret
  exact ⟨rfl, (Gr.refl w).alloc _⟩
set_option maxRecDepth 100000 in
set_option maxHeartbeats 16000000 in
theorem still_any (Z : List Zr) (av rv : Value) (a : Option Addr) (cap lo : Nat) (w : World) (hT : LtIn lo w av rv Z 6) (hL : RgIn w a (Z.map Zr.r)) (hF : LFit (Z.map Zr.r)) :
    Calls Try.prog 10 #[.agg #[av, rv, .int .i64 Z.length], .slice a Z.length cap] w fun x w' => x = .returned (.bool true) ∧ Gr w w' := by
  have hFn : (Z.length + 6) * 56 ≤ 140737488355328 := by have := hF.n; rwa [List.length_map] at this
  replace hL := Hid.mk hL
  replace hF := Hid.mk hF
  obtain ⟨gA, cA, rfl, hga1, hga2⟩ := World.ownsRow.form hT.all (by omega)
  replace hT := Hid.mk hT
  go_enter Try.func10, Try.ntmps10
  go_upto_region 1 with fail
  refine wp_world (fun W => At W w.heap.size #[.slice (some ⟨gA, 0, none⟩) (Z.length + 6) cA, rv, .int .i64 Z.length] ∧ Gr w W) ⟨At.new w _ _, (Gr.refl w).alloc _⟩ ?_
  rintro W0 ⟨BX, hG⟩
  replace BX := Hid.mk BX
  replace hG := Hid.mk hG
  go_upto_region 2 with fail
  go_loopw [5] (fun x wr => ∃ i : Nat, x = .int .i64 i ∧ i ≤ Z.length + 6 ∧ Hid (At wr w.heap.size #[.slice (some ⟨gA, 0, none⟩) (Z.length + 6) cA, rv, .int .i64 Z.length]) ∧ Hid (Gr w wr)) (fun x _ => Z.length + 6 - (intOf x).toNat)
  case atStart => exact ⟨0, rfl, Nat.zero_le _, BX, hG⟩
  case round =>
    clear BX hG
    obtain ⟨i, rfl, hi, BX, hG⟩ := hrel
    have x0 : wr.cell? ⟨w.heap.size, 0, none⟩ = some (.slice (some ⟨gA, 0, none⟩) (Z.length + 6) cA) := BX.out.2.1 0
    have x1 : wr.cell? ⟨w.heap.size, 1, none⟩ = some (rv) := BX.out.2.1 1
    have x2 : wr.cell? ⟨w.heap.size, 2, none⟩ = some (.int .i64 Z.length) := BX.out.2.1 2
    by_cases hlt : i < Z.length + 6
    · have hi1 : (i : Int) < ((Z.length + 6 : Nat) : Int) := Int.ofNat_lt.2 hlt
      have hi2 : (i : Int) < (Z.length : Int) + 6 := by omega
      by_cases hlt2 : i < Z.length
      · skip
        have hi3 : ¬ (Z.length : Int) ≤ (i : Int) := by omega
        have hi4 : (i : Int) < (Z.length : Int) := by omega
        have hfs := hF.out.s _ (List.mem_map_of_mem (List.getElem_mem hlt2))
        have d := rg_cells (hT.out.below hG.out.below) i hlt2
        have d0 : wr.cell? ⟨gA, i * 4, none⟩ = some (.int .u64 Z[i].r.b) := d 0 _ rfl
        have d1 : wr.cell? ⟨gA, i * 4 + 1, none⟩ = some (.int .u64 Z[i].r.n) := d 1 _ rfl
        have d2 : wr.cell? ⟨gA, i * 4 + 1 + 1, none⟩ = some (.string (str Z[i].r.data)) := d 2 _ rfl
        have d3 : wr.cell? ⟨gA, i * 4 + 1 + 1 + 1, none⟩ = some (.slice (some ⟨Z[i].g, 0, none⟩) Z[i].r.slots.length Z[i].c) := d 3 _ rfl
        clear d
        obtain ⟨b, off, sa, sc, rfl, hb, e0, e1, e2, e3, hs⟩ := hL.out i (by simpa using hlt2)
        simp only [List.getElem_map] at e0 e1 e2 e3 hs
        obtain ⟨gB, cB, rfl, hgb1, hgb2⟩ := World.ownsRow.form hT.out.rows (by omega)
        go_upto_region 5 with fail
        refine wp_world (fun W => At W wr.heap.size #[.int .u64 Z[i].r.b, .int .u64 Z[i].r.n, .string (str Z[i].r.data), .slice (some ⟨Z[i].g, 0, none⟩) Z[i].r.slots.length Z[i].c] ∧ Gr wr W) ⟨At.new wr _ _, (Gr.refl _).alloc _⟩ ?_
        rintro W5 ⟨BR, G5⟩
        clear x0 x1 x2 d0 d1 d2 d3
        replace BX : Hid (At W5 w.heap.size #[.slice (some ⟨gA, 0, none⟩) (Z.length + 6) cA, .slice (some ⟨gB, 0, none⟩) Z.length cB, .int .i64 Z.length]) := Hid.mk (BX.out.gr G5)
        replace hG : Hid (Gr w W5) := Hid.mk (hG.out.trans G5)
        replace BR := Hid.mk BR
        clear G5
        generalize wr.heap.size = kb at *
        clear wr
        have KS : Hid (∀ W, Gr W5 W → W.cell? ⟨kb, 0, none⟩ = some (.int .u64 Z[i].r.b) ∧ W.cell? ⟨kb, 1, none⟩ = some (.int .u64 Z[i].r.n) ∧ W.cell? ⟨kb, 2, none⟩ = some (.string (str Z[i].r.data)) ∧ W.cell? ⟨kb, 3, none⟩ = some (.slice (some ⟨Z[i].g, 0, none⟩) Z[i].r.slots.length Z[i].c) ∧ W.cell? ⟨b, off + i * 4, none⟩ = some (.int .u64 Z[i].r.b) ∧ W.cell? ⟨b, off + i * 4 + 1, none⟩ = some (.int .u64 Z[i].r.n) ∧ W.cell? ⟨b, off + i * 4 + 2, none⟩ = some (.string (str Z[i].r.data)) ∧ W.cell? ⟨b, off + i * 4 + 3, none⟩ = some (.slice sa Z[i].r.slots.length sc)) := Hid.mk (fun W q => ⟨(BR.out.gr q).2.1 0, (BR.out.gr q).2.1 1, (BR.out.gr q).2.1 2, (BR.out.gr q).2.1 3, (cell_of_block ((hG.out.trans q).below.block b hb) _).trans e0, (cell_of_block ((hG.out.trans q).below.block b hb) _).trans e1, (cell_of_block ((hG.out.trans q).below.block b hb) _).trans e2, (cell_of_block ((hG.out.trans q).below.block b hb) _).trans e3⟩)
        replace e3 := Hid.mk e3
        replace hs := Hid.mk hs
        clear e0 e1 e2
        have d1 : Gr W5 W5.drew := (Gr.refl _).drew
        go_upto_region 8 with fail
        refine wp_region_held_drew (S := (fun W => W.cell? ⟨kb, 0, none⟩ = some (.int .u64 Z[i].r.b) ∧ W.cell? ⟨kb, 1, none⟩ = some (.int .u64 Z[i].r.n) ∧ W.cell? ⟨kb, 2, none⟩ = some (.string (str Z[i].r.data)) ∧ W.cell? ⟨kb, 3, none⟩ = some (.slice (some ⟨Z[i].g, 0, none⟩) Z[i].r.slots.length Z[i].c) ∧ W.cell? ⟨b, off + i * 4, none⟩ = some (.int .u64 Z[i].r.b) ∧ W.cell? ⟨b, off + i * 4 + 1, none⟩ = some (.int .u64 Z[i].r.n) ∧ W.cell? ⟨b, off + i * 4 + 2, none⟩ = some (.string (str Z[i].r.data)) ∧ W.cell? ⟨b, off + i * 4 + 3, none⟩ = some (.slice sa Z[i].r.slots.length sc))) (by kernel_rfl) (KS.out _ d1) (fun hHeld => ?_)
        refine wpAnyH_take (i := 0) (oi := { dst := some 44, op := Op.fieldAddr 40 (Operand.tmp 6) 0, type := 0, pos := "law.go:177", after := #[], guard := none }) (v := ?_) rfl (by kernel_rfl) (by kernel_rfl) (by kernel_rfl) (fun _ _ _ h => h) (Or.inl ⟨by rfl, ?_⟩) (by assumption) ?_
        rotate_left
        · intro w hSw; (try dsimp only at hSw); go_simp; first | done | with_reducible rfl
        try simp only [Act.put, List.setIfInBounds_toArray, List.set_cons_zero, List.set_cons_succ]
        refine wpAnyH_take (i := 1) (oi := { dst := some 45, op := Op.load 37 (Operand.tmp 44), type := 37, pos := "law.go:177", after := #[{ on := 0, ground := Ground.data }], guard := none }) (v := ?_) rfl (by kernel_rfl) (by kernel_rfl) (by kernel_rfl) (fun _ _ _ h => h) (Or.inl ⟨by rfl, ?_⟩) (by assumption) ?_
        rotate_left
        · intro w hSw; (try dsimp only at hSw); go_simp; first | done | with_reducible rfl
        try simp only [Act.put, List.setIfInBounds_toArray, List.set_cons_zero, List.set_cons_succ]
        refine wpAnyH_take (i := 2) (oi := { dst := some 46, op := Op.move (Operand.tmp 1), type := 22, pos := "law.go:177", after := #[], guard := none }) (v := ?_) rfl (by kernel_rfl) (by kernel_rfl) (by kernel_rfl) (fun _ _ _ h => h) (Or.inl ⟨by rfl, ?_⟩) (by assumption) ?_
        rotate_left
        · intro w hSw; (try dsimp only at hSw); go_simp; first | done | with_reducible rfl
        try simp only [Act.put, List.setIfInBounds_toArray, List.set_cons_zero, List.set_cons_succ]
        refine wpAnyH_take (i := 3) (oi := { dst := some 47, op := Op.move (Operand.tmp 5), type := 3, pos := "law.go:177", after := #[], guard := none }) (v := ?_) rfl (by kernel_rfl) (by kernel_rfl) (by kernel_rfl) (fun _ _ _ h => h) (Or.inl ⟨by rfl, ?_⟩) (by assumption) ?_
        rotate_left
        · intro w hSw; (try dsimp only at hSw); go_simp; first | done | with_reducible rfl
        try simp only [Act.put, List.setIfInBounds_toArray, List.set_cons_zero, List.set_cons_succ]
        refine wpAnyH_take (i := 4) (oi := { dst := some 48, op := Op.indexAddr 22 (Operand.tmp 46) (Operand.tmp 47), type := 0, pos := "law.go:177", after := #[{ on := 2, ground := Ground.data }, { on := 3, ground := Ground.data }], guard := none }) (v := ?_) rfl (by kernel_rfl) (by kernel_rfl) (by kernel_rfl) (fun _ _ _ h => h) (Or.inl ⟨by rfl, ?_⟩) (by assumption) ?_
        rotate_left
        · intro w hSw; (try dsimp only at hSw); go_simp; first | done | with_reducible rfl
        try simp only [Act.put, List.setIfInBounds_toArray, List.set_cons_zero, List.set_cons_succ]
        refine wpAnyH_take (i := 5) (oi := { dst := some 49, op := Op.fieldAddr 40 (Operand.tmp 48) 0, type := 0, pos := "law.go:177", after := #[{ on := 4, ground := Ground.data }], guard := none }) (v := ?_) rfl (by kernel_rfl) (by kernel_rfl) (by kernel_rfl) (fun _ _ _ h => h) (Or.inl ⟨by rfl, ?_⟩) (by assumption) ?_
        rotate_left
        · intro w hSw; (try dsimp only at hSw); go_simp; first | done | with_reducible rfl
        try simp only [Act.put, List.setIfInBounds_toArray, List.set_cons_zero, List.set_cons_succ]
        refine wpAnyH_take (i := 6) (oi := { dst := some 50, op := Op.load 37 (Operand.tmp 49), type := 37, pos := "law.go:177", after := #[{ on := 5, ground := Ground.data }], guard := none }) (v := ?_) rfl (by kernel_rfl) (by kernel_rfl) (by kernel_rfl) (fun _ _ _ h => h) (Or.inl ⟨by rfl, ?_⟩) (by assumption) ?_
        rotate_left
        · intro w hSw; (try dsimp only at hSw); go_simp; first | done | with_reducible rfl
        try simp only [Act.put, List.setIfInBounds_toArray, List.set_cons_zero, List.set_cons_succ]
        refine wpAnyH_take (i := 7) (oi := { dst := some 51, op := Op.binOp BinOp.neq 37 (Operand.tmp 45) (Operand.tmp 50) 37, type := 4, pos := "law.go:177", after := #[{ on := 1, ground := Ground.data }, { on := 6, ground := Ground.data }], guard := none }) (v := ?_) rfl (by kernel_rfl) (by kernel_rfl) (by kernel_rfl) (fun _ _ _ h => h) (Or.inl ⟨by rfl, ?_⟩) (by assumption) ?_
        rotate_left
        · intro w hSw; (try dsimp only at hSw); go_simp; first | done | with_reducible rfl
        try simp only [Act.put, List.setIfInBounds_toArray, List.set_cons_zero, List.set_cons_succ]
        refine wpAnyH_take (i := 8) (oi := { dst := some 52, op := Op.move (Operand.tmp 51), type := 4, pos := "law.go:177", after := #[{ on := 7, ground := Ground.data }], guard := none }) (v := ?_) rfl (by kernel_rfl) (by kernel_rfl) (by kernel_rfl) (fun _ _ _ h => h) (Or.inl ⟨by rfl, ?_⟩) (by assumption) ?_
        rotate_left
        · intro w hSw; (try dsimp only at hSw); go_simp; first | done | with_reducible rfl
        try simp only [Act.put, List.setIfInBounds_toArray, List.set_cons_zero, List.set_cons_succ]
        refine wpAnyH_take (i := 9) (oi := { dst := some 53, op := Op.fieldAddr 40 (Operand.tmp 6) 1, type := 0, pos := "law.go:177", after := #[{ on := 8, ground := Ground.guard }], guard := some (8, false) }) (v := ?_) rfl (by kernel_rfl) (by kernel_rfl) (by kernel_rfl) (fun _ _ _ h => h) (Or.inl ⟨by rfl, ?_⟩) (by assumption) ?_
        rotate_left
        · intro w hSw; (try dsimp only at hSw); go_simp; first | done | with_reducible rfl
        try simp only [Act.put, List.setIfInBounds_toArray, List.set_cons_zero, List.set_cons_succ]
        refine wpAnyH_take (i := 10) (oi := { dst := some 54, op := Op.load 37 (Operand.tmp 53), type := 37, pos := "law.go:177", after := #[{ on := 9, ground := Ground.data }, { on := 8, ground := Ground.guard }], guard := some (8, false) }) (v := ?_) rfl (by kernel_rfl) (by kernel_rfl) (by kernel_rfl) (fun _ _ _ h => h) (Or.inl ⟨by rfl, ?_⟩) (by assumption) ?_
        rotate_left
        · intro w hSw; (try dsimp only at hSw); go_simp; first | done | with_reducible rfl
        try simp only [Act.put, List.setIfInBounds_toArray, List.set_cons_zero, List.set_cons_succ]
        refine wpAnyH_take (i := 11) (oi := { dst := some 55, op := Op.move (Operand.tmp 1), type := 22, pos := "law.go:177", after := #[{ on := 8, ground := Ground.guard }], guard := some (8, false) }) (v := ?_) rfl (by kernel_rfl) (by kernel_rfl) (by kernel_rfl) (fun _ _ _ h => h) (Or.inl ⟨by rfl, ?_⟩) (by assumption) ?_
        rotate_left
        · intro w hSw; (try dsimp only at hSw); go_simp; first | done | with_reducible rfl
        try simp only [Act.put, List.setIfInBounds_toArray, List.set_cons_zero, List.set_cons_succ]
        refine wpAnyH_take (i := 12) (oi := { dst := some 56, op := Op.move (Operand.tmp 5), type := 3, pos := "law.go:177", after := #[{ on := 8, ground := Ground.guard }], guard := some (8, false) }) (v := ?_) rfl (by kernel_rfl) (by kernel_rfl) (by kernel_rfl) (fun _ _ _ h => h) (Or.inl ⟨by rfl, ?_⟩) (by assumption) ?_
        rotate_left
        · intro w hSw; (try dsimp only at hSw); go_simp; first | done | with_reducible rfl
        try simp only [Act.put, List.setIfInBounds_toArray, List.set_cons_zero, List.set_cons_succ]
        refine wpAnyH_take (i := 13) (oi := { dst := some 57, op := Op.indexAddr 22 (Operand.tmp 55) (Operand.tmp 56), type := 0, pos := "law.go:177", after := #[{ on := 11, ground := Ground.data }, { on := 12, ground := Ground.data }, { on := 8, ground := Ground.guard }], guard := some (8, false) }) (v := ?_) rfl (by kernel_rfl) (by kernel_rfl) (by kernel_rfl) (fun _ _ _ h => h) (Or.inl ⟨by rfl, ?_⟩) (by assumption) ?_
        rotate_left
        · intro w hSw; (try dsimp only at hSw); go_simp; first | done | with_reducible rfl
        try simp only [Act.put, List.setIfInBounds_toArray, List.set_cons_zero, List.set_cons_succ]
        refine wpAnyH_take (i := 14) (oi := { dst := some 58, op := Op.fieldAddr 40 (Operand.tmp 57) 1, type := 0, pos := "law.go:177", after := #[{ on := 13, ground := Ground.data }, { on := 8, ground := Ground.guard }], guard := some (8, false) }) (v := ?_) rfl (by kernel_rfl) (by kernel_rfl) (by kernel_rfl) (fun _ _ _ h => h) (Or.inl ⟨by rfl, ?_⟩) (by assumption) ?_
        rotate_left
        · intro w hSw; (try dsimp only at hSw); go_simp; first | done | with_reducible rfl
        try simp only [Act.put, List.setIfInBounds_toArray, List.set_cons_zero, List.set_cons_succ]
        refine wpAnyH_take (i := 15) (oi := { dst := some 59, op := Op.load 37 (Operand.tmp 58), type := 37, pos := "law.go:177", after := #[{ on := 14, ground := Ground.data }, { on := 8, ground := Ground.guard }], guard := some (8, false) }) (v := ?_) rfl (by kernel_rfl) (by kernel_rfl) (by kernel_rfl) (fun _ _ _ h => h) (Or.inl ⟨by rfl, ?_⟩) (by assumption) ?_
        rotate_left
        · intro w hSw; (try dsimp only at hSw); go_simp; first | done | with_reducible rfl
        try simp only [Act.put, List.setIfInBounds_toArray, List.set_cons_zero, List.set_cons_succ]
        refine wpAnyH_take (i := 16) (oi := { dst := some 60, op := Op.binOp BinOp.neq 37 (Operand.tmp 54) (Operand.tmp 59) 37, type := 4, pos := "law.go:177", after := #[{ on := 10, ground := Ground.data }, { on := 15, ground := Ground.data }, { on := 8, ground := Ground.guard }], guard := some (8, false) }) (v := ?_) rfl (by kernel_rfl) (by kernel_rfl) (by kernel_rfl) (fun _ _ _ h => h) (Or.inl ⟨by rfl, ?_⟩) (by assumption) ?_
        rotate_left
        · intro w hSw; (try dsimp only at hSw); go_simp; first | done | with_reducible rfl
        try simp only [Act.put, List.setIfInBounds_toArray, List.set_cons_zero, List.set_cons_succ]
        refine wpAnyH_take (i := 17) (oi := { dst := some 61, op := Op.pick (Operand.tmp 52) (Operand.const (Value.bool true)) (Operand.tmp 60), type := 4, pos := "law.go:177", after := #[{ on := 8, ground := Ground.data }, { on := 16, ground := Ground.data }], guard := none }) (v := ?_) rfl (by kernel_rfl) (by kernel_rfl) (by kernel_rfl) (fun _ _ _ h => h) (Or.inl ⟨by rfl, ?_⟩) (by assumption) ?_
        rotate_left
        · intro w hSw; (try dsimp only at hSw); go_simp; first | done | with_reducible rfl
        try simp only [Act.put, List.setIfInBounds_toArray, List.set_cons_zero, List.set_cons_succ]
        refine wpAnyH_take (i := 18) (oi := { dst := some 62, op := Op.move (Operand.tmp 61), type := 4, pos := "law.go:177", after := #[{ on := 17, ground := Ground.data }, { on := 8, ground := Ground.chain }], guard := none }) (v := ?_) rfl (by kernel_rfl) (by kernel_rfl) (by kernel_rfl) (fun _ _ _ h => h) (Or.inl ⟨by rfl, ?_⟩) (by assumption) ?_
        rotate_left
        · intro w hSw; (try dsimp only at hSw); go_simp; first | done | with_reducible rfl
        try simp only [Act.put, List.setIfInBounds_toArray, List.set_cons_zero, List.set_cons_succ]
        refine wpAnyH_take (i := 19) (oi := { dst := some 63, op := Op.fieldAddr 40 (Operand.tmp 6) 2, type := 0, pos := "law.go:177", after := #[{ on := 18, ground := Ground.guard }], guard := some (18, false) }) (v := ?_) rfl (by kernel_rfl) (by kernel_rfl) (by kernel_rfl) (fun _ _ _ h => h) (Or.inl ⟨by rfl, ?_⟩) (by assumption) ?_
        rotate_left
        · intro w hSw; (try dsimp only at hSw); go_simp; first | done | with_reducible rfl
        try simp only [Act.put, List.setIfInBounds_toArray, List.set_cons_zero, List.set_cons_succ]
        refine wpAnyH_take (i := 20) (oi := { dst := some 64, op := Op.load 9 (Operand.tmp 63), type := 9, pos := "law.go:177", after := #[{ on := 19, ground := Ground.data }, { on := 18, ground := Ground.guard }], guard := some (18, false) }) (v := ?_) rfl (by kernel_rfl) (by kernel_rfl) (by kernel_rfl) (fun _ _ _ h => h) (Or.inl ⟨by rfl, ?_⟩) (by assumption) ?_
        rotate_left
        · intro w hSw; (try dsimp only at hSw); go_simp; first | done | with_reducible rfl
        try simp only [Act.put, List.setIfInBounds_toArray, List.set_cons_zero, List.set_cons_succ]
        refine wpAnyH_take (i := 21) (oi := { dst := some 65, op := Op.move (Operand.tmp 1), type := 22, pos := "law.go:177", after := #[{ on := 18, ground := Ground.guard }], guard := some (18, false) }) (v := ?_) rfl (by kernel_rfl) (by kernel_rfl) (by kernel_rfl) (fun _ _ _ h => h) (Or.inl ⟨by rfl, ?_⟩) (by assumption) ?_
        rotate_left
        · intro w hSw; (try dsimp only at hSw); go_simp; first | done | with_reducible rfl
        try simp only [Act.put, List.setIfInBounds_toArray, List.set_cons_zero, List.set_cons_succ]
        refine wpAnyH_take (i := 22) (oi := { dst := some 66, op := Op.move (Operand.tmp 5), type := 3, pos := "law.go:177", after := #[{ on := 18, ground := Ground.guard }], guard := some (18, false) }) (v := ?_) rfl (by kernel_rfl) (by kernel_rfl) (by kernel_rfl) (fun _ _ _ h => h) (Or.inl ⟨by rfl, ?_⟩) (by assumption) ?_
        rotate_left
        · intro w hSw; (try dsimp only at hSw); go_simp; first | done | with_reducible rfl
        try simp only [Act.put, List.setIfInBounds_toArray, List.set_cons_zero, List.set_cons_succ]
        refine wpAnyH_take (i := 23) (oi := { dst := some 67, op := Op.indexAddr 22 (Operand.tmp 65) (Operand.tmp 66), type := 0, pos := "law.go:177", after := #[{ on := 21, ground := Ground.data }, { on := 22, ground := Ground.data }, { on := 18, ground := Ground.guard }], guard := some (18, false) }) (v := ?_) rfl (by kernel_rfl) (by kernel_rfl) (by kernel_rfl) (fun _ _ _ h => h) (Or.inl ⟨by rfl, ?_⟩) (by assumption) ?_
        rotate_left
        · intro w hSw; (try dsimp only at hSw); go_simp; first | done | with_reducible rfl
        try simp only [Act.put, List.setIfInBounds_toArray, List.set_cons_zero, List.set_cons_succ]
        refine wpAnyH_take (i := 24) (oi := { dst := some 68, op := Op.fieldAddr 40 (Operand.tmp 67) 2, type := 0, pos := "law.go:177", after := #[{ on := 23, ground := Ground.data }, { on := 18, ground := Ground.guard }], guard := some (18, false) }) (v := ?_) rfl (by kernel_rfl) (by kernel_rfl) (by kernel_rfl) (fun _ _ _ h => h) (Or.inl ⟨by rfl, ?_⟩) (by assumption) ?_
        rotate_left
        · intro w hSw; (try dsimp only at hSw); go_simp; first | done | with_reducible rfl
        try simp only [Act.put, List.setIfInBounds_toArray, List.set_cons_zero, List.set_cons_succ]
        refine wpAnyH_take (i := 25) (oi := { dst := some 69, op := Op.load 9 (Operand.tmp 68), type := 9, pos := "law.go:177", after := #[{ on := 24, ground := Ground.data }, { on := 18, ground := Ground.guard }], guard := some (18, false) }) (v := ?_) rfl (by kernel_rfl) (by kernel_rfl) (by kernel_rfl) (fun _ _ _ h => h) (Or.inl ⟨by rfl, ?_⟩) (by assumption) ?_
        rotate_left
        · intro w hSw; (try dsimp only at hSw); go_simp; first | done | with_reducible rfl
        try simp only [Act.put, List.setIfInBounds_toArray, List.set_cons_zero, List.set_cons_succ]
        refine wpAnyH_take (i := 26) (oi := { dst := some 70, op := Op.binOp BinOp.neq 9 (Operand.tmp 64) (Operand.tmp 69) 9, type := 4, pos := "law.go:177", after := #[{ on := 20, ground := Ground.data }, { on := 25, ground := Ground.data }, { on := 18, ground := Ground.guard }], guard := some (18, false) }) (v := ?_) rfl (by kernel_rfl) (by kernel_rfl) (by kernel_rfl) (fun _ _ _ h => h) (Or.inl ⟨by rfl, ?_⟩) (by assumption) ?_
        rotate_left
        · intro w hSw; (try dsimp only at hSw); go_simp; first | done | with_reducible rfl
        try simp only [Act.put, List.setIfInBounds_toArray, List.set_cons_zero, List.set_cons_succ]
        refine wpAnyH_take (i := 27) (oi := { dst := some 71, op := Op.pick (Operand.tmp 62) (Operand.const (Value.bool true)) (Operand.tmp 70), type := 4, pos := "law.go:177", after := #[{ on := 18, ground := Ground.data }, { on := 26, ground := Ground.data }], guard := none }) (v := ?_) rfl (by kernel_rfl) (by kernel_rfl) (by kernel_rfl) (fun _ _ _ h => h) (Or.inl ⟨by rfl, ?_⟩) (by assumption) ?_
        rotate_left
        · intro w hSw; (try dsimp only at hSw); go_simp; first | done | with_reducible rfl
        try simp only [Act.put, List.setIfInBounds_toArray, List.set_cons_zero, List.set_cons_succ]
        refine wpAnyH_take (i := 28) (oi := { dst := some 72, op := Op.move (Operand.tmp 71), type := 4, pos := "law.go:177", after := #[{ on := 27, ground := Ground.data }, { on := 18, ground := Ground.chain }], guard := none }) (v := ?_) rfl (by kernel_rfl) (by kernel_rfl) (by kernel_rfl) (fun _ _ _ h => h) (Or.inl ⟨by rfl, ?_⟩) (by assumption) ?_
        rotate_left
        · intro w hSw; (try dsimp only at hSw); go_simp; first | done | with_reducible rfl
        try simp only [Act.put, List.setIfInBounds_toArray, List.set_cons_zero, List.set_cons_succ]
        refine wpAnyH_take (i := 29) (oi := { dst := some 73, op := Op.fieldAddr 40 (Operand.tmp 6) 3, type := 0, pos := "law.go:177", after := #[{ on := 28, ground := Ground.guard }], guard := some (28, false) }) (v := ?_) rfl (by kernel_rfl) (by kernel_rfl) (by kernel_rfl) (fun _ _ _ h => h) (Or.inl ⟨by rfl, ?_⟩) (by assumption) ?_
        rotate_left
        · intro w hSw; (try dsimp only at hSw); go_simp; first | done | with_reducible rfl
        try simp only [Act.put, List.setIfInBounds_toArray, List.set_cons_zero, List.set_cons_succ]
        refine wpAnyH_take (i := 30) (oi := { dst := some 74, op := Op.load 38 (Operand.tmp 73), type := 38, pos := "law.go:177", after := #[{ on := 29, ground := Ground.data }, { on := 28, ground := Ground.guard }], guard := some (28, false) }) (v := ?_) rfl (by kernel_rfl) (by kernel_rfl) (by kernel_rfl) (fun _ _ _ h => h) (Or.inl ⟨by rfl, ?_⟩) (by assumption) ?_
        rotate_left
        · intro w hSw; (try dsimp only at hSw); go_simp; first | done | with_reducible rfl
        try simp only [Act.put, List.setIfInBounds_toArray, List.set_cons_zero, List.set_cons_succ]
        refine wpAnyH_take (i := 31) (oi := { dst := some 75, op := Op.call { callee := Callee.builtin Builtin.len, args := #[Operand.tmp 74], argTypes := #[38] }, type := 3, pos := "law.go:177", after := #[{ on := 30, ground := Ground.data }, { on := 28, ground := Ground.guard }], guard := some (28, false) }) (v := ?_) rfl (by kernel_rfl) (by kernel_rfl) (by kernel_rfl) (fun _ _ _ h => h) (Or.inl ⟨by rfl, ?_⟩) (by assumption) ?_
        rotate_left
        · intro w hSw; (try dsimp only at hSw); go_simp; first | done | with_reducible rfl
        try simp only [Act.put, List.setIfInBounds_toArray, List.set_cons_zero, List.set_cons_succ]
        refine wpAnyH_take (i := 32) (oi := { dst := some 76, op := Op.move (Operand.tmp 1), type := 22, pos := "law.go:177", after := #[{ on := 28, ground := Ground.guard }], guard := some (28, false) }) (v := ?_) rfl (by kernel_rfl) (by kernel_rfl) (by kernel_rfl) (fun _ _ _ h => h) (Or.inl ⟨by rfl, ?_⟩) (by assumption) ?_
        rotate_left
        · intro w hSw; (try dsimp only at hSw); go_simp; first | done | with_reducible rfl
        try simp only [Act.put, List.setIfInBounds_toArray, List.set_cons_zero, List.set_cons_succ]
        refine wpAnyH_take (i := 33) (oi := { dst := some 77, op := Op.move (Operand.tmp 5), type := 3, pos := "law.go:177", after := #[{ on := 28, ground := Ground.guard }], guard := some (28, false) }) (v := ?_) rfl (by kernel_rfl) (by kernel_rfl) (by kernel_rfl) (fun _ _ _ h => h) (Or.inl ⟨by rfl, ?_⟩) (by assumption) ?_
        rotate_left
        · intro w hSw; (try dsimp only at hSw); go_simp; first | done | with_reducible rfl
        try simp only [Act.put, List.setIfInBounds_toArray, List.set_cons_zero, List.set_cons_succ]
        refine wpAnyH_take (i := 34) (oi := { dst := some 78, op := Op.indexAddr 22 (Operand.tmp 76) (Operand.tmp 77), type := 0, pos := "law.go:177", after := #[{ on := 32, ground := Ground.data }, { on := 33, ground := Ground.data }, { on := 28, ground := Ground.guard }], guard := some (28, false) }) (v := ?_) rfl (by kernel_rfl) (by kernel_rfl) (by kernel_rfl) (fun _ _ _ h => h) (Or.inl ⟨by rfl, ?_⟩) (by assumption) ?_
        rotate_left
        · intro w hSw; (try dsimp only at hSw); go_simp; first | done | with_reducible rfl
        try simp only [Act.put, List.setIfInBounds_toArray, List.set_cons_zero, List.set_cons_succ]
        refine wpAnyH_take (i := 35) (oi := { dst := some 79, op := Op.fieldAddr 40 (Operand.tmp 78) 3, type := 0, pos := "law.go:177", after := #[{ on := 34, ground := Ground.data }, { on := 28, ground := Ground.guard }], guard := some (28, false) }) (v := ?_) rfl (by kernel_rfl) (by kernel_rfl) (by kernel_rfl) (fun _ _ _ h => h) (Or.inl ⟨by rfl, ?_⟩) (by assumption) ?_
        rotate_left
        · intro w hSw; (try dsimp only at hSw); go_simp; first | done | with_reducible rfl
        try simp only [Act.put, List.setIfInBounds_toArray, List.set_cons_zero, List.set_cons_succ]
        refine wpAnyH_take (i := 36) (oi := { dst := some 80, op := Op.load 38 (Operand.tmp 79), type := 38, pos := "law.go:177", after := #[{ on := 35, ground := Ground.data }, { on := 28, ground := Ground.guard }], guard := some (28, false) }) (v := ?_) rfl (by kernel_rfl) (by kernel_rfl) (by kernel_rfl) (fun _ _ _ h => h) (Or.inl ⟨by rfl, ?_⟩) (by assumption) ?_
        rotate_left
        · intro w hSw; (try dsimp only at hSw); go_simp; first | done | with_reducible rfl
        try simp only [Act.put, List.setIfInBounds_toArray, List.set_cons_zero, List.set_cons_succ]
        refine wpAnyH_take (i := 37) (oi := { dst := some 81, op := Op.call { callee := Callee.builtin Builtin.len, args := #[Operand.tmp 80], argTypes := #[38] }, type := 3, pos := "law.go:177", after := #[{ on := 36, ground := Ground.data }, { on := 28, ground := Ground.guard }], guard := some (28, false) }) (v := ?_) rfl (by kernel_rfl) (by kernel_rfl) (by kernel_rfl) (fun _ _ _ h => h) (Or.inl ⟨by rfl, ?_⟩) (by assumption) ?_
        rotate_left
        · intro w hSw; (try dsimp only at hSw); go_simp; first | done | with_reducible rfl
        try simp only [Act.put, List.setIfInBounds_toArray, List.set_cons_zero, List.set_cons_succ]
        refine wpAnyH_take (i := 38) (oi := { dst := some 82, op := Op.binOp BinOp.neq 3 (Operand.tmp 75) (Operand.tmp 81) 3, type := 4, pos := "law.go:177", after := #[{ on := 31, ground := Ground.data }, { on := 37, ground := Ground.data }, { on := 28, ground := Ground.guard }], guard := some (28, false) }) (v := ?_) rfl (by kernel_rfl) (by kernel_rfl) (by kernel_rfl) (fun _ _ _ h => h) (Or.inl ⟨by rfl, ?_⟩) (by assumption) ?_
        rotate_left
        · intro w hSw; (try dsimp only at hSw); go_simp; first | done | with_reducible rfl
        try simp only [Act.put, List.setIfInBounds_toArray, List.set_cons_zero, List.set_cons_succ]
        refine wpAnyH_take (i := 39) (oi := { dst := some 83, op := Op.pick (Operand.tmp 72) (Operand.const (Value.bool true)) (Operand.tmp 82), type := 4, pos := "law.go:177", after := #[{ on := 28, ground := Ground.data }, { on := 38, ground := Ground.data }], guard := none }) (v := ?_) rfl (by kernel_rfl) (by kernel_rfl) (by kernel_rfl) (fun _ _ _ h => h) (Or.inl ⟨by rfl, ?_⟩) (by assumption) ?_
        rotate_left
        · intro w hSw; (try dsimp only at hSw); go_simp; first | done | with_reducible rfl
        try simp only [Act.put, List.setIfInBounds_toArray, List.set_cons_zero, List.set_cons_succ]
        refine wpAnyH_done (by kernel_rfl) ?_ _
        clear hHeld KS
        replace BX : Hid (At W5.drew w.heap.size #[.slice (some ⟨gA, 0, none⟩) (Z.length + 6) cA, .slice (some ⟨gB, 0, none⟩) Z.length cB, .int .i64 Z.length]) := Hid.mk (BX.out.gr d1)
        replace hG : Hid (Gr w W5.drew) := Hid.mk (hG.out.trans d1)
        replace BR := Hid.mk (BR.out.gr d1)
        clear d1
        generalize W5.drew = W6 at *
        clear W5
        have x0 := Hid.mk True.intro
        have x1 := Hid.mk True.intro
        have x2 := Hid.mk True.intro
        go_upto_region 11 with fail
        clear x0 x1 x2
        go_loopw [7] (fun x wr => ∃ k : Nat, x = .int .i64 k ∧ k ≤ Z[i].r.slots.length + 6 ∧ Hid (At wr w.heap.size #[.slice (some ⟨gA, 0, none⟩) (Z.length + 6) cA, .slice (some ⟨gB, 0, none⟩) Z.length cB, .int .i64 Z.length]) ∧ Hid (At wr kb #[.int .u64 Z[i].r.b, .int .u64 Z[i].r.n, .string (str Z[i].r.data), .slice (some ⟨Z[i].g, 0, none⟩) Z[i].r.slots.length Z[i].c]) ∧ Hid (Gr w wr)) (fun x _ => Z[i].r.slots.length + 6 - (intOf x).toNat)
        case atStart => exact ⟨0, rfl, Nat.zero_le _, BX, BR, hG⟩
        case round =>
          clear BX BR hG
          obtain ⟨k, rfl, hk', BX, BR, hG⟩ := hrel
          have x1 : wr.cell? ⟨w.heap.size, 1, none⟩ = some (.slice (some ⟨gB, 0, none⟩) Z.length cB) := BX.out.2.1 1
          have y1 : wr.cell? ⟨gB, i, none⟩ = some (.slice (some ⟨Z[i].g, 0, none⟩) (Z[i].r.slots.length + 6) Z[i].c) := own_cell (hT.out.below hG.out.below).rows rfl i _ (rows_at hlt2)
          by_cases hkl : k < Z[i].r.slots.length + 6
          · have hk1 : (k : Int) < ((Z[i].r.slots.length + 6 : Nat) : Int) := Int.ofNat_lt.2 hkl
            have hk2 : (k : Int) < (Z[i].r.slots.length : Int) + 6 := by omega
            go_upto_region 14 with fail
            clear x1 y1
            refine wp_world (fun W => At W wr.heap.size (List.toArray [.bool false, .int .u64 0, .int .u64 0, .int .u64 0, .int .u64 0, .int .u8 0, .int .i64 0, .int .u64 77]) ∧ Gr wr W) ⟨At.new wr _ _, (Gr.refl _).alloc _⟩ ?_
            rintro W8 ⟨BW, G8⟩
            have hkw1 : w.heap.size < wr.heap.size := BX.out.1
            have hkw2 : kb < wr.heap.size := BR.out.1
            have hkw3 := hG.out.below.size
            replace BR := Hid.mk (BR.out.gr G8)
            replace BW := Hid.mk BW
            replace BX : Hid (At W8 w.heap.size #[.slice (some ⟨gA, 0, none⟩) (Z.length + 6) cA, .slice (some ⟨gB, 0, none⟩) Z.length cB, .int .i64 Z.length]) := Hid.mk (BX.out.gr G8)
            replace hG : Hid (Gr w W8) := Hid.mk (hG.out.trans G8)
            clear G8
            generalize wr.heap.size = kw at *
            clear wr
            have hG3 := Hid.mk hG.out
            by_cases hks : k < Z[i].r.slots.length
            · skip
              have hk3 : (k : Int) < (Z[i].r.slots.length : Int) := by omega
              obtain ⟨b2, off2, rfl, hb2, hc2⟩ := (hs.out.below hG3.out.below) k hks
              obtain ⟨sv, hsv⟩ : ∃ s, s = Z[i].r.slots[k] := ⟨_, rfl⟩
              have hsk : (Z[i].r.slots ++ List.replicate 6 s77)[k]? = some sv := by rw [List.getElem?_append_left hks, List.getElem?_eq_getElem hks, hsv]
              have rg := Hid.mk (show W8.rangeAt b2 (off2 + k * 8) (Sl.vals sv) from fun j v q => hc2 j v (by rw [← hsv]; exact q))
              clear hc2 hsv
              have c3 : W8.cell? ⟨b, off + i * 4 + 3, none⟩ = some (.slice (some ⟨b2, off2, none⟩) Z[i].r.slots.length sc) := (cell_of_block (hG3.out.below.block b hb) _).trans e3.out
              go_upto_region 15 with fail
              refine wp_region_lit ?_
              refine wpList_plain rfl (fun K hK => ?_)
              go_simp
              with_reducible refine hK _ _ ?_
              clear hK K
              try simp only [Act.put, List.setIfInBounds_toArray, List.set_cons_zero, List.set_cons_succ]
              refine wpList_plain rfl (fun K hK => ?_)
              go_simp
              with_reducible refine hK _ _ ?_
              clear hK K
              try simp only [Act.put, List.setIfInBounds_toArray, List.set_cons_zero, List.set_cons_succ]
              refine wpList_plain rfl (fun K hK => ?_)
              go_simp
              with_reducible refine hK _ _ ?_
              clear hK K
              try simp only [Act.put, List.setIfInBounds_toArray, List.set_cons_zero, List.set_cons_succ]
              refine wpList_plain rfl (fun K hK => ?_)
              go_simp
              with_reducible refine hK _ _ ?_
              clear hK K
              try simp only [Act.put, List.setIfInBounds_toArray, List.set_cons_zero, List.set_cons_succ]
              refine wpList_plain rfl (fun K hK => ?_)
              go_simp
              with_reducible refine hK _ _ ?_
              clear hK K
              try simp only [Act.put, List.setIfInBounds_toArray, List.set_cons_zero, List.set_cons_succ]
              refine wpList_plain rfl (fun K hK => ?_)
              go_simp
              with_reducible refine hK _ _ ?_
              clear hK K
              try simp only [Act.put, List.setIfInBounds_toArray, List.set_cons_zero, List.set_cons_succ]
              refine wpList_plain rfl (fun K hK => ?_)
              go_simp
              with_reducible refine hK _ _ ?_
              clear hK K
              try simp only [Act.put, List.setIfInBounds_toArray, List.set_cons_zero, List.set_cons_succ]
              refine wpList_plain rfl (fun K hK => ?_)
              refine wp_load_mid _ _ rfl _ (off2 + k * 8) rfl (Sl.vals sv) _ rg.out Try.underlying45 rfl (by kernel_rfl) (hK _ _ ?_)
              clear hK K
              try simp only [Act.put, List.setIfInBounds_toArray, List.set_cons_zero, List.set_cons_succ]
              have th := Hid.mk (BW.out.there 0 8 (by simp))
              have nW := Hid.mk (At.setAll (cs := [.bool false, .int .u64 0, .int .u64 0, .int .u64 0, .int .u64 0, .int .u8 0, .int .i64 0, .int .u64 77]) BW.out (Sl.vals sv) rfl)
              have nX := Hid.mk (BX.out.other (b' := kw) (by omega) 0 (Sl.vals sv))
              have nR := Hid.mk (BR.out.other (b' := kw) (by omega) 0 (Sl.vals sv))
              have nG := Hid.mk (hG.out.setCells kw (by omega) (Sl.vals sv) 0)
              refine wpList_plain rfl (fun K hK => ?_)
              refine wp_store_mid _ _ _ rfl _ _ (List.toArray (Sl.vals sv)) rfl rfl th.out (by kernel_rfl) (all_oneCell_toArray (sl_one sv)) (hK _ _ ?_)
              clear hK K th rg c3 BW BX BR hG hG3
              try simp only [Act.put]
              generalize World.setCells _ _ _ _ = W9 at *
              have BX := nX
              have BW := nW
              have BR := nR
              have hG := nG
              clear nX nW nR nG
              have heq := fun W => slot_neq sv W
              have KS : Hid (∀ W, Gr W9 W → W.cell? ⟨kb, 3, none⟩ = some (.slice (some ⟨Z[i].g, 0, none⟩) Z[i].r.slots.length Z[i].c) ∧ W.rangeAt Z[i].g (k * 8) (Sl.vals sv) ∧ W.rangeAt kw 0 (Sl.vals sv)) := Hid.mk (fun W q => ⟨(BR.out.gr q).2.1 3, slR.elem (hT.out.below (hG.out.trans q).below) hlt2 k hkl _ hsk, (BW.out.gr q).range⟩)
              have d1 : Gr W9 W9.drew := (Gr.refl _).drew
              go_upto_region 16 with fail
              refine wp_region_held_drew (S := (fun W => W.cell? ⟨kb, 3, none⟩ = some (.slice (some ⟨Z[i].g, 0, none⟩) Z[i].r.slots.length Z[i].c) ∧ W.rangeAt Z[i].g (k * 8) (Sl.vals sv) ∧ W.rangeAt kw 0 (Sl.vals sv))) (by kernel_rfl) (KS.out _ d1) (fun hHeld => ?_)
              refine wpAnyH_take (i := 0) (oi := { dst := some 111, op := Op.fieldAddr 40 (Operand.tmp 6) 3, type := 0, pos := "law.go:184", after := #[], guard := none }) (v := ?_) rfl (by kernel_rfl) (by kernel_rfl) (by kernel_rfl) (fun _ _ _ h => h) (Or.inl ⟨by rfl, ?_⟩) (by assumption) ?_
              rotate_left
              · intro w hSw; (try dsimp only at hSw); go_simp; first | done | with_reducible rfl
              try simp only [Act.put, List.setIfInBounds_toArray, List.set_cons_zero, List.set_cons_succ]
              refine wpAnyH_take (i := 1) (oi := { dst := some 112, op := Op.load 38 (Operand.tmp 111), type := 38, pos := "law.go:184", after := #[{ on := 0, ground := Ground.data }], guard := none }) (v := ?_) rfl (by kernel_rfl) (by kernel_rfl) (by kernel_rfl) (fun _ _ _ h => h) (Or.inl ⟨by rfl, ?_⟩) (by assumption) ?_
              rotate_left
              · intro w hSw; (try dsimp only at hSw); go_simp; first | done | with_reducible rfl
              try simp only [Act.put, List.setIfInBounds_toArray, List.set_cons_zero, List.set_cons_succ]
              refine wpAnyH_take (i := 2) (oi := { dst := some 113, op := Op.move (Operand.tmp 7), type := 3, pos := "law.go:184", after := #[], guard := none }) (v := ?_) rfl (by kernel_rfl) (by kernel_rfl) (by kernel_rfl) (fun _ _ _ h => h) (Or.inl ⟨by rfl, ?_⟩) (by assumption) ?_
              rotate_left
              · intro w hSw; (try dsimp only at hSw); go_simp; first | done | with_reducible rfl
              try simp only [Act.put, List.setIfInBounds_toArray, List.set_cons_zero, List.set_cons_succ]
              refine wpAnyH_take (i := 3) (oi := { dst := some 114, op := Op.indexAddr 38 (Operand.tmp 112) (Operand.tmp 113), type := 0, pos := "law.go:184", after := #[{ on := 1, ground := Ground.data }, { on := 2, ground := Ground.data }], guard := none }) (v := ?_) rfl (by kernel_rfl) (by kernel_rfl) (by kernel_rfl) (fun _ _ _ h => h) (Or.inl ⟨by rfl, ?_⟩) (by assumption) ?_
              rotate_left
              · intro w hSw; (try dsimp only at hSw); go_simp; first | done | with_reducible rfl
              try simp only [Act.put, List.setIfInBounds_toArray, List.set_cons_zero, List.set_cons_succ]
              refine wpAnyH_take (i := 4) (oi := { dst := some 115, op := Op.load 45 (Operand.tmp 114), type := 45, pos := "law.go:184", after := #[{ on := 3, ground := Ground.data }], guard := none }) (v := _) rfl (by kernel_rfl) (by kernel_rfl) (by kernel_rfl) (fun _ _ _ h => h) (yieldsIf_load_mid (by rfl) _ _ rfl _ _ rfl _ _ (fun _ h => h.2.1) Try.underlying45 rfl (by kernel_rfl)) (by assumption) ?_
              try simp only [Act.put, List.setIfInBounds_toArray, List.set_cons_zero, List.set_cons_succ]
              refine wpAnyH_take (i := 5) (oi := { dst := some 116, op := Op.load 45 (Operand.tmp 8), type := 45, pos := "law.go:184", after := #[], guard := none }) (v := _) rfl (by kernel_rfl) (by kernel_rfl) (by kernel_rfl) (fun _ _ _ h => h) (yieldsIf_load_mid (by rfl) _ _ rfl _ _ rfl _ _ (fun _ h => h.2.2) Try.underlying45 rfl (by kernel_rfl)) (by assumption) ?_
              try simp only [Act.put, List.setIfInBounds_toArray, List.set_cons_zero, List.set_cons_succ]
              refine wpAnyH_take (i := 6) (oi := { dst := some 117, op := Op.binOp BinOp.neq 45 (Operand.tmp 115) (Operand.tmp 116) 45, type := 4, pos := "law.go:184", after := #[{ on := 4, ground := Ground.data }, { on := 5, ground := Ground.data }], guard := none }) (v := ?_) rfl (by kernel_rfl) (by kernel_rfl) (by kernel_rfl) (fun _ _ _ h => h) (Or.inl ⟨by rfl, ?_⟩) (by assumption) ?_
              rotate_left
              · intro w hSw; (try dsimp only at hSw); go_simp; first | done | with_reducible rfl
              try simp only [Act.put, List.setIfInBounds_toArray, List.set_cons_zero, List.set_cons_succ]
              refine wpAnyH_done (by kernel_rfl) ?_ _
              clear hHeld KS
              replace BX : Hid (At W9.drew w.heap.size #[.slice (some ⟨gA, 0, none⟩) (Z.length + 6) cA, .slice (some ⟨gB, 0, none⟩) Z.length cB, .int .i64 Z.length]) := Hid.mk (BX.out.gr d1)
              replace hG : Hid (Gr w W9.drew) := Hid.mk (hG.out.trans d1)
              replace BR := Hid.mk (BR.out.gr d1)
              replace BW := Hid.mk (BW.out.gr d1)
              clear d1
              generalize W9.drew = W10 at *
              clear W9
              have hrow : Hid (∀ W, Gr W10 W → W.cell? ⟨w.heap.size, 1, none⟩ = some (.slice (some ⟨gB, 0, none⟩) Z.length cB) ∧ W.cell? ⟨gB, i, none⟩ = some Z[i].val ∧ W.rangeAt Z[i].g (k * 8) (Sl.vals sv) ∧ W.rangeAt kw 0 (Sl.vals sv)) := Hid.mk (fun W q => ⟨(BX.out.gr q).2.1 1, own_cell (hT.out.below (hG.out.trans q).below).rows rfl i _ (rows_at hlt2), slR.elem (hT.out.below (hG.out.trans q).below) hlt2 k hkl _ hsk, (BW.out.gr q).range⟩)
              have d1 : Gr W10 W10.drew := (Gr.refl _).drew
              unfold Zr.val at hrow
              go_upto_region 18 with fail
              refine wp_region_held_drew (S := (fun W => W.cell? ⟨w.heap.size, 1, none⟩ = some (.slice (some ⟨gB, 0, none⟩) Z.length cB) ∧ W.cell? ⟨gB, i, none⟩ = some (.slice (some ⟨Z[i].g, 0, none⟩) (Z[i].r.slots.length + 6) Z[i].c) ∧ W.rangeAt Z[i].g (k * 8) (Sl.vals sv) ∧ W.rangeAt kw 0 (Sl.vals sv))) (by kernel_rfl) (hrow.out _ d1) (fun hHeld => ?_)
              refine wpAnyH_take (i := 0) (oi := { dst := some 118, op := Op.fieldAddr 26 (Operand.tmp 2) 1, type := 0, pos := "law.go:188", after := #[], guard := none }) (v := ?_) rfl (by kernel_rfl) (by kernel_rfl) (by kernel_rfl) (fun _ _ _ h => h) (Or.inl ⟨by rfl, ?_⟩) (by assumption) ?_
              rotate_left
              · intro w hSw; (try dsimp only at hSw); go_simp; first | done | with_reducible rfl
              try simp only [Act.put, List.setIfInBounds_toArray, List.set_cons_zero, List.set_cons_succ]
              refine wpAnyH_take (i := 1) (oi := { dst := some 119, op := Op.load 24 (Operand.tmp 118), type := 24, pos := "law.go:188", after := #[{ on := 0, ground := Ground.data }], guard := none }) (v := ?_) rfl (by kernel_rfl) (by kernel_rfl) (by kernel_rfl) (fun _ _ _ h => h) (Or.inl ⟨by rfl, ?_⟩) (by assumption) ?_
              rotate_left
              · intro w hSw; (try dsimp only at hSw); go_simp; first | done | with_reducible rfl
              try simp only [Act.put, List.setIfInBounds_toArray, List.set_cons_zero, List.set_cons_succ]
              refine wpAnyH_take (i := 2) (oi := { dst := some 120, op := Op.move (Operand.tmp 5), type := 3, pos := "law.go:188", after := #[], guard := none }) (v := ?_) rfl (by kernel_rfl) (by kernel_rfl) (by kernel_rfl) (fun _ _ _ h => h) (Or.inl ⟨by rfl, ?_⟩) (by assumption) ?_
              rotate_left
              · intro w hSw; (try dsimp only at hSw); go_simp; first | done | with_reducible rfl
              try simp only [Act.put, List.setIfInBounds_toArray, List.set_cons_zero, List.set_cons_succ]
              refine wpAnyH_take (i := 3) (oi := { dst := some 121, op := Op.indexAddr 24 (Operand.tmp 119) (Operand.tmp 120), type := 0, pos := "law.go:188", after := #[{ on := 1, ground := Ground.data }, { on := 2, ground := Ground.data }], guard := none }) (v := ?_) rfl (by kernel_rfl) (by kernel_rfl) (by kernel_rfl) (fun _ _ _ h => h) (Or.inl ⟨by rfl, ?_⟩) (by assumption) ?_
              rotate_left
              · intro w hSw; (try dsimp only at hSw); go_simp; first | done | with_reducible rfl
              try simp only [Act.put, List.setIfInBounds_toArray, List.set_cons_zero, List.set_cons_succ]
              refine wpAnyH_take (i := 4) (oi := { dst := some 122, op := Op.load 38 (Operand.tmp 121), type := 38, pos := "law.go:188", after := #[{ on := 3, ground := Ground.data }], guard := none }) (v := ?_) rfl (by kernel_rfl) (by kernel_rfl) (by kernel_rfl) (fun _ _ _ h => h) (Or.inl ⟨by rfl, ?_⟩) (by assumption) ?_
              rotate_left
              · intro w hSw; (try dsimp only at hSw); go_simp; first | done | with_reducible rfl
              try simp only [Act.put, List.setIfInBounds_toArray, List.set_cons_zero, List.set_cons_succ]
              refine wpAnyH_take (i := 5) (oi := { dst := some 123, op := Op.move (Operand.tmp 7), type := 3, pos := "law.go:188", after := #[], guard := none }) (v := ?_) rfl (by kernel_rfl) (by kernel_rfl) (by kernel_rfl) (fun _ _ _ h => h) (Or.inl ⟨by rfl, ?_⟩) (by assumption) ?_
              rotate_left
              · intro w hSw; (try dsimp only at hSw); go_simp; first | done | with_reducible rfl
              try simp only [Act.put, List.setIfInBounds_toArray, List.set_cons_zero, List.set_cons_succ]
              refine wpAnyH_take (i := 6) (oi := { dst := some 124, op := Op.indexAddr 38 (Operand.tmp 122) (Operand.tmp 123), type := 0, pos := "law.go:188", after := #[{ on := 4, ground := Ground.data }, { on := 5, ground := Ground.data }], guard := none }) (v := ?_) rfl (by kernel_rfl) (by kernel_rfl) (by kernel_rfl) (fun _ _ _ h => h) (Or.inl ⟨by rfl, ?_⟩) (by assumption) ?_
              rotate_left
              · intro w hSw; (try dsimp only at hSw); go_simp; first | done | with_reducible rfl
              try simp only [Act.put, List.setIfInBounds_toArray, List.set_cons_zero, List.set_cons_succ]
              refine wpAnyH_take (i := 7) (oi := { dst := some 125, op := Op.load 45 (Operand.tmp 124), type := 45, pos := "law.go:188", after := #[{ on := 6, ground := Ground.data }], guard := none }) (v := _) rfl (by kernel_rfl) (by kernel_rfl) (by kernel_rfl) (fun _ _ _ h => h) (yieldsIf_load_mid (by rfl) _ _ rfl _ _ rfl _ _ (fun _ h => h.2.2.1) Try.underlying45 rfl (by kernel_rfl)) (by assumption) ?_
              try simp only [Act.put, List.setIfInBounds_toArray, List.set_cons_zero, List.set_cons_succ]
              refine wpAnyH_take (i := 8) (oi := { dst := some 126, op := Op.load 45 (Operand.tmp 8), type := 45, pos := "law.go:188", after := #[], guard := none }) (v := _) rfl (by kernel_rfl) (by kernel_rfl) (by kernel_rfl) (fun _ _ _ h => h) (yieldsIf_load_mid (by rfl) _ _ rfl _ _ rfl _ _ (fun _ h => h.2.2.2) Try.underlying45 rfl (by kernel_rfl)) (by assumption) ?_
              try simp only [Act.put, List.setIfInBounds_toArray, List.set_cons_zero, List.set_cons_succ]
              refine wpAnyH_take (i := 9) (oi := { dst := some 127, op := Op.binOp BinOp.neq 45 (Operand.tmp 125) (Operand.tmp 126) 45, type := 4, pos := "law.go:188", after := #[{ on := 7, ground := Ground.data }, { on := 8, ground := Ground.data }], guard := none }) (v := ?_) rfl (by kernel_rfl) (by kernel_rfl) (by kernel_rfl) (fun _ _ _ h => h) (Or.inl ⟨by rfl, ?_⟩) (by assumption) ?_
              rotate_left
              · intro w hSw; (try dsimp only at hSw); go_simp; first | done | with_reducible rfl
              try simp only [Act.put, List.setIfInBounds_toArray, List.set_cons_zero, List.set_cons_succ]
              refine wpAnyH_done (by kernel_rfl) ?_ _
              clear hHeld hrow
              replace BX : Hid (At W10.drew w.heap.size #[.slice (some ⟨gA, 0, none⟩) (Z.length + 6) cA, .slice (some ⟨gB, 0, none⟩) Z.length cB, .int .i64 Z.length]) := Hid.mk (BX.out.gr d1)
              replace hG : Hid (Gr w W10.drew) := Hid.mk (hG.out.trans d1)
              replace BR := Hid.mk (BR.out.gr d1)
              clear d1 BW
              go_wp2_with fail
              refine ⟨⟨k + 1, ?_, hkl, BX, BR, hG⟩, ?_⟩
              · first | rfl | rw [next_wS2 hkl hfs] | go_num
              · first | exact next_mT hkl | (rw [next_wS2 hkl hfs]; exact next_mT hkl)
            · skip
              have hk3 : ¬ (k : Int) < (Z[i].r.slots.length : Int) := by omega
              have c3 : W8.cell? ⟨b, off + i * 4 + 3, none⟩ = some (.slice sa Z[i].r.slots.length sc) := (cell_of_block (hG3.out.below.block b hb) _).trans e3.out
              have hsk : (Z[i].r.slots ++ List.replicate 6 s77)[k]? = some s77 := by
                rw [List.getElem?_append_right (by omega), List.getElem?_replicate]
                exact if_pos (by omega)
              have heq := fun W => slot_neq s77 W
              replace BW : Hid (At W8 kw (Sl.vals s77).toArray) := BW
              clear hG3
              have hrow : Hid (∀ W, Gr W8 W → W.cell? ⟨w.heap.size, 1, none⟩ = some (.slice (some ⟨gB, 0, none⟩) Z.length cB) ∧ W.cell? ⟨gB, i, none⟩ = some Z[i].val ∧ W.rangeAt Z[i].g (k * 8) (Sl.vals s77) ∧ W.rangeAt kw 0 (Sl.vals s77)) := Hid.mk (fun W q => ⟨(BX.out.gr q).2.1 1, own_cell (hT.out.below (hG.out.trans q).below).rows rfl i _ (rows_at hlt2), slR.elem (hT.out.below (hG.out.trans q).below) hlt2 k hkl _ hsk, (BW.out.gr q).range⟩)
              have d1 : Gr W8 W8.drew := (Gr.refl _).drew
              unfold Zr.val at hrow
              go_upto_region 18 with fail
              refine wp_region_held_drew (S := (fun W => W.cell? ⟨w.heap.size, 1, none⟩ = some (.slice (some ⟨gB, 0, none⟩) Z.length cB) ∧ W.cell? ⟨gB, i, none⟩ = some (.slice (some ⟨Z[i].g, 0, none⟩) (Z[i].r.slots.length + 6) Z[i].c) ∧ W.rangeAt Z[i].g (k * 8) (Sl.vals s77) ∧ W.rangeAt kw 0 (Sl.vals s77))) (by kernel_rfl) (hrow.out _ d1) (fun hHeld => ?_)
              refine wpAnyH_take (i := 0) (oi := { dst := some 118, op := Op.fieldAddr 26 (Operand.tmp 2) 1, type := 0, pos := "law.go:188", after := #[], guard := none }) (v := ?_) rfl (by kernel_rfl) (by kernel_rfl) (by kernel_rfl) (fun _ _ _ h => h) (Or.inl ⟨by rfl, ?_⟩) (by assumption) ?_
              rotate_left
              · intro w hSw; (try dsimp only at hSw); go_simp; first | done | with_reducible rfl
              try simp only [Act.put, List.setIfInBounds_toArray, List.set_cons_zero, List.set_cons_succ]
              refine wpAnyH_take (i := 1) (oi := { dst := some 119, op := Op.load 24 (Operand.tmp 118), type := 24, pos := "law.go:188", after := #[{ on := 0, ground := Ground.data }], guard := none }) (v := ?_) rfl (by kernel_rfl) (by kernel_rfl) (by kernel_rfl) (fun _ _ _ h => h) (Or.inl ⟨by rfl, ?_⟩) (by assumption) ?_
              rotate_left
              · intro w hSw; (try dsimp only at hSw); go_simp; first | done | with_reducible rfl
              try simp only [Act.put, List.setIfInBounds_toArray, List.set_cons_zero, List.set_cons_succ]
              refine wpAnyH_take (i := 2) (oi := { dst := some 120, op := Op.move (Operand.tmp 5), type := 3, pos := "law.go:188", after := #[], guard := none }) (v := ?_) rfl (by kernel_rfl) (by kernel_rfl) (by kernel_rfl) (fun _ _ _ h => h) (Or.inl ⟨by rfl, ?_⟩) (by assumption) ?_
              rotate_left
              · intro w hSw; (try dsimp only at hSw); go_simp; first | done | with_reducible rfl
              try simp only [Act.put, List.setIfInBounds_toArray, List.set_cons_zero, List.set_cons_succ]
              refine wpAnyH_take (i := 3) (oi := { dst := some 121, op := Op.indexAddr 24 (Operand.tmp 119) (Operand.tmp 120), type := 0, pos := "law.go:188", after := #[{ on := 1, ground := Ground.data }, { on := 2, ground := Ground.data }], guard := none }) (v := ?_) rfl (by kernel_rfl) (by kernel_rfl) (by kernel_rfl) (fun _ _ _ h => h) (Or.inl ⟨by rfl, ?_⟩) (by assumption) ?_
              rotate_left
              · intro w hSw; (try dsimp only at hSw); go_simp; first | done | with_reducible rfl
              try simp only [Act.put, List.setIfInBounds_toArray, List.set_cons_zero, List.set_cons_succ]
              refine wpAnyH_take (i := 4) (oi := { dst := some 122, op := Op.load 38 (Operand.tmp 121), type := 38, pos := "law.go:188", after := #[{ on := 3, ground := Ground.data }], guard := none }) (v := ?_) rfl (by kernel_rfl) (by kernel_rfl) (by kernel_rfl) (fun _ _ _ h => h) (Or.inl ⟨by rfl, ?_⟩) (by assumption) ?_
              rotate_left
              · intro w hSw; (try dsimp only at hSw); go_simp; first | done | with_reducible rfl
              try simp only [Act.put, List.setIfInBounds_toArray, List.set_cons_zero, List.set_cons_succ]
              refine wpAnyH_take (i := 5) (oi := { dst := some 123, op := Op.move (Operand.tmp 7), type := 3, pos := "law.go:188", after := #[], guard := none }) (v := ?_) rfl (by kernel_rfl) (by kernel_rfl) (by kernel_rfl) (fun _ _ _ h => h) (Or.inl ⟨by rfl, ?_⟩) (by assumption) ?_
              rotate_left
              · intro w hSw; (try dsimp only at hSw); go_simp; first | done | with_reducible rfl
              try simp only [Act.put, List.setIfInBounds_toArray, List.set_cons_zero, List.set_cons_succ]
              refine wpAnyH_take (i := 6) (oi := { dst := some 124, op := Op.indexAddr 38 (Operand.tmp 122) (Operand.tmp 123), type := 0, pos := "law.go:188", after := #[{ on := 4, ground := Ground.data }, { on := 5, ground := Ground.data }], guard := none }) (v := ?_) rfl (by kernel_rfl) (by kernel_rfl) (by kernel_rfl) (fun _ _ _ h => h) (Or.inl ⟨by rfl, ?_⟩) (by assumption) ?_
              rotate_left
              · intro w hSw; (try dsimp only at hSw); go_simp; first | done | with_reducible rfl
              try simp only [Act.put, List.setIfInBounds_toArray, List.set_cons_zero, List.set_cons_succ]
              refine wpAnyH_take (i := 7) (oi := { dst := some 125, op := Op.load 45 (Operand.tmp 124), type := 45, pos := "law.go:188", after := #[{ on := 6, ground := Ground.data }], guard := none }) (v := _) rfl (by kernel_rfl) (by kernel_rfl) (by kernel_rfl) (fun _ _ _ h => h) (yieldsIf_load_mid (by rfl) _ _ rfl _ _ rfl _ _ (fun _ h => h.2.2.1) Try.underlying45 rfl (by kernel_rfl)) (by assumption) ?_
              try simp only [Act.put, List.setIfInBounds_toArray, List.set_cons_zero, List.set_cons_succ]
              refine wpAnyH_take (i := 8) (oi := { dst := some 126, op := Op.load 45 (Operand.tmp 8), type := 45, pos := "law.go:188", after := #[], guard := none }) (v := _) rfl (by kernel_rfl) (by kernel_rfl) (by kernel_rfl) (fun _ _ _ h => h) (yieldsIf_load_mid (by rfl) _ _ rfl _ _ rfl _ _ (fun _ h => h.2.2.2) Try.underlying45 rfl (by kernel_rfl)) (by assumption) ?_
              try simp only [Act.put, List.setIfInBounds_toArray, List.set_cons_zero, List.set_cons_succ]
              refine wpAnyH_take (i := 9) (oi := { dst := some 127, op := Op.binOp BinOp.neq 45 (Operand.tmp 125) (Operand.tmp 126) 45, type := 4, pos := "law.go:188", after := #[{ on := 7, ground := Ground.data }, { on := 8, ground := Ground.data }], guard := none }) (v := ?_) rfl (by kernel_rfl) (by kernel_rfl) (by kernel_rfl) (fun _ _ _ h => h) (Or.inl ⟨by rfl, ?_⟩) (by assumption) ?_
              rotate_left
              · intro w hSw; (try dsimp only at hSw); go_simp; first | done | with_reducible rfl
              try simp only [Act.put, List.setIfInBounds_toArray, List.set_cons_zero, List.set_cons_succ]
              refine wpAnyH_done (by kernel_rfl) ?_ _
              clear hHeld hrow
              replace BX : Hid (At W8.drew w.heap.size #[.slice (some ⟨gA, 0, none⟩) (Z.length + 6) cA, .slice (some ⟨gB, 0, none⟩) Z.length cB, .int .i64 Z.length]) := Hid.mk (BX.out.gr d1)
              replace hG : Hid (Gr w W8.drew) := Hid.mk (hG.out.trans d1)
              replace BR := Hid.mk (BR.out.gr d1)
              clear d1 BW
              clear c3
              go_wp2_with fail
              refine ⟨⟨k + 1, ?_, hkl, BX, BR, hG⟩, ?_⟩
              · first | rfl | rw [next_wS2 hkl hfs] | go_num
              · first | exact next_mT hkl | (rw [next_wS2 hkl hfs]; exact next_mT hkl)
          · have hk1 : ¬ (k : Int) < ((Z[i].r.slots.length + 6 : Nat) : Int) := fun q => hkl (Int.ofNat_lt.1 q)
            have hk2 : ¬ (k : Int) < (Z[i].r.slots.length : Int) + 6 := by omega
            go_wp2_with fail
            refine ⟨⟨i + 1, ?_, hlt, BX, hG⟩, ?_⟩
            · first | rfl | rw [next_wS hlt hFn] | go_num
            · first | exact next_mT hlt | (rw [next_wS hlt hFn]; exact next_mT hlt)
      · skip
        have hi3 : (Z.length : Int) ≤ (i : Int) := by omega
        have hi4 : decide ((i : Int) < (Z.length : Int)) = false := by simpa using hi3
        have d := mk_cells (hT.out.below hG.out.below) i (by omega) hlt
        have d0 : wr.cell? ⟨gA, i * 4, none⟩ = some (.int .u64 77) := d 0 _ rfl
        have d1 : wr.cell? ⟨gA, i * 4 + 1, none⟩ = some (.int .u64 0) := d 1 _ rfl
        have d2 : wr.cell? ⟨gA, i * 4 + 1 + 1, none⟩ = some (.string ⟨#[]⟩) := d 2 _ rfl
        have d3 : wr.cell? ⟨gA, i * 4 + 1 + 1 + 1, none⟩ = some (.slice none 0 0) := d 3 _ rfl
        clear d
        go_upto_region 5 with fail
        refine wp_world (fun W => At W wr.heap.size #[.int .u64 77, .int .u64 0, .string ⟨#[]⟩, .slice none 0 0] ∧ Gr wr W) ⟨At.new wr _ _, (Gr.refl _).alloc _⟩ ?_
        rintro W5 ⟨BR, G5⟩
        clear x0 x1 x2 d0 d1 d2 d3
        replace BX : Hid (At W5 w.heap.size #[.slice (some ⟨gA, 0, none⟩) (Z.length + 6) cA, rv, .int .i64 Z.length]) := Hid.mk (BX.out.gr G5)
        replace hG : Hid (Gr w W5) := Hid.mk (hG.out.trans G5)
        clear G5
        have r0 : W5.cell? ⟨wr.heap.size, 0, none⟩ = some (.int .u64 77) := BR.2.1 0
        have r1 : W5.cell? ⟨wr.heap.size, 1, none⟩ = some (.int .u64 0) := BR.2.1 1
        have r2 : W5.cell? ⟨wr.heap.size, 2, none⟩ = some (.string ⟨#[]⟩) := BR.2.1 2
        have r3 : W5.cell? ⟨wr.heap.size, 3, none⟩ = some (.slice none 0 0) := BR.2.1 3
        clear BR
        go_upto_region 6 with fail
        refine wp_region_lit ?_
        refine wpList_plain rfl (fun K hK => ?_)
        go_simp
        with_reducible refine hK _ _ ?_
        clear hK K
        try simp only [Act.put, List.setIfInBounds_toArray, List.set_cons_zero, List.set_cons_succ]
        refine wpList_plain rfl (fun K hK => ?_)
        go_simp
        with_reducible refine hK _ _ ?_
        clear hK K
        try simp only [Act.put, List.setIfInBounds_toArray, List.set_cons_zero, List.set_cons_succ]
        refine wpList_plain rfl (fun K hK => ?_)
        go_simp
        with_reducible refine hK _ _ ?_
        clear hK K
        try simp only [Act.put, List.setIfInBounds_toArray, List.set_cons_zero, List.set_cons_succ]
        refine wpList_plain rfl (fun K hK => ?_)
        go_simp
        with_reducible refine hK _ _ ?_
        clear hK K
        try simp only [Act.put, List.setIfInBounds_toArray, List.set_cons_zero, List.set_cons_succ]
        refine BigFrame.wpList_want (by rfl) (fun K hK => ?_)
        go_simp
        with_reducible refine hK _ _ ?_
        clear hK K
        try simp only [Act.put, List.setIfInBounds_toArray, List.set_cons_zero, List.set_cons_succ]
        refine BigFrame.wpList_want (by rfl) (fun K hK => ?_)
        go_simp
        with_reducible refine hK _ _ ?_
        clear hK K
        try simp only [Act.put, List.setIfInBounds_toArray, List.set_cons_zero, List.set_cons_succ]
        refine BigFrame.wpList_want (by rfl) (fun K hK => ?_)
        go_simp
        with_reducible refine hK _ _ ?_
        clear hK K
        try simp only [Act.put, List.setIfInBounds_toArray, List.set_cons_zero, List.set_cons_succ]
        refine wpList_plain rfl (fun K hK => ?_)
        go_simp
        with_reducible refine hK _ _ ?_
        clear hK K
        try simp only [Act.put, List.setIfInBounds_toArray, List.set_cons_zero, List.set_cons_succ]
        refine wpList_plain rfl (fun K hK => ?_)
        go_simp
        with_reducible refine hK _ _ ?_
        clear hK K
        try simp only [Act.put, List.setIfInBounds_toArray, List.set_cons_zero, List.set_cons_succ]
        refine BigFrame.wpList_want (by rfl) (fun K hK => ?_)
        go_simp
        with_reducible refine hK _ _ ?_
        clear hK K
        try simp only [Act.put, List.setIfInBounds_toArray, List.set_cons_zero, List.set_cons_succ]
        refine BigFrame.wpList_want (by rfl) (fun K hK => ?_)
        go_simp
        with_reducible refine hK _ _ ?_
        clear hK K
        try simp only [Act.put, List.setIfInBounds_toArray, List.set_cons_zero, List.set_cons_succ]
        refine BigFrame.wpList_want (by rfl) (fun K hK => ?_)
        go_simp
        with_reducible refine hK _ _ ?_
        clear hK K
        try simp only [Act.put, List.setIfInBounds_toArray, List.set_cons_zero, List.set_cons_succ]
        refine wpList_plain rfl (fun K hK => ?_)
        go_simp
        with_reducible refine hK _ _ ?_
        clear hK K
        try simp only [Act.put, List.setIfInBounds_toArray, List.set_cons_zero, List.set_cons_succ]
        refine wpList_plain rfl (fun K hK => ?_)
        go_simp
        with_reducible refine hK _ _ ?_
        clear hK K
        try simp only [Act.put, List.setIfInBounds_toArray, List.set_cons_zero, List.set_cons_succ]
        refine BigFrame.wpList_want (by rfl) (fun K hK => ?_)
        go_simp
        with_reducible refine hK _ _ ?_
        clear hK K
        try simp only [Act.put, List.setIfInBounds_toArray, List.set_cons_zero, List.set_cons_succ]
        refine BigFrame.wpList_want (by rfl) (fun K hK => ?_)
        go_simp
        with_reducible refine hK _ _ ?_
        clear hK K
        try simp only [Act.put, List.setIfInBounds_toArray, List.set_cons_zero, List.set_cons_succ]
        refine BigFrame.wpList_want (by rfl) (fun K hK => ?_)
        go_simp
        with_reducible refine hK _ _ ?_
        clear hK K
        try simp only [Act.put, List.setIfInBounds_toArray, List.set_cons_zero, List.set_cons_succ]
        refine BigFrame.wpList_want (by rfl) (fun K hK => ?_)
        go_simp
        with_reducible refine hK _ _ ?_
        clear hK K
        try simp only [Act.put, List.setIfInBounds_toArray, List.set_cons_zero, List.set_cons_succ]
        refine wpList_plain rfl (fun K hK => ?_)
        go_simp
        with_reducible refine hK _ _ ?_
        clear hK K
        try simp only [Act.put, List.setIfInBounds_toArray, List.set_cons_zero, List.set_cons_succ]
        clear r0 r1 r2 r3
        go_wp2_with fail
        refine ⟨⟨i + 1, ?_, hlt, BX, hG⟩, ?_⟩
        · first | rfl | rw [next_wS hlt hFn] | go_num
        · first | exact next_mT hlt | (rw [next_wS hlt hFn]; exact next_mT hlt)
    · have hi1 : ¬ (i : Int) < ((Z.length + 6 : Nat) : Int) := fun q => hlt (Int.ofNat_lt.1 q)
      have hi2 : ¬ (i : Int) < (Z.length : Int) + 6 := by omega
      go_wp2_with fail
      go_ret
      exact ⟨rfl, hG.out⟩
end T
end Go.Proofs.Ytikbbolgobhmiaa
