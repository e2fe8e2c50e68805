import Derived.Test.YtpdekcchkhahcaaDoorP26
import Derived.BigFrame
/-
  Twins of programs: regions that are as they were.
-/
namespace Go.Proofs.YtpdekcchkhahcaaDoor
namespace Q
open Go.RowKit

set_option maxRecDepth 100000 in
set_option maxHeartbeats 4000000 in
theorem stillRegion_nil (rr : PReg) (sa : Option Addr) (sc : Nat) (w : World) (hn : rr.slots = []) : Calls Tryd.prog 18 #[.agg #[.int .u64 rr.b, .int .u64 rr.n, .string (str rr.data), .slice none 0 0], .agg #[.int .u64 rr.b, .int .u64 rr.n, .string (str rr.data), .slice sa rr.slots.length sc]] w fun x w' => x = .returned (.bool true) ∧ Gr w w' := by
  have hl : rr.slots.length = 0 := by rw [hn]; rfl
  rw [hl]
  go_enter Tryd.func18, Tryd.ntmps18
  go_upto_region 1 with fail
  refine wp_world (fun W => At W w.heap.size #[.int .u64 rr.b, .int .u64 rr.n, .string (str rr.data), .slice none 0 0] ∧ At W (w.heap.size + 1) #[.int .u64 rr.b, .int .u64 rr.n, .string (str rr.data), .slice sa 0 sc] ∧ Gr w W) ⟨(At.at_ w _ _ rfl).alloc _, At.at_ _ _ _ (by simp), ((Gr.refl w).alloc _).alloc _⟩ ?_
  rintro W0 ⟨BT, BC, G0⟩
  replace BT := Hid.mk BT
  replace BC := Hid.mk BC
  replace G0 := Hid.mk G0
  have t0 : W0.cell? ⟨w.heap.size, 0, none⟩ = some (.int .u64 rr.b) := BT.out.2.1 0
  have t1 : W0.cell? ⟨w.heap.size, 1, none⟩ = some (.int .u64 rr.n) := BT.out.2.1 1
  have t2 : W0.cell? ⟨w.heap.size, 2, none⟩ = some (.string (str rr.data)) := BT.out.2.1 2
  have t3 : W0.cell? ⟨w.heap.size, 3, none⟩ = some (.slice none 0 0) := BT.out.2.1 3
  have c0 : W0.cell? ⟨w.heap.size + 1, 0, none⟩ = some (.int .u64 rr.b) := BC.out.2.1 0
  have c1 : W0.cell? ⟨w.heap.size + 1, 1, none⟩ = some (.int .u64 rr.n) := BC.out.2.1 1
  have c2 : W0.cell? ⟨w.heap.size + 1, 2, none⟩ = some (.string (str rr.data)) := BC.out.2.1 2
  have c3 : W0.cell? ⟨w.heap.size + 1, 3, none⟩ = some (.slice sa 0 sc) := BC.out.2.1 3
  clear hl hn
  go_wp2_with fail
  go_ret
  exact ⟨rfl, G0.out⟩
set_option maxRecDepth 100000 in
set_option maxHeartbeats 4000000 in
theorem stillRegion_some (rr : PReg) (sa : Option Addr) (sc B gs : Nat) (w : World) (hA0 : At w gs (rowV [] PSlot.vals (marked slotM rr.slots)).toArray) (hs : FIn 8 PSlot.vals B w sa rr.slots) (hB0 : B ≤ w.heap.size) (hbs : rr.slots.length ≤ 281474976710648) (hn0 : rr.slots ≠ []) : Calls Tryd.prog 18 #[.agg #[.int .u64 rr.b, .int .u64 rr.n, .string (str rr.data), .slice (some ⟨gs, 0, none⟩) rr.slots.length (rr.slots.length + 8)], .agg #[.int .u64 rr.b, .int .u64 rr.n, .string (str rr.data), .slice sa rr.slots.length sc]] w fun x w' => x = .returned (.bool true) ∧ Gr w w' := by
  have bsw : wrap64 ((rr.slots.length : Int) + 8) = (rr.slots.length : Int) + 8 := by unfold wrap64; omega
  have bsx : IntKind.i64.wrap ((rr.slots.length : Int) + 8) = (rr.slots.length : Int) + 8 := by rw [IntKind.wrap_i64]; omega
  have bsl : (rr.slots.length : Int) ≤ (rr.slots.length : Int) + 8 := by omega
  have hM := Hid.mk (fun W => typeMark_any W)
  have hq := fun e W => neSlt e W
  have hqM : ∀ W, (binOp .neq 77 (.agg (PSlot.vals slotM).toArray) (.agg #[.bool true, .int .u64 77, .int .u64 0, .int .u64 0, .int .u64 0, .int .u8 0, .int .i64 222, .int .u64 0])).run Tryd.prog W = .ok (.bool false) W := fun W => neSlt slotM W
  have hl9 : rr.slots.length ≠ 0 := fun h => hn0 (List.length_eq_zero_iff.1 h)
  have hl8 : ((rr.slots.length : Int) == 0) = false := by rw [beq_eq_false_iff_ne]; omega
  have hl7 : ¬ (rr.slots.length : Int) = 0 := by omega
  have hl6 : rr.slots ≠ [] := hn0
  replace hA0 := Hid.mk hA0
  replace hs := Hid.mk hs
  replace hB0 := Hid.mk hB0
  go_enter Tryd.func18, Tryd.ntmps18
  go_upto_region 1 with fail
  refine wp_world (fun W => At W w.heap.size #[.int .u64 rr.b, .int .u64 rr.n, .string (str rr.data), .slice (some ⟨gs, 0, none⟩) rr.slots.length (rr.slots.length + 8)] ∧ At W (w.heap.size + 1) #[.int .u64 rr.b, .int .u64 rr.n, .string (str rr.data), .slice sa rr.slots.length sc] ∧ Gr w W) ⟨(At.at_ w _ _ rfl).alloc _, At.at_ _ _ _ (by simp), ((Gr.refl w).alloc _).alloc _⟩ ?_
  rintro W0 ⟨BT, BC, G0⟩
  replace BT := Hid.mk BT
  replace BC := Hid.mk BC
  replace G0 := Hid.mk G0
  have t0 : W0.cell? ⟨w.heap.size, 0, none⟩ = some (.int .u64 rr.b) := BT.out.2.1 0
  have t1 : W0.cell? ⟨w.heap.size, 1, none⟩ = some (.int .u64 rr.n) := BT.out.2.1 1
  have t2 : W0.cell? ⟨w.heap.size, 2, none⟩ = some (.string (str rr.data)) := BT.out.2.1 2
  have t3 : W0.cell? ⟨w.heap.size, 3, none⟩ = some (.slice (some ⟨gs, 0, none⟩) rr.slots.length (rr.slots.length + 8)) := BT.out.2.1 3
  have c0 : W0.cell? ⟨w.heap.size + 1, 0, none⟩ = some (.int .u64 rr.b) := BC.out.2.1 0
  have c1 : W0.cell? ⟨w.heap.size + 1, 1, none⟩ = some (.int .u64 rr.n) := BC.out.2.1 1
  have c2 : W0.cell? ⟨w.heap.size + 1, 2, none⟩ = some (.string (str rr.data)) := BC.out.2.1 2
  have c3 : W0.cell? ⟨w.heap.size + 1, 3, none⟩ = some (.slice sa rr.slots.length sc) := BC.out.2.1 3
  go_upto_region 7 with fail
  clear t0 t1 t2 t3 c0 c1 c2 c3
  have AR := Hid.mk (hA0.out.gr G0.out)
  have LR := Hid.mk (hs.out.below (gr_below G0.out hB0.out))
  have hB : Hid (B ≤ W0.heap.size) := Hid.mk (Nat.le_trans hB0.out G0.out.below.size)
  have G := Hid.mk (Gr.refl W0)
  go_loopw [6] (fun x wr => ∃ i : Nat, x = .int .i64 i ∧ i ≤ rr.slots.length + 8 ∧ Hid (Gr W0 wr)) (fun x _ => rr.slots.length + 8 - (intOf x).toNat)
  case atStart => exact ⟨0, rfl, by omega, G⟩
  case round =>
    clear G
    obtain ⟨i, rfl, hi, G⟩ := hrel
    by_cases hlt : i < rr.slots.length + 8
    · have hi1 : (i : Int) < (rr.slots.length : Int) + 8 := by omega
      by_cases hn : i < rr.slots.length
      · have hin : (i : Int) < (rr.slots.length : Int) := by omega
        have hge : ¬ (rr.slots.length : Int) ≤ (i : Int) := by omega
        obtain ⟨b, off, ha, hb, rg⟩ := fin_at slt_len LR.out i hn
        subst ha
        have rA := Hid.mk (fun (W : World) (q : Gr wr W) => marked_lt slotM rr.slots i hn (by rw [marked_len]; omega) ▸ (AR.out.gr (G.out.trans q)).elem (pre := []) slt_len i (by rw [marked_len]; omega) (i * 8) (by simp))
        replace rg := Hid.mk rg
        generalize rr.slots[i] = e at *
        have KS : Hid (∀ W, Gr wr W → W.rangeAt gs (i * 8) (PSlot.vals e) ∧ W.rangeAt b (off + i * 8) (PSlot.vals e) ∧ W.cell? ⟨w.heap.size + 1, 3, none⟩ = some (.slice (some ⟨b, off, none⟩) rr.slots.length sc)) := Hid.mk (fun W q => ⟨rA.out W q, range_gr rg.out hb (gr_below (G.out.trans q) hB.out), (BC.out.gr (G.out.trans q)).2.1 3⟩)
        go_upto_region 9 with fail
        have d1 : Gr wr wr.drew := (Gr.refl _).drew
        refine wp_region_held_drew (S := (fun W => W.rangeAt gs (i * 8) (PSlot.vals e) ∧ W.rangeAt b (off + i * 8) (PSlot.vals e) ∧ W.cell? ⟨w.heap.size + 1, 3, none⟩ = some (.slice (some ⟨b, off, none⟩) rr.slots.length sc))) (by kernel_rfl) (KS.out _ d1) (fun hHeld => ?_)
        refine wpAnyH_take (i := 0) (oi := { dst := some 52, op := Op.move (Operand.tmp 6), type := 3, pos := "twin.go:138", after := #[], guard := none }) (v := ?_) rfl (by kernel_rfl) (by kernel_rfl) (by kernel_rfl) (fun _ _ _ h => h) (Or.inl ⟨by rfl, ?_⟩) (by assumption) ?_
        rotate_left
        · intro w hSw; (try dsimp only at hSw); go_simp; first | done | with_reducible rfl
        try simp only [Act.put, List.setIfInBounds_toArray, List.set_cons_zero, List.set_cons_succ]
        refine wpAnyH_take (i := 1) (oi := { dst := some 53, op := Op.fieldAddr 46 (Operand.tmp 3) 3, type := 0, pos := "twin.go:138", after := #[], guard := none }) (v := ?_) rfl (by kernel_rfl) (by kernel_rfl) (by kernel_rfl) (fun _ _ _ h => h) (Or.inl ⟨by rfl, ?_⟩) (by assumption) ?_
        rotate_left
        · intro w hSw; (try dsimp only at hSw); go_simp; first | done | with_reducible rfl
        try simp only [Act.put, List.setIfInBounds_toArray, List.set_cons_zero, List.set_cons_succ]
        refine wpAnyH_take (i := 2) (oi := { dst := some 54, op := Op.load 44 (Operand.tmp 53), type := 44, pos := "twin.go:138", after := #[{ on := 1, ground := Ground.data }], guard := none }) (v := ?_) rfl (by kernel_rfl) (by kernel_rfl) (by kernel_rfl) (fun _ _ _ h => h) (Or.inl ⟨by rfl, ?_⟩) (by assumption) ?_
        rotate_left
        · intro w hSw; (try dsimp only at hSw); go_simp; first | done | with_reducible rfl
        try simp only [Act.put, List.setIfInBounds_toArray, List.set_cons_zero, List.set_cons_succ]
        refine wpAnyH_take (i := 3) (oi := { dst := some 55, op := Op.call { callee := Callee.builtin Builtin.len, args := #[Operand.tmp 54], argTypes := #[44] }, type := 3, pos := "twin.go:138", after := #[{ on := 2, ground := Ground.data }], guard := none }) (v := ?_) rfl (by kernel_rfl) (by kernel_rfl) (by kernel_rfl) (fun _ _ _ h => h) (Or.inl ⟨by rfl, ?_⟩) (by assumption) ?_
        rotate_left
        · intro w hSw; (try dsimp only at hSw); go_simp; first | done | with_reducible rfl
        try simp only [Act.put, List.setIfInBounds_toArray, List.set_cons_zero, List.set_cons_succ]
        refine wpAnyH_take (i := 4) (oi := { dst := some 56, op := Op.binOp BinOp.lss 3 (Operand.tmp 52) (Operand.tmp 55) 3, type := 4, pos := "twin.go:138", after := #[{ on := 0, ground := Ground.data }, { on := 3, ground := Ground.data }], guard := none }) (v := ?_) rfl (by kernel_rfl) (by kernel_rfl) (by kernel_rfl) (fun _ _ _ h => h) (Or.inl ⟨by rfl, ?_⟩) (by assumption) ?_
        rotate_left
        · intro w hSw; (try dsimp only at hSw); go_simp; first | done | with_reducible rfl
        try simp only [Act.put, List.setIfInBounds_toArray, List.set_cons_zero, List.set_cons_succ]
        refine wpAnyH_take (i := 5) (oi := { dst := some 57, op := Op.move (Operand.tmp 56), type := 4, pos := "twin.go:138", after := #[{ on := 4, ground := Ground.data }], guard := none }) (v := ?_) rfl (by kernel_rfl) (by kernel_rfl) (by kernel_rfl) (fun _ _ _ h => h) (Or.inl ⟨by rfl, ?_⟩) (by assumption) ?_
        rotate_left
        · intro w hSw; (try dsimp only at hSw); go_simp; first | done | with_reducible rfl
        try simp only [Act.put, List.setIfInBounds_toArray, List.set_cons_zero, List.set_cons_succ]
        refine wpAnyH_take (i := 6) (oi := { dst := some 58, op := Op.move (Operand.tmp 5), type := 44, pos := "twin.go:138", after := #[{ on := 5, ground := Ground.guard }], guard := some (5, true) }) (v := ?_) rfl (by kernel_rfl) (by kernel_rfl) (by kernel_rfl) (fun _ _ _ h => h) (Or.inl ⟨by rfl, ?_⟩) (by assumption) ?_
        rotate_left
        · intro w hSw; (try dsimp only at hSw); go_simp; first | done | with_reducible rfl
        try simp only [Act.put, List.setIfInBounds_toArray, List.set_cons_zero, List.set_cons_succ]
        refine wpAnyH_take (i := 7) (oi := { dst := some 59, op := Op.move (Operand.tmp 6), type := 3, pos := "twin.go:138", after := #[{ on := 5, ground := Ground.guard }], guard := some (5, true) }) (v := ?_) rfl (by kernel_rfl) (by kernel_rfl) (by kernel_rfl) (fun _ _ _ h => h) (Or.inl ⟨by rfl, ?_⟩) (by assumption) ?_
        rotate_left
        · intro w hSw; (try dsimp only at hSw); go_simp; first | done | with_reducible rfl
        try simp only [Act.put, List.setIfInBounds_toArray, List.set_cons_zero, List.set_cons_succ]
        refine wpAnyH_take (i := 8) (oi := { dst := some 60, op := Op.indexAddr 44 (Operand.tmp 58) (Operand.tmp 59), type := 0, pos := "twin.go:138", after := #[{ on := 6, ground := Ground.data }, { on := 7, ground := Ground.data }, { on := 5, ground := Ground.guard }], guard := some (5, true) }) (v := ?_) rfl (by kernel_rfl) (by kernel_rfl) (by kernel_rfl) (fun _ _ _ h => h) (Or.inl ⟨by rfl, ?_⟩) (by assumption) ?_
        rotate_left
        · intro w hSw; (try dsimp only at hSw); go_simp; first | done | with_reducible rfl
        try simp only [Act.put, List.setIfInBounds_toArray, List.set_cons_zero, List.set_cons_succ]
        refine wpAnyH_take (i := 9) (oi := { dst := some 61, op := Op.load 77 (Operand.tmp 60), type := 77, pos := "twin.go:138", after := #[{ on := 8, ground := Ground.data }, { on := 5, ground := Ground.guard }], guard := some (5, true) }) (v := _) rfl (by kernel_rfl) (by kernel_rfl) (by kernel_rfl) (fun _ _ _ h => h) (yieldsIf_load_mid (by rfl) _ _ rfl _ _ rfl _ _ (fun _ h => h.1) Tryd.underlying77 rfl (by kernel_rfl)) (by assumption) ?_
        try simp only [Act.put, List.setIfInBounds_toArray, List.set_cons_zero, List.set_cons_succ]
        refine wpAnyH_take (i := 10) (oi := { dst := some 62, op := Op.fieldAddr 46 (Operand.tmp 3) 3, type := 0, pos := "twin.go:138", after := #[{ on := 5, ground := Ground.guard }], guard := some (5, true) }) (v := ?_) rfl (by kernel_rfl) (by kernel_rfl) (by kernel_rfl) (fun _ _ _ h => h) (Or.inl ⟨by rfl, ?_⟩) (by assumption) ?_
        rotate_left
        · intro w hSw; (try dsimp only at hSw); go_simp; first | done | with_reducible rfl
        try simp only [Act.put, List.setIfInBounds_toArray, List.set_cons_zero, List.set_cons_succ]
        refine wpAnyH_take (i := 11) (oi := { dst := some 63, op := Op.load 44 (Operand.tmp 62), type := 44, pos := "twin.go:138", after := #[{ on := 10, ground := Ground.data }, { on := 5, ground := Ground.guard }], guard := some (5, true) }) (v := ?_) rfl (by kernel_rfl) (by kernel_rfl) (by kernel_rfl) (fun _ _ _ h => h) (Or.inl ⟨by rfl, ?_⟩) (by assumption) ?_
        rotate_left
        · intro w hSw; (try dsimp only at hSw); go_simp; first | done | with_reducible rfl
        try simp only [Act.put, List.setIfInBounds_toArray, List.set_cons_zero, List.set_cons_succ]
        refine wpAnyH_take (i := 12) (oi := { dst := some 64, op := Op.move (Operand.tmp 6), type := 3, pos := "twin.go:138", after := #[{ on := 5, ground := Ground.guard }], guard := some (5, true) }) (v := ?_) rfl (by kernel_rfl) (by kernel_rfl) (by kernel_rfl) (fun _ _ _ h => h) (Or.inl ⟨by rfl, ?_⟩) (by assumption) ?_
        rotate_left
        · intro w hSw; (try dsimp only at hSw); go_simp; first | done | with_reducible rfl
        try simp only [Act.put, List.setIfInBounds_toArray, List.set_cons_zero, List.set_cons_succ]
        refine wpAnyH_take (i := 13) (oi := { dst := some 65, op := Op.indexAddr 44 (Operand.tmp 63) (Operand.tmp 64), type := 0, pos := "twin.go:138", after := #[{ on := 11, ground := Ground.data }, { on := 12, ground := Ground.data }, { on := 5, ground := Ground.guard }], guard := some (5, true) }) (v := ?_) rfl (by kernel_rfl) (by kernel_rfl) (by kernel_rfl) (fun _ _ _ h => h) (Or.inl ⟨by rfl, ?_⟩) (by assumption) ?_
        rotate_left
        · intro w hSw; (try dsimp only at hSw); go_simp; first | done | with_reducible rfl
        try simp only [Act.put, List.setIfInBounds_toArray, List.set_cons_zero, List.set_cons_succ]
        refine wpAnyH_take (i := 14) (oi := { dst := some 66, op := Op.load 77 (Operand.tmp 65), type := 77, pos := "twin.go:138", after := #[{ on := 13, ground := Ground.data }, { on := 5, ground := Ground.guard }], guard := some (5, true) }) (v := _) rfl (by kernel_rfl) (by kernel_rfl) (by kernel_rfl) (fun _ _ _ h => h) (yieldsIf_load_mid (by rfl) _ _ rfl _ _ rfl _ _ (fun _ h => h.2.1) Tryd.underlying77 rfl (by kernel_rfl)) (by assumption) ?_
        try simp only [Act.put, List.setIfInBounds_toArray, List.set_cons_zero, List.set_cons_succ]
        refine wpAnyH_take (i := 15) (oi := { dst := some 67, op := Op.binOp BinOp.neq 77 (Operand.tmp 61) (Operand.tmp 66) 77, type := 4, pos := "twin.go:138", after := #[{ on := 9, ground := Ground.data }, { on := 14, ground := Ground.data }, { on := 5, ground := Ground.guard }], guard := some (5, true) }) (v := ?_) rfl (by kernel_rfl) (by kernel_rfl) (by kernel_rfl) (fun _ _ _ h => h) (Or.inl ⟨by rfl, ?_⟩) (by assumption) ?_
        rotate_left
        · intro w hSw; (try dsimp only at hSw); go_simp; first | done | with_reducible rfl
        try simp only [Act.put, List.setIfInBounds_toArray, List.set_cons_zero, List.set_cons_succ]
        refine wpAnyH_take (i := 16) (oi := { dst := some 68, op := Op.pick (Operand.tmp 57) (Operand.tmp 67) (Operand.const (Value.bool false)), type := 4, pos := "twin.go:138", after := #[{ on := 5, ground := Ground.data }, { on := 15, ground := Ground.data }], guard := none }) (v := ?_) rfl (by kernel_rfl) (by kernel_rfl) (by kernel_rfl) (fun _ _ _ h => h) (Or.inl ⟨by rfl, ?_⟩) (by assumption) ?_
        rotate_left
        · intro w hSw; (try dsimp only at hSw); go_simp; first | done | with_reducible rfl
        try simp only [Act.put, List.setIfInBounds_toArray, List.set_cons_zero, List.set_cons_succ]
        refine wpAnyH_take (i := 17) (oi := { dst := some 69, op := Op.move (Operand.tmp 68), type := 4, pos := "twin.go:138", after := #[{ on := 16, ground := Ground.data }, { on := 5, ground := Ground.chain }], guard := none }) (v := ?_) rfl (by kernel_rfl) (by kernel_rfl) (by kernel_rfl) (fun _ _ _ h => h) (Or.inl ⟨by rfl, ?_⟩) (by assumption) ?_
        rotate_left
        · intro w hSw; (try dsimp only at hSw); go_simp; first | done | with_reducible rfl
        try simp only [Act.put, List.setIfInBounds_toArray, List.set_cons_zero, List.set_cons_succ]
        refine wpAnyH_take (i := 18) (oi := { dst := some 70, op := Op.move (Operand.tmp 6), type := 3, pos := "twin.go:138", after := #[{ on := 17, ground := Ground.guard }], guard := some (17, false) }) (v := ?_) rfl (by kernel_rfl) (by kernel_rfl) (by kernel_rfl) (fun _ _ _ h => h) (Or.inl ⟨by rfl, ?_⟩) (by assumption) ?_
        rotate_left
        · intro w hSw; (try dsimp only at hSw); go_simp; first | done | with_reducible rfl
        try simp only [Act.put, List.setIfInBounds_toArray, List.set_cons_zero, List.set_cons_succ]
        refine wpAnyH_take (i := 19) (oi := { dst := some 71, op := Op.fieldAddr 46 (Operand.tmp 3) 3, type := 0, pos := "twin.go:138", after := #[{ on := 17, ground := Ground.guard }], guard := some (17, false) }) (v := ?_) rfl (by kernel_rfl) (by kernel_rfl) (by kernel_rfl) (fun _ _ _ h => h) (Or.inl ⟨by rfl, ?_⟩) (by assumption) ?_
        rotate_left
        · intro w hSw; (try dsimp only at hSw); go_simp; first | done | with_reducible rfl
        try simp only [Act.put, List.setIfInBounds_toArray, List.set_cons_zero, List.set_cons_succ]
        refine wpAnyH_take (i := 20) (oi := { dst := some 72, op := Op.load 44 (Operand.tmp 71), type := 44, pos := "twin.go:138", after := #[{ on := 19, ground := Ground.data }, { on := 17, ground := Ground.guard }], guard := some (17, false) }) (v := ?_) rfl (by kernel_rfl) (by kernel_rfl) (by kernel_rfl) (fun _ _ _ h => h) (Or.inl ⟨by rfl, ?_⟩) (by assumption) ?_
        rotate_left
        · intro w hSw; (try dsimp only at hSw); go_simp; first | done | with_reducible rfl
        try simp only [Act.put, List.setIfInBounds_toArray, List.set_cons_zero, List.set_cons_succ]
        refine wpAnyH_take (i := 21) (oi := { dst := some 73, op := Op.call { callee := Callee.builtin Builtin.len, args := #[Operand.tmp 72], argTypes := #[44] }, type := 3, pos := "twin.go:138", after := #[{ on := 20, ground := Ground.data }, { on := 17, ground := Ground.guard }], guard := some (17, false) }) (v := ?_) rfl (by kernel_rfl) (by kernel_rfl) (by kernel_rfl) (fun _ _ _ h => h) (Or.inl ⟨by rfl, ?_⟩) (by assumption) ?_
        rotate_left
        · intro w hSw; (try dsimp only at hSw); go_simp; first | done | with_reducible rfl
        try simp only [Act.put, List.setIfInBounds_toArray, List.set_cons_zero, List.set_cons_succ]
        refine wpAnyH_take (i := 22) (oi := { dst := some 74, op := Op.binOp BinOp.geq 3 (Operand.tmp 70) (Operand.tmp 73) 3, type := 4, pos := "twin.go:138", after := #[{ on := 18, ground := Ground.data }, { on := 21, ground := Ground.data }, { on := 17, ground := Ground.guard }], guard := some (17, false) }) (v := ?_) rfl (by kernel_rfl) (by kernel_rfl) (by kernel_rfl) (fun _ _ _ h => h) (Or.inl ⟨by rfl, ?_⟩) (by assumption) ?_
        rotate_left
        · intro w hSw; (try dsimp only at hSw); go_simp; first | done | with_reducible rfl
        try simp only [Act.put, List.setIfInBounds_toArray, List.set_cons_zero, List.set_cons_succ]
        refine wpAnyH_take (i := 23) (oi := { dst := some 75, op := Op.move (Operand.tmp 74), type := 4, pos := "twin.go:138", after := #[{ on := 22, ground := Ground.data }, { on := 17, ground := Ground.chain }, { on := 17, ground := Ground.guard }], guard := some (17, false) }) (v := ?_) rfl (by kernel_rfl) (by kernel_rfl) (by kernel_rfl) (fun _ _ _ h => h) (Or.inl ⟨by rfl, ?_⟩) (by assumption) ?_
        rotate_left
        · intro w hSw; (try dsimp only at hSw); go_simp; first | done | with_reducible rfl
        try simp only [Act.put, List.setIfInBounds_toArray, List.set_cons_zero, List.set_cons_succ]
        refine wpAnyH_take (i := 24) (oi := { dst := some 76, op := Op.move (Operand.tmp 5), type := 44, pos := "twin.go:138", after := #[{ on := 23, ground := Ground.guard }], guard := some (23, true) }) (v := undef) rfl (by kernel_rfl) (by kernel_rfl) (by kernel_rfl) (fun _ _ _ h => h) (Or.inr ⟨by rfl, rfl⟩) (by assumption) ?_
        try simp only [Act.put, List.setIfInBounds_toArray, List.set_cons_zero, List.set_cons_succ]
        refine wpAnyH_take (i := 25) (oi := { dst := some 77, op := Op.move (Operand.tmp 6), type := 3, pos := "twin.go:138", after := #[{ on := 23, ground := Ground.guard }], guard := some (23, true) }) (v := undef) rfl (by kernel_rfl) (by kernel_rfl) (by kernel_rfl) (fun _ _ _ h => h) (Or.inr ⟨by rfl, rfl⟩) (by assumption) ?_
        try simp only [Act.put, List.setIfInBounds_toArray, List.set_cons_zero, List.set_cons_succ]
        refine wpAnyH_take (i := 26) (oi := { dst := some 78, op := Op.indexAddr 44 (Operand.tmp 76) (Operand.tmp 77), type := 0, pos := "twin.go:138", after := #[{ on := 24, ground := Ground.data }, { on := 25, ground := Ground.data }, { on := 23, ground := Ground.guard }], guard := some (23, true) }) (v := undef) rfl (by kernel_rfl) (by kernel_rfl) (by kernel_rfl) (fun _ _ _ h => h) (Or.inr ⟨by rfl, rfl⟩) (by assumption) ?_
        try simp only [Act.put, List.setIfInBounds_toArray, List.set_cons_zero, List.set_cons_succ]
        refine wpAnyH_take (i := 27) (oi := { dst := some 79, op := Op.load 77 (Operand.tmp 78), type := 77, pos := "twin.go:138", after := #[{ on := 26, ground := Ground.data }, { on := 23, ground := Ground.guard }], guard := some (23, true) }) (v := undef) rfl (by kernel_rfl) (by kernel_rfl) (by kernel_rfl) (fun _ _ _ h => h) (Or.inr ⟨by rfl, rfl⟩) (by assumption) ?_
        try simp only [Act.put, List.setIfInBounds_toArray, List.set_cons_zero, List.set_cons_succ]
        refine wpAnyH_take (i := 28) (oi := { dst := some 80, op := Op.call { callee := Callee.value (Operand.func 24), args := #[], argTypes := #[] }, type := 74, pos := "twin.go:138", after := #[{ on := 23, ground := Ground.chain }, { on := 23, ground := Ground.guard }], guard := some (23, true) }) (v := undef) rfl (by kernel_rfl) (by kernel_rfl) (by kernel_rfl) (fun _ _ _ h => h) (Or.inr ⟨by rfl, rfl⟩) (by assumption) ?_
        try simp only [Act.put, List.setIfInBounds_toArray, List.set_cons_zero, List.set_cons_succ]
        refine wpAnyH_take (i := 29) (oi := { dst := some 81, op := Op.build 77 #[(0, Operand.tmp 80)], type := 77, pos := "twin.go:138", after := #[{ on := 28, ground := Ground.data }, { on := 23, ground := Ground.guard }], guard := some (23, true) }) (v := undef) rfl (by kernel_rfl) (by kernel_rfl) (by kernel_rfl) (fun _ _ _ h => h) (Or.inr ⟨by rfl, rfl⟩) (by assumption) ?_
        try simp only [Act.put, List.setIfInBounds_toArray, List.set_cons_zero, List.set_cons_succ]
        refine wpAnyH_take (i := 30) (oi := { dst := some 82, op := Op.binOp BinOp.neq 77 (Operand.tmp 79) (Operand.tmp 81) 77, type := 4, pos := "twin.go:138", after := #[{ on := 27, ground := Ground.data }, { on := 29, ground := Ground.data }, { on := 23, ground := Ground.guard }], guard := some (23, true) }) (v := undef) rfl (by kernel_rfl) (by kernel_rfl) (by kernel_rfl) (fun _ _ _ h => h) (Or.inr ⟨by rfl, rfl⟩) (by assumption) ?_
        try simp only [Act.put, List.setIfInBounds_toArray, List.set_cons_zero, List.set_cons_succ]
        refine wpAnyH_take (i := 31) (oi := { dst := some 83, op := Op.pick (Operand.tmp 75) (Operand.tmp 82) (Operand.const (Value.bool false)), type := 4, pos := "twin.go:138", after := #[{ on := 23, ground := Ground.data }, { on := 30, ground := Ground.data }, { on := 17, ground := Ground.guard }], guard := some (17, false) }) (v := ?_) rfl (by kernel_rfl) (by kernel_rfl) (by kernel_rfl) (fun _ _ _ h => h) (Or.inl ⟨by rfl, ?_⟩) (by assumption) ?_
        rotate_left
        · intro w hSw; (try dsimp only at hSw); go_simp; first | done | with_reducible rfl
        try simp only [Act.put, List.setIfInBounds_toArray, List.set_cons_zero, List.set_cons_succ]
        refine wpAnyH_take (i := 32) (oi := { dst := some 84, op := Op.pick (Operand.tmp 69) (Operand.const (Value.bool true)) (Operand.tmp 83), type := 4, pos := "twin.go:138", after := #[{ on := 17, ground := Ground.data }, { on := 31, ground := Ground.data }], guard := none }) (v := ?_) rfl (by kernel_rfl) (by kernel_rfl) (by kernel_rfl) (fun _ _ _ h => h) (Or.inl ⟨by rfl, ?_⟩) (by assumption) ?_
        rotate_left
        · intro w hSw; (try dsimp only at hSw); go_simp; first | done | with_reducible rfl
        try simp only [Act.put, List.setIfInBounds_toArray, List.set_cons_zero, List.set_cons_succ]
        refine wpAnyH_done (by kernel_rfl) ?_ _
        clear hHeld KS rA rg
        replace G := Hid.mk (G.out.trans d1)
        clear d1
        go_wp2_with fail
        exact ⟨⟨i + 1, by go_num, by omega, G⟩, by simp [intOf]; omega⟩
      · have hin : ¬ (i : Int) < (rr.slots.length : Int) := by omega
        have hge : (rr.slots.length : Int) ≤ (i : Int) := by omega
        have rA := Hid.mk (fun (W : World) (q : Gr wr W) => marked_ge slotM rr.slots i (by omega) (by rw [marked_len]; omega) ▸ (AR.out.gr (G.out.trans q)).elem (pre := []) slt_len i (by rw [marked_len]; omega) (i * 8) (by simp))
        have KS : Hid (∀ W, Gr wr W → W.rangeAt gs (i * 8) (PSlot.vals slotM) ∧ W.cell? ⟨w.heap.size + 1, 3, none⟩ = some (.slice sa rr.slots.length sc)) := Hid.mk (fun W q => ⟨rA.out W q, (BC.out.gr (G.out.trans q)).2.1 3⟩)
        go_upto_region 9 with fail
        have d1 : Gr wr wr.drew := (Gr.refl _).drew
        refine wp_region_held_drew (S := (fun W => W.rangeAt gs (i * 8) (PSlot.vals slotM) ∧ W.cell? ⟨w.heap.size + 1, 3, none⟩ = some (.slice sa rr.slots.length sc))) (by kernel_rfl) (KS.out _ d1) (fun hHeld => ?_)
        refine wpAnyH_take (i := 0) (oi := { dst := some 52, op := Op.move (Operand.tmp 6), type := 3, pos := "twin.go:138", after := #[], guard := none }) (v := ?_) rfl (by kernel_rfl) (by kernel_rfl) (by kernel_rfl) (fun _ _ _ h => h) (Or.inl ⟨by rfl, ?_⟩) (by assumption) ?_
        rotate_left
        · intro w hSw; (try dsimp only at hSw); go_simp; first | done | with_reducible rfl
        try simp only [Act.put, List.setIfInBounds_toArray, List.set_cons_zero, List.set_cons_succ]
        refine wpAnyH_take (i := 1) (oi := { dst := some 53, op := Op.fieldAddr 46 (Operand.tmp 3) 3, type := 0, pos := "twin.go:138", after := #[], guard := none }) (v := ?_) rfl (by kernel_rfl) (by kernel_rfl) (by kernel_rfl) (fun _ _ _ h => h) (Or.inl ⟨by rfl, ?_⟩) (by assumption) ?_
        rotate_left
        · intro w hSw; (try dsimp only at hSw); go_simp; first | done | with_reducible rfl
        try simp only [Act.put, List.setIfInBounds_toArray, List.set_cons_zero, List.set_cons_succ]
        refine wpAnyH_take (i := 2) (oi := { dst := some 54, op := Op.load 44 (Operand.tmp 53), type := 44, pos := "twin.go:138", after := #[{ on := 1, ground := Ground.data }], guard := none }) (v := ?_) rfl (by kernel_rfl) (by kernel_rfl) (by kernel_rfl) (fun _ _ _ h => h) (Or.inl ⟨by rfl, ?_⟩) (by assumption) ?_
        rotate_left
        · intro w hSw; (try dsimp only at hSw); go_simp; first | done | with_reducible rfl
        try simp only [Act.put, List.setIfInBounds_toArray, List.set_cons_zero, List.set_cons_succ]
        refine wpAnyH_take (i := 3) (oi := { dst := some 55, op := Op.call { callee := Callee.builtin Builtin.len, args := #[Operand.tmp 54], argTypes := #[44] }, type := 3, pos := "twin.go:138", after := #[{ on := 2, ground := Ground.data }], guard := none }) (v := ?_) rfl (by kernel_rfl) (by kernel_rfl) (by kernel_rfl) (fun _ _ _ h => h) (Or.inl ⟨by rfl, ?_⟩) (by assumption) ?_
        rotate_left
        · intro w hSw; (try dsimp only at hSw); go_simp; first | done | with_reducible rfl
        try simp only [Act.put, List.setIfInBounds_toArray, List.set_cons_zero, List.set_cons_succ]
        refine wpAnyH_take (i := 4) (oi := { dst := some 56, op := Op.binOp BinOp.lss 3 (Operand.tmp 52) (Operand.tmp 55) 3, type := 4, pos := "twin.go:138", after := #[{ on := 0, ground := Ground.data }, { on := 3, ground := Ground.data }], guard := none }) (v := ?_) rfl (by kernel_rfl) (by kernel_rfl) (by kernel_rfl) (fun _ _ _ h => h) (Or.inl ⟨by rfl, ?_⟩) (by assumption) ?_
        rotate_left
        · intro w hSw; (try dsimp only at hSw); go_simp; first | done | with_reducible rfl
        try simp only [Act.put, List.setIfInBounds_toArray, List.set_cons_zero, List.set_cons_succ]
        refine wpAnyH_take (i := 5) (oi := { dst := some 57, op := Op.move (Operand.tmp 56), type := 4, pos := "twin.go:138", after := #[{ on := 4, ground := Ground.data }], guard := none }) (v := ?_) rfl (by kernel_rfl) (by kernel_rfl) (by kernel_rfl) (fun _ _ _ h => h) (Or.inl ⟨by rfl, ?_⟩) (by assumption) ?_
        rotate_left
        · intro w hSw; (try dsimp only at hSw); go_simp; first | done | with_reducible rfl
        try simp only [Act.put, List.setIfInBounds_toArray, List.set_cons_zero, List.set_cons_succ]
        refine wpAnyH_take (i := 6) (oi := { dst := some 58, op := Op.move (Operand.tmp 5), type := 44, pos := "twin.go:138", after := #[{ on := 5, ground := Ground.guard }], guard := some (5, true) }) (v := undef) rfl (by kernel_rfl) (by kernel_rfl) (by kernel_rfl) (fun _ _ _ h => h) (Or.inr ⟨by rfl, rfl⟩) (by assumption) ?_
        try simp only [Act.put, List.setIfInBounds_toArray, List.set_cons_zero, List.set_cons_succ]
        refine wpAnyH_take (i := 7) (oi := { dst := some 59, op := Op.move (Operand.tmp 6), type := 3, pos := "twin.go:138", after := #[{ on := 5, ground := Ground.guard }], guard := some (5, true) }) (v := undef) rfl (by kernel_rfl) (by kernel_rfl) (by kernel_rfl) (fun _ _ _ h => h) (Or.inr ⟨by rfl, rfl⟩) (by assumption) ?_
        try simp only [Act.put, List.setIfInBounds_toArray, List.set_cons_zero, List.set_cons_succ]
        refine wpAnyH_take (i := 8) (oi := { dst := some 60, op := Op.indexAddr 44 (Operand.tmp 58) (Operand.tmp 59), type := 0, pos := "twin.go:138", after := #[{ on := 6, ground := Ground.data }, { on := 7, ground := Ground.data }, { on := 5, ground := Ground.guard }], guard := some (5, true) }) (v := undef) rfl (by kernel_rfl) (by kernel_rfl) (by kernel_rfl) (fun _ _ _ h => h) (Or.inr ⟨by rfl, rfl⟩) (by assumption) ?_
        try simp only [Act.put, List.setIfInBounds_toArray, List.set_cons_zero, List.set_cons_succ]
        refine wpAnyH_take (i := 9) (oi := { dst := some 61, op := Op.load 77 (Operand.tmp 60), type := 77, pos := "twin.go:138", after := #[{ on := 8, ground := Ground.data }, { on := 5, ground := Ground.guard }], guard := some (5, true) }) (v := undef) rfl (by kernel_rfl) (by kernel_rfl) (by kernel_rfl) (fun _ _ _ h => h) (Or.inr ⟨by rfl, rfl⟩) (by assumption) ?_
        try simp only [Act.put, List.setIfInBounds_toArray, List.set_cons_zero, List.set_cons_succ]
        refine wpAnyH_take (i := 10) (oi := { dst := some 62, op := Op.fieldAddr 46 (Operand.tmp 3) 3, type := 0, pos := "twin.go:138", after := #[{ on := 5, ground := Ground.guard }], guard := some (5, true) }) (v := undef) rfl (by kernel_rfl) (by kernel_rfl) (by kernel_rfl) (fun _ _ _ h => h) (Or.inr ⟨by rfl, rfl⟩) (by assumption) ?_
        try simp only [Act.put, List.setIfInBounds_toArray, List.set_cons_zero, List.set_cons_succ]
        refine wpAnyH_take (i := 11) (oi := { dst := some 63, op := Op.load 44 (Operand.tmp 62), type := 44, pos := "twin.go:138", after := #[{ on := 10, ground := Ground.data }, { on := 5, ground := Ground.guard }], guard := some (5, true) }) (v := undef) rfl (by kernel_rfl) (by kernel_rfl) (by kernel_rfl) (fun _ _ _ h => h) (Or.inr ⟨by rfl, rfl⟩) (by assumption) ?_
        try simp only [Act.put, List.setIfInBounds_toArray, List.set_cons_zero, List.set_cons_succ]
        refine wpAnyH_take (i := 12) (oi := { dst := some 64, op := Op.move (Operand.tmp 6), type := 3, pos := "twin.go:138", after := #[{ on := 5, ground := Ground.guard }], guard := some (5, true) }) (v := undef) rfl (by kernel_rfl) (by kernel_rfl) (by kernel_rfl) (fun _ _ _ h => h) (Or.inr ⟨by rfl, rfl⟩) (by assumption) ?_
        try simp only [Act.put, List.setIfInBounds_toArray, List.set_cons_zero, List.set_cons_succ]
        refine wpAnyH_take (i := 13) (oi := { dst := some 65, op := Op.indexAddr 44 (Operand.tmp 63) (Operand.tmp 64), type := 0, pos := "twin.go:138", after := #[{ on := 11, ground := Ground.data }, { on := 12, ground := Ground.data }, { on := 5, ground := Ground.guard }], guard := some (5, true) }) (v := undef) rfl (by kernel_rfl) (by kernel_rfl) (by kernel_rfl) (fun _ _ _ h => h) (Or.inr ⟨by rfl, rfl⟩) (by assumption) ?_
        try simp only [Act.put, List.setIfInBounds_toArray, List.set_cons_zero, List.set_cons_succ]
        refine wpAnyH_take (i := 14) (oi := { dst := some 66, op := Op.load 77 (Operand.tmp 65), type := 77, pos := "twin.go:138", after := #[{ on := 13, ground := Ground.data }, { on := 5, ground := Ground.guard }], guard := some (5, true) }) (v := undef) rfl (by kernel_rfl) (by kernel_rfl) (by kernel_rfl) (fun _ _ _ h => h) (Or.inr ⟨by rfl, rfl⟩) (by assumption) ?_
        try simp only [Act.put, List.setIfInBounds_toArray, List.set_cons_zero, List.set_cons_succ]
        refine wpAnyH_take (i := 15) (oi := { dst := some 67, op := Op.binOp BinOp.neq 77 (Operand.tmp 61) (Operand.tmp 66) 77, type := 4, pos := "twin.go:138", after := #[{ on := 9, ground := Ground.data }, { on := 14, ground := Ground.data }, { on := 5, ground := Ground.guard }], guard := some (5, true) }) (v := undef) rfl (by kernel_rfl) (by kernel_rfl) (by kernel_rfl) (fun _ _ _ h => h) (Or.inr ⟨by rfl, rfl⟩) (by assumption) ?_
        try simp only [Act.put, List.setIfInBounds_toArray, List.set_cons_zero, List.set_cons_succ]
        refine wpAnyH_take (i := 16) (oi := { dst := some 68, op := Op.pick (Operand.tmp 57) (Operand.tmp 67) (Operand.const (Value.bool false)), type := 4, pos := "twin.go:138", after := #[{ on := 5, ground := Ground.data }, { on := 15, ground := Ground.data }], guard := none }) (v := ?_) rfl (by kernel_rfl) (by kernel_rfl) (by kernel_rfl) (fun _ _ _ h => h) (Or.inl ⟨by rfl, ?_⟩) (by assumption) ?_
        rotate_left
        · intro w hSw; (try dsimp only at hSw); go_simp; first | done | with_reducible rfl
        try simp only [Act.put, List.setIfInBounds_toArray, List.set_cons_zero, List.set_cons_succ]
        refine wpAnyH_take (i := 17) (oi := { dst := some 69, op := Op.move (Operand.tmp 68), type := 4, pos := "twin.go:138", after := #[{ on := 16, ground := Ground.data }, { on := 5, ground := Ground.chain }], guard := none }) (v := ?_) rfl (by kernel_rfl) (by kernel_rfl) (by kernel_rfl) (fun _ _ _ h => h) (Or.inl ⟨by rfl, ?_⟩) (by assumption) ?_
        rotate_left
        · intro w hSw; (try dsimp only at hSw); go_simp; first | done | with_reducible rfl
        try simp only [Act.put, List.setIfInBounds_toArray, List.set_cons_zero, List.set_cons_succ]
        refine wpAnyH_take (i := 18) (oi := { dst := some 70, op := Op.move (Operand.tmp 6), type := 3, pos := "twin.go:138", after := #[{ on := 17, ground := Ground.guard }], guard := some (17, false) }) (v := ?_) rfl (by kernel_rfl) (by kernel_rfl) (by kernel_rfl) (fun _ _ _ h => h) (Or.inl ⟨by rfl, ?_⟩) (by assumption) ?_
        rotate_left
        · intro w hSw; (try dsimp only at hSw); go_simp; first | done | with_reducible rfl
        try simp only [Act.put, List.setIfInBounds_toArray, List.set_cons_zero, List.set_cons_succ]
        refine wpAnyH_take (i := 19) (oi := { dst := some 71, op := Op.fieldAddr 46 (Operand.tmp 3) 3, type := 0, pos := "twin.go:138", after := #[{ on := 17, ground := Ground.guard }], guard := some (17, false) }) (v := ?_) rfl (by kernel_rfl) (by kernel_rfl) (by kernel_rfl) (fun _ _ _ h => h) (Or.inl ⟨by rfl, ?_⟩) (by assumption) ?_
        rotate_left
        · intro w hSw; (try dsimp only at hSw); go_simp; first | done | with_reducible rfl
        try simp only [Act.put, List.setIfInBounds_toArray, List.set_cons_zero, List.set_cons_succ]
        refine wpAnyH_take (i := 20) (oi := { dst := some 72, op := Op.load 44 (Operand.tmp 71), type := 44, pos := "twin.go:138", after := #[{ on := 19, ground := Ground.data }, { on := 17, ground := Ground.guard }], guard := some (17, false) }) (v := ?_) rfl (by kernel_rfl) (by kernel_rfl) (by kernel_rfl) (fun _ _ _ h => h) (Or.inl ⟨by rfl, ?_⟩) (by assumption) ?_
        rotate_left
        · intro w hSw; (try dsimp only at hSw); go_simp; first | done | with_reducible rfl
        try simp only [Act.put, List.setIfInBounds_toArray, List.set_cons_zero, List.set_cons_succ]
        refine wpAnyH_take (i := 21) (oi := { dst := some 73, op := Op.call { callee := Callee.builtin Builtin.len, args := #[Operand.tmp 72], argTypes := #[44] }, type := 3, pos := "twin.go:138", after := #[{ on := 20, ground := Ground.data }, { on := 17, ground := Ground.guard }], guard := some (17, false) }) (v := ?_) rfl (by kernel_rfl) (by kernel_rfl) (by kernel_rfl) (fun _ _ _ h => h) (Or.inl ⟨by rfl, ?_⟩) (by assumption) ?_
        rotate_left
        · intro w hSw; (try dsimp only at hSw); go_simp; first | done | with_reducible rfl
        try simp only [Act.put, List.setIfInBounds_toArray, List.set_cons_zero, List.set_cons_succ]
        refine wpAnyH_take (i := 22) (oi := { dst := some 74, op := Op.binOp BinOp.geq 3 (Operand.tmp 70) (Operand.tmp 73) 3, type := 4, pos := "twin.go:138", after := #[{ on := 18, ground := Ground.data }, { on := 21, ground := Ground.data }, { on := 17, ground := Ground.guard }], guard := some (17, false) }) (v := ?_) rfl (by kernel_rfl) (by kernel_rfl) (by kernel_rfl) (fun _ _ _ h => h) (Or.inl ⟨by rfl, ?_⟩) (by assumption) ?_
        rotate_left
        · intro w hSw; (try dsimp only at hSw); go_simp; first | done | with_reducible rfl
        try simp only [Act.put, List.setIfInBounds_toArray, List.set_cons_zero, List.set_cons_succ]
        refine wpAnyH_take (i := 23) (oi := { dst := some 75, op := Op.move (Operand.tmp 74), type := 4, pos := "twin.go:138", after := #[{ on := 22, ground := Ground.data }, { on := 17, ground := Ground.chain }, { on := 17, ground := Ground.guard }], guard := some (17, false) }) (v := ?_) rfl (by kernel_rfl) (by kernel_rfl) (by kernel_rfl) (fun _ _ _ h => h) (Or.inl ⟨by rfl, ?_⟩) (by assumption) ?_
        rotate_left
        · intro w hSw; (try dsimp only at hSw); go_simp; first | done | with_reducible rfl
        try simp only [Act.put, List.setIfInBounds_toArray, List.set_cons_zero, List.set_cons_succ]
        refine wpAnyH_take (i := 24) (oi := { dst := some 76, op := Op.move (Operand.tmp 5), type := 44, pos := "twin.go:138", after := #[{ on := 23, ground := Ground.guard }], guard := some (23, true) }) (v := ?_) rfl (by kernel_rfl) (by kernel_rfl) (by kernel_rfl) (fun _ _ _ h => h) (Or.inl ⟨by rfl, ?_⟩) (by assumption) ?_
        rotate_left
        · intro w hSw; (try dsimp only at hSw); go_simp; first | done | with_reducible rfl
        try simp only [Act.put, List.setIfInBounds_toArray, List.set_cons_zero, List.set_cons_succ]
        refine wpAnyH_take (i := 25) (oi := { dst := some 77, op := Op.move (Operand.tmp 6), type := 3, pos := "twin.go:138", after := #[{ on := 23, ground := Ground.guard }], guard := some (23, true) }) (v := ?_) rfl (by kernel_rfl) (by kernel_rfl) (by kernel_rfl) (fun _ _ _ h => h) (Or.inl ⟨by rfl, ?_⟩) (by assumption) ?_
        rotate_left
        · intro w hSw; (try dsimp only at hSw); go_simp; first | done | with_reducible rfl
        try simp only [Act.put, List.setIfInBounds_toArray, List.set_cons_zero, List.set_cons_succ]
        refine wpAnyH_take (i := 26) (oi := { dst := some 78, op := Op.indexAddr 44 (Operand.tmp 76) (Operand.tmp 77), type := 0, pos := "twin.go:138", after := #[{ on := 24, ground := Ground.data }, { on := 25, ground := Ground.data }, { on := 23, ground := Ground.guard }], guard := some (23, true) }) (v := ?_) rfl (by kernel_rfl) (by kernel_rfl) (by kernel_rfl) (fun _ _ _ h => h) (Or.inl ⟨by rfl, ?_⟩) (by assumption) ?_
        rotate_left
        · intro w hSw; (try dsimp only at hSw); go_simp; first | done | with_reducible rfl
        try simp only [Act.put, List.setIfInBounds_toArray, List.set_cons_zero, List.set_cons_succ]
        refine wpAnyH_take (i := 27) (oi := { dst := some 79, op := Op.load 77 (Operand.tmp 78), type := 77, pos := "twin.go:138", after := #[{ on := 26, ground := Ground.data }, { on := 23, ground := Ground.guard }], guard := some (23, true) }) (v := _) rfl (by kernel_rfl) (by kernel_rfl) (by kernel_rfl) (fun _ _ _ h => h) (yieldsIf_load_mid (by rfl) _ _ rfl _ _ rfl _ _ (fun _ h => h.1) Tryd.underlying77 rfl (by kernel_rfl)) (by assumption) ?_
        try simp only [Act.put, List.setIfInBounds_toArray, List.set_cons_zero, List.set_cons_succ]
        refine wpAnyH_ready (rs := [28]) (by kernel_rfl) (by simp) ?_
        refine AllReadyH.cons (o := { dst := some 80, op := Op.call { callee := Callee.value (Operand.func 24), args := #[], argTypes := #[] }, type := 74, pos := "twin.go:138", after := #[{ on := 23, ground := Ground.chain }, { on := 23, ground := Ground.guard }], guard := some (23, true) }) rfl (fun K hK => ?_) AllReadyH.nil
        go_simp
        go_wp2_with ((go_at_call 24; refine (hM.out _).mono ?_; rintro x wq ⟨rfl, q9⟩; have d1 : Gr wr wq := Gr.trans (by (repeat (first | with_reducible assumption | with_reducible exact Gr.refl _ | with_reducible refine Gr.drew ?_ | with_reducible refine Gr.alloc ?_ _))) q9; clear q9))
        refine hK.out _ _ (KS.out _ d1) (fun hHeld => ?_)
        clear hK K
        try simp only [Act.put, List.setIfInBounds_toArray, List.set_cons_zero, List.set_cons_succ]
        refine wpAnyH_take (i := 29) (oi := { dst := some 81, op := Op.build 77 #[(0, Operand.tmp 80)], type := 77, pos := "twin.go:138", after := #[{ on := 28, ground := Ground.data }, { on := 23, ground := Ground.guard }], guard := some (23, true) }) (v := ?_) rfl (by kernel_rfl) (by kernel_rfl) (by kernel_rfl) (fun _ _ _ h => h) (Or.inl ⟨by rfl, ?_⟩) (by assumption) ?_
        rotate_left
        · intro w hSw; (try dsimp only at hSw); go_simp; first | done | with_reducible rfl
        try simp only [Act.put, List.setIfInBounds_toArray, List.set_cons_zero, List.set_cons_succ]
        refine wpAnyH_take (i := 30) (oi := { dst := some 82, op := Op.binOp BinOp.neq 77 (Operand.tmp 79) (Operand.tmp 81) 77, type := 4, pos := "twin.go:138", after := #[{ on := 27, ground := Ground.data }, { on := 29, ground := Ground.data }, { on := 23, ground := Ground.guard }], guard := some (23, true) }) (v := ?_) rfl (by kernel_rfl) (by kernel_rfl) (by kernel_rfl) (fun _ _ _ h => h) (Or.inl ⟨by rfl, ?_⟩) (by assumption) ?_
        rotate_left
        · intro w hSw; (try dsimp only at hSw); go_simp; first | done | with_reducible rfl
        try simp only [Act.put, List.setIfInBounds_toArray, List.set_cons_zero, List.set_cons_succ]
        refine wpAnyH_take (i := 31) (oi := { dst := some 83, op := Op.pick (Operand.tmp 75) (Operand.tmp 82) (Operand.const (Value.bool false)), type := 4, pos := "twin.go:138", after := #[{ on := 23, ground := Ground.data }, { on := 30, ground := Ground.data }, { on := 17, ground := Ground.guard }], guard := some (17, false) }) (v := ?_) rfl (by kernel_rfl) (by kernel_rfl) (by kernel_rfl) (fun _ _ _ h => h) (Or.inl ⟨by rfl, ?_⟩) (by assumption) ?_
        rotate_left
        · intro w hSw; (try dsimp only at hSw); go_simp; first | done | with_reducible rfl
        try simp only [Act.put, List.setIfInBounds_toArray, List.set_cons_zero, List.set_cons_succ]
        refine wpAnyH_take (i := 32) (oi := { dst := some 84, op := Op.pick (Operand.tmp 69) (Operand.const (Value.bool true)) (Operand.tmp 83), type := 4, pos := "twin.go:138", after := #[{ on := 17, ground := Ground.data }, { on := 31, ground := Ground.data }], guard := none }) (v := ?_) rfl (by kernel_rfl) (by kernel_rfl) (by kernel_rfl) (fun _ _ _ h => h) (Or.inl ⟨by rfl, ?_⟩) (by assumption) ?_
        rotate_left
        · intro w hSw; (try dsimp only at hSw); go_simp; first | done | with_reducible rfl
        try simp only [Act.put, List.setIfInBounds_toArray, List.set_cons_zero, List.set_cons_succ]
        refine wpAnyH_done (by kernel_rfl) ?_ _
        clear hHeld KS rA
        replace G := Hid.mk (G.out.trans d1)
        clear d1
        go_wp2_with fail
        exact ⟨⟨i + 1, by go_num, by omega, G⟩, by simp [intOf]; omega⟩
    · have hi1 : ¬ (i : Int) < (rr.slots.length : Int) + 8 := by omega
      go_wp2_with fail
      go_ret
      exact ⟨rfl, G0.out.trans G.out⟩
theorem stillRegion_any (rr : PReg) (s : Sl) (sa : Option Addr) (sc B kk : Nat) (w : World) (hS : SlOk kk w rr.slots s) (hs : FIn 8 PSlot.vals B w sa rr.slots) (hB0 : B ≤ w.heap.size) (hbs : rr.slots.length ≤ 281474976710648) : Calls Tryd.prog 18 #[.agg #[.int .u64 rr.b, .int .u64 rr.n, .string (str rr.data), .slice s.a s.l s.c], .agg #[.int .u64 rr.b, .int .u64 rr.n, .string (str rr.data), .slice sa rr.slots.length sc]] w fun x w' => x = .returned (.bool true) ∧ Gr w w' := by
  rcases hS with ⟨h, rfl⟩ | ⟨h, gs, rfl, _, hA⟩
  · exact stillRegion_nil rr sa sc w h
  · exact stillRegion_some rr sa sc B gs w hA hs hB0 hbs h
end Q
end Go.Proofs.YtpdekcchkhahcaaDoor


/-
  Twins of programs: Still, of a twin that is as it was.
-/
namespace Go.Proofs.YtpdekcchkhahcaaDoor
namespace Q
open Go.RowKit

theorem TwIn.gr {kk kr kc kg : Nat} {W W' : World} {m : PImg} {lr : List RgV} {lc : List CpV} {lg : List GtV} (h : TwIn kk kr kc kg W m lr lc lg) (q : Gr W W') : TwIn kk kr kc kg W' m lr lc lg :=
  ⟨h.r.gr q, h.c.gr q, h.g.gr q, h.rl, h.cl, h.gl, h.rd.keep (rgOk_keep (Kt.gr q)) (fun _ h => h), h.cd.keep (cpOk_keep (Kt.gr q)) (cpMark_keep (Kt.gr q)), h.gd.keep (gtOk_keep (Kt.gr q)) (fun _ h => h)⟩
theorem wr8_of (n i : Nat) (h : n ≤ 281474976710648) (hi : i < 8) : wrap64 ((n : Int) + (i : Int)) = (n : Int) + (i : Int) ∧ IntKind.i64.wrap ((n : Int) + (i : Int)) = (n : Int) + (i : Int) ∧ (n : Int) + (i : Int) < (n : Int) + 8 ∧ 0 ≤ (n : Int) + (i : Int) ∧ ((n : Int) + (i : Int)).toNat = n + i ∧ ¬ (n : Int) + (i : Int) < 0 :=
  ⟨by unfold wrap64; omega, by rw [IntKind.wrap_i64]; omega, by omega, by omega, by omega, by omega⟩
theorem elem_at {α : Type} {f : α → List Value} {k : Nat} (hf : ∀ x, (f x).length = k) {w : World} {b : Nat} {L : List α} (h : At w b (rowV [] f L).toArray) (i : Nat) (v : α) (hv : L[i]? = some v) : w.rangeAt b (i * k) (f v) := by
  obtain ⟨hi, rfl⟩ := List.getElem?_eq_some_iff.1 hv
  exact h.elem (pre := []) hf i hi (i * k) (by simp)
set_option maxRecDepth 100000 in
set_option maxHeartbeats 16000000 in
theorem Still_any (m : PImg) (ra ca ga : Option Addr) (rc cc gc B kk kr kc kg : Nat) (lr : List RgV) (lc : List CpV) (lg : List GtV) (w : World) (hT0 : TwIn kk kr kc kg w m lr lc lg) (hm0 : ImgIn B w ra ca ga m) (hB0 : B ≤ w.heap.size) (hF : TwFit m) : Calls Tryd.prog 8 #[.agg #[.slice (some ⟨kr, 0, none⟩) m.regs.length (m.regs.length + 8), .slice (some ⟨kc, 0, none⟩) m.comps.length (m.comps.length + 8), .slice (some ⟨kg, 0, none⟩) m.gates.length (m.gates.length + 8), .int .i64 m.depth], .agg #[.slice ra m.regs.length rc, .slice ca m.comps.length cc, .slice ga m.gates.length gc, .int .i64 m.depth]] w fun x w' => x = .returned (.bool true) ∧ Gr w w' := by
  have l1 : m.regs.length ≤ 281474976710648 := by have := hF.r; omega
  have l2 : m.comps.length ≤ 281474976710648 := by have := hF.c; omega
  have l3 : m.gates.length ≤ 281474976710648 := by have := hF.g; omega
  have b1w : wrap64 ((m.regs.length : Int) + 8) = (m.regs.length : Int) + 8 := by unfold wrap64; omega
  have b1x : IntKind.i64.wrap ((m.regs.length : Int) + 8) = (m.regs.length : Int) + 8 := by rw [IntKind.wrap_i64]; omega
  have b1l : (m.regs.length : Int) ≤ (m.regs.length : Int) + 8 := by omega
  have b2w : wrap64 ((m.comps.length : Int) + 8) = (m.comps.length : Int) + 8 := by unfold wrap64; omega
  have b2x : IntKind.i64.wrap ((m.comps.length : Int) + 8) = (m.comps.length : Int) + 8 := by rw [IntKind.wrap_i64]; omega
  have b2l : (m.comps.length : Int) ≤ (m.comps.length : Int) + 8 := by omega
  have b3w : wrap64 ((m.gates.length : Int) + 8) = (m.gates.length : Int) + 8 := by unfold wrap64; omega
  have b3x : IntKind.i64.wrap ((m.gates.length : Int) + 8) = (m.gates.length : Int) + 8 := by rw [IntKind.wrap_i64]; omega
  have b3l : (m.gates.length : Int) ≤ (m.gates.length : Int) + 8 := by omega
  replace hT0 := Hid.mk hT0
  replace hm0 := Hid.mk hm0
  replace hF := Hid.mk hF
  replace hB0 := Hid.mk hB0
  go_enter Tryd.func8, Tryd.ntmps8
  go_upto_region 1 with fail
  refine wp_world (fun W => At W (w.heap.size) #[.slice (some ⟨kr, 0, none⟩) m.regs.length (m.regs.length + 8), .slice (some ⟨kc, 0, none⟩) m.comps.length (m.comps.length + 8), .slice (some ⟨kg, 0, none⟩) m.gates.length (m.gates.length + 8), .int .i64 m.depth] ∧ At W (w.heap.size + 1) #[.slice ra m.regs.length rc, .slice ca m.comps.length cc, .slice ga m.gates.length gc, .int .i64 m.depth] ∧ Gr w W) ⟨(At.at_ w _ _ rfl).alloc _, At.at_ _ _ _ (by simp), ((Gr.refl w).alloc _).alloc _⟩ ?_
  rintro W0 ⟨BT, BM, G0⟩
  replace BT := Hid.mk BT
  replace BM := Hid.mk BM
  have t0 : W0.cell? ⟨w.heap.size, 0, none⟩ = some (.slice (some ⟨kr, 0, none⟩) m.regs.length (m.regs.length + 8)) := BT.out.2.1 0
  have c0 : W0.cell? ⟨w.heap.size + 1, 0, none⟩ = some (.slice ra m.regs.length rc) := BM.out.2.1 0
  have t1 : W0.cell? ⟨w.heap.size, 1, none⟩ = some (.slice (some ⟨kc, 0, none⟩) m.comps.length (m.comps.length + 8)) := BT.out.2.1 1
  have c1 : W0.cell? ⟨w.heap.size + 1, 1, none⟩ = some (.slice ca m.comps.length cc) := BM.out.2.1 1
  have t2 : W0.cell? ⟨w.heap.size, 2, none⟩ = some (.slice (some ⟨kg, 0, none⟩) m.gates.length (m.gates.length + 8)) := BT.out.2.1 2
  have c2 : W0.cell? ⟨w.heap.size + 1, 2, none⟩ = some (.slice ga m.gates.length gc) := BM.out.2.1 2
  have t3 : W0.cell? ⟨w.heap.size, 3, none⟩ = some (.int .i64 m.depth) := BT.out.2.1 3
  have c3 : W0.cell? ⟨w.heap.size + 1, 3, none⟩ = some (.int .i64 m.depth) := BM.out.2.1 3
  replace G0 := Hid.mk G0
  have hT := Hid.mk (hT0.out.gr G0.out)
  have hm : Hid (ImgIn B W0 ra ca ga m) := Hid.mk (hm0.out.below (gr_below G0.out hB0.out))
  have hB : Hid (B ≤ W0.heap.size) := Hid.mk (Nat.le_trans hB0.out G0.out.below.size)
  clear hT0 hm0 hB0
  go_upto_region 4 with fail
  clear t0 t1 t2 t3 c0 c1 c2 c3
  have G := Hid.mk (Gr.refl W0)
  go_loopw [5] (fun x wr => ∃ i : Nat, x = .int .i64 i ∧ i ≤ m.regs.length ∧ Hid (Gr W0 wr)) (fun x _ => m.regs.length - (intOf x).toNat)
  case atStart => exact ⟨0, rfl, by omega, G⟩
  case round =>
    clear G
    obtain ⟨i, rfl, hi, G⟩ := hrel
    have t9 := BT.out.gr G.out
    have c9 := BM.out.gr G.out
    by_cases hn : i < m.regs.length
    · have hi1 : (i : Int) < (m.regs.length : Int) := by omega
      have c0 : wr.cell? ⟨w.heap.size + 1, 0, none⟩ = some (.slice ra m.regs.length rc) := c9.2.1 0
      clear t9 c9
      obtain ⟨v, hv, hok⟩ := (hT.out.rd i (by omega)).1 hn
      obtain ⟨b, off, sa, sc, hra, hb1, _, k0, k1, k2, k3, kf⟩ := hm.out.regs i hn
      subst hra
      have hfit := hF.out.rs _ (List.getElem_mem hn)
      obtain ⟨vb, vn, vd, vs⟩ := v
      obtain ⟨rfl, rfl, rfl, hsl⟩ := hok
      replace hsl := Hid.mk hsl
      replace kf := Hid.mk kf
      have rg := Hid.mk (range4 k0 k1 k2 k3)
      have rA := Hid.mk (elem_at rg_len hT.out.r i _ hv)
      clear k0 k1 k2 k3 hv
      have KS : Hid (∀ W, Gr wr W → W.cell? ⟨w.heap.size, 0, none⟩ = some (.slice (some ⟨kr, 0, none⟩) m.regs.length (m.regs.length + 8)) ∧ W.cell? ⟨w.heap.size + 1, 0, none⟩ = some (.slice (some ⟨b, off, none⟩) m.regs.length rc) ∧ W.rangeAt kr (i * 4) (RgV.vals ⟨m.regs[i].b, m.regs[i].n, m.regs[i].data, vs⟩) ∧ W.rangeAt b (off + i * 4) [Value.int .u64 m.regs[i].b, .int .u64 m.regs[i].n, .string (str m.regs[i].data), .slice sa m.regs[i].slots.length sc]) := Hid.mk (fun W q => ⟨(BT.out.gr (G.out.trans q)).2.1 0, (BM.out.gr (G.out.trans q)).2.1 0, range_gr rA.out hT.out.r.1 (gr_below (G.out.trans q) (Nat.le_refl _)), range_gr rg.out hb1 (gr_below (G.out.trans q) hB.out)⟩)
      have hcl := Hid.mk (fun (W : World) (q : Gr wr W) => show Calls Tryd.prog 18 #[.agg (RgV.vals ⟨m.regs[i].b, m.regs[i].n, m.regs[i].data, vs⟩).toArray, .agg (List.toArray [Value.int .u64 m.regs[i].b, .int .u64 m.regs[i].n, .string (str m.regs[i].data), .slice sa m.regs[i].slots.length sc])] W _ from stillRegion_any m.regs[i] vs sa sc B kk W (hsl.out.keep (Kt.gr (G.out.trans q))) (kf.out.below (gr_below (G.out.trans q) hB.out)) (Nat.le_trans hB.out (G.out.trans q).below.size) (by omega))
      go_upto_region 6 with fail
      have d1 : Gr wr wr.drew := (Gr.refl _).drew
      refine wp_region_held_drew (S := (fun W => W.cell? ⟨w.heap.size, 0, none⟩ = some (.slice (some ⟨kr, 0, none⟩) m.regs.length (m.regs.length + 8)) ∧ W.cell? ⟨w.heap.size + 1, 0, none⟩ = some (.slice (some ⟨b, off, none⟩) m.regs.length rc) ∧ W.rangeAt kr (i * 4) (RgV.vals ⟨m.regs[i].b, m.regs[i].n, m.regs[i].data, vs⟩) ∧ W.rangeAt b (off + i * 4) [Value.int .u64 m.regs[i].b, .int .u64 m.regs[i].n, .string (str m.regs[i].data), .slice sa m.regs[i].slots.length sc])) (by kernel_rfl) (KS.out _ d1) (fun hHeld => ?_)
      refine wpAnyH_take (i := 0) (oi := { dst := some 58, op := Op.fieldAddr 26 (Operand.tmp 2) 0, type := 0, pos := "twin.go:157", after := #[], guard := none }) (v := ?_) rfl (by kernel_rfl) (by kernel_rfl) (by kernel_rfl) (fun _ _ _ h => h) (Or.inl ⟨by rfl, ?_⟩) (by assumption) ?_
      rotate_left
      · intro w hSw; (try dsimp only at hSw); go_simp; first | done | with_reducible rfl
      try simp only [Act.put, List.setIfInBounds_toArray, List.set_cons_zero, List.set_cons_succ]
      refine wpAnyH_take (i := 1) (oi := { dst := some 59, op := Op.load 22 (Operand.tmp 58), type := 22, pos := "twin.go:157", after := #[{ on := 0, ground := Ground.data }], guard := none }) (v := ?_) rfl (by kernel_rfl) (by kernel_rfl) (by kernel_rfl) (fun _ _ _ h => h) (Or.inl ⟨by rfl, ?_⟩) (by assumption) ?_
      rotate_left
      · intro w hSw; (try dsimp only at hSw); go_simp; first | done | with_reducible rfl
      try simp only [Act.put, List.setIfInBounds_toArray, List.set_cons_zero, List.set_cons_succ]
      refine wpAnyH_take (i := 2) (oi := { dst := some 60, op := Op.move (Operand.tmp 5), type := 3, pos := "twin.go:157", after := #[], guard := none }) (v := ?_) rfl (by kernel_rfl) (by kernel_rfl) (by kernel_rfl) (fun _ _ _ h => h) (Or.inl ⟨by rfl, ?_⟩) (by assumption) ?_
      rotate_left
      · intro w hSw; (try dsimp only at hSw); go_simp; first | done | with_reducible rfl
      try simp only [Act.put, List.setIfInBounds_toArray, List.set_cons_zero, List.set_cons_succ]
      refine wpAnyH_take (i := 3) (oi := { dst := some 61, op := Op.indexAddr 22 (Operand.tmp 59) (Operand.tmp 60), type := 0, pos := "twin.go:157", after := #[{ on := 1, ground := Ground.data }, { on := 2, ground := Ground.data }], guard := none }) (v := ?_) rfl (by kernel_rfl) (by kernel_rfl) (by kernel_rfl) (fun _ _ _ h => h) (Or.inl ⟨by rfl, ?_⟩) (by assumption) ?_
      rotate_left
      · intro w hSw; (try dsimp only at hSw); go_simp; first | done | with_reducible rfl
      try simp only [Act.put, List.setIfInBounds_toArray, List.set_cons_zero, List.set_cons_succ]
      refine wpAnyH_take (i := 4) (oi := { dst := some 62, op := Op.load 46 (Operand.tmp 61), type := 46, pos := "twin.go:157", after := #[{ on := 3, ground := Ground.data }], guard := none }) (v := _) rfl (by kernel_rfl) (by kernel_rfl) (by kernel_rfl) (fun _ _ _ h => h) (yieldsIf_load_mid (by rfl) _ _ rfl _ _ rfl _ _ (fun _ h => h.2.2.1) Tryd.underlying46 rfl (by kernel_rfl)) (by assumption) ?_
      try simp only [Act.put, List.setIfInBounds_toArray, List.set_cons_zero, List.set_cons_succ]
      refine wpAnyH_take (i := 5) (oi := { dst := some 63, op := Op.fieldAddr 26 (Operand.tmp 3) 0, type := 0, pos := "twin.go:157", after := #[], guard := none }) (v := ?_) rfl (by kernel_rfl) (by kernel_rfl) (by kernel_rfl) (fun _ _ _ h => h) (Or.inl ⟨by rfl, ?_⟩) (by assumption) ?_
      rotate_left
      · intro w hSw; (try dsimp only at hSw); go_simp; first | done | with_reducible rfl
      try simp only [Act.put, List.setIfInBounds_toArray, List.set_cons_zero, List.set_cons_succ]
      refine wpAnyH_take (i := 6) (oi := { dst := some 64, op := Op.load 22 (Operand.tmp 63), type := 22, pos := "twin.go:157", after := #[{ on := 5, ground := Ground.data }], guard := none }) (v := ?_) rfl (by kernel_rfl) (by kernel_rfl) (by kernel_rfl) (fun _ _ _ h => h) (Or.inl ⟨by rfl, ?_⟩) (by assumption) ?_
      rotate_left
      · intro w hSw; (try dsimp only at hSw); go_simp; first | done | with_reducible rfl
      try simp only [Act.put, List.setIfInBounds_toArray, List.set_cons_zero, List.set_cons_succ]
      refine wpAnyH_take (i := 7) (oi := { dst := some 65, op := Op.move (Operand.tmp 5), type := 3, pos := "twin.go:157", after := #[], guard := none }) (v := ?_) rfl (by kernel_rfl) (by kernel_rfl) (by kernel_rfl) (fun _ _ _ h => h) (Or.inl ⟨by rfl, ?_⟩) (by assumption) ?_
      rotate_left
      · intro w hSw; (try dsimp only at hSw); go_simp; first | done | with_reducible rfl
      try simp only [Act.put, List.setIfInBounds_toArray, List.set_cons_zero, List.set_cons_succ]
      refine wpAnyH_take (i := 8) (oi := { dst := some 66, op := Op.indexAddr 22 (Operand.tmp 64) (Operand.tmp 65), type := 0, pos := "twin.go:157", after := #[{ on := 6, ground := Ground.data }, { on := 7, ground := Ground.data }], guard := none }) (v := ?_) rfl (by kernel_rfl) (by kernel_rfl) (by kernel_rfl) (fun _ _ _ h => h) (Or.inl ⟨by rfl, ?_⟩) (by assumption) ?_
      rotate_left
      · intro w hSw; (try dsimp only at hSw); go_simp; first | done | with_reducible rfl
      try simp only [Act.put, List.setIfInBounds_toArray, List.set_cons_zero, List.set_cons_succ]
      refine wpAnyH_take (i := 9) (oi := { dst := some 67, op := Op.load 46 (Operand.tmp 66), type := 46, pos := "twin.go:157", after := #[{ on := 8, ground := Ground.data }], guard := none }) (v := _) rfl (by kernel_rfl) (by kernel_rfl) (by kernel_rfl) (fun _ _ _ h => h) (yieldsIf_load_mid (by rfl) _ _ rfl _ _ rfl _ _ (fun _ h => h.2.2.2) Tryd.underlying46 rfl (by kernel_rfl)) (by assumption) ?_
      try simp only [Act.put, List.setIfInBounds_toArray, List.set_cons_zero, List.set_cons_succ]
      refine wpAnyH_ready (rs := [10]) (by kernel_rfl) (by simp) ?_
      refine AllReadyH.cons (o := { dst := some 68, op := Op.call { callee := Callee.value (Operand.func 18), args := #[Operand.tmp 62, Operand.tmp 67], argTypes := #[46, 46] }, type := 4, pos := "twin.go:157", after := #[{ on := 4, ground := Ground.data }, { on := 9, ground := Ground.data }], guard := none }) rfl (fun K hK => ?_) AllReadyH.nil
      go_simp
      go_wp2_with ((go_at_call 18; refine (hcl.out _ (by (repeat (first | with_reducible assumption | with_reducible exact Gr.refl _ | with_reducible refine Gr.drew ?_ | with_reducible refine Gr.alloc ?_ _)))).mono ?_; rintro x wq ⟨rfl, q9⟩; have d1 : Gr wr wq := Gr.trans (by (repeat (first | with_reducible assumption | with_reducible exact Gr.refl _ | with_reducible refine Gr.drew ?_ | with_reducible refine Gr.alloc ?_ _))) q9; clear q9))
      refine hK.out _ _ (KS.out _ d1) (fun hHeld => ?_)
      clear hK K
      try simp only [Act.put, List.setIfInBounds_toArray, List.set_cons_zero, List.set_cons_succ]
      refine wpAnyH_take (i := 11) (oi := { dst := some 6, op := Op.assign (Operand.tmp 68), type := 4, pos := "twin.go:157", after := #[{ on := 10, ground := Ground.data }, { on := 10, ground := Ground.chain }, { on := 0, ground := Ground.phase }, { on := 1, ground := Ground.phase }, { on := 2, ground := Ground.phase }, { on := 3, ground := Ground.phase }, { on := 4, ground := Ground.phase }, { on := 5, ground := Ground.phase }, { on := 6, ground := Ground.phase }, { on := 7, ground := Ground.phase }, { on := 8, ground := Ground.phase }, { on := 9, ground := Ground.phase }, { on := 10, ground := Ground.phase }], guard := none }) (v := ?_) rfl (by kernel_rfl) (by kernel_rfl) (by kernel_rfl) (fun _ _ _ h => h) (Or.inl ⟨by rfl, ?_⟩) (by assumption) ?_
      rotate_left
      · intro w hSw; (try dsimp only at hSw); go_simp; first | done | with_reducible rfl
      try simp only [Act.put, List.setIfInBounds_toArray, List.set_cons_zero, List.set_cons_succ]
      refine wpAnyH_done (by kernel_rfl) ?_ _
      clear hHeld KS hcl
      replace G := Hid.mk (G.out.trans d1)
      clear d1
      generalize wq = wr at *
      clear rA rg kf hsl
      go_wp2_with fail
      exact ⟨⟨i + 1, by go_num, by omega, G⟩, by simp [intOf]; omega⟩
    · have hi1 : ¬ (i : Int) < (m.regs.length : Int) := by omega
      have c0 : wr.cell? ⟨w.heap.size + 1, 0, none⟩ = some (.slice ra m.regs.length rc) := c9.2.1 0
      have G2 := G
      clear G
      have z0 := G2.out
      go_upto_region 10 with fail
      clear t9 c9 z0 c0
      go_loopw [7] (fun x wr => ∃ i : Nat, x = .int .i64 i ∧ i ≤ m.comps.length ∧ Hid (Gr W0 wr)) (fun x _ => m.comps.length - (intOf x).toNat)
      case atStart => exact ⟨0, rfl, by omega, G2⟩
      case round =>
        clear G2
        obtain ⟨i, rfl, hi, G⟩ := hrel
        have t9 := BT.out.gr G.out
        have c9 := BM.out.gr G.out
        by_cases hn : i < m.comps.length
        · have hi1 : (i : Int) < (m.comps.length : Int) := by omega
          have c1 : wr.cell? ⟨w.heap.size + 1, 1, none⟩ = some (.slice ca m.comps.length cc) := c9.2.1 1
          clear t9 c9
          obtain ⟨v, hv, hok⟩ := (hT.out.cd i (by omega)).1 hn
          obtain ⟨b, off, ra', rc', ka, kc', hca, hb1, _, k0, k1, fr, fk⟩ := hm.out.comps i hn
          subst hca
          have hfit := hF.out.cs _ (List.getElem_mem hn)
          obtain ⟨vr, vk⟩ := v
          obtain ⟨⟨g1, e1, _, A1⟩, ⟨g2, e2, _, A2⟩⟩ := hok
          dsimp only at e1 e2
          subst e1 e2
          replace A1 := Hid.mk A1
          replace A2 := Hid.mk A2
          replace fr := Hid.mk fr
          replace fk := Hid.mk fk
          have rg := Hid.mk (range2 k0 k1)
          have rA := Hid.mk (elem_at cp_len hT.out.c i _ hv)
          clear k0 k1 hv
          have KS : Hid (∀ W, Gr wr W → W.cell? ⟨w.heap.size, 1, none⟩ = some (.slice (some ⟨kc, 0, none⟩) m.comps.length (m.comps.length + 8)) ∧ W.cell? ⟨w.heap.size + 1, 1, none⟩ = some (.slice (some ⟨b, off, none⟩) m.comps.length cc) ∧ W.rangeAt kc (i * 2) (CpV.vals ⟨⟨some ⟨g1, 0, none⟩, m.comps[i].roots.length, m.comps[i].roots.length + 8⟩, ⟨some ⟨g2, 0, none⟩, m.comps[i].code.length, m.comps[i].code.length + 8⟩⟩) ∧ W.rangeAt b (off + i * 2) [Value.slice ra' m.comps[i].roots.length rc', .slice ka m.comps[i].code.length kc']) := Hid.mk (fun W q => ⟨(BT.out.gr (G.out.trans q)).2.1 1, (BM.out.gr (G.out.trans q)).2.1 1, range_gr rA.out hT.out.c.1 (gr_below (G.out.trans q) (Nat.le_refl _)), range_gr rg.out hb1 (gr_below (G.out.trans q) hB.out)⟩)
          have hcl := Hid.mk (fun (W : World) (q : Gr wr W) => show Calls Tryd.prog 19 #[.agg (CpV.vals ⟨⟨some ⟨g1, 0, none⟩, m.comps[i].roots.length, m.comps[i].roots.length + 8⟩, ⟨some ⟨g2, 0, none⟩, m.comps[i].code.length, m.comps[i].code.length + 8⟩⟩).toArray, .agg (List.toArray [Value.slice ra' m.comps[i].roots.length rc', .slice ka m.comps[i].code.length kc'])] W _ from stillComp_any m.comps[i] ra' ka rc' kc' B g1 g2 W (A1.out.gr (G.out.trans q)) (A2.out.gr (G.out.trans q)) (fr.out.below (gr_below (G.out.trans q) hB.out)) (fk.out.below (gr_below (G.out.trans q) hB.out)) (Nat.le_trans hB.out (G.out.trans q).below.size) (by omega) (by omega))
          go_upto_region 12 with fail
          have d1 : Gr wr wr.drew := (Gr.refl _).drew
          refine wp_region_held_drew (S := (fun W => W.cell? ⟨w.heap.size, 1, none⟩ = some (.slice (some ⟨kc, 0, none⟩) m.comps.length (m.comps.length + 8)) ∧ W.cell? ⟨w.heap.size + 1, 1, none⟩ = some (.slice (some ⟨b, off, none⟩) m.comps.length cc) ∧ W.rangeAt kc (i * 2) (CpV.vals ⟨⟨some ⟨g1, 0, none⟩, m.comps[i].roots.length, m.comps[i].roots.length + 8⟩, ⟨some ⟨g2, 0, none⟩, m.comps[i].code.length, m.comps[i].code.length + 8⟩⟩) ∧ W.rangeAt b (off + i * 2) [Value.slice ra' m.comps[i].roots.length rc', .slice ka m.comps[i].code.length kc'])) (by kernel_rfl) (KS.out _ d1) (fun hHeld => ?_)
          refine wpAnyH_take (i := 0) (oi := { dst := some 78, op := Op.fieldAddr 26 (Operand.tmp 2) 1, type := 0, pos := "twin.go:163", after := #[], guard := none }) (v := ?_) rfl (by kernel_rfl) (by kernel_rfl) (by kernel_rfl) (fun _ _ _ h => h) (Or.inl ⟨by rfl, ?_⟩) (by assumption) ?_
          rotate_left
          · intro w hSw; (try dsimp only at hSw); go_simp; first | done | with_reducible rfl
          try simp only [Act.put, List.setIfInBounds_toArray, List.set_cons_zero, List.set_cons_succ]
          refine wpAnyH_take (i := 1) (oi := { dst := some 79, op := Op.load 23 (Operand.tmp 78), type := 23, pos := "twin.go:163", after := #[{ on := 0, ground := Ground.data }], guard := none }) (v := ?_) rfl (by kernel_rfl) (by kernel_rfl) (by kernel_rfl) (fun _ _ _ h => h) (Or.inl ⟨by rfl, ?_⟩) (by assumption) ?_
          rotate_left
          · intro w hSw; (try dsimp only at hSw); go_simp; first | done | with_reducible rfl
          try simp only [Act.put, List.setIfInBounds_toArray, List.set_cons_zero, List.set_cons_succ]
          refine wpAnyH_take (i := 2) (oi := { dst := some 80, op := Op.move (Operand.tmp 7), type := 3, pos := "twin.go:163", after := #[], guard := none }) (v := ?_) rfl (by kernel_rfl) (by kernel_rfl) (by kernel_rfl) (fun _ _ _ h => h) (Or.inl ⟨by rfl, ?_⟩) (by assumption) ?_
          rotate_left
          · intro w hSw; (try dsimp only at hSw); go_simp; first | done | with_reducible rfl
          try simp only [Act.put, List.setIfInBounds_toArray, List.set_cons_zero, List.set_cons_succ]
          refine wpAnyH_take (i := 3) (oi := { dst := some 81, op := Op.indexAddr 23 (Operand.tmp 79) (Operand.tmp 80), type := 0, pos := "twin.go:163", after := #[{ on := 1, ground := Ground.data }, { on := 2, ground := Ground.data }], guard := none }) (v := ?_) rfl (by kernel_rfl) (by kernel_rfl) (by kernel_rfl) (fun _ _ _ h => h) (Or.inl ⟨by rfl, ?_⟩) (by assumption) ?_
          rotate_left
          · intro w hSw; (try dsimp only at hSw); go_simp; first | done | with_reducible rfl
          try simp only [Act.put, List.setIfInBounds_toArray, List.set_cons_zero, List.set_cons_succ]
          refine wpAnyH_take (i := 4) (oi := { dst := some 82, op := Op.load 53 (Operand.tmp 81), type := 53, pos := "twin.go:163", after := #[{ on := 3, ground := Ground.data }], guard := none }) (v := _) rfl (by kernel_rfl) (by kernel_rfl) (by kernel_rfl) (fun _ _ _ h => h) (yieldsIf_load_mid (by rfl) _ _ rfl _ _ rfl _ _ (fun _ h => h.2.2.1) Tryd.underlying53 rfl (by kernel_rfl)) (by assumption) ?_
          try simp only [Act.put, List.setIfInBounds_toArray, List.set_cons_zero, List.set_cons_succ]
          refine wpAnyH_take (i := 5) (oi := { dst := some 83, op := Op.fieldAddr 26 (Operand.tmp 3) 1, type := 0, pos := "twin.go:163", after := #[], guard := none }) (v := ?_) rfl (by kernel_rfl) (by kernel_rfl) (by kernel_rfl) (fun _ _ _ h => h) (Or.inl ⟨by rfl, ?_⟩) (by assumption) ?_
          rotate_left
          · intro w hSw; (try dsimp only at hSw); go_simp; first | done | with_reducible rfl
          try simp only [Act.put, List.setIfInBounds_toArray, List.set_cons_zero, List.set_cons_succ]
          refine wpAnyH_take (i := 6) (oi := { dst := some 84, op := Op.load 23 (Operand.tmp 83), type := 23, pos := "twin.go:163", after := #[{ on := 5, ground := Ground.data }], guard := none }) (v := ?_) rfl (by kernel_rfl) (by kernel_rfl) (by kernel_rfl) (fun _ _ _ h => h) (Or.inl ⟨by rfl, ?_⟩) (by assumption) ?_
          rotate_left
          · intro w hSw; (try dsimp only at hSw); go_simp; first | done | with_reducible rfl
          try simp only [Act.put, List.setIfInBounds_toArray, List.set_cons_zero, List.set_cons_succ]
          refine wpAnyH_take (i := 7) (oi := { dst := some 85, op := Op.move (Operand.tmp 7), type := 3, pos := "twin.go:163", after := #[], guard := none }) (v := ?_) rfl (by kernel_rfl) (by kernel_rfl) (by kernel_rfl) (fun _ _ _ h => h) (Or.inl ⟨by rfl, ?_⟩) (by assumption) ?_
          rotate_left
          · intro w hSw; (try dsimp only at hSw); go_simp; first | done | with_reducible rfl
          try simp only [Act.put, List.setIfInBounds_toArray, List.set_cons_zero, List.set_cons_succ]
          refine wpAnyH_take (i := 8) (oi := { dst := some 86, op := Op.indexAddr 23 (Operand.tmp 84) (Operand.tmp 85), type := 0, pos := "twin.go:163", after := #[{ on := 6, ground := Ground.data }, { on := 7, ground := Ground.data }], guard := none }) (v := ?_) rfl (by kernel_rfl) (by kernel_rfl) (by kernel_rfl) (fun _ _ _ h => h) (Or.inl ⟨by rfl, ?_⟩) (by assumption) ?_
          rotate_left
          · intro w hSw; (try dsimp only at hSw); go_simp; first | done | with_reducible rfl
          try simp only [Act.put, List.setIfInBounds_toArray, List.set_cons_zero, List.set_cons_succ]
          refine wpAnyH_take (i := 9) (oi := { dst := some 87, op := Op.load 53 (Operand.tmp 86), type := 53, pos := "twin.go:163", after := #[{ on := 8, ground := Ground.data }], guard := none }) (v := _) rfl (by kernel_rfl) (by kernel_rfl) (by kernel_rfl) (fun _ _ _ h => h) (yieldsIf_load_mid (by rfl) _ _ rfl _ _ rfl _ _ (fun _ h => h.2.2.2) Tryd.underlying53 rfl (by kernel_rfl)) (by assumption) ?_
          try simp only [Act.put, List.setIfInBounds_toArray, List.set_cons_zero, List.set_cons_succ]
          refine wpAnyH_ready (rs := [10]) (by kernel_rfl) (by simp) ?_
          refine AllReadyH.cons (o := { dst := some 88, op := Op.call { callee := Callee.value (Operand.func 19), args := #[Operand.tmp 82, Operand.tmp 87], argTypes := #[53, 53] }, type := 4, pos := "twin.go:163", after := #[{ on := 4, ground := Ground.data }, { on := 9, ground := Ground.data }], guard := none }) rfl (fun K hK => ?_) AllReadyH.nil
          go_simp
          go_wp2_with ((go_at_call 19; refine (hcl.out _ (by (repeat (first | with_reducible assumption | with_reducible exact Gr.refl _ | with_reducible refine Gr.drew ?_ | with_reducible refine Gr.alloc ?_ _)))).mono ?_; rintro x wq ⟨rfl, q9⟩; have d1 : Gr wr wq := Gr.trans (by (repeat (first | with_reducible assumption | with_reducible exact Gr.refl _ | with_reducible refine Gr.drew ?_ | with_reducible refine Gr.alloc ?_ _))) q9; clear q9))
          refine hK.out _ _ (KS.out _ d1) (fun hHeld => ?_)
          clear hK K
          try simp only [Act.put, List.setIfInBounds_toArray, List.set_cons_zero, List.set_cons_succ]
          refine wpAnyH_take (i := 11) (oi := { dst := some 8, op := Op.assign (Operand.tmp 88), type := 4, pos := "twin.go:163", after := #[{ on := 10, ground := Ground.data }, { on := 10, ground := Ground.chain }, { on := 0, ground := Ground.phase }, { on := 1, ground := Ground.phase }, { on := 2, ground := Ground.phase }, { on := 3, ground := Ground.phase }, { on := 4, ground := Ground.phase }, { on := 5, ground := Ground.phase }, { on := 6, ground := Ground.phase }, { on := 7, ground := Ground.phase }, { on := 8, ground := Ground.phase }, { on := 9, ground := Ground.phase }, { on := 10, ground := Ground.phase }], guard := none }) (v := ?_) rfl (by kernel_rfl) (by kernel_rfl) (by kernel_rfl) (fun _ _ _ h => h) (Or.inl ⟨by rfl, ?_⟩) (by assumption) ?_
          rotate_left
          · intro w hSw; (try dsimp only at hSw); go_simp; first | done | with_reducible rfl
          try simp only [Act.put, List.setIfInBounds_toArray, List.set_cons_zero, List.set_cons_succ]
          refine wpAnyH_done (by kernel_rfl) ?_ _
          clear hHeld KS hcl
          replace G := Hid.mk (G.out.trans d1)
          clear d1
          generalize wq = wr at *
          clear rA rg fr fk A1 A2
          go_wp2_with fail
          exact ⟨⟨i + 1, by go_num, by omega, G⟩, by simp [intOf]; omega⟩
        · have hi1 : ¬ (i : Int) < (m.comps.length : Int) := by omega
          have c1 : wr.cell? ⟨w.heap.size + 1, 1, none⟩ = some (.slice ca m.comps.length cc) := c9.2.1 1
          have G3 := G
          clear G
          have z0 := G3.out
          go_upto_region 16 with fail
          clear t9 c9 z0 c1
          go_loopw [9] (fun x wr => ∃ i : Nat, x = .int .i64 i ∧ i ≤ m.gates.length ∧ Hid (Gr W0 wr)) (fun x _ => m.gates.length - (intOf x).toNat)
          case atStart => exact ⟨0, rfl, by omega, G3⟩
          case round =>
            clear G3
            obtain ⟨i, rfl, hi, G⟩ := hrel
            have t9 := BT.out.gr G.out
            have c9 := BM.out.gr G.out
            by_cases hn : i < m.gates.length
            · have hi1 : (i : Int) < (m.gates.length : Int) := by omega
              have c2 : wr.cell? ⟨w.heap.size + 1, 2, none⟩ = some (.slice ga m.gates.length gc) := c9.2.1 2
              clear t9 c9
              obtain ⟨v, hv, hok⟩ := (hT.out.gd i (by omega)).1 hn
              obtain ⟨b, off, xa, xc, ya, yc, hga, hb1, _, k0, k1, k2, k3, fx, fy⟩ := hm.out.gates i hn
              subst hga
              have hfit := hF.out.gs _ (List.getElem_mem hn)
              obtain ⟨vc, ve, vx, vy⟩ := v
              obtain ⟨e3, e4, ⟨g1, e1, _, A1⟩, ⟨g2, e2, _, A2⟩⟩ := hok
              dsimp only at e1 e2 e3 e4
              subst e1 e2 e3 e4
              replace A1 := Hid.mk A1
              replace A2 := Hid.mk A2
              replace fx := Hid.mk fx
              replace fy := Hid.mk fy
              replace k0 := Hid.mk k0
              replace k1 := Hid.mk k1
              replace k2 := Hid.mk k2
              replace k3 := Hid.mk k3
              have rA := Hid.mk (elem_at gt_len hT.out.g i _ hv)
              clear hv
              clear c2
              have c2 : wr.cell? ⟨w.heap.size + 1, 2, none⟩ = some (.slice (some ⟨b, off, none⟩) m.gates.length gc) := (BM.out.gr G.out).2.1 2
              have KS : Hid (∀ W, Gr wr W → W.cell? ⟨w.heap.size, 2, none⟩ = some (.slice (some ⟨kg, 0, none⟩) m.gates.length (m.gates.length + 8)) ∧ W.cell? ⟨w.heap.size + 1, 2, none⟩ = some (.slice (some ⟨b, off, none⟩) m.gates.length gc) ∧ W.cell? ⟨kg, i * 4 + 1 + 1, none⟩ = some (.slice (some ⟨g1, 0, none⟩) m.gates[i].args.length (m.gates[i].args.length + 8)) ∧ W.cell? ⟨b, off + i * 4 + 1 + 1, none⟩ = some (.slice xa m.gates[i].args.length xc)) := Hid.mk (fun W q => ⟨(BT.out.gr (G.out.trans q)).2.1 2, (BM.out.gr (G.out.trans q)).2.1 2, (range_gr rA.out hT.out.g.1 (gr_below (G.out.trans q) (Nat.le_refl _))) 2 _ rfl, ((gr_below (G.out.trans q) hB.out).cell (p := ⟨b, off + i * 4 + 1 + 1, none⟩) hb1).trans k2.out⟩)
              have hcl := Hid.mk (fun (W : World) (q : Gr wr W) => stillTypes_any m.gates[i].args xa xc B g1 W (A1.out.gr (G.out.trans q)) (fx.out.below (gr_below (G.out.trans q) hB.out)) (Nat.le_trans hB.out (G.out.trans q).below.size) (by omega))
              go_upto_region 18 with fail
              have d1 : Gr wr wr.drew := (Gr.refl _).drew
              refine wp_region_held_drew (S := (fun W => W.cell? ⟨w.heap.size, 2, none⟩ = some (.slice (some ⟨kg, 0, none⟩) m.gates.length (m.gates.length + 8)) ∧ W.cell? ⟨w.heap.size + 1, 2, none⟩ = some (.slice (some ⟨b, off, none⟩) m.gates.length gc) ∧ W.cell? ⟨kg, i * 4 + 1 + 1, none⟩ = some (.slice (some ⟨g1, 0, none⟩) m.gates[i].args.length (m.gates[i].args.length + 8)) ∧ W.cell? ⟨b, off + i * 4 + 1 + 1, none⟩ = some (.slice xa m.gates[i].args.length xc))) (by kernel_rfl) (KS.out _ d1) (fun hHeld => ?_)
              refine wpAnyH_take (i := 0) (oi := { dst := some 98, op := Op.fieldAddr 26 (Operand.tmp 2) 2, type := 0, pos := "twin.go:169", after := #[], guard := none }) (v := ?_) rfl (by kernel_rfl) (by kernel_rfl) (by kernel_rfl) (fun _ _ _ h => h) (Or.inl ⟨by rfl, ?_⟩) (by assumption) ?_
              rotate_left
              · intro w hSw; (try dsimp only at hSw); go_simp; first | done | with_reducible rfl
              try simp only [Act.put, List.setIfInBounds_toArray, List.set_cons_zero, List.set_cons_succ]
              refine wpAnyH_take (i := 1) (oi := { dst := some 99, op := Op.load 24 (Operand.tmp 98), type := 24, pos := "twin.go:169", after := #[{ on := 0, ground := Ground.data }], guard := none }) (v := ?_) rfl (by kernel_rfl) (by kernel_rfl) (by kernel_rfl) (fun _ _ _ h => h) (Or.inl ⟨by rfl, ?_⟩) (by assumption) ?_
              rotate_left
              · intro w hSw; (try dsimp only at hSw); go_simp; first | done | with_reducible rfl
              try simp only [Act.put, List.setIfInBounds_toArray, List.set_cons_zero, List.set_cons_succ]
              refine wpAnyH_take (i := 2) (oi := { dst := some 100, op := Op.move (Operand.tmp 9), type := 3, pos := "twin.go:169", after := #[], guard := none }) (v := ?_) rfl (by kernel_rfl) (by kernel_rfl) (by kernel_rfl) (fun _ _ _ h => h) (Or.inl ⟨by rfl, ?_⟩) (by assumption) ?_
              rotate_left
              · intro w hSw; (try dsimp only at hSw); go_simp; first | done | with_reducible rfl
              try simp only [Act.put, List.setIfInBounds_toArray, List.set_cons_zero, List.set_cons_succ]
              refine wpAnyH_take (i := 3) (oi := { dst := some 101, op := Op.indexAddr 24 (Operand.tmp 99) (Operand.tmp 100), type := 0, pos := "twin.go:169", after := #[{ on := 1, ground := Ground.data }, { on := 2, ground := Ground.data }], guard := none }) (v := ?_) rfl (by kernel_rfl) (by kernel_rfl) (by kernel_rfl) (fun _ _ _ h => h) (Or.inl ⟨by rfl, ?_⟩) (by assumption) ?_
              rotate_left
              · intro w hSw; (try dsimp only at hSw); go_simp; first | done | with_reducible rfl
              try simp only [Act.put, List.setIfInBounds_toArray, List.set_cons_zero, List.set_cons_succ]
              refine wpAnyH_take (i := 4) (oi := { dst := some 102, op := Op.fieldAddr 58 (Operand.tmp 101) 2, type := 0, pos := "twin.go:169", after := #[{ on := 3, ground := Ground.data }], guard := none }) (v := ?_) rfl (by kernel_rfl) (by kernel_rfl) (by kernel_rfl) (fun _ _ _ h => h) (Or.inl ⟨by rfl, ?_⟩) (by assumption) ?_
              rotate_left
              · intro w hSw; (try dsimp only at hSw); go_simp; first | done | with_reducible rfl
              try simp only [Act.put, List.setIfInBounds_toArray, List.set_cons_zero, List.set_cons_succ]
              refine wpAnyH_take (i := 5) (oi := { dst := some 103, op := Op.load 56 (Operand.tmp 102), type := 56, pos := "twin.go:169", after := #[{ on := 4, ground := Ground.data }], guard := none }) (v := ?_) rfl (by kernel_rfl) (by kernel_rfl) (by kernel_rfl) (fun _ _ _ h => h) (Or.inl ⟨by rfl, ?_⟩) (by assumption) ?_
              rotate_left
              · intro w hSw; (try dsimp only at hSw); go_simp; first | done | with_reducible rfl
              try simp only [Act.put, List.setIfInBounds_toArray, List.set_cons_zero, List.set_cons_succ]
              refine wpAnyH_take (i := 6) (oi := { dst := some 104, op := Op.fieldAddr 26 (Operand.tmp 3) 2, type := 0, pos := "twin.go:169", after := #[], guard := none }) (v := ?_) rfl (by kernel_rfl) (by kernel_rfl) (by kernel_rfl) (fun _ _ _ h => h) (Or.inl ⟨by rfl, ?_⟩) (by assumption) ?_
              rotate_left
              · intro w hSw; (try dsimp only at hSw); go_simp; first | done | with_reducible rfl
              try simp only [Act.put, List.setIfInBounds_toArray, List.set_cons_zero, List.set_cons_succ]
              refine wpAnyH_take (i := 7) (oi := { dst := some 105, op := Op.load 24 (Operand.tmp 104), type := 24, pos := "twin.go:169", after := #[{ on := 6, ground := Ground.data }], guard := none }) (v := ?_) rfl (by kernel_rfl) (by kernel_rfl) (by kernel_rfl) (fun _ _ _ h => h) (Or.inl ⟨by rfl, ?_⟩) (by assumption) ?_
              rotate_left
              · intro w hSw; (try dsimp only at hSw); go_simp; first | done | with_reducible rfl
              try simp only [Act.put, List.setIfInBounds_toArray, List.set_cons_zero, List.set_cons_succ]
              refine wpAnyH_take (i := 8) (oi := { dst := some 106, op := Op.move (Operand.tmp 9), type := 3, pos := "twin.go:169", after := #[], guard := none }) (v := ?_) rfl (by kernel_rfl) (by kernel_rfl) (by kernel_rfl) (fun _ _ _ h => h) (Or.inl ⟨by rfl, ?_⟩) (by assumption) ?_
              rotate_left
              · intro w hSw; (try dsimp only at hSw); go_simp; first | done | with_reducible rfl
              try simp only [Act.put, List.setIfInBounds_toArray, List.set_cons_zero, List.set_cons_succ]
              refine wpAnyH_take (i := 9) (oi := { dst := some 107, op := Op.indexAddr 24 (Operand.tmp 105) (Operand.tmp 106), type := 0, pos := "twin.go:169", after := #[{ on := 7, ground := Ground.data }, { on := 8, ground := Ground.data }], guard := none }) (v := ?_) rfl (by kernel_rfl) (by kernel_rfl) (by kernel_rfl) (fun _ _ _ h => h) (Or.inl ⟨by rfl, ?_⟩) (by assumption) ?_
              rotate_left
              · intro w hSw; (try dsimp only at hSw); go_simp; first | done | with_reducible rfl
              try simp only [Act.put, List.setIfInBounds_toArray, List.set_cons_zero, List.set_cons_succ]
              refine wpAnyH_take (i := 10) (oi := { dst := some 108, op := Op.fieldAddr 58 (Operand.tmp 107) 2, type := 0, pos := "twin.go:169", after := #[{ on := 9, ground := Ground.data }], guard := none }) (v := ?_) rfl (by kernel_rfl) (by kernel_rfl) (by kernel_rfl) (fun _ _ _ h => h) (Or.inl ⟨by rfl, ?_⟩) (by assumption) ?_
              rotate_left
              · intro w hSw; (try dsimp only at hSw); go_simp; first | done | with_reducible rfl
              try simp only [Act.put, List.setIfInBounds_toArray, List.set_cons_zero, List.set_cons_succ]
              refine wpAnyH_take (i := 11) (oi := { dst := some 109, op := Op.load 56 (Operand.tmp 108), type := 56, pos := "twin.go:169", after := #[{ on := 10, ground := Ground.data }], guard := none }) (v := ?_) rfl (by kernel_rfl) (by kernel_rfl) (by kernel_rfl) (fun _ _ _ h => h) (Or.inl ⟨by rfl, ?_⟩) (by assumption) ?_
              rotate_left
              · intro w hSw; (try dsimp only at hSw); go_simp; first | done | with_reducible rfl
              try simp only [Act.put, List.setIfInBounds_toArray, List.set_cons_zero, List.set_cons_succ]
              refine wpAnyH_ready (rs := [12]) (by kernel_rfl) (by simp) ?_
              refine AllReadyH.cons (o := { dst := some 110, op := Op.call { callee := Callee.value (Operand.func 20), args := #[Operand.tmp 103, Operand.tmp 109], argTypes := #[56, 56] }, type := 4, pos := "twin.go:169", after := #[{ on := 5, ground := Ground.data }, { on := 11, ground := Ground.data }], guard := none }) rfl (fun K hK => ?_) AllReadyH.nil
              go_simp
              go_wp2_with ((go_at_call 20; refine (hcl.out _ (by (repeat (first | with_reducible assumption | with_reducible exact Gr.refl _ | with_reducible refine Gr.drew ?_ | with_reducible refine Gr.alloc ?_ _)))).mono ?_; rintro x wq ⟨rfl, q9⟩; have d1 : Gr wr wq := Gr.trans (by (repeat (first | with_reducible assumption | with_reducible exact Gr.refl _ | with_reducible refine Gr.drew ?_ | with_reducible refine Gr.alloc ?_ _))) q9; clear q9))
              refine hK.out _ _ (KS.out _ d1) (fun hHeld => ?_)
              clear hK K
              try simp only [Act.put, List.setIfInBounds_toArray, List.set_cons_zero, List.set_cons_succ]
              refine wpAnyH_take (i := 13) (oi := { dst := some 10, op := Op.assign (Operand.tmp 110), type := 4, pos := "twin.go:169", after := #[{ on := 12, ground := Ground.data }, { on := 12, ground := Ground.chain }, { on := 0, ground := Ground.phase }, { on := 1, ground := Ground.phase }, { on := 2, ground := Ground.phase }, { on := 3, ground := Ground.phase }, { on := 4, ground := Ground.phase }, { on := 5, ground := Ground.phase }, { on := 6, ground := Ground.phase }, { on := 7, ground := Ground.phase }, { on := 8, ground := Ground.phase }, { on := 9, ground := Ground.phase }, { on := 10, ground := Ground.phase }, { on := 11, ground := Ground.phase }, { on := 12, ground := Ground.phase }], guard := none }) (v := ?_) rfl (by kernel_rfl) (by kernel_rfl) (by kernel_rfl) (fun _ _ _ h => h) (Or.inl ⟨by rfl, ?_⟩) (by assumption) ?_
              rotate_left
              · intro w hSw; (try dsimp only at hSw); go_simp; first | done | with_reducible rfl
              try simp only [Act.put, List.setIfInBounds_toArray, List.set_cons_zero, List.set_cons_succ]
              refine wpAnyH_done (by kernel_rfl) ?_ _
              clear hHeld KS hcl
              replace G := Hid.mk (G.out.trans d1)
              clear d1
              generalize wq = wr at *
              clear c2
              have KS : Hid (∀ W, Gr wr W → W.cell? ⟨w.heap.size, 2, none⟩ = some (.slice (some ⟨kg, 0, none⟩) m.gates.length (m.gates.length + 8)) ∧ W.cell? ⟨w.heap.size + 1, 2, none⟩ = some (.slice (some ⟨b, off, none⟩) m.gates.length gc) ∧ W.cell? ⟨kg, i * 4 + 1 + 1 + 1, none⟩ = some (.slice (some ⟨g2, 0, none⟩) m.gates[i].res.length (m.gates[i].res.length + 8)) ∧ W.cell? ⟨b, off + i * 4 + 1 + 1 + 1, none⟩ = some (.slice ya m.gates[i].res.length yc)) := Hid.mk (fun W q => ⟨(BT.out.gr (G.out.trans q)).2.1 2, (BM.out.gr (G.out.trans q)).2.1 2, (range_gr rA.out hT.out.g.1 (gr_below (G.out.trans q) (Nat.le_refl _))) 3 _ rfl, ((gr_below (G.out.trans q) hB.out).cell (p := ⟨b, off + i * 4 + 1 + 1 + 1, none⟩) hb1).trans k3.out⟩)
              have hcl := Hid.mk (fun (W : World) (q : Gr wr W) => stillTypes_any m.gates[i].res ya yc B g2 W (A2.out.gr (G.out.trans q)) (fy.out.below (gr_below (G.out.trans q) hB.out)) (Nat.le_trans hB.out (G.out.trans q).below.size) (by omega))
              go_upto_region 19 with fail
              have d1 : Gr wr wr.drew := (Gr.refl _).drew
              refine wp_region_held_drew (S := (fun W => W.cell? ⟨w.heap.size, 2, none⟩ = some (.slice (some ⟨kg, 0, none⟩) m.gates.length (m.gates.length + 8)) ∧ W.cell? ⟨w.heap.size + 1, 2, none⟩ = some (.slice (some ⟨b, off, none⟩) m.gates.length gc) ∧ W.cell? ⟨kg, i * 4 + 1 + 1 + 1, none⟩ = some (.slice (some ⟨g2, 0, none⟩) m.gates[i].res.length (m.gates[i].res.length + 8)) ∧ W.cell? ⟨b, off + i * 4 + 1 + 1 + 1, none⟩ = some (.slice ya m.gates[i].res.length yc))) (by kernel_rfl) (KS.out _ d1) (fun hHeld => ?_)
              refine wpAnyH_take (i := 0) (oi := { dst := some 111, op := Op.fieldAddr 26 (Operand.tmp 2) 2, type := 0, pos := "twin.go:170", after := #[], guard := none }) (v := ?_) rfl (by kernel_rfl) (by kernel_rfl) (by kernel_rfl) (fun _ _ _ h => h) (Or.inl ⟨by rfl, ?_⟩) (by assumption) ?_
              rotate_left
              · intro w hSw; (try dsimp only at hSw); go_simp; first | done | with_reducible rfl
              try simp only [Act.put, List.setIfInBounds_toArray, List.set_cons_zero, List.set_cons_succ]
              refine wpAnyH_take (i := 1) (oi := { dst := some 112, op := Op.load 24 (Operand.tmp 111), type := 24, pos := "twin.go:170", after := #[{ on := 0, ground := Ground.data }], guard := none }) (v := ?_) rfl (by kernel_rfl) (by kernel_rfl) (by kernel_rfl) (fun _ _ _ h => h) (Or.inl ⟨by rfl, ?_⟩) (by assumption) ?_
              rotate_left
              · intro w hSw; (try dsimp only at hSw); go_simp; first | done | with_reducible rfl
              try simp only [Act.put, List.setIfInBounds_toArray, List.set_cons_zero, List.set_cons_succ]
              refine wpAnyH_take (i := 2) (oi := { dst := some 113, op := Op.move (Operand.tmp 9), type := 3, pos := "twin.go:170", after := #[], guard := none }) (v := ?_) rfl (by kernel_rfl) (by kernel_rfl) (by kernel_rfl) (fun _ _ _ h => h) (Or.inl ⟨by rfl, ?_⟩) (by assumption) ?_
              rotate_left
              · intro w hSw; (try dsimp only at hSw); go_simp; first | done | with_reducible rfl
              try simp only [Act.put, List.setIfInBounds_toArray, List.set_cons_zero, List.set_cons_succ]
              refine wpAnyH_take (i := 3) (oi := { dst := some 114, op := Op.indexAddr 24 (Operand.tmp 112) (Operand.tmp 113), type := 0, pos := "twin.go:170", after := #[{ on := 1, ground := Ground.data }, { on := 2, ground := Ground.data }], guard := none }) (v := ?_) rfl (by kernel_rfl) (by kernel_rfl) (by kernel_rfl) (fun _ _ _ h => h) (Or.inl ⟨by rfl, ?_⟩) (by assumption) ?_
              rotate_left
              · intro w hSw; (try dsimp only at hSw); go_simp; first | done | with_reducible rfl
              try simp only [Act.put, List.setIfInBounds_toArray, List.set_cons_zero, List.set_cons_succ]
              refine wpAnyH_take (i := 4) (oi := { dst := some 115, op := Op.fieldAddr 58 (Operand.tmp 114) 3, type := 0, pos := "twin.go:170", after := #[{ on := 3, ground := Ground.data }], guard := none }) (v := ?_) rfl (by kernel_rfl) (by kernel_rfl) (by kernel_rfl) (fun _ _ _ h => h) (Or.inl ⟨by rfl, ?_⟩) (by assumption) ?_
              rotate_left
              · intro w hSw; (try dsimp only at hSw); go_simp; first | done | with_reducible rfl
              try simp only [Act.put, List.setIfInBounds_toArray, List.set_cons_zero, List.set_cons_succ]
              refine wpAnyH_take (i := 5) (oi := { dst := some 116, op := Op.load 56 (Operand.tmp 115), type := 56, pos := "twin.go:170", after := #[{ on := 4, ground := Ground.data }], guard := none }) (v := ?_) rfl (by kernel_rfl) (by kernel_rfl) (by kernel_rfl) (fun _ _ _ h => h) (Or.inl ⟨by rfl, ?_⟩) (by assumption) ?_
              rotate_left
              · intro w hSw; (try dsimp only at hSw); go_simp; first | done | with_reducible rfl
              try simp only [Act.put, List.setIfInBounds_toArray, List.set_cons_zero, List.set_cons_succ]
              refine wpAnyH_take (i := 6) (oi := { dst := some 117, op := Op.fieldAddr 26 (Operand.tmp 3) 2, type := 0, pos := "twin.go:170", after := #[], guard := none }) (v := ?_) rfl (by kernel_rfl) (by kernel_rfl) (by kernel_rfl) (fun _ _ _ h => h) (Or.inl ⟨by rfl, ?_⟩) (by assumption) ?_
              rotate_left
              · intro w hSw; (try dsimp only at hSw); go_simp; first | done | with_reducible rfl
              try simp only [Act.put, List.setIfInBounds_toArray, List.set_cons_zero, List.set_cons_succ]
              refine wpAnyH_take (i := 7) (oi := { dst := some 118, op := Op.load 24 (Operand.tmp 117), type := 24, pos := "twin.go:170", after := #[{ on := 6, ground := Ground.data }], guard := none }) (v := ?_) rfl (by kernel_rfl) (by kernel_rfl) (by kernel_rfl) (fun _ _ _ h => h) (Or.inl ⟨by rfl, ?_⟩) (by assumption) ?_
              rotate_left
              · intro w hSw; (try dsimp only at hSw); go_simp; first | done | with_reducible rfl
              try simp only [Act.put, List.setIfInBounds_toArray, List.set_cons_zero, List.set_cons_succ]
              refine wpAnyH_take (i := 8) (oi := { dst := some 119, op := Op.move (Operand.tmp 9), type := 3, pos := "twin.go:170", after := #[], guard := none }) (v := ?_) rfl (by kernel_rfl) (by kernel_rfl) (by kernel_rfl) (fun _ _ _ h => h) (Or.inl ⟨by rfl, ?_⟩) (by assumption) ?_
              rotate_left
              · intro w hSw; (try dsimp only at hSw); go_simp; first | done | with_reducible rfl
              try simp only [Act.put, List.setIfInBounds_toArray, List.set_cons_zero, List.set_cons_succ]
              refine wpAnyH_take (i := 9) (oi := { dst := some 120, op := Op.indexAddr 24 (Operand.tmp 118) (Operand.tmp 119), type := 0, pos := "twin.go:170", after := #[{ on := 7, ground := Ground.data }, { on := 8, ground := Ground.data }], guard := none }) (v := ?_) rfl (by kernel_rfl) (by kernel_rfl) (by kernel_rfl) (fun _ _ _ h => h) (Or.inl ⟨by rfl, ?_⟩) (by assumption) ?_
              rotate_left
              · intro w hSw; (try dsimp only at hSw); go_simp; first | done | with_reducible rfl
              try simp only [Act.put, List.setIfInBounds_toArray, List.set_cons_zero, List.set_cons_succ]
              refine wpAnyH_take (i := 10) (oi := { dst := some 121, op := Op.fieldAddr 58 (Operand.tmp 120) 3, type := 0, pos := "twin.go:170", after := #[{ on := 9, ground := Ground.data }], guard := none }) (v := ?_) rfl (by kernel_rfl) (by kernel_rfl) (by kernel_rfl) (fun _ _ _ h => h) (Or.inl ⟨by rfl, ?_⟩) (by assumption) ?_
              rotate_left
              · intro w hSw; (try dsimp only at hSw); go_simp; first | done | with_reducible rfl
              try simp only [Act.put, List.setIfInBounds_toArray, List.set_cons_zero, List.set_cons_succ]
              refine wpAnyH_take (i := 11) (oi := { dst := some 122, op := Op.load 56 (Operand.tmp 121), type := 56, pos := "twin.go:170", after := #[{ on := 10, ground := Ground.data }], guard := none }) (v := ?_) rfl (by kernel_rfl) (by kernel_rfl) (by kernel_rfl) (fun _ _ _ h => h) (Or.inl ⟨by rfl, ?_⟩) (by assumption) ?_
              rotate_left
              · intro w hSw; (try dsimp only at hSw); go_simp; first | done | with_reducible rfl
              try simp only [Act.put, List.setIfInBounds_toArray, List.set_cons_zero, List.set_cons_succ]
              refine wpAnyH_ready (rs := [12]) (by kernel_rfl) (by simp) ?_
              refine AllReadyH.cons (o := { dst := some 123, op := Op.call { callee := Callee.value (Operand.func 20), args := #[Operand.tmp 116, Operand.tmp 122], argTypes := #[56, 56] }, type := 4, pos := "twin.go:170", after := #[{ on := 5, ground := Ground.data }, { on := 11, ground := Ground.data }], guard := none }) rfl (fun K hK => ?_) AllReadyH.nil
              go_simp
              go_wp2_with ((go_at_call 20; refine (hcl.out _ (by (repeat (first | with_reducible assumption | with_reducible exact Gr.refl _ | with_reducible refine Gr.drew ?_ | with_reducible refine Gr.alloc ?_ _)))).mono ?_; rintro x wq ⟨rfl, q9⟩; have d1 : Gr wr wq := Gr.trans (by (repeat (first | with_reducible assumption | with_reducible exact Gr.refl _ | with_reducible refine Gr.drew ?_ | with_reducible refine Gr.alloc ?_ _))) q9; clear q9))
              refine hK.out _ _ (KS.out _ d1) (fun hHeld => ?_)
              clear hK K
              try simp only [Act.put, List.setIfInBounds_toArray, List.set_cons_zero, List.set_cons_succ]
              refine wpAnyH_take (i := 13) (oi := { dst := some 11, op := Op.assign (Operand.tmp 123), type := 4, pos := "twin.go:170", after := #[{ on := 12, ground := Ground.data }, { on := 12, ground := Ground.chain }, { on := 0, ground := Ground.phase }, { on := 1, ground := Ground.phase }, { on := 2, ground := Ground.phase }, { on := 3, ground := Ground.phase }, { on := 4, ground := Ground.phase }, { on := 5, ground := Ground.phase }, { on := 6, ground := Ground.phase }, { on := 7, ground := Ground.phase }, { on := 8, ground := Ground.phase }, { on := 9, ground := Ground.phase }, { on := 10, ground := Ground.phase }, { on := 11, ground := Ground.phase }, { on := 12, ground := Ground.phase }], guard := none }) (v := ?_) rfl (by kernel_rfl) (by kernel_rfl) (by kernel_rfl) (fun _ _ _ h => h) (Or.inl ⟨by rfl, ?_⟩) (by assumption) ?_
              rotate_left
              · intro w hSw; (try dsimp only at hSw); go_simp; first | done | with_reducible rfl
              try simp only [Act.put, List.setIfInBounds_toArray, List.set_cons_zero, List.set_cons_succ]
              refine wpAnyH_done (by kernel_rfl) ?_ _
              clear hHeld KS hcl
              replace G := Hid.mk (G.out.trans d1)
              clear d1
              generalize wq = wr at *
              have KS : Hid (∀ W, Gr wr W → W.cell? ⟨w.heap.size, 2, none⟩ = some (.slice (some ⟨kg, 0, none⟩) m.gates.length (m.gates.length + 8)) ∧ W.cell? ⟨w.heap.size + 1, 2, none⟩ = some (.slice (some ⟨b, off, none⟩) m.gates.length gc) ∧ W.cell? ⟨kg, i * 4, none⟩ = some (.int .i64 m.gates[i].c) ∧ W.cell? ⟨kg, i * 4 + 1, none⟩ = some (.int .i64 m.gates[i].e) ∧ W.cell? ⟨b, off + i * 4, none⟩ = some (.int .i64 m.gates[i].c) ∧ W.cell? ⟨b, off + i * 4 + 1, none⟩ = some (.int .i64 m.gates[i].e)) := Hid.mk (fun W q => ⟨(BT.out.gr (G.out.trans q)).2.1 2, (BM.out.gr (G.out.trans q)).2.1 2, (range_gr rA.out hT.out.g.1 (gr_below (G.out.trans q) (Nat.le_refl _))) 0 _ rfl, (range_gr rA.out hT.out.g.1 (gr_below (G.out.trans q) (Nat.le_refl _))) 1 _ rfl, ((gr_below (G.out.trans q) hB.out).cell (p := ⟨b, off + i * 4, none⟩) hb1).trans k0.out, ((gr_below (G.out.trans q) hB.out).cell (p := ⟨b, off + i * 4 + 1, none⟩) hb1).trans k1.out⟩)
              go_upto_region 20 with fail
              have d1 : Gr wr wr.drew := (Gr.refl _).drew
              refine wp_region_held_drew (S := (fun W => W.cell? ⟨w.heap.size, 2, none⟩ = some (.slice (some ⟨kg, 0, none⟩) m.gates.length (m.gates.length + 8)) ∧ W.cell? ⟨w.heap.size + 1, 2, none⟩ = some (.slice (some ⟨b, off, none⟩) m.gates.length gc) ∧ W.cell? ⟨kg, i * 4, none⟩ = some (.int .i64 m.gates[i].c) ∧ W.cell? ⟨kg, i * 4 + 1, none⟩ = some (.int .i64 m.gates[i].e) ∧ W.cell? ⟨b, off + i * 4, none⟩ = some (.int .i64 m.gates[i].c) ∧ W.cell? ⟨b, off + i * 4 + 1, none⟩ = some (.int .i64 m.gates[i].e))) (by kernel_rfl) (KS.out _ d1) (fun hHeld => ?_)
              refine wpAnyH_take (i := 0) (oi := { dst := some 124, op := Op.move (Operand.tmp 10), type := 4, pos := "twin.go:171", after := #[], guard := none }) (v := ?_) rfl (by kernel_rfl) (by kernel_rfl) (by kernel_rfl) (fun _ _ _ h => h) (Or.inl ⟨by rfl, ?_⟩) (by assumption) ?_
              rotate_left
              · intro w hSw; (try dsimp only at hSw); go_simp; first | done | with_reducible rfl
              try simp only [Act.put, List.setIfInBounds_toArray, List.set_cons_zero, List.set_cons_succ]
              refine wpAnyH_take (i := 1) (oi := { dst := some 125, op := Op.unOp UnOp.not 4 (Operand.tmp 124), type := 4, pos := "twin.go:171", after := #[{ on := 0, ground := Ground.data }], guard := none }) (v := ?_) rfl (by kernel_rfl) (by kernel_rfl) (by kernel_rfl) (fun _ _ _ h => h) (Or.inl ⟨by rfl, ?_⟩) (by assumption) ?_
              rotate_left
              · intro w hSw; (try dsimp only at hSw); go_simp; first | done | with_reducible rfl
              try simp only [Act.put, List.setIfInBounds_toArray, List.set_cons_zero, List.set_cons_succ]
              refine wpAnyH_take (i := 2) (oi := { dst := some 126, op := Op.move (Operand.tmp 125), type := 4, pos := "twin.go:171", after := #[{ on := 1, ground := Ground.data }], guard := none }) (v := ?_) rfl (by kernel_rfl) (by kernel_rfl) (by kernel_rfl) (fun _ _ _ h => h) (Or.inl ⟨by rfl, ?_⟩) (by assumption) ?_
              rotate_left
              · intro w hSw; (try dsimp only at hSw); go_simp; first | done | with_reducible rfl
              try simp only [Act.put, List.setIfInBounds_toArray, List.set_cons_zero, List.set_cons_succ]
              refine wpAnyH_take (i := 3) (oi := { dst := some 127, op := Op.move (Operand.tmp 11), type := 4, pos := "twin.go:171", after := #[{ on := 2, ground := Ground.guard }], guard := some (2, false) }) (v := ?_) rfl (by kernel_rfl) (by kernel_rfl) (by kernel_rfl) (fun _ _ _ h => h) (Or.inl ⟨by rfl, ?_⟩) (by assumption) ?_
              rotate_left
              · intro w hSw; (try dsimp only at hSw); go_simp; first | done | with_reducible rfl
              try simp only [Act.put, List.setIfInBounds_toArray, List.set_cons_zero, List.set_cons_succ]
              refine wpAnyH_take (i := 4) (oi := { dst := some 128, op := Op.unOp UnOp.not 4 (Operand.tmp 127), type := 4, pos := "twin.go:171", after := #[{ on := 3, ground := Ground.data }, { on := 2, ground := Ground.guard }], guard := some (2, false) }) (v := ?_) rfl (by kernel_rfl) (by kernel_rfl) (by kernel_rfl) (fun _ _ _ h => h) (Or.inl ⟨by rfl, ?_⟩) (by assumption) ?_
              rotate_left
              · intro w hSw; (try dsimp only at hSw); go_simp; first | done | with_reducible rfl
              try simp only [Act.put, List.setIfInBounds_toArray, List.set_cons_zero, List.set_cons_succ]
              refine wpAnyH_take (i := 5) (oi := { dst := some 129, op := Op.pick (Operand.tmp 126) (Operand.const (Value.bool true)) (Operand.tmp 128), type := 4, pos := "twin.go:171", after := #[{ on := 2, ground := Ground.data }, { on := 4, ground := Ground.data }], guard := none }) (v := ?_) rfl (by kernel_rfl) (by kernel_rfl) (by kernel_rfl) (fun _ _ _ h => h) (Or.inl ⟨by rfl, ?_⟩) (by assumption) ?_
              rotate_left
              · intro w hSw; (try dsimp only at hSw); go_simp; first | done | with_reducible rfl
              try simp only [Act.put, List.setIfInBounds_toArray, List.set_cons_zero, List.set_cons_succ]
              refine wpAnyH_take (i := 6) (oi := { dst := some 130, op := Op.move (Operand.tmp 129), type := 4, pos := "twin.go:171", after := #[{ on := 5, ground := Ground.data }, { on := 2, ground := Ground.chain }], guard := none }) (v := ?_) rfl (by kernel_rfl) (by kernel_rfl) (by kernel_rfl) (fun _ _ _ h => h) (Or.inl ⟨by rfl, ?_⟩) (by assumption) ?_
              rotate_left
              · intro w hSw; (try dsimp only at hSw); go_simp; first | done | with_reducible rfl
              try simp only [Act.put, List.setIfInBounds_toArray, List.set_cons_zero, List.set_cons_succ]
              refine wpAnyH_take (i := 7) (oi := { dst := some 131, op := Op.fieldAddr 26 (Operand.tmp 2) 2, type := 0, pos := "twin.go:171", after := #[{ on := 6, ground := Ground.guard }], guard := some (6, false) }) (v := ?_) rfl (by kernel_rfl) (by kernel_rfl) (by kernel_rfl) (fun _ _ _ h => h) (Or.inl ⟨by rfl, ?_⟩) (by assumption) ?_
              rotate_left
              · intro w hSw; (try dsimp only at hSw); go_simp; first | done | with_reducible rfl
              try simp only [Act.put, List.setIfInBounds_toArray, List.set_cons_zero, List.set_cons_succ]
              refine wpAnyH_take (i := 8) (oi := { dst := some 132, op := Op.load 24 (Operand.tmp 131), type := 24, pos := "twin.go:171", after := #[{ on := 7, ground := Ground.data }, { on := 6, ground := Ground.guard }], guard := some (6, false) }) (v := ?_) rfl (by kernel_rfl) (by kernel_rfl) (by kernel_rfl) (fun _ _ _ h => h) (Or.inl ⟨by rfl, ?_⟩) (by assumption) ?_
              rotate_left
              · intro w hSw; (try dsimp only at hSw); go_simp; first | done | with_reducible rfl
              try simp only [Act.put, List.setIfInBounds_toArray, List.set_cons_zero, List.set_cons_succ]
              refine wpAnyH_take (i := 9) (oi := { dst := some 133, op := Op.move (Operand.tmp 9), type := 3, pos := "twin.go:171", after := #[{ on := 6, ground := Ground.guard }], guard := some (6, false) }) (v := ?_) rfl (by kernel_rfl) (by kernel_rfl) (by kernel_rfl) (fun _ _ _ h => h) (Or.inl ⟨by rfl, ?_⟩) (by assumption) ?_
              rotate_left
              · intro w hSw; (try dsimp only at hSw); go_simp; first | done | with_reducible rfl
              try simp only [Act.put, List.setIfInBounds_toArray, List.set_cons_zero, List.set_cons_succ]
              refine wpAnyH_take (i := 10) (oi := { dst := some 134, op := Op.indexAddr 24 (Operand.tmp 132) (Operand.tmp 133), type := 0, pos := "twin.go:171", after := #[{ on := 8, ground := Ground.data }, { on := 9, ground := Ground.data }, { on := 6, ground := Ground.guard }], guard := some (6, false) }) (v := ?_) rfl (by kernel_rfl) (by kernel_rfl) (by kernel_rfl) (fun _ _ _ h => h) (Or.inl ⟨by rfl, ?_⟩) (by assumption) ?_
              rotate_left
              · intro w hSw; (try dsimp only at hSw); go_simp; first | done | with_reducible rfl
              try simp only [Act.put, List.setIfInBounds_toArray, List.set_cons_zero, List.set_cons_succ]
              refine wpAnyH_take (i := 11) (oi := { dst := some 135, op := Op.fieldAddr 58 (Operand.tmp 134) 0, type := 0, pos := "twin.go:171", after := #[{ on := 10, ground := Ground.data }, { on := 6, ground := Ground.guard }], guard := some (6, false) }) (v := ?_) rfl (by kernel_rfl) (by kernel_rfl) (by kernel_rfl) (fun _ _ _ h => h) (Or.inl ⟨by rfl, ?_⟩) (by assumption) ?_
              rotate_left
              · intro w hSw; (try dsimp only at hSw); go_simp; first | done | with_reducible rfl
              try simp only [Act.put, List.setIfInBounds_toArray, List.set_cons_zero, List.set_cons_succ]
              refine wpAnyH_take (i := 12) (oi := { dst := some 136, op := Op.load 3 (Operand.tmp 135), type := 3, pos := "twin.go:171", after := #[{ on := 11, ground := Ground.data }, { on := 6, ground := Ground.guard }], guard := some (6, false) }) (v := ?_) rfl (by kernel_rfl) (by kernel_rfl) (by kernel_rfl) (fun _ _ _ h => h) (Or.inl ⟨by rfl, ?_⟩) (by assumption) ?_
              rotate_left
              · intro w hSw; (try dsimp only at hSw); go_simp; first | done | with_reducible rfl
              try simp only [Act.put, List.setIfInBounds_toArray, List.set_cons_zero, List.set_cons_succ]
              refine wpAnyH_take (i := 13) (oi := { dst := some 137, op := Op.fieldAddr 26 (Operand.tmp 3) 2, type := 0, pos := "twin.go:171", after := #[{ on := 6, ground := Ground.guard }], guard := some (6, false) }) (v := ?_) rfl (by kernel_rfl) (by kernel_rfl) (by kernel_rfl) (fun _ _ _ h => h) (Or.inl ⟨by rfl, ?_⟩) (by assumption) ?_
              rotate_left
              · intro w hSw; (try dsimp only at hSw); go_simp; first | done | with_reducible rfl
              try simp only [Act.put, List.setIfInBounds_toArray, List.set_cons_zero, List.set_cons_succ]
              refine wpAnyH_take (i := 14) (oi := { dst := some 138, op := Op.load 24 (Operand.tmp 137), type := 24, pos := "twin.go:171", after := #[{ on := 13, ground := Ground.data }, { on := 6, ground := Ground.guard }], guard := some (6, false) }) (v := ?_) rfl (by kernel_rfl) (by kernel_rfl) (by kernel_rfl) (fun _ _ _ h => h) (Or.inl ⟨by rfl, ?_⟩) (by assumption) ?_
              rotate_left
              · intro w hSw; (try dsimp only at hSw); go_simp; first | done | with_reducible rfl
              try simp only [Act.put, List.setIfInBounds_toArray, List.set_cons_zero, List.set_cons_succ]
              refine wpAnyH_take (i := 15) (oi := { dst := some 139, op := Op.move (Operand.tmp 9), type := 3, pos := "twin.go:171", after := #[{ on := 6, ground := Ground.guard }], guard := some (6, false) }) (v := ?_) rfl (by kernel_rfl) (by kernel_rfl) (by kernel_rfl) (fun _ _ _ h => h) (Or.inl ⟨by rfl, ?_⟩) (by assumption) ?_
              rotate_left
              · intro w hSw; (try dsimp only at hSw); go_simp; first | done | with_reducible rfl
              try simp only [Act.put, List.setIfInBounds_toArray, List.set_cons_zero, List.set_cons_succ]
              refine wpAnyH_take (i := 16) (oi := { dst := some 140, op := Op.indexAddr 24 (Operand.tmp 138) (Operand.tmp 139), type := 0, pos := "twin.go:171", after := #[{ on := 14, ground := Ground.data }, { on := 15, ground := Ground.data }, { on := 6, ground := Ground.guard }], guard := some (6, false) }) (v := ?_) rfl (by kernel_rfl) (by kernel_rfl) (by kernel_rfl) (fun _ _ _ h => h) (Or.inl ⟨by rfl, ?_⟩) (by assumption) ?_
              rotate_left
              · intro w hSw; (try dsimp only at hSw); go_simp; first | done | with_reducible rfl
              try simp only [Act.put, List.setIfInBounds_toArray, List.set_cons_zero, List.set_cons_succ]
              refine wpAnyH_take (i := 17) (oi := { dst := some 141, op := Op.fieldAddr 58 (Operand.tmp 140) 0, type := 0, pos := "twin.go:171", after := #[{ on := 16, ground := Ground.data }, { on := 6, ground := Ground.guard }], guard := some (6, false) }) (v := ?_) rfl (by kernel_rfl) (by kernel_rfl) (by kernel_rfl) (fun _ _ _ h => h) (Or.inl ⟨by rfl, ?_⟩) (by assumption) ?_
              rotate_left
              · intro w hSw; (try dsimp only at hSw); go_simp; first | done | with_reducible rfl
              try simp only [Act.put, List.setIfInBounds_toArray, List.set_cons_zero, List.set_cons_succ]
              refine wpAnyH_take (i := 18) (oi := { dst := some 142, op := Op.load 3 (Operand.tmp 141), type := 3, pos := "twin.go:171", after := #[{ on := 17, ground := Ground.data }, { on := 6, ground := Ground.guard }], guard := some (6, false) }) (v := ?_) rfl (by kernel_rfl) (by kernel_rfl) (by kernel_rfl) (fun _ _ _ h => h) (Or.inl ⟨by rfl, ?_⟩) (by assumption) ?_
              rotate_left
              · intro w hSw; (try dsimp only at hSw); go_simp; first | done | with_reducible rfl
              try simp only [Act.put, List.setIfInBounds_toArray, List.set_cons_zero, List.set_cons_succ]
              refine wpAnyH_take (i := 19) (oi := { dst := some 143, op := Op.binOp BinOp.neq 3 (Operand.tmp 136) (Operand.tmp 142) 3, type := 4, pos := "twin.go:171", after := #[{ on := 12, ground := Ground.data }, { on := 18, ground := Ground.data }, { on := 6, ground := Ground.guard }], guard := some (6, false) }) (v := ?_) rfl (by kernel_rfl) (by kernel_rfl) (by kernel_rfl) (fun _ _ _ h => h) (Or.inl ⟨by rfl, ?_⟩) (by assumption) ?_
              rotate_left
              · intro w hSw; (try dsimp only at hSw); go_simp; first | done | with_reducible rfl
              try simp only [Act.put, List.setIfInBounds_toArray, List.set_cons_zero, List.set_cons_succ]
              refine wpAnyH_take (i := 20) (oi := { dst := some 144, op := Op.pick (Operand.tmp 130) (Operand.const (Value.bool true)) (Operand.tmp 143), type := 4, pos := "twin.go:171", after := #[{ on := 6, ground := Ground.data }, { on := 19, ground := Ground.data }], guard := none }) (v := ?_) rfl (by kernel_rfl) (by kernel_rfl) (by kernel_rfl) (fun _ _ _ h => h) (Or.inl ⟨by rfl, ?_⟩) (by assumption) ?_
              rotate_left
              · intro w hSw; (try dsimp only at hSw); go_simp; first | done | with_reducible rfl
              try simp only [Act.put, List.setIfInBounds_toArray, List.set_cons_zero, List.set_cons_succ]
              refine wpAnyH_take (i := 21) (oi := { dst := some 145, op := Op.move (Operand.tmp 144), type := 4, pos := "twin.go:171", after := #[{ on := 20, ground := Ground.data }, { on := 6, ground := Ground.chain }], guard := none }) (v := ?_) rfl (by kernel_rfl) (by kernel_rfl) (by kernel_rfl) (fun _ _ _ h => h) (Or.inl ⟨by rfl, ?_⟩) (by assumption) ?_
              rotate_left
              · intro w hSw; (try dsimp only at hSw); go_simp; first | done | with_reducible rfl
              try simp only [Act.put, List.setIfInBounds_toArray, List.set_cons_zero, List.set_cons_succ]
              refine wpAnyH_take (i := 22) (oi := { dst := some 146, op := Op.fieldAddr 26 (Operand.tmp 2) 2, type := 0, pos := "twin.go:171", after := #[{ on := 21, ground := Ground.guard }], guard := some (21, false) }) (v := ?_) rfl (by kernel_rfl) (by kernel_rfl) (by kernel_rfl) (fun _ _ _ h => h) (Or.inl ⟨by rfl, ?_⟩) (by assumption) ?_
              rotate_left
              · intro w hSw; (try dsimp only at hSw); go_simp; first | done | with_reducible rfl
              try simp only [Act.put, List.setIfInBounds_toArray, List.set_cons_zero, List.set_cons_succ]
              refine wpAnyH_take (i := 23) (oi := { dst := some 147, op := Op.load 24 (Operand.tmp 146), type := 24, pos := "twin.go:171", after := #[{ on := 22, ground := Ground.data }, { on := 21, ground := Ground.guard }], guard := some (21, false) }) (v := ?_) rfl (by kernel_rfl) (by kernel_rfl) (by kernel_rfl) (fun _ _ _ h => h) (Or.inl ⟨by rfl, ?_⟩) (by assumption) ?_
              rotate_left
              · intro w hSw; (try dsimp only at hSw); go_simp; first | done | with_reducible rfl
              try simp only [Act.put, List.setIfInBounds_toArray, List.set_cons_zero, List.set_cons_succ]
              refine wpAnyH_take (i := 24) (oi := { dst := some 148, op := Op.move (Operand.tmp 9), type := 3, pos := "twin.go:171", after := #[{ on := 21, ground := Ground.guard }], guard := some (21, false) }) (v := ?_) rfl (by kernel_rfl) (by kernel_rfl) (by kernel_rfl) (fun _ _ _ h => h) (Or.inl ⟨by rfl, ?_⟩) (by assumption) ?_
              rotate_left
              · intro w hSw; (try dsimp only at hSw); go_simp; first | done | with_reducible rfl
              try simp only [Act.put, List.setIfInBounds_toArray, List.set_cons_zero, List.set_cons_succ]
              refine wpAnyH_take (i := 25) (oi := { dst := some 149, op := Op.indexAddr 24 (Operand.tmp 147) (Operand.tmp 148), type := 0, pos := "twin.go:171", after := #[{ on := 23, ground := Ground.data }, { on := 24, ground := Ground.data }, { on := 21, ground := Ground.guard }], guard := some (21, false) }) (v := ?_) rfl (by kernel_rfl) (by kernel_rfl) (by kernel_rfl) (fun _ _ _ h => h) (Or.inl ⟨by rfl, ?_⟩) (by assumption) ?_
              rotate_left
              · intro w hSw; (try dsimp only at hSw); go_simp; first | done | with_reducible rfl
              try simp only [Act.put, List.setIfInBounds_toArray, List.set_cons_zero, List.set_cons_succ]
              refine wpAnyH_take (i := 26) (oi := { dst := some 150, op := Op.fieldAddr 58 (Operand.tmp 149) 1, type := 0, pos := "twin.go:171", after := #[{ on := 25, ground := Ground.data }, { on := 21, ground := Ground.guard }], guard := some (21, false) }) (v := ?_) rfl (by kernel_rfl) (by kernel_rfl) (by kernel_rfl) (fun _ _ _ h => h) (Or.inl ⟨by rfl, ?_⟩) (by assumption) ?_
              rotate_left
              · intro w hSw; (try dsimp only at hSw); go_simp; first | done | with_reducible rfl
              try simp only [Act.put, List.setIfInBounds_toArray, List.set_cons_zero, List.set_cons_succ]
              refine wpAnyH_take (i := 27) (oi := { dst := some 151, op := Op.load 3 (Operand.tmp 150), type := 3, pos := "twin.go:171", after := #[{ on := 26, ground := Ground.data }, { on := 21, ground := Ground.guard }], guard := some (21, false) }) (v := ?_) rfl (by kernel_rfl) (by kernel_rfl) (by kernel_rfl) (fun _ _ _ h => h) (Or.inl ⟨by rfl, ?_⟩) (by assumption) ?_
              rotate_left
              · intro w hSw; (try dsimp only at hSw); go_simp; first | done | with_reducible rfl
              try simp only [Act.put, List.setIfInBounds_toArray, List.set_cons_zero, List.set_cons_succ]
              refine wpAnyH_take (i := 28) (oi := { dst := some 152, op := Op.fieldAddr 26 (Operand.tmp 3) 2, type := 0, pos := "twin.go:171", after := #[{ on := 21, ground := Ground.guard }], guard := some (21, false) }) (v := ?_) rfl (by kernel_rfl) (by kernel_rfl) (by kernel_rfl) (fun _ _ _ h => h) (Or.inl ⟨by rfl, ?_⟩) (by assumption) ?_
              rotate_left
              · intro w hSw; (try dsimp only at hSw); go_simp; first | done | with_reducible rfl
              try simp only [Act.put, List.setIfInBounds_toArray, List.set_cons_zero, List.set_cons_succ]
              refine wpAnyH_take (i := 29) (oi := { dst := some 153, op := Op.load 24 (Operand.tmp 152), type := 24, pos := "twin.go:171", after := #[{ on := 28, ground := Ground.data }, { on := 21, ground := Ground.guard }], guard := some (21, false) }) (v := ?_) rfl (by kernel_rfl) (by kernel_rfl) (by kernel_rfl) (fun _ _ _ h => h) (Or.inl ⟨by rfl, ?_⟩) (by assumption) ?_
              rotate_left
              · intro w hSw; (try dsimp only at hSw); go_simp; first | done | with_reducible rfl
              try simp only [Act.put, List.setIfInBounds_toArray, List.set_cons_zero, List.set_cons_succ]
              refine wpAnyH_take (i := 30) (oi := { dst := some 154, op := Op.move (Operand.tmp 9), type := 3, pos := "twin.go:171", after := #[{ on := 21, ground := Ground.guard }], guard := some (21, false) }) (v := ?_) rfl (by kernel_rfl) (by kernel_rfl) (by kernel_rfl) (fun _ _ _ h => h) (Or.inl ⟨by rfl, ?_⟩) (by assumption) ?_
              rotate_left
              · intro w hSw; (try dsimp only at hSw); go_simp; first | done | with_reducible rfl
              try simp only [Act.put, List.setIfInBounds_toArray, List.set_cons_zero, List.set_cons_succ]
              refine wpAnyH_take (i := 31) (oi := { dst := some 155, op := Op.indexAddr 24 (Operand.tmp 153) (Operand.tmp 154), type := 0, pos := "twin.go:171", after := #[{ on := 29, ground := Ground.data }, { on := 30, ground := Ground.data }, { on := 21, ground := Ground.guard }], guard := some (21, false) }) (v := ?_) rfl (by kernel_rfl) (by kernel_rfl) (by kernel_rfl) (fun _ _ _ h => h) (Or.inl ⟨by rfl, ?_⟩) (by assumption) ?_
              rotate_left
              · intro w hSw; (try dsimp only at hSw); go_simp; first | done | with_reducible rfl
              try simp only [Act.put, List.setIfInBounds_toArray, List.set_cons_zero, List.set_cons_succ]
              refine wpAnyH_take (i := 32) (oi := { dst := some 156, op := Op.fieldAddr 58 (Operand.tmp 155) 1, type := 0, pos := "twin.go:171", after := #[{ on := 31, ground := Ground.data }, { on := 21, ground := Ground.guard }], guard := some (21, false) }) (v := ?_) rfl (by kernel_rfl) (by kernel_rfl) (by kernel_rfl) (fun _ _ _ h => h) (Or.inl ⟨by rfl, ?_⟩) (by assumption) ?_
              rotate_left
              · intro w hSw; (try dsimp only at hSw); go_simp; first | done | with_reducible rfl
              try simp only [Act.put, List.setIfInBounds_toArray, List.set_cons_zero, List.set_cons_succ]
              refine wpAnyH_take (i := 33) (oi := { dst := some 157, op := Op.load 3 (Operand.tmp 156), type := 3, pos := "twin.go:171", after := #[{ on := 32, ground := Ground.data }, { on := 21, ground := Ground.guard }], guard := some (21, false) }) (v := ?_) rfl (by kernel_rfl) (by kernel_rfl) (by kernel_rfl) (fun _ _ _ h => h) (Or.inl ⟨by rfl, ?_⟩) (by assumption) ?_
              rotate_left
              · intro w hSw; (try dsimp only at hSw); go_simp; first | done | with_reducible rfl
              try simp only [Act.put, List.setIfInBounds_toArray, List.set_cons_zero, List.set_cons_succ]
              refine wpAnyH_take (i := 34) (oi := { dst := some 158, op := Op.binOp BinOp.neq 3 (Operand.tmp 151) (Operand.tmp 157) 3, type := 4, pos := "twin.go:171", after := #[{ on := 27, ground := Ground.data }, { on := 33, ground := Ground.data }, { on := 21, ground := Ground.guard }], guard := some (21, false) }) (v := ?_) rfl (by kernel_rfl) (by kernel_rfl) (by kernel_rfl) (fun _ _ _ h => h) (Or.inl ⟨by rfl, ?_⟩) (by assumption) ?_
              rotate_left
              · intro w hSw; (try dsimp only at hSw); go_simp; first | done | with_reducible rfl
              try simp only [Act.put, List.setIfInBounds_toArray, List.set_cons_zero, List.set_cons_succ]
              refine wpAnyH_take (i := 35) (oi := { dst := some 159, op := Op.pick (Operand.tmp 145) (Operand.const (Value.bool true)) (Operand.tmp 158), type := 4, pos := "twin.go:171", after := #[{ on := 21, ground := Ground.data }, { on := 34, ground := Ground.data }], guard := none }) (v := ?_) rfl (by kernel_rfl) (by kernel_rfl) (by kernel_rfl) (fun _ _ _ h => h) (Or.inl ⟨by rfl, ?_⟩) (by assumption) ?_
              rotate_left
              · intro w hSw; (try dsimp only at hSw); go_simp; first | done | with_reducible rfl
              try simp only [Act.put, List.setIfInBounds_toArray, List.set_cons_zero, List.set_cons_succ]
              refine wpAnyH_done (by kernel_rfl) ?_ _
              clear hHeld KS 
              replace G := Hid.mk (G.out.trans d1)
              clear d1
              generalize wr.drew = wr at *
              clear rA fx fy A1 A2 k0 k1 k2 k3
              go_wp2_with fail
              exact ⟨⟨i + 1, by go_num, by omega, G⟩, by simp [intOf]; omega⟩
            · have hi1 : ¬ (i : Int) < (m.gates.length : Int) := by omega
              have c2 : wr.cell? ⟨w.heap.size + 1, 2, none⟩ = some (.slice ga m.gates.length gc) := c9.2.1 2
              have c0 : wr.cell? ⟨w.heap.size + 1, 0, none⟩ = some (.slice ra m.regs.length rc) := c9.2.1 0
              have c1 : wr.cell? ⟨w.heap.size + 1, 1, none⟩ = some (.slice ca m.comps.length cc) := c9.2.1 1
              have t0 : wr.cell? ⟨w.heap.size, 0, none⟩ = some (.slice (some ⟨kr, 0, none⟩) m.regs.length (m.regs.length + 8)) := t9.2.1 0
              have t1 : wr.cell? ⟨w.heap.size, 1, none⟩ = some (.slice (some ⟨kc, 0, none⟩) m.comps.length (m.comps.length + 8)) := t9.2.1 1
              have t2 : wr.cell? ⟨w.heap.size, 2, none⟩ = some (.slice (some ⟨kg, 0, none⟩) m.gates.length (m.gates.length + 8)) := t9.2.1 2
              have G4 := G
              clear G
              go_upto_region 26 with fail
              clear t9 c9 c0 c1 c2 t0 t1 t2
              go_loopw [15] (fun x wr => ∃ i : Nat, x = .int .i64 i ∧ i ≤ 8 ∧ Hid (Gr W0 wr)) (fun x _ => 8 - (intOf x).toNat)
              case atStart => exact ⟨0, rfl, by omega, G4⟩
              case round =>
                clear G4
                obtain ⟨i, rfl, hi, G⟩ := hrel
                have t9 := BT.out.gr G.out
                have c9 := BM.out.gr G.out
                by_cases hn : i < 8
                · have hi1 : (i : Int) < 8 := by omega
                  clear t9 c9
                  obtain ⟨v2, hv2, hk2, g1, e1, _, A1⟩ := (hT.out.cd (m.comps.length + i) (by omega)).2 (by omega)
                  obtain ⟨v1, hv1, q1⟩ := (hT.out.rd (m.regs.length + i) (by omega)).2 (by omega)
                  obtain ⟨v3, hv3, q3⟩ := (hT.out.gd (m.gates.length + i) (by omega)).2 (by omega)
                  have q1' : v1 = rgM := q1
                  have q3' : v3 = gtM := q3
                  subst q1' q3'
                  obtain ⟨vr, vk⟩ := v2
                  dsimp only at hk2 e1
                  subst hk2 e1
                  clear q1 q3
                  replace A1 := Hid.mk (A1.gr G.out)
                  have r2 := Hid.mk (range_gr (elem_at cp_len hT.out.c _ _ hv2) hT.out.c.1 (gr_below G.out (Nat.le_refl _)))
                  have r1 := Hid.mk (fun (W : World) (q : Gr W0 W) => range_gr (elem_at rg_len hT.out.r _ _ hv1) hT.out.r.1 (gr_below q (Nat.le_refl _)))
                  have r3 := Hid.mk (fun (W : World) (q : Gr W0 W) => range_gr (elem_at gt_len hT.out.g _ _ hv3) hT.out.g.1 (gr_below q (Nat.le_refl _)))
                  clear hv1 hv2 hv3
                  have c1 : wr.cell? ⟨w.heap.size + 1, 1, none⟩ = some (.slice ca m.comps.length cc) := (BM.out.gr G.out).2.1 1
                  obtain ⟨y2i, y2j, y2k, y2n, y2t, y2m⟩ := wr8_of m.comps.length i l2 hn
                  go_upto_region 28 with fail
                  refine wp_region_lit ?_
                  refine wpList_plain rfl (fun K hK => ?_)
                  go_simp
                  with_reducible refine hK _ _ ?_
                  clear hK K
                  try simp only [Act.put, List.setIfInBounds_toArray, List.set_cons_zero, List.set_cons_succ]
                  refine wpList_plain rfl (fun K hK => ?_)
                  go_simp
                  with_reducible refine hK _ _ ?_
                  clear hK K
                  try simp only [Act.put, List.setIfInBounds_toArray, List.set_cons_zero, List.set_cons_succ]
                  refine wpList_plain rfl (fun K hK => ?_)
                  go_simp
                  with_reducible refine hK _ _ ?_
                  clear hK K
                  try simp only [Act.put, List.setIfInBounds_toArray, List.set_cons_zero, List.set_cons_succ]
                  refine wpList_plain rfl (fun K hK => ?_)
                  go_simp
                  with_reducible refine hK _ _ ?_
                  clear hK K
                  try simp only [Act.put, List.setIfInBounds_toArray, List.set_cons_zero, List.set_cons_succ]
                  refine wpList_plain rfl (fun K hK => ?_)
                  go_simp
                  with_reducible refine hK _ _ ?_
                  clear hK K
                  try simp only [Act.put, List.setIfInBounds_toArray, List.set_cons_zero, List.set_cons_succ]
                  refine wpList_plain rfl (fun K hK => ?_)
                  go_simp
                  with_reducible refine hK _ _ ?_
                  clear hK K
                  try simp only [Act.put, List.setIfInBounds_toArray, List.set_cons_zero, List.set_cons_succ]
                  refine wpList_plain rfl (fun K hK => ?_)
                  go_simp
                  with_reducible refine hK _ _ ?_
                  clear hK K
                  try simp only [Act.put, List.setIfInBounds_toArray, List.set_cons_zero, List.set_cons_succ]
                  refine wpList_plain rfl (fun K hK => ?_)
                  refine wp_load_mid _ _ rfl _ ((m.comps.length + i) * 2) rfl (CpV.vals ⟨⟨some ⟨g1, 0, none⟩, 1, 1⟩, nilS⟩) _ r2.out Tryd.underlying53 rfl (by kernel_rfl) (hK _ _ ?_)
                  clear hK K
                  try simp only [Act.put, List.setIfInBounds_toArray, List.set_cons_zero, List.set_cons_succ]
                  refine wpList_plain rfl (fun K hK => ?_)
                  go_simp
                  with_reducible refine hK _ _ ?_
                  clear hK K
                  try simp only [Act.put, List.setIfInBounds_toArray, List.set_cons_zero, List.set_cons_succ]
                  have x1 := Hid.mk (At.new wr [Value.slice none 0 0, .slice none 0 0].toArray 53)
                  refine wpList_plain rfl (fun K hK => ?_)
                  refine wp_store_mid _ _ _ rfl _ _ (List.toArray (CpV.vals ⟨⟨some ⟨g1, 0, none⟩, 1, 1⟩, nilS⟩)) rfl rfl (x1.out.there 0 _ (by first | exact Nat.le_refl _ | simp)) (by kernel_rfl) (all_oneCell_toArray (cp_one _)) (hK _ _ ?_)
                  clear hK K
                  try simp only [Act.put]
                  replace x1 := Hid.mk (x1.out.setAll (CpV.vals ⟨⟨some ⟨g1, 0, none⟩, 1, 1⟩, nilS⟩) rfl)
                  replace A1 := Hid.mk ((A1.out.alloc (Obj.cells [Value.slice none 0 0, .slice none 0 0].toArray 53)).other (b' := wr.heap.size) (Nat.ne_of_lt A1.out.1) 0 (CpV.vals ⟨⟨some ⟨g1, 0, none⟩, 1, 1⟩, nilS⟩))
                  have hk9 : W0.heap.size ≤ wr.heap.size := G.out.below.size
                  replace G := Hid.mk ((G.out.alloc (Obj.cells [Value.slice none 0 0, .slice none 0 0].toArray 53)).setCells wr.heap.size hk9 (CpV.vals ⟨⟨some ⟨g1, 0, none⟩, 1, 1⟩, nilS⟩) 0)
                  generalize World.setCells _ _ _ _ = V1 at *
                  generalize wr.heap.size = ka1 at *
                  clear hk9
                  clear r2 c1
                  have c0 : V1.cell? ⟨w.heap.size + 1, 0, none⟩ = some (.slice ra m.regs.length rc) := (BM.out.gr G.out).2.1 0
                  have rr1 := Hid.mk (r1.out V1 G.out)
                  clear r1 y2i y2j y2k y2n y2t y2m
                  obtain ⟨y1i, y1j, y1k, y1n, y1t, y1m⟩ := wr8_of m.regs.length i l1 hn
                  go_upto_region 29 with fail
                  refine wp_region_lit ?_
                  refine wpList_plain rfl (fun K hK => ?_)
                  go_simp
                  with_reducible refine hK _ _ ?_
                  clear hK K
                  try simp only [Act.put, List.setIfInBounds_toArray, List.set_cons_zero, List.set_cons_succ]
                  refine wpList_plain rfl (fun K hK => ?_)
                  go_simp
                  with_reducible refine hK _ _ ?_
                  clear hK K
                  try simp only [Act.put, List.setIfInBounds_toArray, List.set_cons_zero, List.set_cons_succ]
                  refine wpList_plain rfl (fun K hK => ?_)
                  go_simp
                  with_reducible refine hK _ _ ?_
                  clear hK K
                  try simp only [Act.put, List.setIfInBounds_toArray, List.set_cons_zero, List.set_cons_succ]
                  refine wpList_plain rfl (fun K hK => ?_)
                  go_simp
                  with_reducible refine hK _ _ ?_
                  clear hK K
                  try simp only [Act.put, List.setIfInBounds_toArray, List.set_cons_zero, List.set_cons_succ]
                  refine wpList_plain rfl (fun K hK => ?_)
                  go_simp
                  with_reducible refine hK _ _ ?_
                  clear hK K
                  try simp only [Act.put, List.setIfInBounds_toArray, List.set_cons_zero, List.set_cons_succ]
                  refine wpList_plain rfl (fun K hK => ?_)
                  go_simp
                  with_reducible refine hK _ _ ?_
                  clear hK K
                  try simp only [Act.put, List.setIfInBounds_toArray, List.set_cons_zero, List.set_cons_succ]
                  refine wpList_plain rfl (fun K hK => ?_)
                  go_simp
                  with_reducible refine hK _ _ ?_
                  clear hK K
                  try simp only [Act.put, List.setIfInBounds_toArray, List.set_cons_zero, List.set_cons_succ]
                  refine wpList_plain rfl (fun K hK => ?_)
                  refine wp_load_mid _ _ rfl _ ((m.regs.length + i) * 4) rfl (RgV.vals rgM) _ rr1.out Tryd.underlying46 rfl (by kernel_rfl) (hK _ _ ?_)
                  clear hK K
                  try simp only [Act.put, List.setIfInBounds_toArray, List.set_cons_zero, List.set_cons_succ]
                  refine wpList_plain rfl (fun K hK => ?_)
                  go_simp
                  with_reducible refine hK _ _ ?_
                  clear hK K
                  try simp only [Act.put, List.setIfInBounds_toArray, List.set_cons_zero, List.set_cons_succ]
                  have x2 := Hid.mk (At.new V1 [Value.int .u64 0, .int .u64 0, .string { data := #[] }, .slice none 0 0].toArray 46)
                  refine wpList_plain rfl (fun K hK => ?_)
                  refine wp_store_mid _ _ _ rfl _ _ (List.toArray (RgV.vals rgM)) rfl rfl (x2.out.there 0 _ (by first | exact Nat.le_refl _ | simp)) (by kernel_rfl) (all_oneCell_toArray (rg_one _)) (hK _ _ ?_)
                  clear hK K
                  try simp only [Act.put]
                  replace x2 := Hid.mk (x2.out.setAll (RgV.vals rgM) rfl)
                  replace A1 := Hid.mk ((A1.out.alloc (Obj.cells [Value.int .u64 0, .int .u64 0, .string { data := #[] }, .slice none 0 0].toArray 46)).other (b' := V1.heap.size) (Nat.ne_of_lt A1.out.1) 0 (RgV.vals rgM))
                  replace x1 := Hid.mk ((x1.out.alloc (Obj.cells [Value.int .u64 0, .int .u64 0, .string { data := #[] }, .slice none 0 0].toArray 46)).other (b' := V1.heap.size) (Nat.ne_of_lt x1.out.1) 0 (RgV.vals rgM))
                  have hk9 : W0.heap.size ≤ V1.heap.size := G.out.below.size
                  replace G := Hid.mk ((G.out.alloc (Obj.cells [Value.int .u64 0, .int .u64 0, .string { data := #[] }, .slice none 0 0].toArray 46)).setCells V1.heap.size hk9 (RgV.vals rgM) 0)
                  generalize World.setCells _ _ _ _ = V2 at *
                  generalize V1.heap.size = ka2 at *
                  clear hk9
                  clear rr1 c0
                  have c2 : V2.cell? ⟨w.heap.size + 1, 2, none⟩ = some (.slice ga m.gates.length gc) := (BM.out.gr G.out).2.1 2
                  have rr3 := Hid.mk (r3.out V2 G.out)
                  clear r3 y1i y1j y1k y1n y1t y1m
                  obtain ⟨y3i, y3j, y3k, y3n, y3t, y3m⟩ := wr8_of m.gates.length i l3 hn
                  go_upto_region 30 with fail
                  refine wp_region_lit ?_
                  refine wpList_plain rfl (fun K hK => ?_)
                  go_simp
                  with_reducible refine hK _ _ ?_
                  clear hK K
                  try simp only [Act.put, List.setIfInBounds_toArray, List.set_cons_zero, List.set_cons_succ]
                  refine wpList_plain rfl (fun K hK => ?_)
                  go_simp
                  with_reducible refine hK _ _ ?_
                  clear hK K
                  try simp only [Act.put, List.setIfInBounds_toArray, List.set_cons_zero, List.set_cons_succ]
                  refine wpList_plain rfl (fun K hK => ?_)
                  go_simp
                  with_reducible refine hK _ _ ?_
                  clear hK K
                  try simp only [Act.put, List.setIfInBounds_toArray, List.set_cons_zero, List.set_cons_succ]
                  refine wpList_plain rfl (fun K hK => ?_)
                  go_simp
                  with_reducible refine hK _ _ ?_
                  clear hK K
                  try simp only [Act.put, List.setIfInBounds_toArray, List.set_cons_zero, List.set_cons_succ]
                  refine wpList_plain rfl (fun K hK => ?_)
                  go_simp
                  with_reducible refine hK _ _ ?_
                  clear hK K
                  try simp only [Act.put, List.setIfInBounds_toArray, List.set_cons_zero, List.set_cons_succ]
                  refine wpList_plain rfl (fun K hK => ?_)
                  go_simp
                  with_reducible refine hK _ _ ?_
                  clear hK K
                  try simp only [Act.put, List.setIfInBounds_toArray, List.set_cons_zero, List.set_cons_succ]
                  refine wpList_plain rfl (fun K hK => ?_)
                  go_simp
                  with_reducible refine hK _ _ ?_
                  clear hK K
                  try simp only [Act.put, List.setIfInBounds_toArray, List.set_cons_zero, List.set_cons_succ]
                  refine wpList_plain rfl (fun K hK => ?_)
                  refine wp_load_mid _ _ rfl _ ((m.gates.length + i) * 4) rfl (GtV.vals gtM) _ rr3.out Tryd.underlying58 rfl (by kernel_rfl) (hK _ _ ?_)
                  clear hK K
                  try simp only [Act.put, List.setIfInBounds_toArray, List.set_cons_zero, List.set_cons_succ]
                  refine wpList_plain rfl (fun K hK => ?_)
                  go_simp
                  with_reducible refine hK _ _ ?_
                  clear hK K
                  try simp only [Act.put, List.setIfInBounds_toArray, List.set_cons_zero, List.set_cons_succ]
                  have x3 := Hid.mk (At.new V2 [Value.int .i64 0, .int .i64 0, .slice none 0 0, .slice none 0 0].toArray 58)
                  refine wpList_plain rfl (fun K hK => ?_)
                  refine wp_store_mid _ _ _ rfl _ _ (List.toArray (GtV.vals gtM)) rfl rfl (x3.out.there 0 _ (by first | exact Nat.le_refl _ | simp)) (by kernel_rfl) (all_oneCell_toArray (gt_one _)) (hK _ _ ?_)
                  clear hK K
                  try simp only [Act.put]
                  replace x3 := Hid.mk (x3.out.setAll (GtV.vals gtM) rfl)
                  replace A1 := Hid.mk ((A1.out.alloc (Obj.cells [Value.int .i64 0, .int .i64 0, .slice none 0 0, .slice none 0 0].toArray 58)).other (b' := V2.heap.size) (Nat.ne_of_lt A1.out.1) 0 (GtV.vals gtM))
                  replace x1 := Hid.mk ((x1.out.alloc (Obj.cells [Value.int .i64 0, .int .i64 0, .slice none 0 0, .slice none 0 0].toArray 58)).other (b' := V2.heap.size) (Nat.ne_of_lt x1.out.1) 0 (GtV.vals gtM))
                  replace x2 := Hid.mk ((x2.out.alloc (Obj.cells [Value.int .i64 0, .int .i64 0, .slice none 0 0, .slice none 0 0].toArray 58)).other (b' := V2.heap.size) (Nat.ne_of_lt x2.out.1) 0 (GtV.vals gtM))
                  have hk9 : W0.heap.size ≤ V2.heap.size := G.out.below.size
                  replace G := Hid.mk ((G.out.alloc (Obj.cells [Value.int .i64 0, .int .i64 0, .slice none 0 0, .slice none 0 0].toArray 58)).setCells V2.heap.size hk9 (GtV.vals gtM) 0)
                  generalize World.setCells _ _ _ _ = V3 at *
                  generalize V2.heap.size = ka3 at *
                  clear hk9
                  clear rr3 c2 y3i y3j y3k y3n y3t y3m
                  have s1 : V3.cell? ⟨ka1, 0, none⟩ = some (.slice (some ⟨g1, 0, none⟩) 1 1) := x1.out.2.1 0
                  have s2 : V3.cell? ⟨ka1, 1, none⟩ = some (.slice none 0 0) := x1.out.2.1 1
                  have s3 : V3.cell? ⟨g1, 0, none⟩ = some (.int .i64 (-7)) := A1.out.2.1 0
                  have s4 : V3.cell? ⟨ka2, 2, none⟩ = some (.string { data := #[109, 97, 114, 107] }) := x2.out.2.1 2
                  have s5 : V3.cell? ⟨ka2, 0, none⟩ = some (.int .u64 77) := x2.out.2.1 0
                  have s6 : V3.cell? ⟨ka3, 0, none⟩ = some (.int .i64 (-7)) := x3.out.2.1 0
                  clear x1 x2 x3 A1
                  go_upto_region 31 with fail
                  refine wp_region_lit ?_
                  refine wpList_plain rfl (fun K hK => ?_)
                  go_simp
                  with_reducible refine hK _ _ ?_
                  clear hK K
                  try simp only [Act.put, List.setIfInBounds_toArray, List.set_cons_zero, List.set_cons_succ]
                  refine wpList_plain rfl (fun K hK => ?_)
                  go_simp
                  with_reducible refine hK _ _ ?_
                  clear hK K
                  try simp only [Act.put, List.setIfInBounds_toArray, List.set_cons_zero, List.set_cons_succ]
                  refine wpList_plain rfl (fun K hK => ?_)
                  go_simp
                  with_reducible refine hK _ _ ?_
                  clear hK K
                  try simp only [Act.put, List.setIfInBounds_toArray, List.set_cons_zero, List.set_cons_succ]
                  refine wpList_plain rfl (fun K hK => ?_)
                  go_simp
                  with_reducible refine hK _ _ ?_
                  clear hK K
                  try simp only [Act.put, List.setIfInBounds_toArray, List.set_cons_zero, List.set_cons_succ]
                  refine wpList_plain rfl (fun K hK => ?_)
                  go_simp
                  with_reducible refine hK _ _ ?_
                  clear hK K
                  try simp only [Act.put, List.setIfInBounds_toArray, List.set_cons_zero, List.set_cons_succ]
                  refine BigFrame.wpList_want (by rfl) (fun K hK => ?_)
                  go_simp
                  with_reducible refine hK _ _ ?_
                  clear hK K
                  try simp only [Act.put, List.setIfInBounds_toArray, List.set_cons_zero, List.set_cons_succ]
                  refine BigFrame.wpList_want (by rfl) (fun K hK => ?_)
                  go_simp
                  with_reducible refine hK _ _ ?_
                  clear hK K
                  try simp only [Act.put, List.setIfInBounds_toArray, List.set_cons_zero, List.set_cons_succ]
                  refine BigFrame.wpList_want (by rfl) (fun K hK => ?_)
                  go_simp
                  with_reducible refine hK _ _ ?_
                  clear hK K
                  try simp only [Act.put, List.setIfInBounds_toArray, List.set_cons_zero, List.set_cons_succ]
                  refine BigFrame.wpList_want (by rfl) (fun K hK => ?_)
                  go_simp
                  with_reducible refine hK _ _ ?_
                  clear hK K
                  try simp only [Act.put, List.setIfInBounds_toArray, List.set_cons_zero, List.set_cons_succ]
                  refine wpList_plain rfl (fun K hK => ?_)
                  go_simp
                  with_reducible refine hK _ _ ?_
                  clear hK K
                  try simp only [Act.put, List.setIfInBounds_toArray, List.set_cons_zero, List.set_cons_succ]
                  refine wpList_plain rfl (fun K hK => ?_)
                  go_simp
                  with_reducible refine hK _ _ ?_
                  clear hK K
                  try simp only [Act.put, List.setIfInBounds_toArray, List.set_cons_zero, List.set_cons_succ]
                  refine BigFrame.wpList_want (by rfl) (fun K hK => ?_)
                  go_simp
                  with_reducible refine hK _ _ ?_
                  clear hK K
                  try simp only [Act.put, List.setIfInBounds_toArray, List.set_cons_zero, List.set_cons_succ]
                  refine BigFrame.wpList_want (by rfl) (fun K hK => ?_)
                  go_simp
                  with_reducible refine hK _ _ ?_
                  clear hK K
                  try simp only [Act.put, List.setIfInBounds_toArray, List.set_cons_zero, List.set_cons_succ]
                  refine BigFrame.wpList_want (by rfl) (fun K hK => ?_)
                  go_simp
                  with_reducible refine hK _ _ ?_
                  clear hK K
                  try simp only [Act.put, List.setIfInBounds_toArray, List.set_cons_zero, List.set_cons_succ]
                  refine BigFrame.wpList_want (by rfl) (fun K hK => ?_)
                  go_simp
                  with_reducible refine hK _ _ ?_
                  clear hK K
                  try simp only [Act.put, List.setIfInBounds_toArray, List.set_cons_zero, List.set_cons_succ]
                  refine BigFrame.wpList_want (by rfl) (fun K hK => ?_)
                  go_simp
                  with_reducible refine hK _ _ ?_
                  clear hK K
                  try simp only [Act.put, List.setIfInBounds_toArray, List.set_cons_zero, List.set_cons_succ]
                  refine BigFrame.wpList_want (by rfl) (fun K hK => ?_)
                  go_simp
                  with_reducible refine hK _ _ ?_
                  clear hK K
                  try simp only [Act.put, List.setIfInBounds_toArray, List.set_cons_zero, List.set_cons_succ]
                  refine wpList_plain rfl (fun K hK => ?_)
                  go_simp
                  with_reducible refine hK _ _ ?_
                  clear hK K
                  try simp only [Act.put, List.setIfInBounds_toArray, List.set_cons_zero, List.set_cons_succ]
                  refine wpList_plain rfl (fun K hK => ?_)
                  go_simp
                  with_reducible refine hK _ _ ?_
                  clear hK K
                  try simp only [Act.put, List.setIfInBounds_toArray, List.set_cons_zero, List.set_cons_succ]
                  refine BigFrame.wpList_want (by rfl) (fun K hK => ?_)
                  go_simp
                  with_reducible refine hK _ _ ?_
                  clear hK K
                  try simp only [Act.put, List.setIfInBounds_toArray, List.set_cons_zero, List.set_cons_succ]
                  refine BigFrame.wpList_want (by rfl) (fun K hK => ?_)
                  go_simp
                  with_reducible refine hK _ _ ?_
                  clear hK K
                  try simp only [Act.put, List.setIfInBounds_toArray, List.set_cons_zero, List.set_cons_succ]
                  refine BigFrame.wpList_want (by rfl) (fun K hK => ?_)
                  go_simp
                  with_reducible refine hK _ _ ?_
                  clear hK K
                  try simp only [Act.put, List.setIfInBounds_toArray, List.set_cons_zero, List.set_cons_succ]
                  refine wpList_plain rfl (fun K hK => ?_)
                  go_simp
                  with_reducible refine hK _ _ ?_
                  clear hK K
                  try simp only [Act.put, List.setIfInBounds_toArray, List.set_cons_zero, List.set_cons_succ]
                  refine wpList_plain rfl (fun K hK => ?_)
                  go_simp
                  with_reducible refine hK _ _ ?_
                  clear hK K
                  try simp only [Act.put, List.setIfInBounds_toArray, List.set_cons_zero, List.set_cons_succ]
                  refine BigFrame.wpList_want (by rfl) (fun K hK => ?_)
                  go_simp
                  with_reducible refine hK _ _ ?_
                  clear hK K
                  try simp only [Act.put, List.setIfInBounds_toArray, List.set_cons_zero, List.set_cons_succ]
                  refine BigFrame.wpList_want (by rfl) (fun K hK => ?_)
                  go_simp
                  with_reducible refine hK _ _ ?_
                  clear hK K
                  try simp only [Act.put, List.setIfInBounds_toArray, List.set_cons_zero, List.set_cons_succ]
                  refine BigFrame.wpList_want (by rfl) (fun K hK => ?_)
                  go_simp
                  with_reducible refine hK _ _ ?_
                  clear hK K
                  try simp only [Act.put, List.setIfInBounds_toArray, List.set_cons_zero, List.set_cons_succ]
                  refine wpList_plain rfl (fun K hK => ?_)
                  go_simp
                  with_reducible refine hK _ _ ?_
                  clear hK K
                  try simp only [Act.put, List.setIfInBounds_toArray, List.set_cons_zero, List.set_cons_succ]
                  refine wpList_plain rfl (fun K hK => ?_)
                  go_simp
                  with_reducible refine hK _ _ ?_
                  clear hK K
                  try simp only [Act.put, List.setIfInBounds_toArray, List.set_cons_zero, List.set_cons_succ]
                  refine BigFrame.wpList_want (by rfl) (fun K hK => ?_)
                  go_simp
                  with_reducible refine hK _ _ ?_
                  clear hK K
                  try simp only [Act.put, List.setIfInBounds_toArray, List.set_cons_zero, List.set_cons_succ]
                  refine BigFrame.wpList_want (by rfl) (fun K hK => ?_)
                  go_simp
                  with_reducible refine hK _ _ ?_
                  clear hK K
                  try simp only [Act.put, List.setIfInBounds_toArray, List.set_cons_zero, List.set_cons_succ]
                  refine BigFrame.wpList_want (by rfl) (fun K hK => ?_)
                  go_simp
                  with_reducible refine hK _ _ ?_
                  clear hK K
                  try simp only [Act.put, List.setIfInBounds_toArray, List.set_cons_zero, List.set_cons_succ]
                  refine wpList_plain rfl (fun K hK => ?_)
                  go_simp
                  with_reducible refine hK _ _ ?_
                  clear hK K
                  try simp only [Act.put, List.setIfInBounds_toArray, List.set_cons_zero, List.set_cons_succ]
                  clear s1 s2 s3 s4 s5 s6
                  go_wp2_with fail
                  exact ⟨⟨i + 1, by go_num, by omega, G⟩, by simp [intOf]; omega⟩
                · have hi1 : ¬ (i : Int) < 8 := by omega
                  go_wp2_with fail
                  go_ret
                  exact ⟨rfl, G0.out.trans G.out⟩
end Q
end Go.Proofs.YtpdekcchkhahcaaDoor
