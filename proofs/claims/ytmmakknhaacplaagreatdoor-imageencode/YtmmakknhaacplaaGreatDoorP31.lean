import Derived.Test.YtmmakknhaacplaaGreatDoorP22
import Derived.Deep.RegionHeld3
import Derived.BigFrame
/-
  Programs that are lent: blank, spared: the room behind is as it was.
-/
namespace Go.Proofs.YtmmakknhaacplaaGreatDoor
namespace Q
open Go.RowKit

theorem l8_of (n : Nat) : (n : Int) ≤ (n : Int) + 8 := by omega
theorem z8_of (n : Nat) : 0 ≤ (n : Int) + 8 := by omega
theorem t8_of (n : Nat) : ((n : Int) + 8).toNat = n + 8 := by omega
set_option maxRecDepth 100000 in
set_option maxHeartbeats 4000000 in
theorem blank_any (L : List PTyp) (s : Sl) (kk : Nat) (w : World) (h : LsOk PTyp.vals typeZ kk w L s) (hl : L.length ≤ 281474976710648) : Calls Tryz.prog 29 #[.slice s.a s.l s.c] w fun x w' => x = .returned (.bool true) ∧ Gr w w' := by
  obtain ⟨g, rfl, _, hA⟩ := h
  have uw : wrap64 ((L.length : Int) + 8) = (L.length : Int) + 8 := w8_of _ hl
  have ux : IntKind.i64.wrap ((L.length : Int) + 8) = (L.length : Int) + 8 := x8_of _ hl
  have ul := l8_of L.length
  replace hA := Hid.mk hA
  have G0 := Hid.mk (Gr.refl w)
  dsimp only
  go_enter Tryz.func29, Tryz.ntmps29
  go_upto_region 3 with fail
  go_loopw [4] (fun x wr => ∃ k : Nat, x = .int .i64 k ∧ L.length ≤ k ∧ k ≤ L.length + 8 ∧ Hid (Gr w wr)) (fun x _ => L.length + 8 - (intOf x).toNat)
  case atStart => exact ⟨L.length, rfl, by omega, by omega, G0⟩
  case round =>
    clear G0
    obtain ⟨k, rfl, hk1, hk0, G⟩ := hrel
    by_cases hk2 : k < L.length + 8
    · have hi1 : (k : Int) < (L.length : Int) + 8 := by omega
      have hel := elem_atL typ_len (hA.out.gr G.out) k _ (marked_pastL k hk1 hk2)
      have e0 : wr.cell? ⟨g, k * 7, none⟩ = some (.bool false) := hel 0 _ rfl
      have e1 : wr.cell? ⟨g, k * 7 + 1, none⟩ = some (.int .u64 0) := hel 1 _ rfl
      have e2 : wr.cell? ⟨g, k * 7 + 1 + 1, none⟩ = some (.int .u64 0) := hel 2 _ rfl
      have e3 : wr.cell? ⟨g, k * 7 + 1 + 1 + 1, none⟩ = some (.int .u64 0) := hel 3 _ rfl
      have e4 : wr.cell? ⟨g, k * 7 + 1 + 1 + 1 + 1, none⟩ = some (.int .u64 0) := hel 4 _ rfl
      have e5 : wr.cell? ⟨g, k * 7 + 1 + 1 + 1 + 1 + 1, none⟩ = some (.int .u8 0) := hel 5 _ rfl
      have e6 : wr.cell? ⟨g, k * 7 + 1 + 1 + 1 + 1 + 1 + 1, none⟩ = some (.int .i64 0) := hel 6 _ rfl
      clear hel
      go_wp2_with fail
      exact ⟨⟨k + 1, by go_num, by omega, by omega, G⟩, by simp [intOf]; omega⟩
    · have hi1 : ¬ (k : Int) < (L.length : Int) + 8 := by omega
      go_wp2_with fail
      go_ret
      exact ⟨rfl, G.out⟩
set_option maxRecDepth 100000 in
set_option maxHeartbeats 16000000 in
theorem spared_any (m : PImg) (kk kr kc kg : Nat) (lr : List RgV) (lc : List CpV) (lg : List GtV) (w : World) (hI0 : LeIn kk kr kc kg w m lr lc lg) (hF : TwFit m) : Calls Tryz.prog 9 #[.agg #[.slice (some ⟨kr, 0, none⟩) m.regs.length (m.regs.length + 8), .slice (some ⟨kc, 0, none⟩) m.comps.length (m.comps.length + 8), .slice (some ⟨kg, 0, none⟩) m.gates.length (m.gates.length + 8), .int .i64 m.depth]] w fun x w' => x = .returned (.bool true) ∧ Gr w w' := by
  have l1 : m.regs.length ≤ 281474976710648 := by have := hF.r; omega
  have l2 : m.comps.length ≤ 281474976710648 := by have := hF.c; omega
  have l3 : m.gates.length ≤ 281474976710648 := by have := hF.g; omega
  replace hF := Hid.mk hF
  replace hI0 := Hid.mk hI0
  go_enter Tryz.func9, Tryz.ntmps9
  go_upto_region 1 with fail
  refine wp_world (fun W => At W w.heap.size #[.slice (some ⟨kr, 0, none⟩) m.regs.length (m.regs.length + 8), .slice (some ⟨kc, 0, none⟩) m.comps.length (m.comps.length + 8), .slice (some ⟨kg, 0, none⟩) m.gates.length (m.gates.length + 8), .int .i64 m.depth] ∧ Gr w W) ⟨At.new w _ _, (Gr.refl w).alloc _⟩ ?_
  rintro W0 ⟨BM, G0⟩
  replace BM := Hid.mk BM
  have hI := Hid.mk (hI0.out.gr G0)
  replace G0 := Hid.mk G0
  clear hI0
  have c0 : W0.cell? ⟨w.heap.size, 0, none⟩ = some (.slice (some ⟨kr, 0, none⟩) m.regs.length (m.regs.length + 8)) := BM.out.2.1 0
  have uw : wrap64 ((m.regs.length : Int) + 8) = (m.regs.length : Int) + 8 := w8_of _ l1
  have ux : IntKind.i64.wrap ((m.regs.length : Int) + 8) = (m.regs.length : Int) + 8 := x8_of _ l1
  have ul := l8_of m.regs.length
  go_upto_region 4 with fail
  clear c0 uw ux ul
  have G := Hid.mk (Gr.refl W0)
  go_loopw [4, 5] (fun y x wr => ∃ i : Nat, y = .bool true ∧ x = .int .i64 i ∧ i ≤ m.regs.length + 8 ∧ Hid (Gr W0 wr)) (fun _ x _ => m.regs.length + 8 - (intOf x).toNat)
  case atStart => exact ⟨0, rfl, rfl, by omega, G⟩
  case round =>
    clear G
    obtain ⟨i, rfl, rfl, hi, G⟩ := hrel
    by_cases hlt : i < m.regs.length + 8
    · have hi1 : (i : Int) < (m.regs.length : Int) + 8 := by omega
      have c0 : wr.cell? ⟨w.heap.size, 0, none⟩ = some (.slice (some ⟨kr, 0, none⟩) m.regs.length (m.regs.length + 8)) := (BM.out.gr G.out).2.1 0
      by_cases hn : i < m.regs.length
      · have hin : ¬ (m.regs.length : Int) ≤ (i : Int) := by omega
        obtain ⟨v, hv, _, _, _, g1, e9, _, A1⟩ := (hI.out.rd i hlt).1 hn
        have sfit : m.regs[i].slots.length ≤ 281474976710648 := by have := hF.out.rs _ (List.getElem_mem hn); omega
        obtain ⟨vb, vn, vd, vs⟩ := v
        dsimp only at e9
        subst e9
        replace A1 := Hid.mk A1
        have hrow := Hid.mk (fun (W : World) (q : Gr W0 W) => elem_atL rg_len (hI.out.r.gr q) i _ hv)
        clear hv
        generalize m.regs[i].slots = L at *
        have sw : wrap64 ((L.length : Int) + 8) = (L.length : Int) + 8 := w8_of _ sfit
        have sx : IntKind.i64.wrap ((L.length : Int) + 8) = (L.length : Int) + 8 := x8_of _ sfit
        have sl := l8_of L.length
        have sz := z8_of L.length
        have st := t8_of L.length
        have KS : Hid (∀ W, Gr wr W → W.cell? ⟨kr, i * 4 + 1 + 1 + 1, none⟩ = some (.slice (some ⟨g1, 0, none⟩) L.length (L.length + 8))) := Hid.mk (fun W q => (hrow.out W (G.out.trans q)) 3 _ rfl)
        go_upto_region 8 with fail
        have d1 : Gr wr wr.drew := (Gr.refl _).drew
        refine wp_region_held_drew (S := (fun W => W.cell? ⟨kr, i * 4 + 1 + 1 + 1, none⟩ = some (.slice (some ⟨g1, 0, none⟩) L.length (L.length + 8)))) (by kernel_rfl) (KS.out _ d1) (fun hHeld => ?_)
        refine wpAnyH_take (i := 0) (oi := { dst := some 70, op := Op.move (Operand.tmp 3), type := 22, pos := "law.go:108", after := #[], guard := none }) (v := ?_) rfl (by kernel_rfl) (by kernel_rfl) (by kernel_rfl) (fun _ _ _ h => h) (Or.inl ⟨by rfl, ?_⟩) (by assumption) ?_
        rotate_left
        · intro w hSw; (try dsimp only at hSw); go_simp; first | done | with_reducible rfl
        try simp only [Act.put, List.setIfInBounds_toArray, List.set_cons_zero, List.set_cons_succ]
        refine wpAnyH_take (i := 1) (oi := { dst := some 71, op := Op.move (Operand.tmp 5), type := 3, pos := "law.go:108", after := #[], guard := none }) (v := ?_) rfl (by kernel_rfl) (by kernel_rfl) (by kernel_rfl) (fun _ _ _ h => h) (Or.inl ⟨by rfl, ?_⟩) (by assumption) ?_
        rotate_left
        · intro w hSw; (try dsimp only at hSw); go_simp; first | done | with_reducible rfl
        try simp only [Act.put, List.setIfInBounds_toArray, List.set_cons_zero, List.set_cons_succ]
        refine wpAnyH_take (i := 2) (oi := { dst := some 72, op := Op.indexAddr 22 (Operand.tmp 70) (Operand.tmp 71), type := 0, pos := "law.go:108", after := #[{ on := 0, ground := Ground.data }, { on := 1, ground := Ground.data }], guard := none }) (v := ?_) rfl (by kernel_rfl) (by kernel_rfl) (by kernel_rfl) (fun _ _ _ h => h) (Or.inl ⟨by rfl, ?_⟩) (by assumption) ?_
        rotate_left
        · intro w hSw; (try dsimp only at hSw); go_simp; first | done | with_reducible rfl
        try simp only [Act.put, List.setIfInBounds_toArray, List.set_cons_zero, List.set_cons_succ]
        refine wpAnyH_take (i := 3) (oi := { dst := some 73, op := Op.fieldAddr 47 (Operand.tmp 72) 3, type := 0, pos := "law.go:108", after := #[{ on := 2, ground := Ground.data }], guard := none }) (v := ?_) rfl (by kernel_rfl) (by kernel_rfl) (by kernel_rfl) (fun _ _ _ h => h) (Or.inl ⟨by rfl, ?_⟩) (by assumption) ?_
        rotate_left
        · intro w hSw; (try dsimp only at hSw); go_simp; first | done | with_reducible rfl
        try simp only [Act.put, List.setIfInBounds_toArray, List.set_cons_zero, List.set_cons_succ]
        refine wpAnyH_take (i := 4) (oi := { dst := some 74, op := Op.load 45 (Operand.tmp 73), type := 45, pos := "law.go:108", after := #[{ on := 3, ground := Ground.data }], guard := none }) (v := ?_) rfl (by kernel_rfl) (by kernel_rfl) (by kernel_rfl) (fun _ _ _ h => h) (Or.inl ⟨by rfl, ?_⟩) (by assumption) ?_
        rotate_left
        · intro w hSw; (try dsimp only at hSw); go_simp; first | done | with_reducible rfl
        try simp only [Act.put, List.setIfInBounds_toArray, List.set_cons_zero, List.set_cons_succ]
        refine wpAnyH_take (i := 5) (oi := { dst := some 75, op := Op.move (Operand.tmp 3), type := 22, pos := "law.go:108", after := #[], guard := none }) (v := ?_) rfl (by kernel_rfl) (by kernel_rfl) (by kernel_rfl) (fun _ _ _ h => h) (Or.inl ⟨by rfl, ?_⟩) (by assumption) ?_
        rotate_left
        · intro w hSw; (try dsimp only at hSw); go_simp; first | done | with_reducible rfl
        try simp only [Act.put, List.setIfInBounds_toArray, List.set_cons_zero, List.set_cons_succ]
        refine wpAnyH_take (i := 6) (oi := { dst := some 76, op := Op.move (Operand.tmp 5), type := 3, pos := "law.go:108", after := #[], guard := none }) (v := ?_) rfl (by kernel_rfl) (by kernel_rfl) (by kernel_rfl) (fun _ _ _ h => h) (Or.inl ⟨by rfl, ?_⟩) (by assumption) ?_
        rotate_left
        · intro w hSw; (try dsimp only at hSw); go_simp; first | done | with_reducible rfl
        try simp only [Act.put, List.setIfInBounds_toArray, List.set_cons_zero, List.set_cons_succ]
        refine wpAnyH_take (i := 7) (oi := { dst := some 77, op := Op.indexAddr 22 (Operand.tmp 75) (Operand.tmp 76), type := 0, pos := "law.go:108", after := #[{ on := 5, ground := Ground.data }, { on := 6, ground := Ground.data }], guard := none }) (v := ?_) rfl (by kernel_rfl) (by kernel_rfl) (by kernel_rfl) (fun _ _ _ h => h) (Or.inl ⟨by rfl, ?_⟩) (by assumption) ?_
        rotate_left
        · intro w hSw; (try dsimp only at hSw); go_simp; first | done | with_reducible rfl
        try simp only [Act.put, List.setIfInBounds_toArray, List.set_cons_zero, List.set_cons_succ]
        refine wpAnyH_take (i := 8) (oi := { dst := some 78, op := Op.fieldAddr 47 (Operand.tmp 77) 3, type := 0, pos := "law.go:108", after := #[{ on := 7, ground := Ground.data }], guard := none }) (v := ?_) rfl (by kernel_rfl) (by kernel_rfl) (by kernel_rfl) (fun _ _ _ h => h) (Or.inl ⟨by rfl, ?_⟩) (by assumption) ?_
        rotate_left
        · intro w hSw; (try dsimp only at hSw); go_simp; first | done | with_reducible rfl
        try simp only [Act.put, List.setIfInBounds_toArray, List.set_cons_zero, List.set_cons_succ]
        refine wpAnyH_take (i := 9) (oi := { dst := some 79, op := Op.load 45 (Operand.tmp 78), type := 45, pos := "law.go:108", after := #[{ on := 8, ground := Ground.data }], guard := none }) (v := ?_) rfl (by kernel_rfl) (by kernel_rfl) (by kernel_rfl) (fun _ _ _ h => h) (Or.inl ⟨by rfl, ?_⟩) (by assumption) ?_
        rotate_left
        · intro w hSw; (try dsimp only at hSw); go_simp; first | done | with_reducible rfl
        try simp only [Act.put, List.setIfInBounds_toArray, List.set_cons_zero, List.set_cons_succ]
        refine wpAnyH_take (i := 10) (oi := { dst := some 80, op := Op.call { callee := Callee.builtin Builtin.len, args := #[Operand.tmp 79], argTypes := #[45] }, type := 3, pos := "law.go:108", after := #[{ on := 9, ground := Ground.data }], guard := none }) (v := ?_) rfl (by kernel_rfl) (by kernel_rfl) (by kernel_rfl) (fun _ _ _ h => h) (Or.inl ⟨by rfl, ?_⟩) (by assumption) ?_
        rotate_left
        · intro w hSw; (try dsimp only at hSw); go_simp; first | done | with_reducible rfl
        try simp only [Act.put, List.setIfInBounds_toArray, List.set_cons_zero, List.set_cons_succ]
        refine wpAnyH_take (i := 11) (oi := { dst := some 81, op := Op.binOp BinOp.add 3 (Operand.tmp 80) (Operand.const (Value.int IntKind.i64 8)) 3, type := 3, pos := "law.go:108", after := #[{ on := 10, ground := Ground.data }], guard := none }) (v := ?_) rfl (by kernel_rfl) (by kernel_rfl) (by kernel_rfl) (fun _ _ _ h => h) (Or.inl ⟨by rfl, ?_⟩) (by assumption) ?_
        rotate_left
        · intro w hSw; (try dsimp only at hSw); go_simp; first | done | with_reducible rfl
        try simp only [Act.put, List.setIfInBounds_toArray, List.set_cons_zero, List.set_cons_succ]
        refine wpAnyH_take (i := 12) (oi := { dst := some 82, op := Op.slice 45 (Operand.tmp 74) none (some (Operand.tmp 81)) none, type := 45, pos := "law.go:108", after := #[{ on := 4, ground := Ground.data }, { on := 11, ground := Ground.data }], guard := none }) (v := ?_) rfl (by kernel_rfl) (by kernel_rfl) (by kernel_rfl) (fun _ _ _ h => h) (Or.inl ⟨by rfl, ?_⟩) (by assumption) ?_
        rotate_left
        · intro w hSw; (try dsimp only at hSw); go_simp; first | done | with_reducible rfl
        try simp only [Act.put, List.setIfInBounds_toArray, List.set_cons_zero, List.set_cons_succ]
        refine wpAnyH_take (i := 13) (oi := { dst := some 6, op := Op.assign (Operand.tmp 82), type := 45, pos := "law.go:108", after := #[{ on := 12, ground := Ground.data }, { on := 0, ground := Ground.phase }, { on := 1, ground := Ground.phase }, { on := 2, ground := Ground.phase }, { on := 3, ground := Ground.phase }, { on := 4, ground := Ground.phase }, { on := 5, ground := Ground.phase }, { on := 6, ground := Ground.phase }, { on := 7, ground := Ground.phase }, { on := 8, ground := Ground.phase }, { on := 9, ground := Ground.phase }, { on := 10, ground := Ground.phase }, { on := 11, ground := Ground.phase }, { on := 12, ground := Ground.phase }], guard := none }) (v := ?_) rfl (by kernel_rfl) (by kernel_rfl) (by kernel_rfl) (fun _ _ _ h => h) (Or.inl ⟨by rfl, ?_⟩) (by assumption) ?_
        rotate_left
        · intro w hSw; (try dsimp only at hSw); go_simp; first | done | with_reducible rfl
        try simp only [Act.put, List.setIfInBounds_toArray, List.set_cons_zero, List.set_cons_succ]
        refine wpAnyH_done (by kernel_rfl) ?_ _
        clear hHeld KS sw sx sl sz st
        replace G := Hid.mk (G.out.trans d1)
        clear d1
        generalize wr.drew = VV at *
        have e3 : VV.cell? ⟨kr, i * 4 + 1 + 1 + 1, none⟩ = some (.slice (some ⟨g1, 0, none⟩) L.length (L.length + 8)) := (hrow.out VV G.out) 3 _ rfl
        go_upto_region 10 with fail
        clear e3 hrow
        have G9 := G
        clear G
        go_loopw [4, 7] (fun y x wr => ∃ k : Nat, y = .bool true ∧ x = .int .i64 k ∧ L.length ≤ k ∧ k ≤ L.length + 8 ∧ Hid (Gr W0 wr)) (fun _ x _ => L.length + 8 - (intOf x).toNat)
        case atStart => exact ⟨L.length, rfl, rfl, by omega, by omega, G9⟩
        case round =>
          clear G9
          obtain ⟨k, rfl, rfl, hk1, hk0, G⟩ := hrel
          by_cases hk2 : k < L.length + 8
          · have hj1 : (k : Int) < (L.length : Int) + 8 := by omega
            have hel := elem_atL slt_len (A1.out.gr G.out) k _ (marked_pastL k hk1 hk2)
            have e0 : wr.cell? ⟨g1, k * 8, none⟩ = some (.bool false) := hel 0 _ rfl
            have e1 : wr.cell? ⟨g1, k * 8 + 1, none⟩ = some (.int .u64 0) := hel 1 _ rfl
            have e2 : wr.cell? ⟨g1, k * 8 + 1 + 1, none⟩ = some (.int .u64 0) := hel 2 _ rfl
            have e3 : wr.cell? ⟨g1, k * 8 + 1 + 1 + 1, none⟩ = some (.int .u64 0) := hel 3 _ rfl
            have e4 : wr.cell? ⟨g1, k * 8 + 1 + 1 + 1 + 1, none⟩ = some (.int .u64 0) := hel 4 _ rfl
            have e5 : wr.cell? ⟨g1, k * 8 + 1 + 1 + 1 + 1 + 1, none⟩ = some (.int .u8 0) := hel 5 _ rfl
            have e6 : wr.cell? ⟨g1, k * 8 + 1 + 1 + 1 + 1 + 1 + 1, none⟩ = some (.int .i64 0) := hel 6 _ rfl
            have e7 : wr.cell? ⟨g1, k * 8 + 1 + 1 + 1 + 1 + 1 + 1 + 1, none⟩ = some (.int .u64 77) := hel 7 _ rfl
            clear hel
            go_wp2_with fail
            exact ⟨⟨k + 1, rfl, by go_num, by omega, by omega, G⟩, by simp [intOf]; omega⟩
          · have hj1 : ¬ (k : Int) < (L.length : Int) + 8 := by omega
            go_wp2_with fail
            exact ⟨⟨i + 1, rfl, by go_num, by omega, G⟩, by simp [intOf]; omega⟩
      · have hin : (m.regs.length : Int) ≤ (i : Int) := by omega
        obtain ⟨v, hv, hq⟩ := (hI.out.rd i hlt).2 (by omega)
        have hq' : v = rg77 := hq
        subst hq'
        clear hq
        have hrow := Hid.mk (fun (W : World) (q : Gr W0 W) => elem_atL rg_len (hI.out.r.gr q) i _ hv)
        have e0 : wr.cell? ⟨kr, i * 4, none⟩ = some (.int .u64 77) := (hrow.out wr G.out) 0 _ rfl
        have e1 : wr.cell? ⟨kr, i * 4 + 1, none⟩ = some (.int .u64 0) := (hrow.out wr G.out) 1 _ rfl
        have e2 : wr.cell? ⟨kr, i * 4 + 1 + 1, none⟩ = some (.string { data := #[] }) := (hrow.out wr G.out) 2 _ rfl
        have e3 : wr.cell? ⟨kr, i * 4 + 1 + 1 + 1, none⟩ = some (.slice none 0 0) := (hrow.out wr G.out) 3 _ rfl
        clear hrow hv
        go_wp2_with fail
        exact ⟨⟨i + 1, rfl, by go_num, by omega, G⟩, by simp [intOf]; omega⟩
    · have hi1 : ¬ (i : Int) < (m.regs.length : Int) + 8 := by omega
      have c0 : wr.cell? ⟨w.heap.size, 1, none⟩ = some (.slice (some ⟨kc, 0, none⟩) m.comps.length (m.comps.length + 8)) := (BM.out.gr G.out).2.1 1
      have uw : wrap64 ((m.comps.length : Int) + 8) = (m.comps.length : Int) + 8 := w8_of _ l2
      have ux : IntKind.i64.wrap ((m.comps.length : Int) + 8) = (m.comps.length : Int) + 8 := x8_of _ l2
      have ul := l8_of m.comps.length
      go_upto_region 15 with fail
      clear c0 uw ux ul
      have G4 := G
      clear G
      go_loopw [4, 9] (fun y x wr => ∃ i : Nat, y = .bool true ∧ x = .int .i64 i ∧ i ≤ m.comps.length + 8 ∧ Hid (Gr W0 wr)) (fun _ x _ => m.comps.length + 8 - (intOf x).toNat)
      case atStart => exact ⟨0, rfl, rfl, by omega, G4⟩
      case round =>
        clear G4
        obtain ⟨i, rfl, rfl, hi, G⟩ := hrel
        by_cases hlt : i < m.comps.length + 8
        · have hi1 : (i : Int) < (m.comps.length : Int) + 8 := by omega
          have c0 : wr.cell? ⟨w.heap.size, 1, none⟩ = some (.slice (some ⟨kc, 0, none⟩) m.comps.length (m.comps.length + 8)) := (BM.out.gr G.out).2.1 1
          by_cases hn : i < m.comps.length
          · have hin : ¬ (m.comps.length : Int) ≤ (i : Int) := by omega
            obtain ⟨v, hv, ⟨g1, e9, _, A1⟩, ⟨g2, e8, _, A2⟩⟩ := (hI.out.cd i hlt).1 hn
            have hfit := hF.out.cs _ (List.getElem_mem hn)
            have sfit : m.comps[i].roots.length ≤ 281474976710648 := by omega
            have tfit : m.comps[i].code.length ≤ 281474976710648 := by omega
            clear hfit
            obtain ⟨vr, vk⟩ := v
            dsimp only at e9 e8
            subst e9 e8
            replace A1 := Hid.mk A1
            replace A2 := Hid.mk A2
            have hrow := Hid.mk (fun (W : World) (q : Gr W0 W) => elem_atL cp_len (hI.out.c.gr q) i _ hv)
            clear hv
            generalize m.comps[i].roots = L at *
            generalize m.comps[i].code = M at *
            have sw : wrap64 ((L.length : Int) + 8) = (L.length : Int) + 8 := w8_of _ sfit
            have sx : IntKind.i64.wrap ((L.length : Int) + 8) = (L.length : Int) + 8 := x8_of _ sfit
            have sl := l8_of L.length
            have sz := z8_of L.length
            have st := t8_of L.length
            have KS : Hid (∀ W, Gr wr W → W.cell? ⟨kc, i * 2, none⟩ = some (.slice (some ⟨g1, 0, none⟩) L.length (L.length + 8))) := Hid.mk (fun W q => (hrow.out W (G.out.trans q)) 0 _ rfl)
            go_upto_region 19 with fail
            have d1 : Gr wr wr.drew := (Gr.refl _).drew
            refine wp_region_held_drew (S := (fun W => W.cell? ⟨kc, i * 2, none⟩ = some (.slice (some ⟨g1, 0, none⟩) L.length (L.length + 8)))) (by kernel_rfl) (KS.out _ d1) (fun hHeld => ?_)
            refine wpAnyH_take (i := 0) (oi := { dst := some 141, op := Op.move (Operand.tmp 8), type := 23, pos := "law.go:119", after := #[], guard := none }) (v := ?_) rfl (by kernel_rfl) (by kernel_rfl) (by kernel_rfl) (fun _ _ _ h => h) (Or.inl ⟨by rfl, ?_⟩) (by assumption) ?_
            rotate_left
            · intro w hSw; (try dsimp only at hSw); go_simp; first | done | with_reducible rfl
            try simp only [Act.put, List.setIfInBounds_toArray, List.set_cons_zero, List.set_cons_succ]
            refine wpAnyH_take (i := 1) (oi := { dst := some 142, op := Op.move (Operand.tmp 9), type := 3, pos := "law.go:119", after := #[], guard := none }) (v := ?_) rfl (by kernel_rfl) (by kernel_rfl) (by kernel_rfl) (fun _ _ _ h => h) (Or.inl ⟨by rfl, ?_⟩) (by assumption) ?_
            rotate_left
            · intro w hSw; (try dsimp only at hSw); go_simp; first | done | with_reducible rfl
            try simp only [Act.put, List.setIfInBounds_toArray, List.set_cons_zero, List.set_cons_succ]
            refine wpAnyH_take (i := 2) (oi := { dst := some 143, op := Op.indexAddr 23 (Operand.tmp 141) (Operand.tmp 142), type := 0, pos := "law.go:119", after := #[{ on := 0, ground := Ground.data }, { on := 1, ground := Ground.data }], guard := none }) (v := ?_) rfl (by kernel_rfl) (by kernel_rfl) (by kernel_rfl) (fun _ _ _ h => h) (Or.inl ⟨by rfl, ?_⟩) (by assumption) ?_
            rotate_left
            · intro w hSw; (try dsimp only at hSw); go_simp; first | done | with_reducible rfl
            try simp only [Act.put, List.setIfInBounds_toArray, List.set_cons_zero, List.set_cons_succ]
            refine wpAnyH_take (i := 3) (oi := { dst := some 144, op := Op.fieldAddr 52 (Operand.tmp 143) 0, type := 0, pos := "law.go:119", after := #[{ on := 2, ground := Ground.data }], guard := none }) (v := ?_) rfl (by kernel_rfl) (by kernel_rfl) (by kernel_rfl) (fun _ _ _ h => h) (Or.inl ⟨by rfl, ?_⟩) (by assumption) ?_
            rotate_left
            · intro w hSw; (try dsimp only at hSw); go_simp; first | done | with_reducible rfl
            try simp only [Act.put, List.setIfInBounds_toArray, List.set_cons_zero, List.set_cons_succ]
            refine wpAnyH_take (i := 4) (oi := { dst := some 145, op := Op.load 49 (Operand.tmp 144), type := 49, pos := "law.go:119", after := #[{ on := 3, ground := Ground.data }], guard := none }) (v := ?_) rfl (by kernel_rfl) (by kernel_rfl) (by kernel_rfl) (fun _ _ _ h => h) (Or.inl ⟨by rfl, ?_⟩) (by assumption) ?_
            rotate_left
            · intro w hSw; (try dsimp only at hSw); go_simp; first | done | with_reducible rfl
            try simp only [Act.put, List.setIfInBounds_toArray, List.set_cons_zero, List.set_cons_succ]
            refine wpAnyH_take (i := 5) (oi := { dst := some 146, op := Op.move (Operand.tmp 8), type := 23, pos := "law.go:119", after := #[], guard := none }) (v := ?_) rfl (by kernel_rfl) (by kernel_rfl) (by kernel_rfl) (fun _ _ _ h => h) (Or.inl ⟨by rfl, ?_⟩) (by assumption) ?_
            rotate_left
            · intro w hSw; (try dsimp only at hSw); go_simp; first | done | with_reducible rfl
            try simp only [Act.put, List.setIfInBounds_toArray, List.set_cons_zero, List.set_cons_succ]
            refine wpAnyH_take (i := 6) (oi := { dst := some 147, op := Op.move (Operand.tmp 9), type := 3, pos := "law.go:119", after := #[], guard := none }) (v := ?_) rfl (by kernel_rfl) (by kernel_rfl) (by kernel_rfl) (fun _ _ _ h => h) (Or.inl ⟨by rfl, ?_⟩) (by assumption) ?_
            rotate_left
            · intro w hSw; (try dsimp only at hSw); go_simp; first | done | with_reducible rfl
            try simp only [Act.put, List.setIfInBounds_toArray, List.set_cons_zero, List.set_cons_succ]
            refine wpAnyH_take (i := 7) (oi := { dst := some 148, op := Op.indexAddr 23 (Operand.tmp 146) (Operand.tmp 147), type := 0, pos := "law.go:119", after := #[{ on := 5, ground := Ground.data }, { on := 6, ground := Ground.data }], guard := none }) (v := ?_) rfl (by kernel_rfl) (by kernel_rfl) (by kernel_rfl) (fun _ _ _ h => h) (Or.inl ⟨by rfl, ?_⟩) (by assumption) ?_
            rotate_left
            · intro w hSw; (try dsimp only at hSw); go_simp; first | done | with_reducible rfl
            try simp only [Act.put, List.setIfInBounds_toArray, List.set_cons_zero, List.set_cons_succ]
            refine wpAnyH_take (i := 8) (oi := { dst := some 149, op := Op.fieldAddr 52 (Operand.tmp 148) 0, type := 0, pos := "law.go:119", after := #[{ on := 7, ground := Ground.data }], guard := none }) (v := ?_) rfl (by kernel_rfl) (by kernel_rfl) (by kernel_rfl) (fun _ _ _ h => h) (Or.inl ⟨by rfl, ?_⟩) (by assumption) ?_
            rotate_left
            · intro w hSw; (try dsimp only at hSw); go_simp; first | done | with_reducible rfl
            try simp only [Act.put, List.setIfInBounds_toArray, List.set_cons_zero, List.set_cons_succ]
            refine wpAnyH_take (i := 9) (oi := { dst := some 150, op := Op.load 49 (Operand.tmp 149), type := 49, pos := "law.go:119", after := #[{ on := 8, ground := Ground.data }], guard := none }) (v := ?_) rfl (by kernel_rfl) (by kernel_rfl) (by kernel_rfl) (fun _ _ _ h => h) (Or.inl ⟨by rfl, ?_⟩) (by assumption) ?_
            rotate_left
            · intro w hSw; (try dsimp only at hSw); go_simp; first | done | with_reducible rfl
            try simp only [Act.put, List.setIfInBounds_toArray, List.set_cons_zero, List.set_cons_succ]
            refine wpAnyH_take (i := 10) (oi := { dst := some 151, op := Op.call { callee := Callee.builtin Builtin.len, args := #[Operand.tmp 150], argTypes := #[49] }, type := 3, pos := "law.go:119", after := #[{ on := 9, ground := Ground.data }], guard := none }) (v := ?_) rfl (by kernel_rfl) (by kernel_rfl) (by kernel_rfl) (fun _ _ _ h => h) (Or.inl ⟨by rfl, ?_⟩) (by assumption) ?_
            rotate_left
            · intro w hSw; (try dsimp only at hSw); go_simp; first | done | with_reducible rfl
            try simp only [Act.put, List.setIfInBounds_toArray, List.set_cons_zero, List.set_cons_succ]
            refine wpAnyH_take (i := 11) (oi := { dst := some 152, op := Op.binOp BinOp.add 3 (Operand.tmp 151) (Operand.const (Value.int IntKind.i64 8)) 3, type := 3, pos := "law.go:119", after := #[{ on := 10, ground := Ground.data }], guard := none }) (v := ?_) rfl (by kernel_rfl) (by kernel_rfl) (by kernel_rfl) (fun _ _ _ h => h) (Or.inl ⟨by rfl, ?_⟩) (by assumption) ?_
            rotate_left
            · intro w hSw; (try dsimp only at hSw); go_simp; first | done | with_reducible rfl
            try simp only [Act.put, List.setIfInBounds_toArray, List.set_cons_zero, List.set_cons_succ]
            refine wpAnyH_take (i := 12) (oi := { dst := some 153, op := Op.slice 49 (Operand.tmp 145) none (some (Operand.tmp 152)) none, type := 49, pos := "law.go:119", after := #[{ on := 4, ground := Ground.data }, { on := 11, ground := Ground.data }], guard := none }) (v := ?_) rfl (by kernel_rfl) (by kernel_rfl) (by kernel_rfl) (fun _ _ _ h => h) (Or.inl ⟨by rfl, ?_⟩) (by assumption) ?_
            rotate_left
            · intro w hSw; (try dsimp only at hSw); go_simp; first | done | with_reducible rfl
            try simp only [Act.put, List.setIfInBounds_toArray, List.set_cons_zero, List.set_cons_succ]
            refine wpAnyH_take (i := 13) (oi := { dst := some 10, op := Op.assign (Operand.tmp 153), type := 49, pos := "law.go:119", after := #[{ on := 12, ground := Ground.data }, { on := 0, ground := Ground.phase }, { on := 1, ground := Ground.phase }, { on := 2, ground := Ground.phase }, { on := 3, ground := Ground.phase }, { on := 4, ground := Ground.phase }, { on := 5, ground := Ground.phase }, { on := 6, ground := Ground.phase }, { on := 7, ground := Ground.phase }, { on := 8, ground := Ground.phase }, { on := 9, ground := Ground.phase }, { on := 10, ground := Ground.phase }, { on := 11, ground := Ground.phase }, { on := 12, ground := Ground.phase }], guard := none }) (v := ?_) rfl (by kernel_rfl) (by kernel_rfl) (by kernel_rfl) (fun _ _ _ h => h) (Or.inl ⟨by rfl, ?_⟩) (by assumption) ?_
            rotate_left
            · intro w hSw; (try dsimp only at hSw); go_simp; first | done | with_reducible rfl
            try simp only [Act.put, List.setIfInBounds_toArray, List.set_cons_zero, List.set_cons_succ]
            refine wpAnyH_done (by kernel_rfl) ?_ _
            clear hHeld KS sw sx sl sz st
            replace G := Hid.mk (G.out.trans d1)
            clear d1
            generalize wr.drew = VV at *
            have e3 : VV.cell? ⟨kc, i * 2, none⟩ = some (.slice (some ⟨g1, 0, none⟩) L.length (L.length + 8)) := (hrow.out VV G.out) 0 _ rfl
            go_upto_region 21 with fail
            clear e3
            have G9 := G
            clear G
            go_loopw [4, 11] (fun y x wr => ∃ k : Nat, y = .bool true ∧ x = .int .i64 k ∧ L.length ≤ k ∧ k ≤ L.length + 8 ∧ Hid (Gr W0 wr)) (fun _ x _ => L.length + 8 - (intOf x).toNat)
            case atStart => exact ⟨L.length, rfl, rfl, by omega, by omega, G9⟩
            case round =>
              clear G9
              obtain ⟨k, rfl, rfl, hk1, hk0, G⟩ := hrel
              by_cases hk2 : k < L.length + 8
              · have hj1 : (k : Int) < (L.length : Int) + 8 := by omega
                have hel := elem_atL rot_len (A1.out.gr G.out) k _ (marked_pastL k hk1 hk2)
                have e0 : wr.cell? ⟨g1, k * 6, none⟩ = some (.int .i64 0) := hel 0 _ rfl
                have e1 : wr.cell? ⟨g1, k * 6 + 1, none⟩ = some (.int .u64 0) := hel 1 _ rfl
                have e2 : wr.cell? ⟨g1, k * 6 + 1 + 1, none⟩ = some (.int .u64 0) := hel 2 _ rfl
                have e3 : wr.cell? ⟨g1, k * 6 + 1 + 1 + 1, none⟩ = some (.int .u64 0) := hel 3 _ rfl
                have e4 : wr.cell? ⟨g1, k * 6 + 1 + 1 + 1 + 1, none⟩ = some (.int .u8 0) := hel 4 _ rfl
                have e5 : wr.cell? ⟨g1, k * 6 + 1 + 1 + 1 + 1 + 1, none⟩ = some (.int .i64 0) := hel 5 _ rfl
                clear hel
                go_wp2_with fail
                exact ⟨⟨k + 1, rfl, by go_num, by omega, by omega, G⟩, by simp [intOf]; omega⟩
              · have hj1 : ¬ (k : Int) < (L.length : Int) + 8 := by omega
                have sw : wrap64 ((M.length : Int) + 8) = (M.length : Int) + 8 := w8_of _ tfit
                have sx : IntKind.i64.wrap ((M.length : Int) + 8) = (M.length : Int) + 8 := x8_of _ tfit
                have sl := l8_of M.length
                have sz := z8_of M.length
                have st := t8_of M.length
                have KS : Hid (∀ W, Gr wr W → W.cell? ⟨kc, i * 2 + 1, none⟩ = some (.slice (some ⟨g2, 0, none⟩) M.length (M.length + 8))) := Hid.mk (fun W q => (hrow.out W (G.out.trans q)) 1 _ rfl)
                go_upto_region 24 with fail
                have d1 : Gr wr wr.drew := (Gr.refl _).drew
                refine wp_region_held_drew (S := (fun W => W.cell? ⟨kc, i * 2 + 1, none⟩ = some (.slice (some ⟨g2, 0, none⟩) M.length (M.length + 8)))) (by kernel_rfl) (KS.out _ d1) (fun hHeld => ?_)
                refine wpAnyH_take (i := 0) (oi := { dst := some 175, op := Op.move (Operand.tmp 8), type := 23, pos := "law.go:123", after := #[], guard := none }) (v := ?_) rfl (by kernel_rfl) (by kernel_rfl) (by kernel_rfl) (fun _ _ _ h => h) (Or.inl ⟨by rfl, ?_⟩) (by assumption) ?_
                rotate_left
                · intro w hSw; (try dsimp only at hSw); go_simp; first | done | with_reducible rfl
                try simp only [Act.put, List.setIfInBounds_toArray, List.set_cons_zero, List.set_cons_succ]
                refine wpAnyH_take (i := 1) (oi := { dst := some 176, op := Op.move (Operand.tmp 9), type := 3, pos := "law.go:123", after := #[], guard := none }) (v := ?_) rfl (by kernel_rfl) (by kernel_rfl) (by kernel_rfl) (fun _ _ _ h => h) (Or.inl ⟨by rfl, ?_⟩) (by assumption) ?_
                rotate_left
                · intro w hSw; (try dsimp only at hSw); go_simp; first | done | with_reducible rfl
                try simp only [Act.put, List.setIfInBounds_toArray, List.set_cons_zero, List.set_cons_succ]
                refine wpAnyH_take (i := 2) (oi := { dst := some 177, op := Op.indexAddr 23 (Operand.tmp 175) (Operand.tmp 176), type := 0, pos := "law.go:123", after := #[{ on := 0, ground := Ground.data }, { on := 1, ground := Ground.data }], guard := none }) (v := ?_) rfl (by kernel_rfl) (by kernel_rfl) (by kernel_rfl) (fun _ _ _ h => h) (Or.inl ⟨by rfl, ?_⟩) (by assumption) ?_
                rotate_left
                · intro w hSw; (try dsimp only at hSw); go_simp; first | done | with_reducible rfl
                try simp only [Act.put, List.setIfInBounds_toArray, List.set_cons_zero, List.set_cons_succ]
                refine wpAnyH_take (i := 3) (oi := { dst := some 178, op := Op.fieldAddr 52 (Operand.tmp 177) 1, type := 0, pos := "law.go:123", after := #[{ on := 2, ground := Ground.data }], guard := none }) (v := ?_) rfl (by kernel_rfl) (by kernel_rfl) (by kernel_rfl) (fun _ _ _ h => h) (Or.inl ⟨by rfl, ?_⟩) (by assumption) ?_
                rotate_left
                · intro w hSw; (try dsimp only at hSw); go_simp; first | done | with_reducible rfl
                try simp only [Act.put, List.setIfInBounds_toArray, List.set_cons_zero, List.set_cons_succ]
                refine wpAnyH_take (i := 4) (oi := { dst := some 179, op := Op.load 50 (Operand.tmp 178), type := 50, pos := "law.go:123", after := #[{ on := 3, ground := Ground.data }], guard := none }) (v := ?_) rfl (by kernel_rfl) (by kernel_rfl) (by kernel_rfl) (fun _ _ _ h => h) (Or.inl ⟨by rfl, ?_⟩) (by assumption) ?_
                rotate_left
                · intro w hSw; (try dsimp only at hSw); go_simp; first | done | with_reducible rfl
                try simp only [Act.put, List.setIfInBounds_toArray, List.set_cons_zero, List.set_cons_succ]
                refine wpAnyH_take (i := 5) (oi := { dst := some 180, op := Op.move (Operand.tmp 8), type := 23, pos := "law.go:123", after := #[], guard := none }) (v := ?_) rfl (by kernel_rfl) (by kernel_rfl) (by kernel_rfl) (fun _ _ _ h => h) (Or.inl ⟨by rfl, ?_⟩) (by assumption) ?_
                rotate_left
                · intro w hSw; (try dsimp only at hSw); go_simp; first | done | with_reducible rfl
                try simp only [Act.put, List.setIfInBounds_toArray, List.set_cons_zero, List.set_cons_succ]
                refine wpAnyH_take (i := 6) (oi := { dst := some 181, op := Op.move (Operand.tmp 9), type := 3, pos := "law.go:123", after := #[], guard := none }) (v := ?_) rfl (by kernel_rfl) (by kernel_rfl) (by kernel_rfl) (fun _ _ _ h => h) (Or.inl ⟨by rfl, ?_⟩) (by assumption) ?_
                rotate_left
                · intro w hSw; (try dsimp only at hSw); go_simp; first | done | with_reducible rfl
                try simp only [Act.put, List.setIfInBounds_toArray, List.set_cons_zero, List.set_cons_succ]
                refine wpAnyH_take (i := 7) (oi := { dst := some 182, op := Op.indexAddr 23 (Operand.tmp 180) (Operand.tmp 181), type := 0, pos := "law.go:123", after := #[{ on := 5, ground := Ground.data }, { on := 6, ground := Ground.data }], guard := none }) (v := ?_) rfl (by kernel_rfl) (by kernel_rfl) (by kernel_rfl) (fun _ _ _ h => h) (Or.inl ⟨by rfl, ?_⟩) (by assumption) ?_
                rotate_left
                · intro w hSw; (try dsimp only at hSw); go_simp; first | done | with_reducible rfl
                try simp only [Act.put, List.setIfInBounds_toArray, List.set_cons_zero, List.set_cons_succ]
                refine wpAnyH_take (i := 8) (oi := { dst := some 183, op := Op.fieldAddr 52 (Operand.tmp 182) 1, type := 0, pos := "law.go:123", after := #[{ on := 7, ground := Ground.data }], guard := none }) (v := ?_) rfl (by kernel_rfl) (by kernel_rfl) (by kernel_rfl) (fun _ _ _ h => h) (Or.inl ⟨by rfl, ?_⟩) (by assumption) ?_
                rotate_left
                · intro w hSw; (try dsimp only at hSw); go_simp; first | done | with_reducible rfl
                try simp only [Act.put, List.setIfInBounds_toArray, List.set_cons_zero, List.set_cons_succ]
                refine wpAnyH_take (i := 9) (oi := { dst := some 184, op := Op.load 50 (Operand.tmp 183), type := 50, pos := "law.go:123", after := #[{ on := 8, ground := Ground.data }], guard := none }) (v := ?_) rfl (by kernel_rfl) (by kernel_rfl) (by kernel_rfl) (fun _ _ _ h => h) (Or.inl ⟨by rfl, ?_⟩) (by assumption) ?_
                rotate_left
                · intro w hSw; (try dsimp only at hSw); go_simp; first | done | with_reducible rfl
                try simp only [Act.put, List.setIfInBounds_toArray, List.set_cons_zero, List.set_cons_succ]
                refine wpAnyH_take (i := 10) (oi := { dst := some 185, op := Op.call { callee := Callee.builtin Builtin.len, args := #[Operand.tmp 184], argTypes := #[50] }, type := 3, pos := "law.go:123", after := #[{ on := 9, ground := Ground.data }], guard := none }) (v := ?_) rfl (by kernel_rfl) (by kernel_rfl) (by kernel_rfl) (fun _ _ _ h => h) (Or.inl ⟨by rfl, ?_⟩) (by assumption) ?_
                rotate_left
                · intro w hSw; (try dsimp only at hSw); go_simp; first | done | with_reducible rfl
                try simp only [Act.put, List.setIfInBounds_toArray, List.set_cons_zero, List.set_cons_succ]
                refine wpAnyH_take (i := 11) (oi := { dst := some 186, op := Op.binOp BinOp.add 3 (Operand.tmp 185) (Operand.const (Value.int IntKind.i64 8)) 3, type := 3, pos := "law.go:123", after := #[{ on := 10, ground := Ground.data }], guard := none }) (v := ?_) rfl (by kernel_rfl) (by kernel_rfl) (by kernel_rfl) (fun _ _ _ h => h) (Or.inl ⟨by rfl, ?_⟩) (by assumption) ?_
                rotate_left
                · intro w hSw; (try dsimp only at hSw); go_simp; first | done | with_reducible rfl
                try simp only [Act.put, List.setIfInBounds_toArray, List.set_cons_zero, List.set_cons_succ]
                refine wpAnyH_take (i := 12) (oi := { dst := some 187, op := Op.slice 50 (Operand.tmp 179) none (some (Operand.tmp 186)) none, type := 50, pos := "law.go:123", after := #[{ on := 4, ground := Ground.data }, { on := 11, ground := Ground.data }], guard := none }) (v := ?_) rfl (by kernel_rfl) (by kernel_rfl) (by kernel_rfl) (fun _ _ _ h => h) (Or.inl ⟨by rfl, ?_⟩) (by assumption) ?_
                rotate_left
                · intro w hSw; (try dsimp only at hSw); go_simp; first | done | with_reducible rfl
                try simp only [Act.put, List.setIfInBounds_toArray, List.set_cons_zero, List.set_cons_succ]
                refine wpAnyH_take (i := 13) (oi := { dst := some 12, op := Op.assign (Operand.tmp 187), type := 50, pos := "law.go:123", after := #[{ on := 12, ground := Ground.data }, { on := 0, ground := Ground.phase }, { on := 1, ground := Ground.phase }, { on := 2, ground := Ground.phase }, { on := 3, ground := Ground.phase }, { on := 4, ground := Ground.phase }, { on := 5, ground := Ground.phase }, { on := 6, ground := Ground.phase }, { on := 7, ground := Ground.phase }, { on := 8, ground := Ground.phase }, { on := 9, ground := Ground.phase }, { on := 10, ground := Ground.phase }, { on := 11, ground := Ground.phase }, { on := 12, ground := Ground.phase }], guard := none }) (v := ?_) rfl (by kernel_rfl) (by kernel_rfl) (by kernel_rfl) (fun _ _ _ h => h) (Or.inl ⟨by rfl, ?_⟩) (by assumption) ?_
                rotate_left
                · intro w hSw; (try dsimp only at hSw); go_simp; first | done | with_reducible rfl
                try simp only [Act.put, List.setIfInBounds_toArray, List.set_cons_zero, List.set_cons_succ]
                refine wpAnyH_done (by kernel_rfl) ?_ _
                clear hHeld KS sw sx sl sz st
                replace G := Hid.mk (G.out.trans d1)
                clear d1
                generalize wr.drew = VV at *
                have e3 : VV.cell? ⟨kc, i * 2 + 1, none⟩ = some (.slice (some ⟨g2, 0, none⟩) M.length (M.length + 8)) := (hrow.out VV G.out) 1 _ rfl
                go_upto_region 26 with fail
                clear e3
                have G9 := G
                clear G
                go_loopw [4, 13] (fun y x wr => ∃ k : Nat, y = .bool true ∧ x = .int .i64 k ∧ M.length ≤ k ∧ k ≤ M.length + 8 ∧ Hid (Gr W0 wr)) (fun _ x _ => M.length + 8 - (intOf x).toNat)
                case atStart => exact ⟨M.length, rfl, rfl, by omega, by omega, G9⟩
                case round =>
                  clear G9
                  obtain ⟨k, rfl, rfl, hk1, hk0, G⟩ := hrel
                  by_cases hk2 : k < M.length + 8
                  · have hj1 : (k : Int) < (M.length : Int) + 8 := by omega
                    have hel := elem_atL ins_len (A2.out.gr G.out) k _ (marked_pastL k hk1 hk2)
                    have e0 : wr.cell? ⟨g2, k * 5, none⟩ = some (.int .u8 0) := hel 0 _ rfl
                    have e1 : wr.cell? ⟨g2, k * 5 + 1, none⟩ = some (.int .i64 0) := hel 1 _ rfl
                    have e2 : wr.cell? ⟨g2, k * 5 + 1 + 1, none⟩ = some (.int .i64 0) := hel 2 _ rfl
                    have e3 : wr.cell? ⟨g2, k * 5 + 1 + 1 + 1, none⟩ = some (.int .i64 0) := hel 3 _ rfl
                    have e4 : wr.cell? ⟨g2, k * 5 + 1 + 1 + 1 + 1, none⟩ = some (.int .i64 0) := hel 4 _ rfl
                    clear hel
                    go_wp2_with fail
                    exact ⟨⟨k + 1, rfl, by go_num, by omega, by omega, G⟩, by simp [intOf]; omega⟩
                  · have hj1 : ¬ (k : Int) < (M.length : Int) + 8 := by omega
                    go_wp2_with fail
                    exact ⟨⟨i + 1, rfl, by go_num, by omega, G⟩, by simp [intOf]; omega⟩
          · have hin : (m.comps.length : Int) ≤ (i : Int) := by omega
            obtain ⟨v, hv, hq⟩ := (hI.out.cd i hlt).2 (by omega)
            have hq' : v = cpZ := hq
            subst hq'
            clear hq
            have hrow := Hid.mk (fun (W : World) (q : Gr W0 W) => elem_atL cp_len (hI.out.c.gr q) i _ hv)
            have e0 : wr.cell? ⟨kc, i * 2, none⟩ = some (.slice none 0 0) := (hrow.out wr G.out) 0 _ rfl
            have e1 : wr.cell? ⟨kc, i * 2 + 1, none⟩ = some (.slice none 0 0) := (hrow.out wr G.out) 1 _ rfl
            clear hrow hv
            go_wp2_with fail
            exact ⟨⟨i + 1, rfl, by go_num, by omega, G⟩, by simp [intOf]; omega⟩
        · have hi1 : ¬ (i : Int) < (m.comps.length : Int) + 8 := by omega
          have c0 : wr.cell? ⟨w.heap.size, 2, none⟩ = some (.slice (some ⟨kg, 0, none⟩) m.gates.length (m.gates.length + 8)) := (BM.out.gr G.out).2.1 2
          have uw : wrap64 ((m.gates.length : Int) + 8) = (m.gates.length : Int) + 8 := w8_of _ l3
          have ux : IntKind.i64.wrap ((m.gates.length : Int) + 8) = (m.gates.length : Int) + 8 := x8_of _ l3
          have ul := l8_of m.gates.length
          go_upto_region 31 with fail
          clear c0 uw ux ul
          have G5 := G
          clear G
          go_loopw [4, 15] (fun y x wr => ∃ i : Nat, y = .bool true ∧ x = .int .i64 i ∧ i ≤ m.gates.length + 8 ∧ Hid (Gr W0 wr)) (fun _ x _ => m.gates.length + 8 - (intOf x).toNat)
          case atStart => exact ⟨0, rfl, rfl, by omega, G5⟩
          case round =>
            clear G5
            obtain ⟨i, rfl, rfl, hi, G⟩ := hrel
            by_cases hlt : i < m.gates.length + 8
            · have hi1 : (i : Int) < (m.gates.length : Int) + 8 := by omega
              have c0 : wr.cell? ⟨w.heap.size, 2, none⟩ = some (.slice (some ⟨kg, 0, none⟩) m.gates.length (m.gates.length + 8)) := (BM.out.gr G.out).2.1 2
              by_cases hn : i < m.gates.length
              · have hin : ¬ (m.gates.length : Int) ≤ (i : Int) := by omega
                obtain ⟨v, hv, _, _, B1, B2⟩ := (hI.out.gd i hlt).1 hn
                have hfit := hF.out.gs _ (List.getElem_mem hn)
                have sfit : m.gates[i].args.length ≤ 281474976710648 := by omega
                have tfit : m.gates[i].res.length ≤ 281474976710648 := by omega
                clear hfit
                replace B1 := Hid.mk B1
                replace B2 := Hid.mk B2
                have hrow := Hid.mk (fun (W : World) (q : Gr W0 W) => elem_atL gt_len (hI.out.g.gr q) i _ hv)
                clear hv
                have e2 : wr.cell? ⟨kg, i * 4 + 1 + 1, none⟩ = some (.slice v.x.a v.x.l v.x.c) := (hrow.out wr G.out) 2 _ rfl
                have hcl := Hid.mk (blank_any _ _ _ wr (B1.out.keep (Kt.gr G.out)) sfit)
                go_wp2_with fail
                refine hcl.out.mono ?_
                rintro x wq ⟨rfl, q9⟩
                replace G := Hid.mk (G.out.trans q9)
                clear q9 hcl e2 c0
                have e3 : wq.cell? ⟨kg, i * 4 + 1 + 1 + 1, none⟩ = some (.slice v.y.a v.y.l v.y.c) := (hrow.out wq G.out) 3 _ rfl
                have hcl := Hid.mk (blank_any _ _ _ wq (B2.out.keep (Kt.gr G.out)) tfit)
                go_wp2_with fail
                refine hcl.out.mono ?_
                rintro x wp ⟨rfl, q9⟩
                replace G := Hid.mk (G.out.trans q9)
                clear q9 hcl e3 hrow B1 B2
                go_wp2_with fail
                exact ⟨⟨i + 1, rfl, by go_num, by omega, G⟩, by simp [intOf]; omega⟩
              · have hin : (m.gates.length : Int) ≤ (i : Int) := by omega
                obtain ⟨v, hv, hq⟩ := (hI.out.gd i hlt).2 (by omega)
                have hq' : v = gtZ := hq
                subst hq'
                clear hq
                have hrow := Hid.mk (fun (W : World) (q : Gr W0 W) => elem_atL gt_len (hI.out.g.gr q) i _ hv)
                have e0 : wr.cell? ⟨kg, i * 4, none⟩ = some (.int .i64 0) := (hrow.out wr G.out) 0 _ rfl
                have e1 : wr.cell? ⟨kg, i * 4 + 1, none⟩ = some (.int .i64 0) := (hrow.out wr G.out) 1 _ rfl
                have e2 : wr.cell? ⟨kg, i * 4 + 1 + 1, none⟩ = some (.slice none 0 0) := (hrow.out wr G.out) 2 _ rfl
                have e3 : wr.cell? ⟨kg, i * 4 + 1 + 1 + 1, none⟩ = some (.slice none 0 0) := (hrow.out wr G.out) 3 _ rfl
                clear hrow hv
                go_wp2_with fail
                exact ⟨⟨i + 1, rfl, by go_num, by omega, G⟩, by simp [intOf]; omega⟩
            · have hi1 : ¬ (i : Int) < (m.gates.length : Int) + 8 := by omega
              go_wp2_with fail
              go_ret
              exact ⟨rfl, G0.out.trans G.out⟩
end Q
end Go.Proofs.YtmmakknhaacplaaGreatDoor


/-
  Programs that are lent: lent, walked again: its lists lie apart.
-/
namespace Go.Proofs.YtmmakknhaacplaaGreatDoor
namespace Q
open Go.RowKit

/-- A row's lists lie between two blocks. -/
def Btw {α β : Type} (sel : β → Sl) (a b : Nat) (L : List α) (l : List β) : Prop := ∀ i, i < L.length → ∀ v, l[i]? = some v → ∃ g, (sel v).a = some ⟨g, 0, none⟩ ∧ a < g ∧ g < b
theorem sep_mono {α β : Type} {sel : β → Sl} {a b b' : Nat} {L : List α} {l : List β} (h : Btw sel a b L l) (hb : b ≤ b') : Btw sel a b' L l := fun i hi v hv => by
  obtain ⟨g, h1, h2, h3⟩ := h i hi v hv
  exact ⟨g, h1, h2, Nat.lt_of_lt_of_le h3 hb⟩
theorem btw_of {α β γ : Type} {sel : β → Sl} {ok : World → α → β → Prop} {mk : World → β → Prop} {W : World} {L : List α} {l : List β} {n k : Nat} {vals : γ → List Value} {M : γ} (el : α → List γ) (h : Done ok mk W L l n) (hn : L.length ≤ n) (hs : ∀ a b, ok W a b → LsOk vals M k W (el a) (sel b)) : Btw sel k W.heap.size L l := fun i hi v hv => by
  obtain ⟨v', h1, h2⟩ := (h i (by omega)).1 hi
  rw [hv] at h1
  cases h1
  obtain ⟨g, e, h3, h4⟩ := hs _ _ h2
  exact ⟨g, by rw [e], h3, h4.1⟩
def Btw2 {α β : Type} (s1 s2 : β → Sl) (a b : Nat) (L : List α) (l : List β) : Prop := Btw s1 a b L l ∧ Btw s2 a b L l
theorem sep_mono2 {α β : Type} {s1 s2 : β → Sl} {a b b' : Nat} {L : List α} {l : List β} (h : Btw2 s1 s2 a b L l) (hb : b ≤ b') : Btw2 s1 s2 a b' L l := ⟨sep_mono h.1 hb, sep_mono h.2 hb⟩
theorem sep_r {k n : Nat} {mk : World → RgV → Prop} {W : World} {L : List PReg} {l : List RgV} (h : Done (RgOkL k) mk W L l n) (hn : L.length ≤ n) : Btw RgV.s k W.heap.size L l := btw_of (fun r : PReg => r.slots) h hn (fun _ _ q => q.2.2.2)
theorem sep_c {k n : Nat} {mk : World → CpV → Prop} {W : World} {L : List PComp} {l : List CpV} (h : Done (CpOkL k) mk W L l n) (hn : L.length ≤ n) : Btw2 CpV.r CpV.k k W.heap.size L l := ⟨btw_of (fun r : PComp => r.roots) h hn (fun _ _ q => q.1), btw_of (fun r : PComp => r.code) h hn (fun _ _ q => q.2)⟩
theorem sep_g {k n : Nat} {mk : World → GtV → Prop} {W : World} {L : List PGate} {l : List GtV} (h : Done (GtOkL k) mk W L l n) (hn : L.length ≤ n) : Btw2 GtV.x GtV.y k W.heap.size L l := ⟨btw_of (fun r : PGate => r.args) h hn (fun _ _ q => q.2.2.1), btw_of (fun r : PGate => r.res) h hn (fun _ _ q => q.2.2.2)⟩
/-- A lent program's lists lie apart. -/
structure LeSep (lo kr kc kg hi : Nat) (m : PImg) (lr : List RgV) (lc : List CpV) (lg : List GtV) : Prop where
  a : lo < kr
  b : kr < kc
  c : kc < kg
  r : Btw RgV.s kr kc m.regs lr
  cs : Btw2 CpV.r CpV.k kc kg m.comps lc
  g : Btw2 GtV.x GtV.y kg hi m.gates lg
theorem setCell_size (W : World) (p : Addr) (v : Value) : (W.setCell p v).heap.size = W.heap.size := by unfold World.setCell; simp
set_option maxRecDepth 100000 in
set_option maxHeartbeats 16000000 in
theorem lentS_any (m : PImg) (ra ca ga : Option Addr) (rc cc gc : Nat) (w : World) (hm : ImgIn w.heap.size w ra ca ga m) (hF : TwFit m) : Calls Tryz.prog 5 #[.agg [Value.slice ra m.regs.length rc, .slice ca m.comps.length cc, .slice ga m.gates.length gc, .int .i64 m.depth].toArray] w fun x w' => ∃ kk kr kc kg lr lc lg, x = .returned (.agg #[.slice (some ⟨kr, 0, none⟩) m.regs.length (m.regs.length + 8), .slice (some ⟨kc, 0, none⟩) m.comps.length (m.comps.length + 8), .slice (some ⟨kg, 0, none⟩) m.gates.length (m.gates.length + 8), .int .i64 m.depth]) ∧ Gr w w' ∧ LeIn kk kr kc kg w' m lr lc lg ∧ ∃ hi, LeSep (w.heap.size + 1 + 1) kr kc kg hi m lr lc lg := by
  have l1 : m.regs.length ≤ 281474976710648 := by have := hF.r; omega
  have l2 : m.comps.length ≤ 281474976710648 := by have := hF.c; omega
  have l3 : m.gates.length ≤ 281474976710648 := by have := hF.g; omega
  have u1w : wrap64 ((m.regs.length : Int) + 8) = (m.regs.length : Int) + 8 := w8_of _ (by omega)
  have u1x : IntKind.i64.wrap ((m.regs.length : Int) + 8) = (m.regs.length : Int) + 8 := x8_of _ (by omega)
  have u1l : (m.regs.length : Int) ≤ (m.regs.length : Int) + 8 := by omega
  have u2w : wrap64 ((m.comps.length : Int) + 8) = (m.comps.length : Int) + 8 := w8_of _ (by omega)
  have u2x : IntKind.i64.wrap ((m.comps.length : Int) + 8) = (m.comps.length : Int) + 8 := x8_of _ (by omega)
  have u2l : (m.comps.length : Int) ≤ (m.comps.length : Int) + 8 := by omega
  have u3w : wrap64 ((m.gates.length : Int) + 8) = (m.gates.length : Int) + 8 := w8_of _ (by omega)
  have u3x : IntKind.i64.wrap ((m.gates.length : Int) + 8) = (m.gates.length : Int) + 8 := x8_of _ (by omega)
  have u3l : (m.gates.length : Int) ≤ (m.gates.length : Int) + 8 := by omega
  replace hm := Hid.mk hm
  replace hF := Hid.mk hF
  have eim := Hid.mk (show [Value.slice ra m.regs.length rc, .slice ca m.comps.length cc, .slice ga m.gates.length gc, .int .i64 m.depth] = [Value.slice ra m.regs.length rc, .slice ca m.comps.length cc, .slice ga m.gates.length gc, .int .i64 m.depth] from rfl)
  generalize hIM : [Value.slice ra m.regs.length rc, .slice ca m.comps.length cc, .slice ga m.gates.length gc, .int .i64 m.depth] = im at eim
  go_enter Tryz.func5, Tryz.ntmps5
  go_upto_region 1 with fail
  refine wp_world (fun W => At W w.heap.size im.toArray ∧ At W (w.heap.size + 1) (List.toArray [Value.slice none 0 0, .slice none 0 0, .slice none 0 0, .int .i64 0]) ∧ Gr w W ∧ W.heap.size = w.heap.size + 1 + 1) ⟨by rw [← hIM]; exact (At.at_ w _ _ rfl).alloc _, At.at_ _ _ _ (by simp), ((Gr.refl w).alloc _).alloc _, by simp⟩ ?_
  rintro Wa ⟨b0, b1, G, hs⟩
  replace b0 := Hid.mk b0
  replace b1 := Hid.mk b1
  replace G := Hid.mk G
  have c3 : Wa.cell? ⟨w.heap.size, 3, none⟩ = some (.int .i64 m.depth) := by rw [b0.out.2.1, ← hIM]; rfl
  go_upto_region 2 with fail
  clear c3
  refine wp_world (fun W => Ls w im [Value.slice none 0 0, .slice none 0 0, .slice none 0 0, .int .i64 m.depth] W) ⟨b0.out.alloc _, b1.out.alloc _, At.at_ _ _ _ hs, G.out.alloc _⟩ ?_
  intro Wb S0
  replace S0 := Hid.mk S0
  clear b0 b1 G hs
  have c0 : Wb.cell? ⟨w.heap.size, 0, none⟩ = some (.slice ra m.regs.length rc) := by rw [S0.out.m.2.1, ← hIM]; rfl
  have hmk := make_k (vals := RgV.vals) (Z := rgZ) (t := 22) (e := 47) (k := 4) (b := 56) (by omega) rg_len Tryz.underlying22 (by kernel_rfl) (m.regs.length + 8) (by omega) hF.out.r Wb
  rw [show ((m.regs.length + 8 : Nat) : Int) = (m.regs.length : Int) + 8 by omega] at hmk
  have hA := Hid.mk (At.new Wb (rowV [] RgV.vals (List.replicate (m.regs.length + 8) rgZ)).toArray 47)
  have hG := Hid.mk ((Gr.refl Wb).alloc (.cells (rowV [] RgV.vals (List.replicate (m.regs.length + 8) rgZ)).toArray 47))
  have krl : w.heap.size + 1 + 1 < Wb.heap.size := S0.out.o.1
  generalize Wb.alloc _ = Wc at *
  replace S0 := Hid.mk (S0.out.grow hG.out)
  have hks := Hid.mk (Nat.le_refl Wb.heap.size)
  go_upto_region 4 with fail
  clear hmk c0
  generalize hk0 : Wb.heap.size = kr at *
  replace hks : Hid (Wb.heap.size ≤ kr) := Hid.mk (Nat.le_of_eq hk0)
  clear hk0
  go_loopw [5] (fun x wr => ∃ (i : Nat) (l : List RgV), x = .int .i64 i ∧ i ≤ m.regs.length + 8 ∧ Hid (Ls w im [Value.slice none 0 0, .slice none 0 0, .slice none 0 0, .int .i64 m.depth] wr) ∧ Hid (At wr kr (rowV [] RgV.vals l).toArray) ∧ Hid (Row3 (RgOkL kr) (isV rg77) rgZ (m.regs.length + 8) wr m.regs l i) ∧ Hid (Gr Wb wr)) (fun x _ => m.regs.length + 8 - (intOf x).toNat)
  case atStart => exact ⟨0, _, rfl, by omega, S0, hA, Hid.mk (Row3.zero _ _ _ _ _ _), hG⟩
  case round =>
    clear S0 hA hG
    obtain ⟨i, l, rfl, hi, S1, hR, D0, G⟩ := hrel
    by_cases hlt : i < m.regs.length + 8
    · have hi1 : (i : Int) < (m.regs.length : Int) + 8 := by omega
      have e9 := D0.out.rest i (Nat.le_refl _) hlt
      obtain ⟨hil, e9'⟩ := List.getElem?_eq_some_iff.1 e9
      have c1 : wr.cell? ⟨kr, i * 4, none⟩ = some (.int .u64 0) := elem_atL rg_len hR.out i _ e9 0 _ rfl
      have f1 : wr.frozen? ⟨kr, i * 4, none⟩ = false := hR.out.2.2 _
      replace hR := Hid.mk (At.setOne rg_len hR.out i hil rg77 0 (.int .u64 77) (by omega) (by rw [e9']; rfl) (i * 4) (by omega))
      replace S1 := Hid.mk (S1.out.set kr (i * 4) (.int .u64 77) krl)
      replace D0 := Hid.mk (D0.out.keep (rgL_keep ((Kt.refl kr wr).set kr (i * 4) (.int .u64 77) (.inl (Nat.le_refl _)))) (fun _ h => h))
      replace G := Hid.mk (G.out.setCell kr (i * 4) (.int .u64 77) hks.out)
      clear e9 e9'
      go_upto_region 7 with fail
      clear c1 f1
      generalize World.setCell _ _ _ = V1 at *
      by_cases hn : i < m.regs.length
      · have hin : (i : Int) < (m.regs.length : Int) := by omega
        obtain ⟨rb, off, sa, sc, hra, hb1, _, k0, k1, k2, k3, kf⟩ := hm.out.regs i hn
        subst hra
        have hfit := hF.out.rs _ (List.getElem_mem hn)
        generalize hrg : m.regs[i] = rr at k0 k1 k2 k3 kf hfit
        have sfit : rr.slots.length ≤ 281474976710648 := by omega
        have sfb := hfit
        replace hrg := Hid.mk hrg
        replace k0 := Hid.mk k0
        replace k1 := Hid.mk k1
        replace k2 := Hid.mk k2
        replace k3 := Hid.mk k3
        replace kf := Hid.mk kf
        have c0 : V1.cell? ⟨w.heap.size, 0, none⟩ = some (.slice (some ⟨rb, off, none⟩) m.regs.length rc) := by rw [S1.out.m.2.1, ← hIM]; rfl
        have d0 := ((S1.out.gr.below.cell (p := ⟨rb, off + i * 4, none⟩) hb1).trans k0.out)
        have d1 := ((S1.out.gr.below.cell (p := ⟨rb, off + i * 4 + 1, none⟩) hb1).trans k1.out)
        have d2 := ((S1.out.gr.below.cell (p := ⟨rb, off + i * 4 + 1 + 1, none⟩) hb1).trans k2.out)
        have d3 := ((S1.out.gr.below.cell (p := ⟨rb, off + i * 4 + 1 + 1 + 1, none⟩) hb1).trans k3.out)
        go_upto_region 9 with fail
        clear c0 d0 d1 d2 d3
        have bx := Hid.mk (At.new V1 (List.toArray [Value.int .u64 rr.b, .int .u64 rr.n, .string (str rr.data), .slice sa rr.slots.length sc]) 47)
        have K1 := Hid.mk (Kt.refl kr V1)
        have hkx : kr < V1.heap.size := hR.out.1
        have hkw := Hid.mk (Nat.le_refl V1.heap.size)
        have hgx := Hid.mk G.out.below.size
        have q2 := (Gr.refl V1).alloc (.cells (List.toArray [Value.int .u64 rr.b, .int .u64 rr.n, .string (str rr.data), .slice sa rr.slots.length sc]) 47)
        replace S1 := Hid.mk (S1.out.grow q2)
        replace hR := Hid.mk (hR.out.gr q2)
        replace K1 := Hid.mk (K1.out.trans (Kt.gr q2))
        replace G := Hid.mk (G.out.trans q2)
        clear q2
        generalize V1.alloc _ = V2 at *
        generalize hx0 : V1.heap.size = kx at *
        replace hkw : Hid (V1.heap.size ≤ kx) := Hid.mk (Nat.le_of_eq hx0)
        clear hx0
        have c1 : V2.cell? ⟨kx, 3, none⟩ = some (.slice sa rr.slots.length sc) := bx.out.2.1 3
        have sw : wrap64 ((rr.slots.length : Int) + 8) = (rr.slots.length : Int) + 8 := w8_of _ sfit
        have sx : IntKind.i64.wrap ((rr.slots.length : Int) + 8) = (rr.slots.length : Int) + 8 := x8_of _ sfit
        have sl : (rr.slots.length : Int) ≤ (rr.slots.length : Int) + 8 := by omega
        obtain ⟨hmk, hcp, so, q1⟩ := made_copy (b := 64) (Z := slotZ) (by omega) slt_len slt_one 3 Tryz.underlying45 (by kernel_rfl) (by kernel_rfl) rr.slots sa sc w.heap.size kx V2 (kf.out.below S1.out.gr.below) S1.out.gr.below.size sfb sfit bx.out.1
        replace so := Hid.mk so
        have q9 := Hid.mk ((Gr.refl V2).alloc (.cells (rowV [] PSlot.vals (List.replicate (rr.slots.length + 8) slotZ)).toArray 68))
        replace q1 := Hid.mk q1
        generalize World.setCells _ _ _ _ = V3 at *
        generalize V2.alloc _ = V9 at *
        go_upto_region 10 with fail
        clear hmk c1
        have c1 : V9.cell? ⟨kx, 3, none⟩ = some (.slice sa rr.slots.length sc) := (bx.out.gr q9.out).2.1 3
        go_upto_region 11 with fail
        clear hcp c1 q9
        generalize hsk : V2.heap.size = sk at *
        replace hsk := Hid.mk (Nat.le_of_eq hsk)
        have c1 : V3.cell? ⟨kx, 3, none⟩ = some (.slice sa rr.slots.length sc) := (bx.out.gr q1.out).2.1 3
        obtain ⟨g9, e9, hk9, A9⟩ := so.out
        cases e9
        clear so
        have hcl := Hid.mk (mark_any V2 V3 sk rr.slots 8 (rr.slots.length * 8) 8 rfl A9 q1.out hsk.out (by omega))
        clear A9 q1
        go_wp2_with fail
        refine hcl.out.mono ?_
        rintro x V4 ⟨rfl, q4, A4⟩
        clear c1 hcl
        have so := Hid.mk (show LsOk PSlot.vals slot77 kx V4 rr.slots ⟨some ⟨sk, 0, none⟩, rr.slots.length, rr.slots.length + 8⟩ from ⟨sk, rfl, hk9, A4⟩)
        clear A4 hk9 hsk
        replace bx := Hid.mk (bx.out.gr q4)
        replace S1 := Hid.mk (S1.out.grow q4)
        replace hR := Hid.mk (hR.out.gr q4)
        replace K1 := Hid.mk (K1.out.trans (Kt.gr q4))
        replace G := Hid.mk (G.out.trans q4)
        clear q4
        have c1 : V4.cell? ⟨kx, 3, none⟩ = some (.slice sa rr.slots.length sc) := bx.out.2.1 3
        have f1 : V4.frozen? ⟨kx, 3, none⟩ = false := bx.out.2.2 3
        go_upto_region 13 with fail
        clear c1 f1
        have x9 := Hid.mk ((Kt.refl kx V4).set kx 3 (.slice (some ⟨sk, 0, none⟩) rr.slots.length (rr.slots.length + 8)) (.inl (Nat.le_refl _)))
        replace so := Hid.mk (so.out.keep x9.out)
        replace bx := Hid.mk (show At (World.setCell V4 ⟨kx, 3, none⟩ (.slice (some ⟨sk, 0, none⟩) rr.slots.length (rr.slots.length + 8))) kx (List.toArray (RgV.vals (⟨rr.b, rr.n, rr.data, ⟨some ⟨sk, 0, none⟩, rr.slots.length, rr.slots.length + 8⟩⟩ : RgV))) from bx.out.set 3 _ (by simp))
        replace S1 := Hid.mk (S1.out.set kx 3 (.slice (some ⟨sk, 0, none⟩) rr.slots.length (rr.slots.length + 8)) (by omega))
        replace hR := Hid.mk (hR.out.other (Nat.ne_of_lt hkx) 3 [.slice (some ⟨sk, 0, none⟩) rr.slots.length (rr.slots.length + 8)])
        replace K1 := Hid.mk (K1.out.set kx 3 (.slice (some ⟨sk, 0, none⟩) rr.slots.length (rr.slots.length + 8)) (.inr hkw.out))
        replace G := Hid.mk (G.out.setCell kx 3 (.slice (some ⟨sk, 0, none⟩) rr.slots.length (rr.slots.length + 8)) hgx.out)
        clear x9
        simp only [World.setCells] at hR
        generalize World.setCell _ _ _ = V5 at *
        refine wp_region_lit ?_
        refine wpList_plain rfl (fun K hK => ?_)
        go_simp
        with_reducible refine hK _ _ ?_
        clear hK K
        try simp only [Act.put, List.setIfInBounds_toArray, List.set_cons_zero, List.set_cons_succ]
        refine wpList_plain rfl (fun K hK => ?_)
        go_simp
        with_reducible refine hK _ _ ?_
        clear hK K
        try simp only [Act.put, List.setIfInBounds_toArray, List.set_cons_zero, List.set_cons_succ]
        refine wpList_plain rfl (fun K hK => ?_)
        refine wp_load_mid _ _ rfl _ 0 rfl (RgV.vals (⟨rr.b, rr.n, rr.data, ⟨some ⟨sk, 0, none⟩, rr.slots.length, rr.slots.length + 8⟩⟩ : RgV)) _ bx.out.range Tryz.underlying47 rfl (by kernel_rfl) (hK _ _ ?_)
        clear hK K
        try simp only [Act.put, List.setIfInBounds_toArray, List.set_cons_zero, List.set_cons_succ]
        refine wpList_plain rfl (fun K hK => ?_)
        go_simp
        with_reducible refine hK _ _ ?_
        clear hK K
        try simp only [Act.put, List.setIfInBounds_toArray, List.set_cons_zero, List.set_cons_succ]
        have hT := Hid.mk (hR.out.there (i * 4) 4 (by rw [row_len rg_len, List.length_set, D0.out.len]; simp; omega))
        have x9 := Hid.mk ((Kt.refl kx V5).sets kr (i * 4) (RgV.vals (⟨rr.b, rr.n, rr.data, ⟨some ⟨sk, 0, none⟩, rr.slots.length, rr.slots.length + 8⟩⟩ : RgV)) (.inl (by omega)))
        replace so := Hid.mk ((so.out.keep x9.out).mono (Nat.le_of_lt hkx))
        replace S1 := Hid.mk (S1.out.sets kr (i * 4) (RgV.vals (⟨rr.b, rr.n, rr.data, ⟨some ⟨sk, 0, none⟩, rr.slots.length, rr.slots.length + 8⟩⟩ : RgV)) krl)
        replace hR := Hid.mk (hR.out.setElem rg_len i (by rw [List.length_set, D0.out.len]; exact hlt) (⟨rr.b, rr.n, rr.data, ⟨some ⟨sk, 0, none⟩, rr.slots.length, rr.slots.length + 8⟩⟩ : RgV) (i * 4) (by simp))
        replace K1 := Hid.mk (K1.out.sets kr (i * 4) (RgV.vals (⟨rr.b, rr.n, rr.data, ⟨some ⟨sk, 0, none⟩, rr.slots.length, rr.slots.length + 8⟩⟩ : RgV)) (.inl (Nat.le_refl _)))
        replace G := Hid.mk (G.out.setCells kr hks.out (RgV.vals (⟨rr.b, rr.n, rr.data, ⟨some ⟨sk, 0, none⟩, rr.slots.length, rr.slots.length + 8⟩⟩ : RgV)) (i * 4))
        rw [List.set_set] at hR
        refine wpList_plain rfl (fun K hK => ?_)
        refine wp_store_mid _ _ _ rfl _ _ (List.toArray (RgV.vals (⟨rr.b, rr.n, rr.data, ⟨some ⟨sk, 0, none⟩, rr.slots.length, rr.slots.length + 8⟩⟩ : RgV))) rfl rfl hT.out (by kernel_rfl) (all_oneCell_toArray (rg_one _)) (hK _ _ ?_)
        clear hK K hT x9 bx
        try simp only [Act.put]
        generalize World.setCells _ _ _ _ = V6 at *
        have D1 := Hid.mk ((D0.out.keep (rgL_keep K1.out) (fun _ h => h)).next hlt (⟨rr.b, rr.n, rr.data, ⟨some ⟨sk, 0, none⟩, rr.slots.length, rr.slots.length + 8⟩⟩ : RgV) (fun _ => by rw [hrg.out]; exact ⟨rfl, rfl, rfl, so.out⟩) (fun h => by omega))
        clear K1 so D0 hrg k0 k1 k2 k3 kf sfit sfb hfit hkw hgx
        go_wp2_with fail
        exact ⟨⟨i + 1, _, by go_num, by omega, S1, hR, D1, G⟩, by simp [intOf]; omega⟩
      · have hin : ¬ (i : Int) < (m.regs.length : Int) := by omega
        have c0 : V1.cell? ⟨w.heap.size, 0, none⟩ = some (.slice ra m.regs.length rc) := by rw [S1.out.m.2.1, ← hIM]; rfl
        have D1 := Hid.mk (D0.out.next hlt rg77 (fun h => absurd h hn) (fun _ => rfl))
        go_wp2_with fail
        exact ⟨⟨i + 1, _, by go_num, by omega, S1, hR, D1, G⟩, by simp [intOf]; omega⟩
    · have hi1 : ¬ (i : Int) < (m.regs.length : Int) + 8 := by omega
      have ei : i = m.regs.length + 8 := by omega
      subst ei
      have SR := Hid.mk (sep_r D0.out.done (by omega))
      have DR := Hid.mk (Done.imp (ok' := RgOkL (w.heap.size + 1 + 1)) D0.out.done (fun a b h => ⟨h.1, h.2.1, h.2.2.1, h.2.2.2.mono (Nat.le_of_lt krl)⟩))
      have LR := Hid.mk D0.out.len
      have AR := hR
      clear hR D0 G hks
      generalize l = lr at *
      have c0 : wr.cell? ⟨w.heap.size, 0, none⟩ = some (.slice ra m.regs.length rc) := by rw [S1.out.m.2.1, ← hIM]; rfl
      have d1 : wr.cell? ⟨w.heap.size + 1 + 1, 0, none⟩ = some (.slice none 0 0) := S1.out.o.2.1 0
      have d2 : wr.frozen? ⟨w.heap.size + 1 + 1, 0, none⟩ = false := S1.out.o.2.2 0
      go_upto_region 15 with fail
      clear c0 d1 d2
      have K9 := Hid.mk ((Kt.refl (w.heap.size + 1 + 1) wr).set (w.heap.size + 1 + 1) 0 (.slice (some ⟨kr, 0, none⟩) m.regs.length (m.regs.length + 8)) (.inl (Nat.le_refl _)))
      have S0 : Hid (Ls w im [Value.slice (some ⟨kr, 0, none⟩) m.regs.length (m.regs.length + 8), .slice none 0 0, .slice none 0 0, .int .i64 m.depth] (wr.setCell ⟨w.heap.size + 1 + 1, 0, none⟩ (.slice (some ⟨kr, 0, none⟩) m.regs.length (m.regs.length + 8)))) := Hid.mk (S1.out.setO 0 (by simp) (.slice (some ⟨kr, 0, none⟩) m.regs.length (m.regs.length + 8)))
      clear S1
      replace DR := Hid.mk (DR.out.keep (rgL_keep K9.out) (fun _ h => h))
      replace AR := Hid.mk (AR.out.other (Nat.ne_of_gt krl) 0 [.slice (some ⟨kr, 0, none⟩) m.regs.length (m.regs.length + 8)])
      simp only [World.setCells] at AR
      clear K9
      replace SR := Hid.mk (sep_mono SR.out (Nat.le_of_eq (setCell_size wr ⟨w.heap.size + 1 + 1, 0, none⟩ (.slice (some ⟨kr, 0, none⟩) m.regs.length (m.regs.length + 8))).symm))
      generalize World.setCell _ _ _ = Wd at *
      have c0 : Wd.cell? ⟨w.heap.size, 1, none⟩ = some (.slice ca m.comps.length cc) := by rw [S0.out.m.2.1, ← hIM]; rfl
      have hmk := make_k (vals := CpV.vals) (Z := cpZ) (t := 23) (e := 52) (k := 2) (b := 48) (by omega) cp_len Tryz.underlying23 (by kernel_rfl) (m.comps.length + 8) (by omega) hF.out.c Wd
      rw [show ((m.comps.length + 8 : Nat) : Int) = (m.comps.length : Int) + 8 by omega] at hmk
      have hA := Hid.mk (At.new Wd (rowV [] CpV.vals (List.replicate (m.comps.length + 8) cpZ)).toArray 52)
      have hG := Hid.mk ((Gr.refl Wd).alloc (.cells (rowV [] CpV.vals (List.replicate (m.comps.length + 8) cpZ)).toArray 52))
      have kcl : w.heap.size + 1 + 1 < Wd.heap.size := S0.out.o.1
      generalize Wd.alloc _ = We at *
      replace S0 := Hid.mk (S0.out.grow hG.out)
      have hks := Hid.mk (Nat.le_refl Wd.heap.size)
      go_upto_region 17 with fail
      clear hmk c0
      generalize hk0 : Wd.heap.size = kc at *
      replace hks : Hid (Wd.heap.size ≤ kc) := Hid.mk (Nat.le_of_eq hk0)
      clear hk0
      go_loopw [9] (fun x wr => ∃ (i : Nat) (l : List CpV), x = .int .i64 i ∧ i ≤ m.comps.length ∧ Hid (Ls w im [Value.slice (some ⟨kr, 0, none⟩) m.regs.length (m.regs.length + 8), .slice none 0 0, .slice none 0 0, .int .i64 m.depth] wr) ∧ Hid (At wr kc (rowV [] CpV.vals l).toArray) ∧ Hid (Row3 (CpOkL kc) (isV cpZ) cpZ (m.comps.length + 8) wr m.comps l i) ∧ Hid (Gr Wd wr)) (fun x _ => m.comps.length - (intOf x).toNat)
      case atStart => exact ⟨0, _, rfl, by omega, S0, hA, Hid.mk (Row3.zero _ _ _ _ _ _), hG⟩
      case round =>
        clear S0 hA hG
        obtain ⟨i, l, rfl, hi, S1, hR, D0, G⟩ := hrel
        have c0 : wr.cell? ⟨w.heap.size, 1, none⟩ = some (.slice ca m.comps.length cc) := by rw [S1.out.m.2.1, ← hIM]; rfl
        by_cases hn : i < m.comps.length
        · have hlt : i < m.comps.length + 8 := by omega
          have hin : (i : Int) < (m.comps.length : Int) := by omega
          obtain ⟨rb, off, ra', rc', ka, kc', hca, hb1, _, k0, k1, kf, kl⟩ := hm.out.comps i hn
          subst hca
          have hfit := hF.out.cs _ (List.getElem_mem hn)
          generalize hrg : m.comps[i] = rr at k0 k1 kf kl hfit
          have sfit : rr.roots.length ≤ 281474976710648 := by omega
          have pfit : rr.code.length ≤ 281474976710648 := by omega
          have sfb := hfit.1
          have pfb := hfit.2
          replace hrg := Hid.mk hrg
          replace k0 := Hid.mk k0
          replace k1 := Hid.mk k1
          replace kf := Hid.mk kf
          have kg5 := Hid.mk kl.fin5
          clear kl
          have d0 := ((S1.out.gr.below.cell (p := ⟨rb, off + i * 2, none⟩) hb1).trans k0.out)
          have d1 := ((S1.out.gr.below.cell (p := ⟨rb, off + i * 2 + 1, none⟩) hb1).trans k1.out)
          go_upto_region 20 with fail
          clear c0 d0 d1
          have bx := Hid.mk (At.new wr (List.toArray [Value.slice ra' rr.roots.length rc', .slice ka rr.code.length kc']) 52)
          have K1 := Hid.mk (Kt.refl kc wr)
          have hkx : kc < wr.heap.size := hR.out.1
          have hgx := Hid.mk G.out.below.size
          have q2 := (Gr.refl wr).alloc (.cells (List.toArray [Value.slice ra' rr.roots.length rc', .slice ka rr.code.length kc']) 52)
          replace S1 := Hid.mk (S1.out.grow q2)
          replace hR := Hid.mk (hR.out.gr q2)
          replace K1 := Hid.mk (K1.out.trans (Kt.gr q2))
          replace G := Hid.mk (G.out.trans q2)
          clear q2
          generalize wr.alloc _ = V2 at *
          generalize wr.heap.size = kx at *
          have c1 : V2.cell? ⟨kx, 0, none⟩ = some (.slice ra' rr.roots.length rc') := bx.out.2.1 0
          have sw : wrap64 ((rr.roots.length : Int) + 8) = (rr.roots.length : Int) + 8 := w8_of _ sfit
          have sx : IntKind.i64.wrap ((rr.roots.length : Int) + 8) = (rr.roots.length : Int) + 8 := x8_of _ sfit
          have sl : (rr.roots.length : Int) ≤ (rr.roots.length : Int) + 8 := by omega
          obtain ⟨hmk, hcp, so, q1⟩ := made_copy (b := 48) (Z := rootZ) (by omega) rot_len rot_one 3 Tryz.underlying49 (by kernel_rfl) (by kernel_rfl) rr.roots ra' rc' w.heap.size kx V2 (kf.out.below S1.out.gr.below) S1.out.gr.below.size sfb sfit bx.out.1
          replace so := Hid.mk so
          have q9 := Hid.mk ((Gr.refl V2).alloc (.cells (rowV [] PRoot.vals (List.replicate (rr.roots.length + 8) rootZ)).toArray 70))
          replace q1 := Hid.mk q1
          generalize World.setCells _ _ _ _ = V3 at *
          generalize V2.alloc _ = V9 at *
          go_upto_region 21 with fail
          clear hmk c1
          have c1 : V9.cell? ⟨kx, 0, none⟩ = some (.slice ra' rr.roots.length rc') := (bx.out.gr q9.out).2.1 0
          go_upto_region 22 with fail
          clear hcp c1 q9
          generalize hsk : V2.heap.size = sk at *
          replace hsk := Hid.mk (Nat.le_of_eq hsk)
          replace bx := Hid.mk (bx.out.gr q1.out)
          replace S1 := Hid.mk (S1.out.grow q1.out)
          replace hR := Hid.mk (hR.out.gr q1.out)
          replace K1 := Hid.mk (K1.out.trans (Kt.gr q1.out))
          replace G := Hid.mk (G.out.trans q1.out)
          clear q1 hsk
          have c1 : V3.cell? ⟨kx, 1, none⟩ = some (.slice ka rr.code.length kc') := bx.out.2.1 1
          have pw : wrap64 ((rr.code.length : Int) + 8) = (rr.code.length : Int) + 8 := w8_of _ pfit
          have px : IntKind.i64.wrap ((rr.code.length : Int) + 8) = (rr.code.length : Int) + 8 := x8_of _ pfit
          have pl : (rr.code.length : Int) ≤ (rr.code.length : Int) + 8 := by omega
          obtain ⟨hmk, hcp, po, q1⟩ := made_copy (b := 40) (Z := instZ) (by omega) ins_len ins_one 3 Tryz.underlying50 (by kernel_rfl) (by kernel_rfl) rr.code ka kc' w.heap.size kx V3 (kg5.out.below S1.out.gr.below) S1.out.gr.below.size pfb pfit bx.out.1
          replace po := Hid.mk po
          have q9 := Hid.mk ((Gr.refl V3).alloc (.cells (rowV [] Ins.vals (List.replicate (rr.code.length + 8) instZ)).toArray 79))
          replace q1 := Hid.mk q1
          generalize World.setCells _ _ _ _ = V4 at *
          generalize V3.alloc _ = V9 at *
          go_upto_region 23 with fail
          clear hmk c1
          have c1 : V9.cell? ⟨kx, 1, none⟩ = some (.slice ka rr.code.length kc') := (bx.out.gr q9.out).2.1 1
          go_upto_region 24 with fail
          clear hcp c1 q9
          generalize hpk : V3.heap.size = pk at *
          replace hpk := Hid.mk (Nat.le_of_eq hpk)
          replace bx := Hid.mk (bx.out.gr q1.out)
          replace S1 := Hid.mk (S1.out.grow q1.out)
          replace hR := Hid.mk (hR.out.gr q1.out)
          replace K1 := Hid.mk (K1.out.trans (Kt.gr q1.out))
          replace G := Hid.mk (G.out.trans q1.out)
          replace so := Hid.mk (so.out.keep (Kt.gr q1.out))
          clear q1 hpk
          have e9 := D0.out.rest i (Nat.le_refl _) hlt
          obtain ⟨hil, e9'⟩ := List.getElem?_eq_some_iff.1 e9
          have c1 : V4.cell? ⟨kx, 0, none⟩ = some (.slice ra' rr.roots.length rc') := bx.out.2.1 0
          have e1 : V4.cell? ⟨kc, i * 2, none⟩ = some (.slice none 0 0) := elem_atL cp_len hR.out i _ e9 0 _ rfl
          have e2 : V4.frozen? ⟨kc, i * 2, none⟩ = false := hR.out.2.2 _
          go_upto_region 25 with fail
          clear e1 e2 c1
          have x9 := Hid.mk ((Kt.refl kx V4).set kc (i * 2) (.slice (some ⟨sk, 0, none⟩) rr.roots.length (rr.roots.length + 8)) (.inl (by omega)))
          replace so := Hid.mk (so.out.keep x9.out)
          replace po := Hid.mk (po.out.keep x9.out)
          replace bx := Hid.mk (bx.out.other (Nat.ne_of_gt hkx) (i * 2) [.slice (some ⟨sk, 0, none⟩) rr.roots.length (rr.roots.length + 8)])
          simp only [World.setCells] at bx
          replace S1 := Hid.mk (S1.out.set kc (i * 2) (.slice (some ⟨sk, 0, none⟩) rr.roots.length (rr.roots.length + 8)) kcl)
          replace hR := Hid.mk (At.setOne cp_len hR.out i (by simpa using hil) (⟨⟨some ⟨sk, 0, none⟩, rr.roots.length, rr.roots.length + 8⟩, nilS⟩ : CpV) 0 (.slice (some ⟨sk, 0, none⟩) rr.roots.length (rr.roots.length + 8)) (by omega) (by rw [e9']; rfl) (i * 2) (by omega))
          replace K1 := Hid.mk (K1.out.set kc (i * 2) (.slice (some ⟨sk, 0, none⟩) rr.roots.length (rr.roots.length + 8)) (.inl (Nat.le_refl _)))
          replace G := Hid.mk (G.out.setCell kc (i * 2) (.slice (some ⟨sk, 0, none⟩) rr.roots.length (rr.roots.length + 8)) hks.out)
          try rw [List.set_set] at hR
          clear x9
          generalize World.setCell _ _ _ = V5 at *
          have c1 : V5.cell? ⟨kx, 1, none⟩ = some (.slice ka rr.code.length kc') := bx.out.2.1 1
          have e1 : V5.cell? ⟨kc, i * 2 + 1, none⟩ = some (.slice none 0 0) := elem_atL cp_len hR.out i (⟨⟨some ⟨sk, 0, none⟩, rr.roots.length, rr.roots.length + 8⟩, nilS⟩ : CpV) (by simp [hil]) 1 _ rfl
          have e2 : V5.frozen? ⟨kc, i * 2 + 1, none⟩ = false := hR.out.2.2 _
          go_upto_region 26 with fail
          clear e1 e2 c1
          have x9 := Hid.mk ((Kt.refl kx V5).set kc (i * 2 + 1) (.slice (some ⟨pk, 0, none⟩) rr.code.length (rr.code.length + 8)) (.inl (by omega)))
          replace so := Hid.mk (so.out.keep x9.out)
          replace po := Hid.mk (po.out.keep x9.out)
          replace bx := Hid.mk (bx.out.other (Nat.ne_of_gt hkx) (i * 2 + 1) [.slice (some ⟨pk, 0, none⟩) rr.code.length (rr.code.length + 8)])
          simp only [World.setCells] at bx
          replace S1 := Hid.mk (S1.out.set kc (i * 2 + 1) (.slice (some ⟨pk, 0, none⟩) rr.code.length (rr.code.length + 8)) kcl)
          replace hR := Hid.mk (At.setOne cp_len hR.out i (by simpa using hil) (⟨⟨some ⟨sk, 0, none⟩, rr.roots.length, rr.roots.length + 8⟩, ⟨some ⟨pk, 0, none⟩, rr.code.length, rr.code.length + 8⟩⟩ : CpV) 1 (.slice (some ⟨pk, 0, none⟩) rr.code.length (rr.code.length + 8)) (by omega) (by simp; rfl) (i * 2 + 1) (by omega))
          replace K1 := Hid.mk (K1.out.set kc (i * 2 + 1) (.slice (some ⟨pk, 0, none⟩) rr.code.length (rr.code.length + 8)) (.inl (Nat.le_refl _)))
          replace G := Hid.mk (G.out.setCell kc (i * 2 + 1) (.slice (some ⟨pk, 0, none⟩) rr.code.length (rr.code.length + 8)) hks.out)
          try rw [List.set_set] at hR
          clear x9
          generalize World.setCell _ _ _ = V6 at *
          have D1 := Hid.mk ((D0.out.keep (cpL_keep K1.out) (fun _ h => h)).next hlt (⟨⟨some ⟨sk, 0, none⟩, rr.roots.length, rr.roots.length + 8⟩, ⟨some ⟨pk, 0, none⟩, rr.code.length, rr.code.length + 8⟩⟩ : CpV) (fun _ => by rw [hrg.out]; exact ⟨so.out.mono (Nat.le_of_lt hkx), po.out.mono (Nat.le_of_lt hkx)⟩) (fun h => by omega))
          clear K1 so po D0 hrg k0 k1 kf kg5 sfit pfit sfb pfb hfit hgx bx e9 e9'
          go_wp2_with fail
          exact ⟨⟨i + 1, _, by go_num, by omega, S1, hR, D1, G⟩, by simp [intOf]; omega⟩
        · have hin : ¬ (i : Int) < (m.comps.length : Int) := by omega
          have ei : i = m.comps.length := by omega
          subst ei
          have SC := Hid.mk (sep_c D0.out.over (by omega))
          have hrc : kr < kc := Nat.lt_of_lt_of_le AR.out.1 hks.out
          clear c0
          have DC := Hid.mk (Done.imp (ok' := CpOkL (w.heap.size + 1 + 1)) D0.out.over (fun a b h => ⟨h.1.mono (Nat.le_of_lt kcl), h.2.mono (Nat.le_of_lt kcl)⟩))
          have LC := Hid.mk D0.out.len
          have AC := hR
          generalize l = lc at *
          replace DR := Hid.mk (DR.out.keep (rgL_keep (Kt.gr G.out)) (fun _ h => h))
          replace AR := Hid.mk (AR.out.gr G.out)
          clear hR D0 G hks
          have c0 : wr.cell? ⟨w.heap.size, 1, none⟩ = some (.slice ca m.comps.length cc) := by rw [S1.out.m.2.1, ← hIM]; rfl
          have d1 : wr.cell? ⟨w.heap.size + 1 + 1, 1, none⟩ = some (.slice none 0 0) := S1.out.o.2.1 1
          have d2 : wr.frozen? ⟨w.heap.size + 1 + 1, 1, none⟩ = false := S1.out.o.2.2 1
          go_upto_region 27 with fail
          clear c0 d1 d2
          have K9 := Hid.mk ((Kt.refl (w.heap.size + 1 + 1) wr).set (w.heap.size + 1 + 1) 1 (.slice (some ⟨kc, 0, none⟩) m.comps.length (m.comps.length + 8)) (.inl (Nat.le_refl _)))
          have S0 : Hid (Ls w im [Value.slice (some ⟨kr, 0, none⟩) m.regs.length (m.regs.length + 8), .slice (some ⟨kc, 0, none⟩) m.comps.length (m.comps.length + 8), .slice none 0 0, .int .i64 m.depth] (wr.setCell ⟨w.heap.size + 1 + 1, 1, none⟩ (.slice (some ⟨kc, 0, none⟩) m.comps.length (m.comps.length + 8)))) := Hid.mk (S1.out.setO 1 (by simp) (.slice (some ⟨kc, 0, none⟩) m.comps.length (m.comps.length + 8)))
          clear S1
          replace DR := Hid.mk (DR.out.keep (rgL_keep K9.out) (fun _ h => h))
          replace DC := Hid.mk (DC.out.keep (cpL_keep K9.out) (fun _ h => h))
          replace AR := Hid.mk (AR.out.other (Nat.ne_of_gt krl) 1 [.slice (some ⟨kc, 0, none⟩) m.comps.length (m.comps.length + 8)])
          replace AC := Hid.mk (AC.out.other (Nat.ne_of_gt kcl) 1 [.slice (some ⟨kc, 0, none⟩) m.comps.length (m.comps.length + 8)])
          simp only [World.setCells] at AR AC
          clear K9
          replace SC := Hid.mk (sep_mono2 SC.out (Nat.le_of_eq (setCell_size wr ⟨w.heap.size + 1 + 1, 1, none⟩ (.slice (some ⟨kc, 0, none⟩) m.comps.length (m.comps.length + 8))).symm))
          generalize World.setCell _ _ _ = Wf at *
          have c0 : Wf.cell? ⟨w.heap.size, 2, none⟩ = some (.slice ga m.gates.length gc) := by rw [S0.out.m.2.1, ← hIM]; rfl
          have hmk := make_k (vals := GtV.vals) (Z := gtZ) (t := 24) (e := 55) (k := 4) (b := 64) (by omega) gt_len Tryz.underlying24 (by kernel_rfl) (m.gates.length + 8) (by omega) hF.out.g Wf
          rw [show ((m.gates.length + 8 : Nat) : Int) = (m.gates.length : Int) + 8 by omega] at hmk
          have hA := Hid.mk (At.new Wf (rowV [] GtV.vals (List.replicate (m.gates.length + 8) gtZ)).toArray 55)
          have hG := Hid.mk ((Gr.refl Wf).alloc (.cells (rowV [] GtV.vals (List.replicate (m.gates.length + 8) gtZ)).toArray 55))
          have kgl : w.heap.size + 1 + 1 < Wf.heap.size := S0.out.o.1
          generalize Wf.alloc _ = Wh at *
          replace S0 := Hid.mk (S0.out.grow hG.out)
          have hks := Hid.mk (Nat.le_refl Wf.heap.size)
          go_upto_region 29 with fail
          clear hmk c0
          generalize hk0 : Wf.heap.size = kg at *
          replace hks : Hid (Wf.heap.size ≤ kg) := Hid.mk (Nat.le_of_eq hk0)
          clear hk0
          go_loopw [14] (fun x wr => ∃ (i : Nat) (l : List GtV), x = .int .i64 i ∧ i ≤ m.gates.length ∧ Hid (Ls w im [Value.slice (some ⟨kr, 0, none⟩) m.regs.length (m.regs.length + 8), .slice (some ⟨kc, 0, none⟩) m.comps.length (m.comps.length + 8), .slice none 0 0, .int .i64 m.depth] wr) ∧ Hid (At wr kg (rowV [] GtV.vals l).toArray) ∧ Hid (Row3 (GtOkL kg) (isV gtZ) gtZ (m.gates.length + 8) wr m.gates l i) ∧ Hid (Gr Wf wr)) (fun x _ => m.gates.length - (intOf x).toNat)
          case atStart => exact ⟨0, _, rfl, by omega, S0, hA, Hid.mk (Row3.zero _ _ _ _ _ _), hG⟩
          case round =>
            clear S0 hA hG
            obtain ⟨i, l, rfl, hi, S1, hR, D0, G⟩ := hrel
            have c0 : wr.cell? ⟨w.heap.size, 2, none⟩ = some (.slice ga m.gates.length gc) := by rw [S1.out.m.2.1, ← hIM]; rfl
            by_cases hn : i < m.gates.length
            · have hlt : i < m.gates.length + 8 := by omega
              have hin : (i : Int) < (m.gates.length : Int) := by omega
              have hin8 : (i : Int) < (m.gates.length : Int) + 8 := by omega
              obtain ⟨rb, off, xa, xc, ya, yc, hga, hb1, _, k0, k1, k2, k3, kf, kl⟩ := hm.out.gates i hn
              subst hga
              have hfit := hF.out.gs _ (List.getElem_mem hn)
              generalize hrg : m.gates[i] = rr at k0 k1 k2 k3 kf kl hfit
              replace hrg := Hid.mk hrg
              replace k0 := Hid.mk k0
              replace k1 := Hid.mk k1
              replace k2 := Hid.mk k2
              replace k3 := Hid.mk k3
              replace kf := Hid.mk kf
              replace kl := Hid.mk kl
              have e9 := D0.out.rest i (Nat.le_refl _) hlt
              obtain ⟨hil, e9'⟩ := List.getElem?_eq_some_iff.1 e9
              clear e9'
              have rg := Hid.mk (range4L ((S1.out.gr.below.cell (p := ⟨rb, off + i * 4, none⟩) hb1).trans k0.out) ((S1.out.gr.below.cell (p := ⟨rb, off + i * 4 + 1, none⟩) hb1).trans k1.out) ((S1.out.gr.below.cell (p := ⟨rb, off + i * 4 + 1 + 1, none⟩) hb1).trans k2.out) ((S1.out.gr.below.cell (p := ⟨rb, off + i * 4 + 1 + 1 + 1, none⟩) hb1).trans k3.out))
              go_upto_region 31 with fail
              refine wp_region_lit ?_
              refine wpList_plain rfl (fun K hK => ?_)
              go_simp
              with_reducible refine hK _ _ ?_
              clear hK K
              try simp only [Act.put, List.setIfInBounds_toArray, List.set_cons_zero, List.set_cons_succ]
              refine wpList_plain rfl (fun K hK => ?_)
              go_simp
              with_reducible refine hK _ _ ?_
              clear hK K
              try simp only [Act.put, List.setIfInBounds_toArray, List.set_cons_zero, List.set_cons_succ]
              refine wpList_plain rfl (fun K hK => ?_)
              go_simp
              with_reducible refine hK _ _ ?_
              clear hK K
              try simp only [Act.put, List.setIfInBounds_toArray, List.set_cons_zero, List.set_cons_succ]
              refine wpList_plain rfl (fun K hK => ?_)
              go_simp
              with_reducible refine hK _ _ ?_
              clear hK K
              try simp only [Act.put, List.setIfInBounds_toArray, List.set_cons_zero, List.set_cons_succ]
              refine wpList_plain rfl (fun K hK => ?_)
              go_simp
              with_reducible refine hK _ _ ?_
              clear hK K
              try simp only [Act.put, List.setIfInBounds_toArray, List.set_cons_zero, List.set_cons_succ]
              refine wpList_plain rfl (fun K hK => ?_)
              go_simp
              with_reducible refine hK _ _ ?_
              clear hK K
              try simp only [Act.put, List.setIfInBounds_toArray, List.set_cons_zero, List.set_cons_succ]
              refine wpList_plain rfl (fun K hK => ?_)
              refine wp_load_mid _ _ rfl _ (off + i * 4) rfl [Value.int .i64 rr.c, .int .i64 rr.e, .slice xa rr.args.length xc, .slice ya rr.res.length yc] _ rg.out Tryz.underlying55 rfl (by kernel_rfl) (hK _ _ ?_)
              clear hK K
              try simp only [Act.put, List.setIfInBounds_toArray, List.set_cons_zero, List.set_cons_succ]
              refine wpList_plain rfl (fun K hK => ?_)
              go_simp
              with_reducible refine hK _ _ ?_
              clear hK K
              try simp only [Act.put, List.setIfInBounds_toArray, List.set_cons_zero, List.set_cons_succ]
              have hT := Hid.mk (hR.out.there (i * 4) 4 (by rw [row_len gt_len, D0.out.len]; simp; omega))
              have K1 := Hid.mk ((Kt.refl kg wr).sets kg (i * 4) (GtV.vals (⟨rr.c, rr.e, ⟨xa, rr.args.length, xc⟩, ⟨ya, rr.res.length, yc⟩⟩ : GtV)) (.inl (Nat.le_refl _)))
              replace S1 := Hid.mk (S1.out.sets kg (i * 4) (GtV.vals (⟨rr.c, rr.e, ⟨xa, rr.args.length, xc⟩, ⟨ya, rr.res.length, yc⟩⟩ : GtV)) kgl)
              replace hR := Hid.mk (hR.out.setElem gt_len i hil (⟨rr.c, rr.e, ⟨xa, rr.args.length, xc⟩, ⟨ya, rr.res.length, yc⟩⟩ : GtV) (i * 4) (by simp))
              replace G := Hid.mk (G.out.setCells kg hks.out (GtV.vals (⟨rr.c, rr.e, ⟨xa, rr.args.length, xc⟩, ⟨ya, rr.res.length, yc⟩⟩ : GtV)) (i * 4))
              refine wpList_plain rfl (fun K hK => ?_)
              refine wp_store_mid _ _ _ rfl _ _ (List.toArray (GtV.vals (⟨rr.c, rr.e, ⟨xa, rr.args.length, xc⟩, ⟨ya, rr.res.length, yc⟩⟩ : GtV))) rfl rfl hT.out (by kernel_rfl) (all_oneCell_toArray (gt_one _)) (hK _ _ ?_)
              clear hK K hT rg c0 e9
              try simp only [Act.put]
              generalize World.setCells _ _ _ _ = V1 at *
              have c0 : V1.cell? ⟨w.heap.size, 2, none⟩ = some (.slice (some ⟨rb, off, none⟩) m.gates.length gc) := by rw [S1.out.m.2.1, ← hIM]; rfl
              have d1 : V1.cell? ⟨rb, off + i * 4 + 1 + 1, none⟩ = some (.slice xa rr.args.length xc) := ((S1.out.gr.below.cell (p := ⟨rb, off + i * 4 + 1 + 1, none⟩) hb1).trans k2.out)
              have hcl := Hid.mk (types_any rr.args xa xc w.heap.size kg V1 (kf.out.below S1.out.gr.below) hfit.1 S1.out.gr.below.size hR.out.1)
              go_wp2_with fail
              refine hcl.out.mono ?_
              rintro x V2 ⟨s, rfl, so, q1⟩
              clear c0 d1 hcl
              replace so := Hid.mk so
              replace S1 := Hid.mk (S1.out.grow q1)
              replace hR := Hid.mk (hR.out.gr q1)
              replace K1 := Hid.mk (K1.out.trans (Kt.gr q1))
              replace G := Hid.mk (G.out.trans q1)
              clear q1
              go_upto_region 33 with fail
              have c0 : V2.cell? ⟨w.heap.size, 2, none⟩ = some (.slice (some ⟨rb, off, none⟩) m.gates.length gc) := by rw [S1.out.m.2.1, ← hIM]; rfl
              have d1 : V2.cell? ⟨rb, off + i * 4 + 1 + 1 + 1, none⟩ = some (.slice ya rr.res.length yc) := ((S1.out.gr.below.cell (p := ⟨rb, off + i * 4 + 1 + 1 + 1, none⟩) hb1).trans k3.out)
              have hcl := Hid.mk (types_any rr.res ya yc w.heap.size kg V2 (kl.out.below S1.out.gr.below) hfit.2 S1.out.gr.below.size hR.out.1)
              go_wp2_with fail
              refine hcl.out.mono ?_
              rintro x V3 ⟨t, rfl, tq, q1⟩
              clear c0 d1 hcl
              replace tq := Hid.mk tq
              replace S1 := Hid.mk (S1.out.grow q1)
              replace hR := Hid.mk (hR.out.gr q1)
              replace K1 := Hid.mk (K1.out.trans (Kt.gr q1))
              replace G := Hid.mk (G.out.trans q1)
              replace so := Hid.mk (so.out.keep (Kt.gr q1))
              clear q1
              go_upto_region 34 with fail
              have e1 : V3.cell? ⟨kg, i * 4 + 1 + 1, none⟩ = some (.slice xa rr.args.length xc) := elem_atL gt_len hR.out i (⟨rr.c, rr.e, ⟨xa, rr.args.length, xc⟩, ⟨ya, rr.res.length, yc⟩⟩ : GtV) (by simp [hil]) 2 _ rfl
              have e2 : V3.frozen? ⟨kg, i * 4 + 1 + 1, none⟩ = false := hR.out.2.2 _
              go_upto_region 35 with fail
              clear e1 e2
              have x9 := Hid.mk ((Kt.refl kg V3).set kg (i * 4 + 1 + 1) (.slice s.a s.l s.c) (.inl (by omega)))
              replace so := Hid.mk (so.out.keep x9.out)
              replace tq := Hid.mk (tq.out.keep x9.out)
              replace S1 := Hid.mk (S1.out.set kg (i * 4 + 1 + 1) (.slice s.a s.l s.c) kgl)
              replace hR := Hid.mk (At.setOne gt_len hR.out i (by simpa using hil) (⟨rr.c, rr.e, s, ⟨ya, rr.res.length, yc⟩⟩ : GtV) 2 (.slice s.a s.l s.c) (by omega) (by simp; rfl) (i * 4 + 1 + 1) (by omega))
              replace K1 := Hid.mk (K1.out.set kg (i * 4 + 1 + 1) (.slice s.a s.l s.c) (.inl (Nat.le_refl _)))
              replace G := Hid.mk (G.out.setCell kg (i * 4 + 1 + 1) (.slice s.a s.l s.c) hks.out)
              try rw [List.set_set] at hR
              clear x9
              generalize World.setCell _ _ _ = V4 at *
              have e1 : V4.cell? ⟨kg, i * 4 + 1 + 1 + 1, none⟩ = some (.slice ya rr.res.length yc) := elem_atL gt_len hR.out i (⟨rr.c, rr.e, s, ⟨ya, rr.res.length, yc⟩⟩ : GtV) (by simp [hil]) 3 _ rfl
              have e2 : V4.frozen? ⟨kg, i * 4 + 1 + 1 + 1, none⟩ = false := hR.out.2.2 _
              go_upto_region 36 with fail
              clear e1 e2
              have x9 := Hid.mk ((Kt.refl kg V4).set kg (i * 4 + 1 + 1 + 1) (.slice t.a t.l t.c) (.inl (by omega)))
              replace so := Hid.mk (so.out.keep x9.out)
              replace tq := Hid.mk (tq.out.keep x9.out)
              replace S1 := Hid.mk (S1.out.set kg (i * 4 + 1 + 1 + 1) (.slice t.a t.l t.c) kgl)
              replace hR := Hid.mk (At.setOne gt_len hR.out i (by simpa using hil) (⟨rr.c, rr.e, s, t⟩ : GtV) 3 (.slice t.a t.l t.c) (by omega) (by simp; rfl) (i * 4 + 1 + 1 + 1) (by omega))
              replace K1 := Hid.mk (K1.out.set kg (i * 4 + 1 + 1 + 1) (.slice t.a t.l t.c) (.inl (Nat.le_refl _)))
              replace G := Hid.mk (G.out.setCell kg (i * 4 + 1 + 1 + 1) (.slice t.a t.l t.c) hks.out)
              try rw [List.set_set] at hR
              clear x9
              generalize World.setCell _ _ _ = V5 at *
              have D1 := Hid.mk ((D0.out.keep (gtL_keep K1.out) (fun _ h => h)).next hlt (⟨rr.c, rr.e, s, t⟩ : GtV) (fun _ => by rw [hrg.out]; exact ⟨rfl, rfl, so.out, tq.out⟩) (fun h => by omega))
              clear K1 so tq D0 hrg k0 k1 k2 k3 kf kl hfit
              go_wp2_with fail
              exact ⟨⟨i + 1, _, by go_num, by omega, S1, hR, D1, G⟩, by simp [intOf]; omega⟩
            · have hin : ¬ (i : Int) < (m.gates.length : Int) := by omega
              have ei : i = m.gates.length := by omega
              subst ei
              have SG := Hid.mk (sep_g D0.out.over (by omega))
              have hcg : kc < kg := Nat.lt_of_lt_of_le AC.out.1 hks.out
              clear c0
              have DG := Hid.mk (Done.imp (ok' := GtOkL (w.heap.size + 1 + 1)) D0.out.over (fun a b h => ⟨h.1, h.2.1, h.2.2.1.mono (Nat.le_of_lt kgl), h.2.2.2.mono (Nat.le_of_lt kgl)⟩))
              have LG := Hid.mk D0.out.len
              have AG := hR
              generalize l = lg at *
              replace DR := Hid.mk (DR.out.keep (rgL_keep (Kt.gr G.out)) (fun _ h => h))
              replace DC := Hid.mk (DC.out.keep (cpL_keep (Kt.gr G.out)) (fun _ h => h))
              replace AR := Hid.mk (AR.out.gr G.out)
              replace AC := Hid.mk (AC.out.gr G.out)
              clear hR D0 G hks
              have c0 : wr.cell? ⟨w.heap.size, 2, none⟩ = some (.slice ga m.gates.length gc) := by rw [S1.out.m.2.1, ← hIM]; rfl
              have d1 : wr.cell? ⟨w.heap.size + 1 + 1, 2, none⟩ = some (.slice none 0 0) := S1.out.o.2.1 2
              have d2 : wr.frozen? ⟨w.heap.size + 1 + 1, 2, none⟩ = false := S1.out.o.2.2 2
              go_upto_region 37 with fail
              clear c0 d1 d2
              have K9 := Hid.mk ((Kt.refl (w.heap.size + 1 + 1) wr).set (w.heap.size + 1 + 1) 2 (.slice (some ⟨kg, 0, none⟩) m.gates.length (m.gates.length + 8)) (.inl (Nat.le_refl _)))
              have S0 : Hid (Ls w im [Value.slice (some ⟨kr, 0, none⟩) m.regs.length (m.regs.length + 8), .slice (some ⟨kc, 0, none⟩) m.comps.length (m.comps.length + 8), .slice (some ⟨kg, 0, none⟩) m.gates.length (m.gates.length + 8), .int .i64 m.depth] (wr.setCell ⟨w.heap.size + 1 + 1, 2, none⟩ (.slice (some ⟨kg, 0, none⟩) m.gates.length (m.gates.length + 8)))) := Hid.mk (S1.out.setO 2 (by simp) (.slice (some ⟨kg, 0, none⟩) m.gates.length (m.gates.length + 8)))
              clear S1
              replace DR := Hid.mk (DR.out.keep (rgL_keep K9.out) (fun _ h => h))
              replace DC := Hid.mk (DC.out.keep (cpL_keep K9.out) (fun _ h => h))
              replace DG := Hid.mk (DG.out.keep (gtL_keep K9.out) (fun _ h => h))
              replace AR := Hid.mk (AR.out.other (Nat.ne_of_gt krl) 2 [.slice (some ⟨kg, 0, none⟩) m.gates.length (m.gates.length + 8)])
              replace AC := Hid.mk (AC.out.other (Nat.ne_of_gt kcl) 2 [.slice (some ⟨kg, 0, none⟩) m.gates.length (m.gates.length + 8)])
              replace AG := Hid.mk (AG.out.other (Nat.ne_of_gt kgl) 2 [.slice (some ⟨kg, 0, none⟩) m.gates.length (m.gates.length + 8)])
              simp only [World.setCells] at AR AC AG
              clear K9
              generalize World.setCell _ _ _ = Wg at *
              refine wp_region_lit ?_
              refine wpList_plain rfl (fun K hK => ?_)
              refine wp_load_mid _ _ rfl _ 0 rfl [Value.slice (some ⟨kr, 0, none⟩) m.regs.length (m.regs.length + 8), .slice (some ⟨kc, 0, none⟩) m.comps.length (m.comps.length + 8), .slice (some ⟨kg, 0, none⟩) m.gates.length (m.gates.length + 8), .int .i64 m.depth] _ S0.out.o.range Tryz.underlying26 rfl (by kernel_rfl) (hK _ _ ?_)
              clear hK K
              try simp only [Act.put, List.setIfInBounds_toArray, List.set_cons_zero, List.set_cons_succ]
              have hT := Hid.mk (S0.out.res.there 0 4 (by simp))
              have K9 := Hid.mk ((Kt.refl (w.heap.size + 1 + 1) Wg).sets (w.heap.size + 1) 0 [Value.slice (some ⟨kr, 0, none⟩) m.regs.length (m.regs.length + 8), .slice (some ⟨kc, 0, none⟩) m.comps.length (m.comps.length + 8), .slice (some ⟨kg, 0, none⟩) m.gates.length (m.gates.length + 8), .int .i64 m.depth] (.inl (by omega)))
              have G9 := Hid.mk (S0.out.gr.setCells (w.heap.size + 1) (by omega) [Value.slice (some ⟨kr, 0, none⟩) m.regs.length (m.regs.length + 8), .slice (some ⟨kc, 0, none⟩) m.comps.length (m.comps.length + 8), .slice (some ⟨kg, 0, none⟩) m.gates.length (m.gates.length + 8), .int .i64 m.depth] 0)
              have S9 := Hid.mk (S0.out.res.setAll [Value.slice (some ⟨kr, 0, none⟩) m.regs.length (m.regs.length + 8), .slice (some ⟨kc, 0, none⟩) m.comps.length (m.comps.length + 8), .slice (some ⟨kg, 0, none⟩) m.gates.length (m.gates.length + 8), .int .i64 m.depth] rfl).range
              have TI9 : Hid (LeIn (w.heap.size + 1 + 1) kr kc kg (World.setCells Wg (w.heap.size + 1) 0 [Value.slice (some ⟨kr, 0, none⟩) m.regs.length (m.regs.length + 8), .slice (some ⟨kc, 0, none⟩) m.comps.length (m.comps.length + 8), .slice (some ⟨kg, 0, none⟩) m.gates.length (m.gates.length + 8), .int .i64 m.depth]) m lr lc lg) := Hid.mk ⟨AR.out.other (by omega) _ _, AC.out.other (by omega) _ _, AG.out.other (by omega) _ _, LR.out, LC.out, LG.out, DR.out.keep (rgL_keep K9.out) (fun _ h => h), DC.out.keep (cpL_keep K9.out) (fun _ h => h), DG.out.keep (gtL_keep K9.out) (fun _ h => h)⟩
              refine wpList_plain rfl (fun K hK => ?_)
              refine wp_store_mid _ _ _ rfl _ _ (List.toArray [Value.slice (some ⟨kr, 0, none⟩) m.regs.length (m.regs.length + 8), .slice (some ⟨kc, 0, none⟩) m.comps.length (m.comps.length + 8), .slice (some ⟨kg, 0, none⟩) m.gates.length (m.gates.length + 8), .int .i64 m.depth]) rfl rfl hT.out (by kernel_rfl) (all_oneCell_toArray (by intro v hv; simp at hv; rcases hv with rfl | rfl | rfl | rfl <;> rfl)) (hK _ _ ?_)
              clear hK K hT S0 DR DC DG LR LC LG AR AC AG K9
              try simp only [Act.put]
              generalize World.setCells _ _ _ _ = Wz at *
              have hrun := Hid.mk (run_loadVar_mid (P := Tryz.prog) Wz (w.heap.size + 1) 0 26 [Value.slice (some ⟨kr, 0, none⟩) m.regs.length (m.regs.length + 8), .slice (some ⟨kc, 0, none⟩) m.comps.length (m.comps.length + 8), .slice (some ⟨kg, 0, none⟩) m.gates.length (m.gates.length + 8), .int .i64 m.depth] _ S9.out Tryz.underlying26 rfl (by kernel_rfl))
              clear S9
              go_wp2_with fail
              refine bodyPost_ret (v := .agg (List.toArray [Value.slice (some ⟨kr, 0, none⟩) m.regs.length (m.regs.length + 8), .slice (some ⟨kc, 0, none⟩) m.comps.length (m.comps.length + 8), .slice (some ⟨kg, 0, none⟩) m.gates.length (m.gates.length + 8), .int .i64 m.depth])) ?_ rfl ⟨(w.heap.size + 1 + 1), kr, kc, kg, rfl, G9.out, lr, lc, lg, TI9.out, _, ⟨krl, hrc, hcg, SR.out, SC.out, SG.out⟩⟩
              exact results_rowL Tryz.results5 _ _ rfl hrun.out
end Q
end Go.Proofs.YtmmakknhaacplaaGreatDoor


/-
  Programs that are lent: over: their owner writes over them; nothing else is written.
-/
namespace Go.Proofs.YtmmakknhaacplaaGreatDoor
namespace Q
open Go.RowKit

theorem below_gr {w W : World} {B : Nat} (g : Gr w W) (hB : B ≤ w.heap.size) : Below B w W := ⟨g.below.os, g.below.tape, g.below.output, g.below.size, fun k hk => g.below.block k (by omega)⟩
theorem below_sets {w W : World} {B : Nat} (h : Below B w W) (b : Nat) (hb : B ≤ b) : ∀ (vs : List Value) (o : Nat), Below B w (W.setCells b o vs) := fun vs => by
  induction vs generalizing W with
  | nil => exact fun _ => h
  | cons v r ih => exact fun o => ih (h.setCell (p := ⟨b, o, none⟩) hb v) (o + 1)
/-- Only blocks of 'S' have been written since 'W0'. -/
structure Ov (B : Nat) (w0 W0 : World) (S : Nat → Prop) (W : World) : Prop where
  gr : Below B w0 W
  keep : ∀ b, ¬ S b → W.heap[b]? = W0.heap[b]?
  there : ∀ b o n, W0.there b o n → W.there b o n
theorem Ov.refl {B : Nat} {w0 W0 : World} {S : Nat → Prop} (h : Below B w0 W0) : Ov B w0 W0 S W0 := ⟨h, fun _ _ => rfl, fun _ _ _ h => h⟩
theorem Ov.sets {B : Nat} {w0 W0 : World} {S : Nat → Prop} {W : World} (h : Ov B w0 W0 S W) (b o : Nat) (vs : List Value) (hS : S b) (hb : B ≤ b) : Ov B w0 W0 S (W.setCells b o vs) :=
  ⟨below_sets h.gr b hb vs o, fun c hc => by rw [setCells_block b c (fun e => hc (e ▸ hS))]; exact h.keep c hc, fun c p n q => World.there_setCells (h.there c p n q) b o vs⟩
theorem Ov.at_ {B : Nat} {w0 W0 : World} {S : Nat → Prop} {W : World} (h : Ov B w0 W0 S W) {k : Nat} {cs : Array Value} (hA : At W0 k cs) (hk : ¬ S k) : At W k cs := by
  have e := h.keep k hk
  refine ⟨?_, fun i => by rw [World.cell?_of_block (a := ⟨k, i, none⟩) e]; exact hA.2.1 i, fun i => by rw [World.frozen?_of_block (a := ⟨k, i, none⟩) e]; exact hA.2.2 i⟩
  have h1 : k < W0.heap.size := hA.1
  rw [Array.getElem?_eq_getElem h1] at e
  exact (Array.getElem?_eq_some_iff.1 e).1
theorem there_one {W : World} {g n o : Nat} (h : W.there g 0 n) (ho : o < n) : ∃ y, W.cell? ⟨g, o, none⟩ = some y ∧ W.frozen? ⟨g, o, none⟩ = false := by
  have q := h o ho
  rw [Nat.zero_add] at q
  obtain ⟨y, hy⟩ := Option.isSome_iff_exists.1 q.1
  exact ⟨y, hy, q.2⟩
theorem there_mid {W : World} {g n o k : Nat} (h : W.there g 0 n) (ho : o + k ≤ n) : W.there g o k := fun j hj => by
  have q := h (o + j) (by omega)
  rw [Nat.zero_add] at q
  exact q
theorem el_lt {k n s : Nat} (h : k < n) (j : Nat) (hj : j < s) : k * s + j < n * s := by
  have : (k + 1) * s ≤ n * s := Nat.mul_le_mul_right s h
  rw [Nat.succ_mul] at this
  omega
theorem el_le {k n s : Nat} (h : k < n) : k * s + s ≤ n * s := by
  have : (k + 1) * s ≤ n * s := Nat.mul_le_mul_right s h
  rw [Nat.succ_mul] at this
  exact this
theorem next_wO {k n : Nat} (h : k < n) (hn : n ≤ 281474976710648) : wrap64 ((k : Int) + 1) = ((k + 1 : Nat) : Int) := by unfold wrap64; omega
theorem next_mO {k n : Nat} (h : k < n) : n - (intOf (.int .i64 ((k + 1 : Nat) : Int))).toNat < n - (intOf (.int .i64 (k : Int))).toNat := by simp [intOf]; omega
set_option maxRecDepth 100000 in
set_option maxHeartbeats 2000000 in
theorem markT_any (B : Nat) (w0 W0 w : World) (S : Nat → Prop) (g n cap : Nat) (h : Ov B w0 W0 S w) (hS : S g) (hg : B ≤ g) (ht : W0.there g 0 (n * 8)) (hn : n ≤ 281474976710648) : Calls Tryz.prog 15 #[.slice (some ⟨g, 0, none⟩) n cap] w fun x w' => x = .returned (.tuple #[]) ∧ Ov B w0 W0 S w' ∧ ∀ b, b ≠ g → w'.heap[b]? = w.heap[b]? := by
  replace h := Hid.mk h
  replace ht := Hid.mk ht
  replace hS := Hid.mk hS
  go_enter Tryz.func15, Tryz.ntmps15
  go_upto_region 1 with fail
  go_loopw [2] (fun x wr => ∃ i : Nat, x = .int .i64 i ∧ i ≤ n ∧ Hid (Ov B w0 W0 S wr ∧ ∀ b, b ≠ g → wr.heap[b]? = w.heap[b]?)) (fun x _ => n - (intOf x).toNat)
  case atStart => exact ⟨0, rfl, Nat.zero_le _, Hid.mk ⟨h.out, fun _ _ => rfl⟩⟩
  case round =>
    clear h
    obtain ⟨i, rfl, hi, hI⟩ := hrel
    by_cases hlt : i < n
    · have hi1 : (i : Int) < (n : Int) := Int.ofNat_lt.2 hlt
      obtain ⟨y, c1, f1⟩ := there_one (hI.out.1.there _ _ _ ht.out) (el_lt hlt 7 (by decide))
      have hN := Hid.mk (And.intro (hI.out.1.sets g (i * 8 + 7) [.int .u64 77] hS.out hg) (fun b (hb : b ≠ g) => (setCells_block g b (Ne.symm hb) [.int .u64 77] (i * 8 + 7) wr).trans (hI.out.2 b hb)))
      simp only [World.setCells] at hN
      clear hI
      go_wp2_with fail
      refine ⟨⟨i + 1, ?_, hlt, hN⟩, ?_⟩
      · first | rfl | rw [next_wO hlt hn] | go_num
      · first | exact next_mO hlt | (rw [next_wO hlt hn]; exact next_mO hlt)
    · have hi1 : ¬ (i : Int) < (n : Int) := fun q => hlt (Int.ofNat_lt.1 q)
      go_wp2_with fail
      simp [bodyPost, results, Tryz.results15, go_sem]
      exact hI.out
theorem list_there {α : Type} {vals : α → List Value} {M : α} {k kk : Nat} {W : World} {L : List α} {s : Sl} (hv : ∀ x, (vals x).length = k) (h : LsOk vals M kk W L s) {g : Nat} (hg : s.a = some ⟨g, 0, none⟩) : s = ⟨some ⟨g, 0, none⟩, L.length, L.length + 8⟩ ∧ W.there g 0 (L.length * k) := by
  obtain ⟨g', rfl, _, hA⟩ := h
  cases hg
  refine ⟨rfl, At.there hA 0 _ ?_⟩
  rw [row_len (pre := []) hv]
  unfold marked
  rw [List.length_append, List.length_replicate, Nat.add_mul]
  simp
theorem rlist {kk kr kc kg lo hi : Nat} {W : World} {m : PImg} {lr : List RgV} {lc : List CpV} {lg : List GtV} (h : LeIn kk kr kc kg W m lr lc lg) (hS : LeSep lo kr kc kg hi m lr lc lg) (i : Nat) (hi' : i < m.regs.length) : ∃ v g, lr[i]? = some v ∧ v.s = ⟨some ⟨g, 0, none⟩, m.regs[i].slots.length, m.regs[i].slots.length + 8⟩ ∧ kr < g ∧ g < kc ∧ W.there g 0 (m.regs[i].slots.length * 8) := by
  obtain ⟨v, hv, _, _, _, hok⟩ := (h.rd i (by omega)).1 hi'
  obtain ⟨g, e, h1, h2⟩ := hS.r i hi' v hv
  obtain ⟨q1, q2⟩ := list_there slt_len hok e
  exact ⟨v, g, hv, q1, h1, h2, q2⟩
theorem clist {kk kr kc kg lo hi : Nat} {W : World} {m : PImg} {lr : List RgV} {lc : List CpV} {lg : List GtV} (h : LeIn kk kr kc kg W m lr lc lg) (hS : LeSep lo kr kc kg hi m lr lc lg) (i : Nat) (hi' : i < m.comps.length) : ∃ v g g', lc[i]? = some v ∧ v.r = ⟨some ⟨g, 0, none⟩, m.comps[i].roots.length, m.comps[i].roots.length + 8⟩ ∧ kc < g ∧ g < kg ∧ W.there g 0 (m.comps[i].roots.length * 6) ∧ v.k = ⟨some ⟨g', 0, none⟩, m.comps[i].code.length, m.comps[i].code.length + 8⟩ ∧ kc < g' ∧ g' < kg ∧ W.there g' 0 (m.comps[i].code.length * 5) := by
  obtain ⟨v, hv, hok⟩ := (h.cd i (by omega)).1 hi'
  obtain ⟨g, e, h1, h2⟩ := hS.cs.1 i hi' v hv
  obtain ⟨g', e', h1', h2'⟩ := hS.cs.2 i hi' v hv
  obtain ⟨q1, q2⟩ := list_there rot_len hok.1 e
  obtain ⟨q1', q2'⟩ := list_there ins_len hok.2 e'
  exact ⟨v, g, g', hv, q1, h1, h2, q2, q1', h1', h2', q2'⟩
theorem glist {kk kr kc kg lo hi : Nat} {W : World} {m : PImg} {lr : List RgV} {lc : List CpV} {lg : List GtV} (h : LeIn kk kr kc kg W m lr lc lg) (hS : LeSep lo kr kc kg hi m lr lc lg) (i : Nat) (hi' : i < m.gates.length) : ∃ v g g', lg[i]? = some v ∧ v.x = ⟨some ⟨g, 0, none⟩, m.gates[i].args.length, m.gates[i].args.length + 8⟩ ∧ kg < g ∧ W.there g 0 (m.gates[i].args.length * 7) ∧ v.y = ⟨some ⟨g', 0, none⟩, m.gates[i].res.length, m.gates[i].res.length + 8⟩ ∧ kg < g' ∧ W.there g' 0 (m.gates[i].res.length * 7) := by
  obtain ⟨v, hv, _, _, hx, hy⟩ := (h.gd i (by omega)).1 hi'
  obtain ⟨g, e, h1, h2⟩ := hS.g.1 i hi' v hv
  obtain ⟨g', e', h1', h2'⟩ := hS.g.2 i hi' v hv
  obtain ⟨q1, q2⟩ := list_there typ_len hx e
  obtain ⟨q1', q2'⟩ := list_there typ_len hy e'
  exact ⟨v, g, g', hv, q1, h1, q2, q1', h1', q2'⟩
theorem glt {kk kr kc kg : Nat} {W : World} {m : PImg} {lr : List RgV} {lc : List CpV} {lg : List GtV} (h : LeIn kk kr kc kg W m lr lc lg) (i : Nat) (hi' : i < m.gates.length) (v : GtV) (hv : lg[i]? = some v) : (∀ g, v.x.a = some ⟨g, 0, none⟩ → g < W.heap.size) ∧ ∀ g, v.y.a = some ⟨g, 0, none⟩ → g < W.heap.size := by
  obtain ⟨v', hv', _, _, hx, hy⟩ := (h.gd i (by omega)).1 hi'
  rw [hv] at hv'
  cases hv'
  obtain ⟨p, e1, _, A1⟩ := hx
  obtain ⟨q, e2, _, A2⟩ := hy
  refine ⟨fun g e => ?_, fun g e => ?_⟩
  · rw [e1] at e; cases e; exact A1.1
  · rw [e2] at e; cases e; exact A2.1
theorem At.same {W W' : World} {k : Nat} {cs : Array Value} (h : At W k cs) (e : W'.heap[k]? = W.heap[k]?) : At W' k cs := by
  refine ⟨?_, fun i => by rw [World.cell?_of_block (a := ⟨k, i, none⟩) e]; exact h.2.1 i, fun i => by rw [World.frozen?_of_block (a := ⟨k, i, none⟩) e]; exact h.2.2 i⟩
  rw [Array.getElem?_eq_getElem h.1] at e
  exact (Array.getElem?_eq_some_iff.1 e).1
/-- A row whose first ones are written over. -/
structure Rst {β : Type} (vals : β → List Value) (W : World) (k : Nat) (lr l : List β) (i : Nat) : Prop where
  at_ : At W k (rowV [] vals l).toArray
  len : l.length = lr.length
  rest : ∀ j, i ≤ j → l[j]? = lr[j]?
theorem Rst.next {β : Type} {vals : β → List Value} {W : World} {k s : Nat} {lr l : List β} {i : Nat} (hv : ∀ x, (vals x).length = s) (h : Rst vals W k lr l i) (hi : i < lr.length) (v : β) : Rst vals (W.setCells k (i * s) (vals v)) k lr (l.set i v) (i + 1) :=
  ⟨h.at_.setElem hv i (by rw [h.len]; exact hi) v (i * s) (by simp), by rw [List.length_set]; exact h.len, fun j hj => by rw [List.getElem?_set_ne (by omega)]; exact h.rest j (by omega)⟩
theorem Rst.same {β : Type} {vals : β → List Value} {W W' : World} {k : Nat} {lr l : List β} {i : Nat} (h : Rst vals W k lr l i) (e : W'.heap[k]? = W.heap[k]?) : Rst vals W' k lr l i := ⟨At.same h.at_ e, h.len, h.rest⟩
theorem Rst.cell {β : Type} {vals : β → List Value} {W : World} {k s : Nat} {lr l : List β} {i : Nat} (hv : ∀ x, (vals x).length = s) (h : Rst vals W k lr l i) {v : β} (e : lr[i]? = some v) : W.rangeAt k (i * s) (vals v) := elem_atL hv h.at_ i v ((h.rest i (Nat.le_refl _)).trans e)
set_option maxRecDepth 100000 in
set_option maxHeartbeats 16000000 in
theorem over_any (m : PImg) (kk kr kc kg lo hi : Nat) (lr : List RgV) (lc : List CpV) (lg : List GtV) (B : Nat) (w0 w : World) (hI0 : LeIn kk kr kc kg w m lr lc lg) (hS : LeSep lo kr kc kg hi m lr lc lg) (hG : Below B w0 w) (h0 : B ≤ lo) (hF : TwFit m) : Calls Tryz.prog 10 #[.agg #[.slice (some ⟨kr, 0, none⟩) m.regs.length (m.regs.length + 8), .slice (some ⟨kc, 0, none⟩) m.comps.length (m.comps.length + 8), .slice (some ⟨kg, 0, none⟩) m.gates.length (m.gates.length + 8), .int .i64 m.depth]] w fun x w' => x = .returned (.tuple #[]) ∧ Below B w0 w' := by
  have l1 : m.regs.length ≤ 281474976710648 := by have := hF.r; omega
  have l2 : m.comps.length ≤ 281474976710648 := by have := hF.c; omega
  have l3 : m.gates.length ≤ 281474976710648 := by have := hF.g; omega
  have a1 := hS.a
  have a2 := hS.b
  have a3 := hS.c
  have b1 := hI0.g.1
  replace hF := Hid.mk hF
  replace hS := Hid.mk hS
  replace hI0 := Hid.mk hI0
  replace hG := Hid.mk hG
  go_enter Tryz.func10, Tryz.ntmps10
  go_upto_region 1 with fail
  refine wp_world (fun W => At W w.heap.size #[.slice (some ⟨kr, 0, none⟩) m.regs.length (m.regs.length + 8), .slice (some ⟨kc, 0, none⟩) m.comps.length (m.comps.length + 8), .slice (some ⟨kg, 0, none⟩) m.gates.length (m.gates.length + 8), .int .i64 m.depth] ∧ Gr w W) ⟨At.new w _ _, (Gr.refl w).alloc _⟩ ?_
  rintro W0 ⟨BM, G0⟩
  replace BM := Hid.mk BM
  have hI := Hid.mk (hI0.out.gr G0)
  have V0 : Hid (Ov B w0 W0 (fun b => kr ≤ b ∧ b < kc) W0) := Hid.mk (Ov.refl (hG.out.trans (below_gr G0 (by omega))))
  clear G0 hG
  go_upto_region 2 with fail
  have R0 : Hid (Rst RgV.vals W0 kr lr lr 0) := Hid.mk ⟨hI.out.r, rfl, fun _ _ => rfl⟩
  go_loopw [2] (fun x wr => ∃ (i : Nat) (l : List RgV), x = .int .i64 i ∧ i ≤ m.regs.length ∧ Hid (Ov B w0 W0 (fun b => kr ≤ b ∧ b < kc) wr) ∧ Hid (Rst RgV.vals wr kr lr l i)) (fun x _ => m.regs.length - (intOf x).toNat)
  case atStart => exact ⟨0, lr, rfl, Nat.zero_le _, V0, R0⟩
  case round =>
    obtain ⟨i, l, rfl, hi', VV, RR⟩ := hrel
    have m0 : wr.cell? ⟨w.heap.size, 0, none⟩ = some (.slice (some ⟨kr, 0, none⟩) m.regs.length (m.regs.length + 8)) := (VV.out.at_ BM.out (by omega)).2.1 0
    by_cases hn : i < m.regs.length
    · have hi1 : (i : Int) < (m.regs.length : Int) := Int.ofNat_lt.2 hn
      obtain ⟨v, g1, hv, e1, g2, g3, ht⟩ := rlist hI.out hS.out i hn
      have hlr : i < lr.length := (List.getElem?_eq_some_iff.1 hv).1
      have hfit : m.regs[i].slots.length ≤ 281474976710648 := by have := hF.out.rs _ (List.getElem_mem hn); omega
      obtain ⟨vb, vn, vd, vs⟩ := v
      dsimp only at e1
      subst e1
      generalize m.regs[i].slots.length = n at *
      have e3 : wr.cell? ⟨kr, i * 4 + 1 + 1 + 1, none⟩ = some (.slice (some ⟨g1, 0, none⟩) n (n + 8)) := RR.out.cell rg_len hv 3 _ rfl
      have hcl := Hid.mk (markT_any B w0 W0 wr _ g1 n (n + 8) VV.out ⟨Nat.le_of_lt g2, g3⟩ (by omega) ht hfit)
      go_wp2_with fail
      refine hcl.out.mono ?_
      rintro x V1 ⟨rfl, q1, q2⟩
      clear m0 e3 hcl
      replace VV := Hid.mk q1
      replace RR := Hid.mk (RR.out.same (q2 kr (by omega)))
      clear q1 q2
      have m0 : V1.cell? ⟨w.heap.size, 0, none⟩ = some (.slice (some ⟨kr, 0, none⟩) m.regs.length (m.regs.length + 8)) := (VV.out.at_ BM.out (by omega)).2.1 0
      have hin8 : (i : Int) < (m.regs.length : Int) := hi1
      go_upto_region 5 with fail
      refine wp_region_lit ?_
      refine wpList_plain rfl (fun K hK => ?_)
      go_simp
      with_reducible refine hK _ _ ?_
      clear hK K
      try simp only [Act.put, List.setIfInBounds_toArray, List.set_cons_zero, List.set_cons_succ]
      refine wpList_plain rfl (fun K hK => ?_)
      go_simp
      with_reducible refine hK _ _ ?_
      clear hK K
      try simp only [Act.put, List.setIfInBounds_toArray, List.set_cons_zero, List.set_cons_succ]
      refine wpList_plain rfl (fun K hK => ?_)
      go_simp
      with_reducible refine hK _ _ ?_
      clear hK K
      try simp only [Act.put, List.setIfInBounds_toArray, List.set_cons_zero, List.set_cons_succ]
      refine wpList_plain rfl (fun K hK => ?_)
      go_simp
      with_reducible refine hK _ _ ?_
      clear hK K
      try simp only [Act.put, List.setIfInBounds_toArray, List.set_cons_zero, List.set_cons_succ]
      refine wpList_plain rfl (fun K hK => ?_)
      go_simp
      with_reducible refine hK _ _ ?_
      clear hK K
      try simp only [Act.put, List.setIfInBounds_toArray, List.set_cons_zero, List.set_cons_succ]
      have hT := Hid.mk (RR.out.at_.there (i * 4) 4 (by rw [row_len (pre := []) rg_len, RR.out.len]; simp; exact el_le hlr))
      replace VV := Hid.mk (VV.out.sets kr (i * 4) (RgV.vals (⟨5, 0, [], nilS⟩ : RgV)) (by omega) (by omega))
      replace RR := Hid.mk (RR.out.next rg_len hlr (⟨5, 0, [], nilS⟩ : RgV))
      refine wpList_plain rfl (fun K hK => ?_)
      refine wp_store_mid _ _ _ rfl _ _ (List.toArray (RgV.vals (⟨5, 0, [], nilS⟩ : RgV))) rfl rfl hT.out (by kernel_rfl) (all_oneCell_toArray (rg_one _)) (hK _ _ ?_)
      clear hK K hT
      try simp only [Act.put]
      generalize World.setCells _ _ _ _ = V9 at *
      clear m0
      go_wp2_with fail
      refine ⟨⟨i + 1, _, ?_, hn, VV, RR⟩, ?_⟩
      · first | rfl | rw [next_wO hn l1] | go_num
      · first | exact next_mO hn | (rw [next_wO hn l1]; exact next_mO hn)
    · have hi1 : ¬ (i : Int) < (m.regs.length : Int) := fun q => hn (Int.ofNat_lt.1 q)
      have ei : i = m.regs.length := Nat.le_antisymm hi' (Nat.le_of_not_lt hn)
      subst ei
      go_upto_region 7 with fail
      clear m0
      have A2 := Hid.mk (VV.out.at_ hI.out.c (by omega))
      have A3 := Hid.mk (VV.out.at_ hI.out.g (by omega))
      have P1 := Hid.mk VV.out.there
      have BM1 := Hid.mk (VV.out.at_ BM.out (by omega))
      clear BM
      have BM := BM1
      clear BM1
      have V1 : Hid (Ov B w0 wr (fun b => kc ≤ b ∧ b < kg) wr) := Hid.mk (Ov.refl VV.out.gr)
      clear VV RR V0 R0
      generalize wr = Wc at *
      have R1 : Hid (Rst CpV.vals Wc kc lc lc 0) := Hid.mk ⟨A2.out, rfl, fun _ _ => rfl⟩
      clear A2
      go_loopw [3] (fun x wr => ∃ (i : Nat) (l : List CpV), x = .int .i64 i ∧ i ≤ m.comps.length ∧ Hid (Ov B w0 Wc (fun b => kc ≤ b ∧ b < kg) wr) ∧ Hid (Rst CpV.vals wr kc lc l i)) (fun x _ => m.comps.length - (intOf x).toNat)
      case atStart => exact ⟨0, lc, rfl, Nat.zero_le _, V1, R1⟩
      case round =>
        obtain ⟨i, l, rfl, hi', VV, RR⟩ := hrel
        have m1 : wr.cell? ⟨w.heap.size, 1, none⟩ = some (.slice (some ⟨kc, 0, none⟩) m.comps.length (m.comps.length + 8)) := (VV.out.at_ BM.out (by omega)).2.1 1
        by_cases hn : i < m.comps.length
        · have hi1 : (i : Int) < (m.comps.length : Int) := Int.ofNat_lt.2 hn
          obtain ⟨v, g1, g4, hv, e1, g2, g3, ht, e2, g5, g6, ht2⟩ := clist hI.out hS.out i hn
          have hlr : i < lc.length := (List.getElem?_eq_some_iff.1 hv).1
          have hfit := hF.out.cs _ (List.getElem_mem hn)
          have hf1 : m.comps[i].roots.length ≤ 281474976710648 := by omega
          have hf2 : m.comps[i].code.length ≤ 281474976710648 := by omega
          clear hfit
          obtain ⟨vr, vk⟩ := v
          dsimp only at e1 e2
          subst e1 e2
          generalize m.comps[i].roots.length = n at *
          generalize m.comps[i].code.length = n' at *
          replace ht := Hid.mk (P1.out _ _ _ ht)
          replace ht2 := Hid.mk (P1.out _ _ _ ht2)
          go_upto_region 10 with fail
          clear m1
          have VV0 := VV
          have RR0 := RR
          clear VV RR
          go_loopw [4] (fun x wr => ∃ k : Nat, x = .int .i64 k ∧ k ≤ n' ∧ Hid (Ov B w0 Wc (fun b => kc ≤ b ∧ b < kg) wr) ∧ Hid (Rst CpV.vals wr kc lc l i)) (fun x _ => n' - (intOf x).toNat)
          case atStart => exact ⟨0, rfl, Nat.zero_le _, VV0, RR0⟩
          case round =>
            clear VV0 RR0
            obtain ⟨k, rfl, hk', VV, RR⟩ := hrel
            have m1 : wr.cell? ⟨w.heap.size, 1, none⟩ = some (.slice (some ⟨kc, 0, none⟩) m.comps.length (m.comps.length + 8)) := (VV.out.at_ BM.out (by omega)).2.1 1
            have e3 : wr.cell? ⟨kc, i * 2 + 1, none⟩ = some (.slice (some ⟨g4, 0, none⟩) n' (n' + 8)) := RR.out.cell cp_len hv 1 _ rfl
            by_cases hk : k < n'
            · have hk1 : (k : Int) < (n' : Int) := Int.ofNat_lt.2 hk
              have hT := Hid.mk (there_mid (k := 5) (VV.out.there _ _ _ ht2.out) (el_le hk))
              go_upto_region 12 with fail
              refine wp_region_lit ?_
              refine wpList_plain rfl (fun K hK => ?_)
              go_simp
              with_reducible refine hK _ _ ?_
              clear hK K
              try simp only [Act.put, List.setIfInBounds_toArray, List.set_cons_zero, List.set_cons_succ]
              refine wpList_plain rfl (fun K hK => ?_)
              go_simp
              with_reducible refine hK _ _ ?_
              clear hK K
              try simp only [Act.put, List.setIfInBounds_toArray, List.set_cons_zero, List.set_cons_succ]
              refine wpList_plain rfl (fun K hK => ?_)
              go_simp
              with_reducible refine hK _ _ ?_
              clear hK K
              try simp only [Act.put, List.setIfInBounds_toArray, List.set_cons_zero, List.set_cons_succ]
              refine wpList_plain rfl (fun K hK => ?_)
              go_simp
              with_reducible refine hK _ _ ?_
              clear hK K
              try simp only [Act.put, List.setIfInBounds_toArray, List.set_cons_zero, List.set_cons_succ]
              refine wpList_plain rfl (fun K hK => ?_)
              go_simp
              with_reducible refine hK _ _ ?_
              clear hK K
              try simp only [Act.put, List.setIfInBounds_toArray, List.set_cons_zero, List.set_cons_succ]
              refine wpList_plain rfl (fun K hK => ?_)
              go_simp
              with_reducible refine hK _ _ ?_
              clear hK K
              try simp only [Act.put, List.setIfInBounds_toArray, List.set_cons_zero, List.set_cons_succ]
              refine wpList_plain rfl (fun K hK => ?_)
              go_simp
              with_reducible refine hK _ _ ?_
              clear hK K
              try simp only [Act.put, List.setIfInBounds_toArray, List.set_cons_zero, List.set_cons_succ]
              refine wpList_plain rfl (fun K hK => ?_)
              go_simp
              with_reducible refine hK _ _ ?_
              clear hK K
              try simp only [Act.put, List.setIfInBounds_toArray, List.set_cons_zero, List.set_cons_succ]
              refine wpList_plain rfl (fun K hK => ?_)
              go_simp
              with_reducible refine hK _ _ ?_
              clear hK K
              try simp only [Act.put, List.setIfInBounds_toArray, List.set_cons_zero, List.set_cons_succ]
              replace VV := Hid.mk (VV.out.sets g4 (k * 5) (Ins.vals ({ op := 99, a := 0, b := 0, c := 0, m := 0 } : Ins)) (by omega) (by omega))
              replace RR := Hid.mk (RR.out.same (setCells_block g4 kc (by omega) (Ins.vals ({ op := 99, a := 0, b := 0, c := 0, m := 0 } : Ins)) (k * 5) wr))
              refine wpList_plain rfl (fun K hK => ?_)
              refine wp_store_mid _ _ _ rfl _ _ (List.toArray (Ins.vals ({ op := 99, a := 0, b := 0, c := 0, m := 0 } : Ins))) rfl rfl hT.out (by kernel_rfl) (all_oneCell_toArray (ins_one _)) (hK _ _ ?_)
              clear hK K hT
              try simp only [Act.put]
              generalize World.setCells _ _ _ _ = V9 at *
              clear m1 e3
              go_wp2_with fail
              refine ⟨⟨k + 1, ?_, hk, VV, RR⟩, ?_⟩
              · first | rfl | rw [next_wO hk hf2] | go_num
              · first | exact next_mO hk | (rw [next_wO hk hf2]; exact next_mO hk)
            · have hk1 : ¬ (k : Int) < (n' : Int) := fun q => hk (Int.ofNat_lt.1 q)
              go_upto_region 14 with fail
              clear m1 e3
              have VV0 := VV
              have RR0 := RR
              clear VV RR
              go_loopw [5] (fun x wr => ∃ k : Nat, x = .int .i64 k ∧ k ≤ n ∧ Hid (Ov B w0 Wc (fun b => kc ≤ b ∧ b < kg) wr) ∧ Hid (Rst CpV.vals wr kc lc l i)) (fun x _ => n - (intOf x).toNat)
              case atStart => exact ⟨0, rfl, Nat.zero_le _, VV0, RR0⟩
              case round =>
                clear VV0 RR0
                obtain ⟨k, rfl, hk', VV, RR⟩ := hrel
                have m1 : wr.cell? ⟨w.heap.size, 1, none⟩ = some (.slice (some ⟨kc, 0, none⟩) m.comps.length (m.comps.length + 8)) := (VV.out.at_ BM.out (by omega)).2.1 1
                have e3 : wr.cell? ⟨kc, i * 2, none⟩ = some (.slice (some ⟨g1, 0, none⟩) n (n + 8)) := RR.out.cell cp_len hv 0 _ rfl
                by_cases hk : k < n
                · have hk1 : (k : Int) < (n : Int) := Int.ofNat_lt.2 hk
                  have hT := Hid.mk (there_mid (k := 6) (VV.out.there _ _ _ ht.out) (el_le hk))
                  go_upto_region 16 with fail
                  refine wp_region_lit ?_
                  refine wpList_plain rfl (fun K hK => ?_)
                  go_simp
                  with_reducible refine hK _ _ ?_
                  clear hK K
                  try simp only [Act.put, List.setIfInBounds_toArray, List.set_cons_zero, List.set_cons_succ]
                  refine wpList_plain rfl (fun K hK => ?_)
                  go_simp
                  with_reducible refine hK _ _ ?_
                  clear hK K
                  try simp only [Act.put, List.setIfInBounds_toArray, List.set_cons_zero, List.set_cons_succ]
                  refine wpList_plain rfl (fun K hK => ?_)
                  go_simp
                  with_reducible refine hK _ _ ?_
                  clear hK K
                  try simp only [Act.put, List.setIfInBounds_toArray, List.set_cons_zero, List.set_cons_succ]
                  refine wpList_plain rfl (fun K hK => ?_)
                  go_simp
                  with_reducible refine hK _ _ ?_
                  clear hK K
                  try simp only [Act.put, List.setIfInBounds_toArray, List.set_cons_zero, List.set_cons_succ]
                  refine wpList_plain rfl (fun K hK => ?_)
                  go_simp
                  with_reducible refine hK _ _ ?_
                  clear hK K
                  try simp only [Act.put, List.setIfInBounds_toArray, List.set_cons_zero, List.set_cons_succ]
                  refine wpList_plain rfl (fun K hK => ?_)
                  go_simp
                  with_reducible refine hK _ _ ?_
                  clear hK K
                  try simp only [Act.put, List.setIfInBounds_toArray, List.set_cons_zero, List.set_cons_succ]
                  refine wpList_plain rfl (fun K hK => ?_)
                  go_simp
                  with_reducible refine hK _ _ ?_
                  clear hK K
                  try simp only [Act.put, List.setIfInBounds_toArray, List.set_cons_zero, List.set_cons_succ]
                  refine wpList_plain rfl (fun K hK => ?_)
                  go_simp
                  with_reducible refine hK _ _ ?_
                  clear hK K
                  try simp only [Act.put, List.setIfInBounds_toArray, List.set_cons_zero, List.set_cons_succ]
                  refine wpList_plain rfl (fun K hK => ?_)
                  go_simp
                  with_reducible refine hK _ _ ?_
                  clear hK K
                  try simp only [Act.put, List.setIfInBounds_toArray, List.set_cons_zero, List.set_cons_succ]
                  replace VV := Hid.mk (VV.out.sets g1 (k * 6) (PRoot.vals ({ r := 99, b := 0, e := 0, c := 0, p := 0, s := 0 } : PRoot)) (by omega) (by omega))
                  replace RR := Hid.mk (RR.out.same (setCells_block g1 kc (by omega) (PRoot.vals ({ r := 99, b := 0, e := 0, c := 0, p := 0, s := 0 } : PRoot)) (k * 6) wr))
                  refine wpList_plain rfl (fun K hK => ?_)
                  refine wp_store_mid _ _ _ rfl _ _ (List.toArray (PRoot.vals ({ r := 99, b := 0, e := 0, c := 0, p := 0, s := 0 } : PRoot))) rfl rfl hT.out (by kernel_rfl) (all_oneCell_toArray (rot_one _)) (hK _ _ ?_)
                  clear hK K hT
                  try simp only [Act.put]
                  generalize World.setCells _ _ _ _ = V9 at *
                  clear m1 e3
                  go_wp2_with fail
                  refine ⟨⟨k + 1, ?_, hk, VV, RR⟩, ?_⟩
                  · first | rfl | rw [next_wO hk hf1] | go_num
                  · first | exact next_mO hk | (rw [next_wO hk hf1]; exact next_mO hk)
                · have hk1 : ¬ (k : Int) < (n : Int) := fun q => hk (Int.ofNat_lt.1 q)
                  go_upto_region 17 with fail
                  refine wp_region_lit ?_
                  refine wpList_plain rfl (fun K hK => ?_)
                  go_simp
                  with_reducible refine hK _ _ ?_
                  clear hK K
                  try simp only [Act.put, List.setIfInBounds_toArray, List.set_cons_zero, List.set_cons_succ]
                  refine wpList_plain rfl (fun K hK => ?_)
                  go_simp
                  with_reducible refine hK _ _ ?_
                  clear hK K
                  try simp only [Act.put, List.setIfInBounds_toArray, List.set_cons_zero, List.set_cons_succ]
                  refine wpList_plain rfl (fun K hK => ?_)
                  go_simp
                  with_reducible refine hK _ _ ?_
                  clear hK K
                  try simp only [Act.put, List.setIfInBounds_toArray, List.set_cons_zero, List.set_cons_succ]
                  refine wpList_plain rfl (fun K hK => ?_)
                  go_simp
                  with_reducible refine hK _ _ ?_
                  clear hK K
                  try simp only [Act.put, List.setIfInBounds_toArray, List.set_cons_zero, List.set_cons_succ]
                  refine wpList_plain rfl (fun K hK => ?_)
                  go_simp
                  with_reducible refine hK _ _ ?_
                  clear hK K
                  try simp only [Act.put, List.setIfInBounds_toArray, List.set_cons_zero, List.set_cons_succ]
                  have hT := Hid.mk (RR.out.at_.there (i * 2) 2 (by rw [row_len (pre := []) cp_len, RR.out.len]; simp; exact el_le hlr))
                  replace VV := Hid.mk (VV.out.sets kc (i * 2) (CpV.vals cpZ) (by omega) (by omega))
                  replace RR := Hid.mk (RR.out.next cp_len hlr cpZ)
                  refine wpList_plain rfl (fun K hK => ?_)
                  refine wp_store_mid _ _ _ rfl _ _ (List.toArray (CpV.vals cpZ)) rfl rfl hT.out (by kernel_rfl) (all_oneCell_toArray (cp_one _)) (hK _ _ ?_)
                  clear hK K hT
                  try simp only [Act.put]
                  generalize World.setCells _ _ _ _ = V9 at *
                  clear m1 e3
                  go_wp2_with fail
                  refine ⟨⟨i + 1, _, ?_, hn, VV, RR⟩, ?_⟩
                  · first | rfl | rw [next_wO hn l2] | go_num
                  · first | exact next_mO hn | (rw [next_wO hn l2]; exact next_mO hn)
        · have hi1 : ¬ (i : Int) < (m.comps.length : Int) := fun q => hn (Int.ofNat_lt.1 q)
          have ei : i = m.comps.length := Nat.le_antisymm hi' (Nat.le_of_not_lt hn)
          subst ei
          go_upto_region 19 with fail
          clear m1
          have A4 := Hid.mk (VV.out.at_ A3.out (by omega))
          have P2 := Hid.mk (fun b o n h => VV.out.there b o n (P1.out b o n h))
          have BM1 := Hid.mk (VV.out.at_ BM.out (by omega))
          clear BM A3 P1
          have BM := BM1
          clear BM1
          have V2 : Hid (Ov B w0 wr (fun b => kg ≤ b ∧ b < w.heap.size) wr) := Hid.mk (Ov.refl VV.out.gr)
          clear VV RR V1 R1
          generalize wr = Wd at *
          have R2 : Hid (Rst GtV.vals Wd kg lg lg 0) := Hid.mk ⟨A4.out, rfl, fun _ _ => rfl⟩
          clear A4
          go_loopw [6] (fun x wr => ∃ (i : Nat) (l : List GtV), x = .int .i64 i ∧ i ≤ m.gates.length ∧ Hid (Ov B w0 Wd (fun b => kg ≤ b ∧ b < w.heap.size) wr) ∧ Hid (Rst GtV.vals wr kg lg l i)) (fun x _ => m.gates.length - (intOf x).toNat)
          case atStart => exact ⟨0, lg, rfl, Nat.zero_le _, V2, R2⟩
          case round =>
            obtain ⟨i, l, rfl, hi', VV, RR⟩ := hrel
            have m2 : wr.cell? ⟨w.heap.size, 2, none⟩ = some (.slice (some ⟨kg, 0, none⟩) m.gates.length (m.gates.length + 8)) := (VV.out.at_ BM.out (by omega)).2.1 2
            by_cases hn : i < m.gates.length
            · have hi1 : (i : Int) < (m.gates.length : Int) := Int.ofNat_lt.2 hn
              obtain ⟨v, g1, g4, hv, e1, g2, ht, e2, g5, ht2⟩ := glist hI.out hS.out i hn
              have hq := glt hI0.out i hn v hv
              have hq1 := hq.1 g1 (by rw [e1])
              have hq2 := hq.2 g4 (by rw [e2])
              clear hq
              have hlr : i < lg.length := (List.getElem?_eq_some_iff.1 hv).1
              have hfit := hF.out.gs _ (List.getElem_mem hn)
              have hf1 : m.gates[i].args.length ≤ 281474976710648 := by omega
              have hf2 : m.gates[i].res.length ≤ 281474976710648 := by omega
              clear hfit
              have hx1 := Hid.mk (P2.out _ _ _ ht)
              have hx2 := Hid.mk (P2.out _ _ _ ht2)
              clear ht ht2
              obtain ⟨vc, ve, vx, vy⟩ := v
              dsimp only at e1 e2
              subst e1 e2
              generalize m.gates[i].args.length = n at *
              generalize m.gates[i].res.length = n' at *
              go_upto_region 22 with fail
              clear m2
              have VV0 := VV
              have RR0 := RR
              clear VV RR
              go_loopw [7] (fun x wr => ∃ k : Nat, x = .int .i64 k ∧ k ≤ n ∧ Hid (Ov B w0 Wd (fun b => kg ≤ b ∧ b < w.heap.size) wr) ∧ Hid (Rst GtV.vals wr kg lg l i)) (fun x _ => n - (intOf x).toNat)
              case atStart => exact ⟨0, rfl, Nat.zero_le _, VV0, RR0⟩
              case round =>
                clear VV0 RR0
                obtain ⟨k, rfl, hk', VV, RR⟩ := hrel
                have m2 : wr.cell? ⟨w.heap.size, 2, none⟩ = some (.slice (some ⟨kg, 0, none⟩) m.gates.length (m.gates.length + 8)) := (VV.out.at_ BM.out (by omega)).2.1 2
                have e3 : wr.cell? ⟨kg, i * 4 + 1 + 1, none⟩ = some (.slice (some ⟨g1, 0, none⟩) n (n + 8)) := RR.out.cell gt_len hv 2 _ rfl
                by_cases hk : k < n
                · have hk1 : (k : Int) < (n : Int) := Int.ofNat_lt.2 hk
                  obtain ⟨y9, c9, f9⟩ := there_one (VV.out.there _ _ _ hx1.out) (el_lt hk 4 (by decide))
                  replace VV := Hid.mk (VV.out.sets g1 (k * 7 + 4) [.int .u64 99] (by omega) (by omega))
                  replace RR := Hid.mk (RR.out.same (setCells_block g1 kg (by omega) [.int .u64 99] (k * 7 + 4) wr))
                  simp only [World.setCells] at VV RR
                  go_wp2_with fail
                  refine ⟨⟨k + 1, ?_, hk, VV, RR⟩, ?_⟩
                  · first | rfl | rw [next_wO hk hf1] | go_num
                  · first | exact next_mO hk | (rw [next_wO hk hf1]; exact next_mO hk)
                · have hk1 : ¬ (k : Int) < (n : Int) := fun q => hk (Int.ofNat_lt.1 q)
                  go_upto_region 26 with fail
                  clear m2 e3
                  have VV0 := VV
                  have RR0 := RR
                  clear VV RR
                  go_loopw [8] (fun x wr => ∃ k : Nat, x = .int .i64 k ∧ k ≤ n' ∧ Hid (Ov B w0 Wd (fun b => kg ≤ b ∧ b < w.heap.size) wr) ∧ Hid (Rst GtV.vals wr kg lg l i)) (fun x _ => n' - (intOf x).toNat)
                  case atStart => exact ⟨0, rfl, Nat.zero_le _, VV0, RR0⟩
                  case round =>
                    clear VV0 RR0
                    obtain ⟨k, rfl, hk', VV, RR⟩ := hrel
                    have m2 : wr.cell? ⟨w.heap.size, 2, none⟩ = some (.slice (some ⟨kg, 0, none⟩) m.gates.length (m.gates.length + 8)) := (VV.out.at_ BM.out (by omega)).2.1 2
                    have e3 : wr.cell? ⟨kg, i * 4 + 1 + 1 + 1, none⟩ = some (.slice (some ⟨g4, 0, none⟩) n' (n' + 8)) := RR.out.cell gt_len hv 3 _ rfl
                    by_cases hk : k < n'
                    · have hk1 : (k : Int) < (n' : Int) := Int.ofNat_lt.2 hk
                      obtain ⟨y9, c9, f9⟩ := there_one (VV.out.there _ _ _ hx2.out) (el_lt hk 4 (by decide))
                      replace VV := Hid.mk (VV.out.sets g4 (k * 7 + 4) [.int .u64 99] (by omega) (by omega))
                      replace RR := Hid.mk (RR.out.same (setCells_block g4 kg (by omega) [.int .u64 99] (k * 7 + 4) wr))
                      simp only [World.setCells] at VV RR
                      go_wp2_with fail
                      refine ⟨⟨k + 1, ?_, hk, VV, RR⟩, ?_⟩
                      · first | rfl | rw [next_wO hk hf2] | go_num
                      · first | exact next_mO hk | (rw [next_wO hk hf2]; exact next_mO hk)
                    · have hk1 : ¬ (k : Int) < (n' : Int) := fun q => hk (Int.ofNat_lt.1 q)
                      go_upto_region 29 with fail
                      refine wp_region_lit ?_
                      refine wpList_plain rfl (fun K hK => ?_)
                      go_simp
                      with_reducible refine hK _ _ ?_
                      clear hK K
                      try simp only [Act.put, List.setIfInBounds_toArray, List.set_cons_zero, List.set_cons_succ]
                      refine wpList_plain rfl (fun K hK => ?_)
                      go_simp
                      with_reducible refine hK _ _ ?_
                      clear hK K
                      try simp only [Act.put, List.setIfInBounds_toArray, List.set_cons_zero, List.set_cons_succ]
                      refine wpList_plain rfl (fun K hK => ?_)
                      go_simp
                      with_reducible refine hK _ _ ?_
                      clear hK K
                      try simp only [Act.put, List.setIfInBounds_toArray, List.set_cons_zero, List.set_cons_succ]
                      refine wpList_plain rfl (fun K hK => ?_)
                      go_simp
                      with_reducible refine hK _ _ ?_
                      clear hK K
                      try simp only [Act.put, List.setIfInBounds_toArray, List.set_cons_zero, List.set_cons_succ]
                      refine wpList_plain rfl (fun K hK => ?_)
                      go_simp
                      with_reducible refine hK _ _ ?_
                      clear hK K
                      try simp only [Act.put, List.setIfInBounds_toArray, List.set_cons_zero, List.set_cons_succ]
                      have hT := Hid.mk (RR.out.at_.there (i * 4) 4 (by rw [row_len (pre := []) gt_len, RR.out.len]; simp; exact el_le hlr))
                      replace VV := Hid.mk (VV.out.sets kg (i * 4) (GtV.vals (⟨99, 0, nilS, nilS⟩ : GtV)) (by omega) (by omega))
                      replace RR := Hid.mk (RR.out.next gt_len hlr (⟨99, 0, nilS, nilS⟩ : GtV))
                      refine wpList_plain rfl (fun K hK => ?_)
                      refine wp_store_mid _ _ _ rfl _ _ (List.toArray (GtV.vals (⟨99, 0, nilS, nilS⟩ : GtV))) rfl rfl hT.out (by kernel_rfl) (all_oneCell_toArray (gt_one _)) (hK _ _ ?_)
                      clear hK K hT
                      try simp only [Act.put]
                      generalize World.setCells _ _ _ _ = V9 at *
                      clear m2 e3
                      go_wp2_with fail
                      refine ⟨⟨i + 1, _, ?_, hn, VV, RR⟩, ?_⟩
                      · first | rfl | rw [next_wO hn l3] | go_num
                      · first | exact next_mO hn | (rw [next_wO hn l3]; exact next_mO hn)
            · have hi1 : ¬ (i : Int) < (m.gates.length : Int) := fun q => hn (Int.ofNat_lt.1 q)
              have ei : i = m.gates.length := Nat.le_antisymm hi' (Nat.le_of_not_lt hn)
              subst ei
              go_wp2_with fail
              simp [bodyPost, results, Tryz.results10, go_sem]
              exact VV.out.gr
end Q
end Go.Proofs.YtmmakknhaacplaaGreatDoor
