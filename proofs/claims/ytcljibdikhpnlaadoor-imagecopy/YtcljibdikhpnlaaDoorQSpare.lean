import Derived.Test.YtcljibdikhpnlaaDoorQLent
import Derived.Deep.RegionHeld3
import Derived.BigFrame
/-
  Programs that are lent: blank, spared: the room behind is as it was.
-/
namespace Go.Proofs.YtcljibdikhpnlaaDoor
namespace Q
open Go.RowKit

theorem l8_of (n : Nat) : (n : Int) ≤ (n : Int) + 8 := by omega
theorem z8_of (n : Nat) : 0 ≤ (n : Int) + 8 := by omega
theorem t8_of (n : Nat) : ((n : Int) + 8).toNat = n + 8 := by omega
set_option maxRecDepth 100000 in
set_option maxHeartbeats 4000000 in
theorem blank_any (L : List PTyp) (s : Sl) (kk : Nat) (w : World) (h : LsOk PTyp.vals typeZ kk w L s) (hl : L.length ≤ 281474976710648) : Calls Tryd.prog 27 #[.slice s.a s.l s.c] w fun x w' => x = .returned (.bool true) ∧ Gr w w' := by
  obtain ⟨g, rfl, _, hA⟩ := h
  have uw : wrap64 ((L.length : Int) + 8) = (L.length : Int) + 8 := w8_of _ hl
  have ux : IntKind.i64.wrap ((L.length : Int) + 8) = (L.length : Int) + 8 := x8_of _ hl
  have ul := l8_of L.length
  replace hA := Hid.mk hA
  have G0 := Hid.mk (Gr.refl w)
  dsimp only
  go_enter Tryd.func27, Tryd.ntmps27
  go_upto_region 3 with fail
  go_loopw [4] (fun x wr => ∃ k : Nat, x = .int .i64 k ∧ L.length ≤ k ∧ k ≤ L.length + 8 ∧ Hid (Gr w wr)) (fun x _ => L.length + 8 - (intOf x).toNat)
  case atStart => exact ⟨L.length, rfl, by omega, by omega, G0⟩
  case round =>
    clear G0
    obtain ⟨k, rfl, hk1, hk0, G⟩ := hrel
    by_cases hk2 : k < L.length + 8
    · have hi1 : (k : Int) < (L.length : Int) + 8 := by omega
      have hel := elem_atL typ_len (hA.out.gr G.out) k _ (marked_pastL k hk1 hk2)
      have e0 : wr.cell? ⟨g, k * 7, none⟩ = some (.bool false) := hel 0 _ rfl
      have e1 : wr.cell? ⟨g, k * 7 + 1, none⟩ = some (.int .u64 0) := hel 1 _ rfl
      have e2 : wr.cell? ⟨g, k * 7 + 1 + 1, none⟩ = some (.int .u64 0) := hel 2 _ rfl
      have e3 : wr.cell? ⟨g, k * 7 + 1 + 1 + 1, none⟩ = some (.int .u64 0) := hel 3 _ rfl
      have e4 : wr.cell? ⟨g, k * 7 + 1 + 1 + 1 + 1, none⟩ = some (.int .u64 0) := hel 4 _ rfl
      have e5 : wr.cell? ⟨g, k * 7 + 1 + 1 + 1 + 1 + 1, none⟩ = some (.int .u8 0) := hel 5 _ rfl
      have e6 : wr.cell? ⟨g, k * 7 + 1 + 1 + 1 + 1 + 1 + 1, none⟩ = some (.int .i64 0) := hel 6 _ rfl
      clear hel
      go_wp2_with fail
      exact ⟨⟨k + 1, by go_num, by omega, by omega, G⟩, by simp [intOf]; omega⟩
    · have hi1 : ¬ (k : Int) < (L.length : Int) + 8 := by omega
      go_wp2_with fail
      go_ret
      exact ⟨rfl, G.out⟩
set_option maxRecDepth 100000 in
set_option maxHeartbeats 16000000 in
theorem spared_any (m : PImg) (kk kr kc kg : Nat) (lr : List RgV) (lc : List CpV) (lg : List GtV) (w : World) (hI0 : LeIn kk kr kc kg w m lr lc lg) (hF : TwFit m) : Calls Tryd.prog 8 #[.agg #[.slice (some ⟨kr, 0, none⟩) m.regs.length (m.regs.length + 8), .slice (some ⟨kc, 0, none⟩) m.comps.length (m.comps.length + 8), .slice (some ⟨kg, 0, none⟩) m.gates.length (m.gates.length + 8), .int .i64 m.depth]] w fun x w' => x = .returned (.bool true) ∧ Gr w w' := by
  have l1 : m.regs.length ≤ 281474976710648 := by have := hF.r; omega
  have l2 : m.comps.length ≤ 281474976710648 := by have := hF.c; omega
  have l3 : m.gates.length ≤ 281474976710648 := by have := hF.g; omega
  replace hF := Hid.mk hF
  replace hI0 := Hid.mk hI0
  go_enter Tryd.func8, Tryd.ntmps8
  go_upto_region 1 with fail
  refine wp_world (fun W => At W w.heap.size #[.slice (some ⟨kr, 0, none⟩) m.regs.length (m.regs.length + 8), .slice (some ⟨kc, 0, none⟩) m.comps.length (m.comps.length + 8), .slice (some ⟨kg, 0, none⟩) m.gates.length (m.gates.length + 8), .int .i64 m.depth] ∧ Gr w W) ⟨At.new w _ _, (Gr.refl w).alloc _⟩ ?_
  rintro W0 ⟨BM, G0⟩
  replace BM := Hid.mk BM
  have hI := Hid.mk (hI0.out.gr G0)
  replace G0 := Hid.mk G0
  clear hI0
  have c0 : W0.cell? ⟨w.heap.size, 0, none⟩ = some (.slice (some ⟨kr, 0, none⟩) m.regs.length (m.regs.length + 8)) := BM.out.2.1 0
  have uw : wrap64 ((m.regs.length : Int) + 8) = (m.regs.length : Int) + 8 := w8_of _ l1
  have ux : IntKind.i64.wrap ((m.regs.length : Int) + 8) = (m.regs.length : Int) + 8 := x8_of _ l1
  have ul := l8_of m.regs.length
  go_upto_region 4 with fail
  clear c0 uw ux ul
  have G := Hid.mk (Gr.refl W0)
  go_loopw [4, 5] (fun y x wr => ∃ i : Nat, y = .bool true ∧ x = .int .i64 i ∧ i ≤ m.regs.length + 8 ∧ Hid (Gr W0 wr)) (fun _ x _ => m.regs.length + 8 - (intOf x).toNat)
  case atStart => exact ⟨0, rfl, rfl, by omega, G⟩
  case round =>
    clear G
    obtain ⟨i, rfl, rfl, hi, G⟩ := hrel
    by_cases hlt : i < m.regs.length + 8
    · have hi1 : (i : Int) < (m.regs.length : Int) + 8 := by omega
      have c0 : wr.cell? ⟨w.heap.size, 0, none⟩ = some (.slice (some ⟨kr, 0, none⟩) m.regs.length (m.regs.length + 8)) := (BM.out.gr G.out).2.1 0
      by_cases hn : i < m.regs.length
      · have hin : ¬ (m.regs.length : Int) ≤ (i : Int) := by omega
        obtain ⟨v, hv, _, _, _, g1, e9, _, A1⟩ := (hI.out.rd i hlt).1 hn
        have sfit : m.regs[i].slots.length ≤ 281474976710648 := by have := hF.out.rs _ (List.getElem_mem hn); omega
        obtain ⟨vb, vn, vd, vs⟩ := v
        dsimp only at e9
        subst e9
        replace A1 := Hid.mk A1
        have hrow := Hid.mk (fun (W : World) (q : Gr W0 W) => elem_atL rg_len (hI.out.r.gr q) i _ hv)
        clear hv
        generalize m.regs[i].slots = L at *
        have sw : wrap64 ((L.length : Int) + 8) = (L.length : Int) + 8 := w8_of _ sfit
        have sx : IntKind.i64.wrap ((L.length : Int) + 8) = (L.length : Int) + 8 := x8_of _ sfit
        have sl := l8_of L.length
        have sz := z8_of L.length
        have st := t8_of L.length
        have KS : Hid (∀ W, Gr wr W → W.cell? ⟨kr, i * 4 + 1 + 1 + 1, none⟩ = some (.slice (some ⟨g1, 0, none⟩) L.length (L.length + 8))) := Hid.mk (fun W q => (hrow.out W (G.out.trans q)) 3 _ rfl)
        go_upto_region 8 with fail
        have d1 : Gr wr wr.drew := (Gr.refl _).drew
        refine wp_region_held_drew (S := (fun W => W.cell? ⟨kr, i * 4 + 1 + 1 + 1, none⟩ = some (.slice (some ⟨g1, 0, none⟩) L.length (L.length + 8)))) (by kernel_rfl) (KS.out _ d1) (fun hHeld => ?_)
        refine wpAnyH_take (i := 0) (oi := { dst := some 70, op := Op.move (Operand.tmp 3), type := 22, pos := "law.go:108", after := #[], guard := none }) (v := ?_) rfl (by kernel_rfl) (by kernel_rfl) (by kernel_rfl) (fun _ _ _ h => h) (Or.inl ⟨by rfl, ?_⟩) (by assumption) ?_
        rotate_left
        · intro w hSw; (try dsimp only at hSw); go_simp; first | done | with_reducible rfl
        try simp only [Act.put, List.setIfInBounds_toArray, List.set_cons_zero, List.set_cons_succ]
        refine wpAnyH_take (i := 1) (oi := { dst := some 71, op := Op.move (Operand.tmp 5), type := 3, pos := "law.go:108", after := #[], guard := none }) (v := ?_) rfl (by kernel_rfl) (by kernel_rfl) (by kernel_rfl) (fun _ _ _ h => h) (Or.inl ⟨by rfl, ?_⟩) (by assumption) ?_
        rotate_left
        · intro w hSw; (try dsimp only at hSw); go_simp; first | done | with_reducible rfl
        try simp only [Act.put, List.setIfInBounds_toArray, List.set_cons_zero, List.set_cons_succ]
        refine wpAnyH_take (i := 2) (oi := { dst := some 72, op := Op.indexAddr 22 (Operand.tmp 70) (Operand.tmp 71), type := 0, pos := "law.go:108", after := #[{ on := 0, ground := Ground.data }, { on := 1, ground := Ground.data }], guard := none }) (v := ?_) rfl (by kernel_rfl) (by kernel_rfl) (by kernel_rfl) (fun _ _ _ h => h) (Or.inl ⟨by rfl, ?_⟩) (by assumption) ?_
        rotate_left
        · intro w hSw; (try dsimp only at hSw); go_simp; first | done | with_reducible rfl
        try simp only [Act.put, List.setIfInBounds_toArray, List.set_cons_zero, List.set_cons_succ]
        refine wpAnyH_take (i := 3) (oi := { dst := some 73, op := Op.fieldAddr 47 (Operand.tmp 72) 3, type := 0, pos := "law.go:108", after := #[{ on := 2, ground := Ground.data }], guard := none }) (v := ?_) rfl (by kernel_rfl) (by kernel_rfl) (by kernel_rfl) (fun _ _ _ h => h) (Or.inl ⟨by rfl, ?_⟩) (by assumption) ?_
        rotate_left
        · intro w hSw; (try dsimp only at hSw); go_simp; first | done | with_reducible rfl
        try simp only [Act.put, List.setIfInBounds_toArray, List.set_cons_zero, List.set_cons_succ]
        refine wpAnyH_take (i := 4) (oi := { dst := some 74, op := Op.load 45 (Operand.tmp 73), type := 45, pos := "law.go:108", after := #[{ on := 3, ground := Ground.data }], guard := none }) (v := ?_) rfl (by kernel_rfl) (by kernel_rfl) (by kernel_rfl) (fun _ _ _ h => h) (Or.inl ⟨by rfl, ?_⟩) (by assumption) ?_
        rotate_left
        · intro w hSw; (try dsimp only at hSw); go_simp; first | done | with_reducible rfl
        try simp only [Act.put, List.setIfInBounds_toArray, List.set_cons_zero, List.set_cons_succ]
        refine wpAnyH_take (i := 5) (oi := { dst := some 75, op := Op.move (Operand.tmp 3), type := 22, pos := "law.go:108", after := #[], guard := none }) (v := ?_) rfl (by kernel_rfl) (by kernel_rfl) (by kernel_rfl) (fun _ _ _ h => h) (Or.inl ⟨by rfl, ?_⟩) (by assumption) ?_
        rotate_left
        · intro w hSw; (try dsimp only at hSw); go_simp; first | done | with_reducible rfl
        try simp only [Act.put, List.setIfInBounds_toArray, List.set_cons_zero, List.set_cons_succ]
        refine wpAnyH_take (i := 6) (oi := { dst := some 76, op := Op.move (Operand.tmp 5), type := 3, pos := "law.go:108", after := #[], guard := none }) (v := ?_) rfl (by kernel_rfl) (by kernel_rfl) (by kernel_rfl) (fun _ _ _ h => h) (Or.inl ⟨by rfl, ?_⟩) (by assumption) ?_
        rotate_left
        · intro w hSw; (try dsimp only at hSw); go_simp; first | done | with_reducible rfl
        try simp only [Act.put, List.setIfInBounds_toArray, List.set_cons_zero, List.set_cons_succ]
        refine wpAnyH_take (i := 7) (oi := { dst := some 77, op := Op.indexAddr 22 (Operand.tmp 75) (Operand.tmp 76), type := 0, pos := "law.go:108", after := #[{ on := 5, ground := Ground.data }, { on := 6, ground := Ground.data }], guard := none }) (v := ?_) rfl (by kernel_rfl) (by kernel_rfl) (by kernel_rfl) (fun _ _ _ h => h) (Or.inl ⟨by rfl, ?_⟩) (by assumption) ?_
        rotate_left
        · intro w hSw; (try dsimp only at hSw); go_simp; first | done | with_reducible rfl
        try simp only [Act.put, List.setIfInBounds_toArray, List.set_cons_zero, List.set_cons_succ]
        refine wpAnyH_take (i := 8) (oi := { dst := some 78, op := Op.fieldAddr 47 (Operand.tmp 77) 3, type := 0, pos := "law.go:108", after := #[{ on := 7, ground := Ground.data }], guard := none }) (v := ?_) rfl (by kernel_rfl) (by kernel_rfl) (by kernel_rfl) (fun _ _ _ h => h) (Or.inl ⟨by rfl, ?_⟩) (by assumption) ?_
        rotate_left
        · intro w hSw; (try dsimp only at hSw); go_simp; first | done | with_reducible rfl
        try simp only [Act.put, List.setIfInBounds_toArray, List.set_cons_zero, List.set_cons_succ]
        refine wpAnyH_take (i := 9) (oi := { dst := some 79, op := Op.load 45 (Operand.tmp 78), type := 45, pos := "law.go:108", after := #[{ on := 8, ground := Ground.data }], guard := none }) (v := ?_) rfl (by kernel_rfl) (by kernel_rfl) (by kernel_rfl) (fun _ _ _ h => h) (Or.inl ⟨by rfl, ?_⟩) (by assumption) ?_
        rotate_left
        · intro w hSw; (try dsimp only at hSw); go_simp; first | done | with_reducible rfl
        try simp only [Act.put, List.setIfInBounds_toArray, List.set_cons_zero, List.set_cons_succ]
        refine wpAnyH_take (i := 10) (oi := { dst := some 80, op := Op.call { callee := Callee.builtin Builtin.len, args := #[Operand.tmp 79], argTypes := #[45] }, type := 3, pos := "law.go:108", after := #[{ on := 9, ground := Ground.data }], guard := none }) (v := ?_) rfl (by kernel_rfl) (by kernel_rfl) (by kernel_rfl) (fun _ _ _ h => h) (Or.inl ⟨by rfl, ?_⟩) (by assumption) ?_
        rotate_left
        · intro w hSw; (try dsimp only at hSw); go_simp; first | done | with_reducible rfl
        try simp only [Act.put, List.setIfInBounds_toArray, List.set_cons_zero, List.set_cons_succ]
        refine wpAnyH_take (i := 11) (oi := { dst := some 81, op := Op.binOp BinOp.add 3 (Operand.tmp 80) (Operand.const (Value.int IntKind.i64 8)) 3, type := 3, pos := "law.go:108", after := #[{ on := 10, ground := Ground.data }], guard := none }) (v := ?_) rfl (by kernel_rfl) (by kernel_rfl) (by kernel_rfl) (fun _ _ _ h => h) (Or.inl ⟨by rfl, ?_⟩) (by assumption) ?_
        rotate_left
        · intro w hSw; (try dsimp only at hSw); go_simp; first | done | with_reducible rfl
        try simp only [Act.put, List.setIfInBounds_toArray, List.set_cons_zero, List.set_cons_succ]
        refine wpAnyH_take (i := 12) (oi := { dst := some 82, op := Op.slice 45 (Operand.tmp 74) none (some (Operand.tmp 81)) none, type := 45, pos := "law.go:108", after := #[{ on := 4, ground := Ground.data }, { on := 11, ground := Ground.data }], guard := none }) (v := ?_) rfl (by kernel_rfl) (by kernel_rfl) (by kernel_rfl) (fun _ _ _ h => h) (Or.inl ⟨by rfl, ?_⟩) (by assumption) ?_
        rotate_left
        · intro w hSw; (try dsimp only at hSw); go_simp; first | done | with_reducible rfl
        try simp only [Act.put, List.setIfInBounds_toArray, List.set_cons_zero, List.set_cons_succ]
        refine wpAnyH_take (i := 13) (oi := { dst := some 6, op := Op.assign (Operand.tmp 82), type := 45, pos := "law.go:108", after := #[{ on := 12, ground := Ground.data }, { on := 0, ground := Ground.phase }, { on := 1, ground := Ground.phase }, { on := 2, ground := Ground.phase }, { on := 3, ground := Ground.phase }, { on := 4, ground := Ground.phase }, { on := 5, ground := Ground.phase }, { on := 6, ground := Ground.phase }, { on := 7, ground := Ground.phase }, { on := 8, ground := Ground.phase }, { on := 9, ground := Ground.phase }, { on := 10, ground := Ground.phase }, { on := 11, ground := Ground.phase }, { on := 12, ground := Ground.phase }], guard := none }) (v := ?_) rfl (by kernel_rfl) (by kernel_rfl) (by kernel_rfl) (fun _ _ _ h => h) (Or.inl ⟨by rfl, ?_⟩) (by assumption) ?_
        rotate_left
        · intro w hSw; (try dsimp only at hSw); go_simp; first | done | with_reducible rfl
        try simp only [Act.put, List.setIfInBounds_toArray, List.set_cons_zero, List.set_cons_succ]
        refine wpAnyH_done (by kernel_rfl) ?_ _
        clear hHeld KS sw sx sl sz st
        replace G := Hid.mk (G.out.trans d1)
        clear d1
        generalize wr.drew = VV at *
        have e3 : VV.cell? ⟨kr, i * 4 + 1 + 1 + 1, none⟩ = some (.slice (some ⟨g1, 0, none⟩) L.length (L.length + 8)) := (hrow.out VV G.out) 3 _ rfl
        go_upto_region 10 with fail
        clear e3 hrow
        have G9 := G
        clear G
        go_loopw [4, 7] (fun y x wr => ∃ k : Nat, y = .bool true ∧ x = .int .i64 k ∧ L.length ≤ k ∧ k ≤ L.length + 8 ∧ Hid (Gr W0 wr)) (fun _ x _ => L.length + 8 - (intOf x).toNat)
        case atStart => exact ⟨L.length, rfl, rfl, by omega, by omega, G9⟩
        case round =>
          clear G9
          obtain ⟨k, rfl, rfl, hk1, hk0, G⟩ := hrel
          by_cases hk2 : k < L.length + 8
          · have hj1 : (k : Int) < (L.length : Int) + 8 := by omega
            have hel := elem_atL slt_len (A1.out.gr G.out) k _ (marked_pastL k hk1 hk2)
            have e0 : wr.cell? ⟨g1, k * 8, none⟩ = some (.bool false) := hel 0 _ rfl
            have e1 : wr.cell? ⟨g1, k * 8 + 1, none⟩ = some (.int .u64 0) := hel 1 _ rfl
            have e2 : wr.cell? ⟨g1, k * 8 + 1 + 1, none⟩ = some (.int .u64 0) := hel 2 _ rfl
            have e3 : wr.cell? ⟨g1, k * 8 + 1 + 1 + 1, none⟩ = some (.int .u64 0) := hel 3 _ rfl
            have e4 : wr.cell? ⟨g1, k * 8 + 1 + 1 + 1 + 1, none⟩ = some (.int .u64 0) := hel 4 _ rfl
            have e5 : wr.cell? ⟨g1, k * 8 + 1 + 1 + 1 + 1 + 1, none⟩ = some (.int .u8 0) := hel 5 _ rfl
            have e6 : wr.cell? ⟨g1, k * 8 + 1 + 1 + 1 + 1 + 1 + 1, none⟩ = some (.int .i64 0) := hel 6 _ rfl
            have e7 : wr.cell? ⟨g1, k * 8 + 1 + 1 + 1 + 1 + 1 + 1 + 1, none⟩ = some (.int .u64 77) := hel 7 _ rfl
            clear hel
            go_wp2_with fail
            exact ⟨⟨k + 1, rfl, by go_num, by omega, by omega, G⟩, by simp [intOf]; omega⟩
          · have hj1 : ¬ (k : Int) < (L.length : Int) + 8 := by omega
            go_wp2_with fail
            exact ⟨⟨i + 1, rfl, by go_num, by omega, G⟩, by simp [intOf]; omega⟩
      · have hin : (m.regs.length : Int) ≤ (i : Int) := by omega
        obtain ⟨v, hv, hq⟩ := (hI.out.rd i hlt).2 (by omega)
        have hq' : v = rg77 := hq
        subst hq'
        clear hq
        have hrow := Hid.mk (fun (W : World) (q : Gr W0 W) => elem_atL rg_len (hI.out.r.gr q) i _ hv)
        have e0 : wr.cell? ⟨kr, i * 4, none⟩ = some (.int .u64 77) := (hrow.out wr G.out) 0 _ rfl
        have e1 : wr.cell? ⟨kr, i * 4 + 1, none⟩ = some (.int .u64 0) := (hrow.out wr G.out) 1 _ rfl
        have e2 : wr.cell? ⟨kr, i * 4 + 1 + 1, none⟩ = some (.string { data := #[] }) := (hrow.out wr G.out) 2 _ rfl
        have e3 : wr.cell? ⟨kr, i * 4 + 1 + 1 + 1, none⟩ = some (.slice none 0 0) := (hrow.out wr G.out) 3 _ rfl
        clear hrow hv
        go_wp2_with fail
        exact ⟨⟨i + 1, rfl, by go_num, by omega, G⟩, by simp [intOf]; omega⟩
    · have hi1 : ¬ (i : Int) < (m.regs.length : Int) + 8 := by omega
      have c0 : wr.cell? ⟨w.heap.size, 1, none⟩ = some (.slice (some ⟨kc, 0, none⟩) m.comps.length (m.comps.length + 8)) := (BM.out.gr G.out).2.1 1
      have uw : wrap64 ((m.comps.length : Int) + 8) = (m.comps.length : Int) + 8 := w8_of _ l2
      have ux : IntKind.i64.wrap ((m.comps.length : Int) + 8) = (m.comps.length : Int) + 8 := x8_of _ l2
      have ul := l8_of m.comps.length
      go_upto_region 15 with fail
      clear c0 uw ux ul
      have G4 := G
      clear G
      go_loopw [4, 9] (fun y x wr => ∃ i : Nat, y = .bool true ∧ x = .int .i64 i ∧ i ≤ m.comps.length + 8 ∧ Hid (Gr W0 wr)) (fun _ x _ => m.comps.length + 8 - (intOf x).toNat)
      case atStart => exact ⟨0, rfl, rfl, by omega, G4⟩
      case round =>
        clear G4
        obtain ⟨i, rfl, rfl, hi, G⟩ := hrel
        by_cases hlt : i < m.comps.length + 8
        · have hi1 : (i : Int) < (m.comps.length : Int) + 8 := by omega
          have c0 : wr.cell? ⟨w.heap.size, 1, none⟩ = some (.slice (some ⟨kc, 0, none⟩) m.comps.length (m.comps.length + 8)) := (BM.out.gr G.out).2.1 1
          by_cases hn : i < m.comps.length
          · have hin : ¬ (m.comps.length : Int) ≤ (i : Int) := by omega
            obtain ⟨v, hv, ⟨g1, e9, _, A1⟩, ⟨g2, e8, _, A2⟩⟩ := (hI.out.cd i hlt).1 hn
            have hfit := hF.out.cs _ (List.getElem_mem hn)
            have sfit : m.comps[i].roots.length ≤ 281474976710648 := by omega
            have tfit : m.comps[i].code.length ≤ 281474976710648 := by omega
            clear hfit
            obtain ⟨vr, vk⟩ := v
            dsimp only at e9 e8
            subst e9 e8
            replace A1 := Hid.mk A1
            replace A2 := Hid.mk A2
            have hrow := Hid.mk (fun (W : World) (q : Gr W0 W) => elem_atL cp_len (hI.out.c.gr q) i _ hv)
            clear hv
            generalize m.comps[i].roots = L at *
            generalize m.comps[i].code = M at *
            have sw : wrap64 ((L.length : Int) + 8) = (L.length : Int) + 8 := w8_of _ sfit
            have sx : IntKind.i64.wrap ((L.length : Int) + 8) = (L.length : Int) + 8 := x8_of _ sfit
            have sl := l8_of L.length
            have sz := z8_of L.length
            have st := t8_of L.length
            have KS : Hid (∀ W, Gr wr W → W.cell? ⟨kc, i * 2, none⟩ = some (.slice (some ⟨g1, 0, none⟩) L.length (L.length + 8))) := Hid.mk (fun W q => (hrow.out W (G.out.trans q)) 0 _ rfl)
            go_upto_region 19 with fail
            have d1 : Gr wr wr.drew := (Gr.refl _).drew
            refine wp_region_held_drew (S := (fun W => W.cell? ⟨kc, i * 2, none⟩ = some (.slice (some ⟨g1, 0, none⟩) L.length (L.length + 8)))) (by kernel_rfl) (KS.out _ d1) (fun hHeld => ?_)
            refine wpAnyH_take (i := 0) (oi := { dst := some 141, op := Op.move (Operand.tmp 8), type := 23, pos := "law.go:119", after := #[], guard := none }) (v := ?_) rfl (by kernel_rfl) (by kernel_rfl) (by kernel_rfl) (fun _ _ _ h => h) (Or.inl ⟨by rfl, ?_⟩) (by assumption) ?_
            rotate_left
            · intro w hSw; (try dsimp only at hSw); go_simp; first | done | with_reducible rfl
            try simp only [Act.put, List.setIfInBounds_toArray, List.set_cons_zero, List.set_cons_succ]
            refine wpAnyH_take (i := 1) (oi := { dst := some 142, op := Op.move (Operand.tmp 9), type := 3, pos := "law.go:119", after := #[], guard := none }) (v := ?_) rfl (by kernel_rfl) (by kernel_rfl) (by kernel_rfl) (fun _ _ _ h => h) (Or.inl ⟨by rfl, ?_⟩) (by assumption) ?_
            rotate_left
            · intro w hSw; (try dsimp only at hSw); go_simp; first | done | with_reducible rfl
            try simp only [Act.put, List.setIfInBounds_toArray, List.set_cons_zero, List.set_cons_succ]
            refine wpAnyH_take (i := 2) (oi := { dst := some 143, op := Op.indexAddr 23 (Operand.tmp 141) (Operand.tmp 142), type := 0, pos := "law.go:119", after := #[{ on := 0, ground := Ground.data }, { on := 1, ground := Ground.data }], guard := none }) (v := ?_) rfl (by kernel_rfl) (by kernel_rfl) (by kernel_rfl) (fun _ _ _ h => h) (Or.inl ⟨by rfl, ?_⟩) (by assumption) ?_
            rotate_left
            · intro w hSw; (try dsimp only at hSw); go_simp; first | done | with_reducible rfl
            try simp only [Act.put, List.setIfInBounds_toArray, List.set_cons_zero, List.set_cons_succ]
            refine wpAnyH_take (i := 3) (oi := { dst := some 144, op := Op.fieldAddr 52 (Operand.tmp 143) 0, type := 0, pos := "law.go:119", after := #[{ on := 2, ground := Ground.data }], guard := none }) (v := ?_) rfl (by kernel_rfl) (by kernel_rfl) (by kernel_rfl) (fun _ _ _ h => h) (Or.inl ⟨by rfl, ?_⟩) (by assumption) ?_
            rotate_left
            · intro w hSw; (try dsimp only at hSw); go_simp; first | done | with_reducible rfl
            try simp only [Act.put, List.setIfInBounds_toArray, List.set_cons_zero, List.set_cons_succ]
            refine wpAnyH_take (i := 4) (oi := { dst := some 145, op := Op.load 49 (Operand.tmp 144), type := 49, pos := "law.go:119", after := #[{ on := 3, ground := Ground.data }], guard := none }) (v := ?_) rfl (by kernel_rfl) (by kernel_rfl) (by kernel_rfl) (fun _ _ _ h => h) (Or.inl ⟨by rfl, ?_⟩) (by assumption) ?_
            rotate_left
            · intro w hSw; (try dsimp only at hSw); go_simp; first | done | with_reducible rfl
            try simp only [Act.put, List.setIfInBounds_toArray, List.set_cons_zero, List.set_cons_succ]
            refine wpAnyH_take (i := 5) (oi := { dst := some 146, op := Op.move (Operand.tmp 8), type := 23, pos := "law.go:119", after := #[], guard := none }) (v := ?_) rfl (by kernel_rfl) (by kernel_rfl) (by kernel_rfl) (fun _ _ _ h => h) (Or.inl ⟨by rfl, ?_⟩) (by assumption) ?_
            rotate_left
            · intro w hSw; (try dsimp only at hSw); go_simp; first | done | with_reducible rfl
            try simp only [Act.put, List.setIfInBounds_toArray, List.set_cons_zero, List.set_cons_succ]
            refine wpAnyH_take (i := 6) (oi := { dst := some 147, op := Op.move (Operand.tmp 9), type := 3, pos := "law.go:119", after := #[], guard := none }) (v := ?_) rfl (by kernel_rfl) (by kernel_rfl) (by kernel_rfl) (fun _ _ _ h => h) (Or.inl ⟨by rfl, ?_⟩) (by assumption) ?_
            rotate_left
            · intro w hSw; (try dsimp only at hSw); go_simp; first | done | with_reducible rfl
            try simp only [Act.put, List.setIfInBounds_toArray, List.set_cons_zero, List.set_cons_succ]
            refine wpAnyH_take (i := 7) (oi := { dst := some 148, op := Op.indexAddr 23 (Operand.tmp 146) (Operand.tmp 147), type := 0, pos := "law.go:119", after := #[{ on := 5, ground := Ground.data }, { on := 6, ground := Ground.data }], guard := none }) (v := ?_) rfl (by kernel_rfl) (by kernel_rfl) (by kernel_rfl) (fun _ _ _ h => h) (Or.inl ⟨by rfl, ?_⟩) (by assumption) ?_
            rotate_left
            · intro w hSw; (try dsimp only at hSw); go_simp; first | done | with_reducible rfl
            try simp only [Act.put, List.setIfInBounds_toArray, List.set_cons_zero, List.set_cons_succ]
            refine wpAnyH_take (i := 8) (oi := { dst := some 149, op := Op.fieldAddr 52 (Operand.tmp 148) 0, type := 0, pos := "law.go:119", after := #[{ on := 7, ground := Ground.data }], guard := none }) (v := ?_) rfl (by kernel_rfl) (by kernel_rfl) (by kernel_rfl) (fun _ _ _ h => h) (Or.inl ⟨by rfl, ?_⟩) (by assumption) ?_
            rotate_left
            · intro w hSw; (try dsimp only at hSw); go_simp; first | done | with_reducible rfl
            try simp only [Act.put, List.setIfInBounds_toArray, List.set_cons_zero, List.set_cons_succ]
            refine wpAnyH_take (i := 9) (oi := { dst := some 150, op := Op.load 49 (Operand.tmp 149), type := 49, pos := "law.go:119", after := #[{ on := 8, ground := Ground.data }], guard := none }) (v := ?_) rfl (by kernel_rfl) (by kernel_rfl) (by kernel_rfl) (fun _ _ _ h => h) (Or.inl ⟨by rfl, ?_⟩) (by assumption) ?_
            rotate_left
            · intro w hSw; (try dsimp only at hSw); go_simp; first | done | with_reducible rfl
            try simp only [Act.put, List.setIfInBounds_toArray, List.set_cons_zero, List.set_cons_succ]
            refine wpAnyH_take (i := 10) (oi := { dst := some 151, op := Op.call { callee := Callee.builtin Builtin.len, args := #[Operand.tmp 150], argTypes := #[49] }, type := 3, pos := "law.go:119", after := #[{ on := 9, ground := Ground.data }], guard := none }) (v := ?_) rfl (by kernel_rfl) (by kernel_rfl) (by kernel_rfl) (fun _ _ _ h => h) (Or.inl ⟨by rfl, ?_⟩) (by assumption) ?_
            rotate_left
            · intro w hSw; (try dsimp only at hSw); go_simp; first | done | with_reducible rfl
            try simp only [Act.put, List.setIfInBounds_toArray, List.set_cons_zero, List.set_cons_succ]
            refine wpAnyH_take (i := 11) (oi := { dst := some 152, op := Op.binOp BinOp.add 3 (Operand.tmp 151) (Operand.const (Value.int IntKind.i64 8)) 3, type := 3, pos := "law.go:119", after := #[{ on := 10, ground := Ground.data }], guard := none }) (v := ?_) rfl (by kernel_rfl) (by kernel_rfl) (by kernel_rfl) (fun _ _ _ h => h) (Or.inl ⟨by rfl, ?_⟩) (by assumption) ?_
            rotate_left
            · intro w hSw; (try dsimp only at hSw); go_simp; first | done | with_reducible rfl
            try simp only [Act.put, List.setIfInBounds_toArray, List.set_cons_zero, List.set_cons_succ]
            refine wpAnyH_take (i := 12) (oi := { dst := some 153, op := Op.slice 49 (Operand.tmp 145) none (some (Operand.tmp 152)) none, type := 49, pos := "law.go:119", after := #[{ on := 4, ground := Ground.data }, { on := 11, ground := Ground.data }], guard := none }) (v := ?_) rfl (by kernel_rfl) (by kernel_rfl) (by kernel_rfl) (fun _ _ _ h => h) (Or.inl ⟨by rfl, ?_⟩) (by assumption) ?_
            rotate_left
            · intro w hSw; (try dsimp only at hSw); go_simp; first | done | with_reducible rfl
            try simp only [Act.put, List.setIfInBounds_toArray, List.set_cons_zero, List.set_cons_succ]
            refine wpAnyH_take (i := 13) (oi := { dst := some 10, op := Op.assign (Operand.tmp 153), type := 49, pos := "law.go:119", after := #[{ on := 12, ground := Ground.data }, { on := 0, ground := Ground.phase }, { on := 1, ground := Ground.phase }, { on := 2, ground := Ground.phase }, { on := 3, ground := Ground.phase }, { on := 4, ground := Ground.phase }, { on := 5, ground := Ground.phase }, { on := 6, ground := Ground.phase }, { on := 7, ground := Ground.phase }, { on := 8, ground := Ground.phase }, { on := 9, ground := Ground.phase }, { on := 10, ground := Ground.phase }, { on := 11, ground := Ground.phase }, { on := 12, ground := Ground.phase }], guard := none }) (v := ?_) rfl (by kernel_rfl) (by kernel_rfl) (by kernel_rfl) (fun _ _ _ h => h) (Or.inl ⟨by rfl, ?_⟩) (by assumption) ?_
            rotate_left
            · intro w hSw; (try dsimp only at hSw); go_simp; first | done | with_reducible rfl
            try simp only [Act.put, List.setIfInBounds_toArray, List.set_cons_zero, List.set_cons_succ]
            refine wpAnyH_done (by kernel_rfl) ?_ _
            clear hHeld KS sw sx sl sz st
            replace G := Hid.mk (G.out.trans d1)
            clear d1
            generalize wr.drew = VV at *
            have e3 : VV.cell? ⟨kc, i * 2, none⟩ = some (.slice (some ⟨g1, 0, none⟩) L.length (L.length + 8)) := (hrow.out VV G.out) 0 _ rfl
            go_upto_region 21 with fail
            clear e3
            have G9 := G
            clear G
            go_loopw [4, 11] (fun y x wr => ∃ k : Nat, y = .bool true ∧ x = .int .i64 k ∧ L.length ≤ k ∧ k ≤ L.length + 8 ∧ Hid (Gr W0 wr)) (fun _ x _ => L.length + 8 - (intOf x).toNat)
            case atStart => exact ⟨L.length, rfl, rfl, by omega, by omega, G9⟩
            case round =>
              clear G9
              obtain ⟨k, rfl, rfl, hk1, hk0, G⟩ := hrel
              by_cases hk2 : k < L.length + 8
              · have hj1 : (k : Int) < (L.length : Int) + 8 := by omega
                have hel := elem_atL rot_len (A1.out.gr G.out) k _ (marked_pastL k hk1 hk2)
                have e0 : wr.cell? ⟨g1, k * 6, none⟩ = some (.int .i64 0) := hel 0 _ rfl
                have e1 : wr.cell? ⟨g1, k * 6 + 1, none⟩ = some (.int .u64 0) := hel 1 _ rfl
                have e2 : wr.cell? ⟨g1, k * 6 + 1 + 1, none⟩ = some (.int .u64 0) := hel 2 _ rfl
                have e3 : wr.cell? ⟨g1, k * 6 + 1 + 1 + 1, none⟩ = some (.int .u64 0) := hel 3 _ rfl
                have e4 : wr.cell? ⟨g1, k * 6 + 1 + 1 + 1 + 1, none⟩ = some (.int .u8 0) := hel 4 _ rfl
                have e5 : wr.cell? ⟨g1, k * 6 + 1 + 1 + 1 + 1 + 1, none⟩ = some (.int .i64 0) := hel 5 _ rfl
                clear hel
                go_wp2_with fail
                exact ⟨⟨k + 1, rfl, by go_num, by omega, by omega, G⟩, by simp [intOf]; omega⟩
              · have hj1 : ¬ (k : Int) < (L.length : Int) + 8 := by omega
                have sw : wrap64 ((M.length : Int) + 8) = (M.length : Int) + 8 := w8_of _ tfit
                have sx : IntKind.i64.wrap ((M.length : Int) + 8) = (M.length : Int) + 8 := x8_of _ tfit
                have sl := l8_of M.length
                have sz := z8_of M.length
                have st := t8_of M.length
                have KS : Hid (∀ W, Gr wr W → W.cell? ⟨kc, i * 2 + 1, none⟩ = some (.slice (some ⟨g2, 0, none⟩) M.length (M.length + 8))) := Hid.mk (fun W q => (hrow.out W (G.out.trans q)) 1 _ rfl)
                go_upto_region 24 with fail
                have d1 : Gr wr wr.drew := (Gr.refl _).drew
                refine wp_region_held_drew (S := (fun W => W.cell? ⟨kc, i * 2 + 1, none⟩ = some (.slice (some ⟨g2, 0, none⟩) M.length (M.length + 8)))) (by kernel_rfl) (KS.out _ d1) (fun hHeld => ?_)
                refine wpAnyH_take (i := 0) (oi := { dst := some 175, op := Op.move (Operand.tmp 8), type := 23, pos := "law.go:123", after := #[], guard := none }) (v := ?_) rfl (by kernel_rfl) (by kernel_rfl) (by kernel_rfl) (fun _ _ _ h => h) (Or.inl ⟨by rfl, ?_⟩) (by assumption) ?_
                rotate_left
                · intro w hSw; (try dsimp only at hSw); go_simp; first | done | with_reducible rfl
                try simp only [Act.put, List.setIfInBounds_toArray, List.set_cons_zero, List.set_cons_succ]
                refine wpAnyH_take (i := 1) (oi := { dst := some 176, op := Op.move (Operand.tmp 9), type := 3, pos := "law.go:123", after := #[], guard := none }) (v := ?_) rfl (by kernel_rfl) (by kernel_rfl) (by kernel_rfl) (fun _ _ _ h => h) (Or.inl ⟨by rfl, ?_⟩) (by assumption) ?_
                rotate_left
                · intro w hSw; (try dsimp only at hSw); go_simp; first | done | with_reducible rfl
                try simp only [Act.put, List.setIfInBounds_toArray, List.set_cons_zero, List.set_cons_succ]
                refine wpAnyH_take (i := 2) (oi := { dst := some 177, op := Op.indexAddr 23 (Operand.tmp 175) (Operand.tmp 176), type := 0, pos := "law.go:123", after := #[{ on := 0, ground := Ground.data }, { on := 1, ground := Ground.data }], guard := none }) (v := ?_) rfl (by kernel_rfl) (by kernel_rfl) (by kernel_rfl) (fun _ _ _ h => h) (Or.inl ⟨by rfl, ?_⟩) (by assumption) ?_
                rotate_left
                · intro w hSw; (try dsimp only at hSw); go_simp; first | done | with_reducible rfl
                try simp only [Act.put, List.setIfInBounds_toArray, List.set_cons_zero, List.set_cons_succ]
                refine wpAnyH_take (i := 3) (oi := { dst := some 178, op := Op.fieldAddr 52 (Operand.tmp 177) 1, type := 0, pos := "law.go:123", after := #[{ on := 2, ground := Ground.data }], guard := none }) (v := ?_) rfl (by kernel_rfl) (by kernel_rfl) (by kernel_rfl) (fun _ _ _ h => h) (Or.inl ⟨by rfl, ?_⟩) (by assumption) ?_
                rotate_left
                · intro w hSw; (try dsimp only at hSw); go_simp; first | done | with_reducible rfl
                try simp only [Act.put, List.setIfInBounds_toArray, List.set_cons_zero, List.set_cons_succ]
                refine wpAnyH_take (i := 4) (oi := { dst := some 179, op := Op.load 50 (Operand.tmp 178), type := 50, pos := "law.go:123", after := #[{ on := 3, ground := Ground.data }], guard := none }) (v := ?_) rfl (by kernel_rfl) (by kernel_rfl) (by kernel_rfl) (fun _ _ _ h => h) (Or.inl ⟨by rfl, ?_⟩) (by assumption) ?_
                rotate_left
                · intro w hSw; (try dsimp only at hSw); go_simp; first | done | with_reducible rfl
                try simp only [Act.put, List.setIfInBounds_toArray, List.set_cons_zero, List.set_cons_succ]
                refine wpAnyH_take (i := 5) (oi := { dst := some 180, op := Op.move (Operand.tmp 8), type := 23, pos := "law.go:123", after := #[], guard := none }) (v := ?_) rfl (by kernel_rfl) (by kernel_rfl) (by kernel_rfl) (fun _ _ _ h => h) (Or.inl ⟨by rfl, ?_⟩) (by assumption) ?_
                rotate_left
                · intro w hSw; (try dsimp only at hSw); go_simp; first | done | with_reducible rfl
                try simp only [Act.put, List.setIfInBounds_toArray, List.set_cons_zero, List.set_cons_succ]
                refine wpAnyH_take (i := 6) (oi := { dst := some 181, op := Op.move (Operand.tmp 9), type := 3, pos := "law.go:123", after := #[], guard := none }) (v := ?_) rfl (by kernel_rfl) (by kernel_rfl) (by kernel_rfl) (fun _ _ _ h => h) (Or.inl ⟨by rfl, ?_⟩) (by assumption) ?_
                rotate_left
                · intro w hSw; (try dsimp only at hSw); go_simp; first | done | with_reducible rfl
                try simp only [Act.put, List.setIfInBounds_toArray, List.set_cons_zero, List.set_cons_succ]
                refine wpAnyH_take (i := 7) (oi := { dst := some 182, op := Op.indexAddr 23 (Operand.tmp 180) (Operand.tmp 181), type := 0, pos := "law.go:123", after := #[{ on := 5, ground := Ground.data }, { on := 6, ground := Ground.data }], guard := none }) (v := ?_) rfl (by kernel_rfl) (by kernel_rfl) (by kernel_rfl) (fun _ _ _ h => h) (Or.inl ⟨by rfl, ?_⟩) (by assumption) ?_
                rotate_left
                · intro w hSw; (try dsimp only at hSw); go_simp; first | done | with_reducible rfl
                try simp only [Act.put, List.setIfInBounds_toArray, List.set_cons_zero, List.set_cons_succ]
                refine wpAnyH_take (i := 8) (oi := { dst := some 183, op := Op.fieldAddr 52 (Operand.tmp 182) 1, type := 0, pos := "law.go:123", after := #[{ on := 7, ground := Ground.data }], guard := none }) (v := ?_) rfl (by kernel_rfl) (by kernel_rfl) (by kernel_rfl) (fun _ _ _ h => h) (Or.inl ⟨by rfl, ?_⟩) (by assumption) ?_
                rotate_left
                · intro w hSw; (try dsimp only at hSw); go_simp; first | done | with_reducible rfl
                try simp only [Act.put, List.setIfInBounds_toArray, List.set_cons_zero, List.set_cons_succ]
                refine wpAnyH_take (i := 9) (oi := { dst := some 184, op := Op.load 50 (Operand.tmp 183), type := 50, pos := "law.go:123", after := #[{ on := 8, ground := Ground.data }], guard := none }) (v := ?_) rfl (by kernel_rfl) (by kernel_rfl) (by kernel_rfl) (fun _ _ _ h => h) (Or.inl ⟨by rfl, ?_⟩) (by assumption) ?_
                rotate_left
                · intro w hSw; (try dsimp only at hSw); go_simp; first | done | with_reducible rfl
                try simp only [Act.put, List.setIfInBounds_toArray, List.set_cons_zero, List.set_cons_succ]
                refine wpAnyH_take (i := 10) (oi := { dst := some 185, op := Op.call { callee := Callee.builtin Builtin.len, args := #[Operand.tmp 184], argTypes := #[50] }, type := 3, pos := "law.go:123", after := #[{ on := 9, ground := Ground.data }], guard := none }) (v := ?_) rfl (by kernel_rfl) (by kernel_rfl) (by kernel_rfl) (fun _ _ _ h => h) (Or.inl ⟨by rfl, ?_⟩) (by assumption) ?_
                rotate_left
                · intro w hSw; (try dsimp only at hSw); go_simp; first | done | with_reducible rfl
                try simp only [Act.put, List.setIfInBounds_toArray, List.set_cons_zero, List.set_cons_succ]
                refine wpAnyH_take (i := 11) (oi := { dst := some 186, op := Op.binOp BinOp.add 3 (Operand.tmp 185) (Operand.const (Value.int IntKind.i64 8)) 3, type := 3, pos := "law.go:123", after := #[{ on := 10, ground := Ground.data }], guard := none }) (v := ?_) rfl (by kernel_rfl) (by kernel_rfl) (by kernel_rfl) (fun _ _ _ h => h) (Or.inl ⟨by rfl, ?_⟩) (by assumption) ?_
                rotate_left
                · intro w hSw; (try dsimp only at hSw); go_simp; first | done | with_reducible rfl
                try simp only [Act.put, List.setIfInBounds_toArray, List.set_cons_zero, List.set_cons_succ]
                refine wpAnyH_take (i := 12) (oi := { dst := some 187, op := Op.slice 50 (Operand.tmp 179) none (some (Operand.tmp 186)) none, type := 50, pos := "law.go:123", after := #[{ on := 4, ground := Ground.data }, { on := 11, ground := Ground.data }], guard := none }) (v := ?_) rfl (by kernel_rfl) (by kernel_rfl) (by kernel_rfl) (fun _ _ _ h => h) (Or.inl ⟨by rfl, ?_⟩) (by assumption) ?_
                rotate_left
                · intro w hSw; (try dsimp only at hSw); go_simp; first | done | with_reducible rfl
                try simp only [Act.put, List.setIfInBounds_toArray, List.set_cons_zero, List.set_cons_succ]
                refine wpAnyH_take (i := 13) (oi := { dst := some 12, op := Op.assign (Operand.tmp 187), type := 50, pos := "law.go:123", after := #[{ on := 12, ground := Ground.data }, { on := 0, ground := Ground.phase }, { on := 1, ground := Ground.phase }, { on := 2, ground := Ground.phase }, { on := 3, ground := Ground.phase }, { on := 4, ground := Ground.phase }, { on := 5, ground := Ground.phase }, { on := 6, ground := Ground.phase }, { on := 7, ground := Ground.phase }, { on := 8, ground := Ground.phase }, { on := 9, ground := Ground.phase }, { on := 10, ground := Ground.phase }, { on := 11, ground := Ground.phase }, { on := 12, ground := Ground.phase }], guard := none }) (v := ?_) rfl (by kernel_rfl) (by kernel_rfl) (by kernel_rfl) (fun _ _ _ h => h) (Or.inl ⟨by rfl, ?_⟩) (by assumption) ?_
                rotate_left
                · intro w hSw; (try dsimp only at hSw); go_simp; first | done | with_reducible rfl
                try simp only [Act.put, List.setIfInBounds_toArray, List.set_cons_zero, List.set_cons_succ]
                refine wpAnyH_done (by kernel_rfl) ?_ _
                clear hHeld KS sw sx sl sz st
                replace G := Hid.mk (G.out.trans d1)
                clear d1
                generalize wr.drew = VV at *
                have e3 : VV.cell? ⟨kc, i * 2 + 1, none⟩ = some (.slice (some ⟨g2, 0, none⟩) M.length (M.length + 8)) := (hrow.out VV G.out) 1 _ rfl
                go_upto_region 26 with fail
                clear e3
                have G9 := G
                clear G
                go_loopw [4, 13] (fun y x wr => ∃ k : Nat, y = .bool true ∧ x = .int .i64 k ∧ M.length ≤ k ∧ k ≤ M.length + 8 ∧ Hid (Gr W0 wr)) (fun _ x _ => M.length + 8 - (intOf x).toNat)
                case atStart => exact ⟨M.length, rfl, rfl, by omega, by omega, G9⟩
                case round =>
                  clear G9
                  obtain ⟨k, rfl, rfl, hk1, hk0, G⟩ := hrel
                  by_cases hk2 : k < M.length + 8
                  · have hj1 : (k : Int) < (M.length : Int) + 8 := by omega
                    have hel := elem_atL ins_len (A2.out.gr G.out) k _ (marked_pastL k hk1 hk2)
                    have e0 : wr.cell? ⟨g2, k * 5, none⟩ = some (.int .u8 0) := hel 0 _ rfl
                    have e1 : wr.cell? ⟨g2, k * 5 + 1, none⟩ = some (.int .i64 0) := hel 1 _ rfl
                    have e2 : wr.cell? ⟨g2, k * 5 + 1 + 1, none⟩ = some (.int .i64 0) := hel 2 _ rfl
                    have e3 : wr.cell? ⟨g2, k * 5 + 1 + 1 + 1, none⟩ = some (.int .i64 0) := hel 3 _ rfl
                    have e4 : wr.cell? ⟨g2, k * 5 + 1 + 1 + 1 + 1, none⟩ = some (.int .i64 0) := hel 4 _ rfl
                    clear hel
                    go_wp2_with fail
                    exact ⟨⟨k + 1, rfl, by go_num, by omega, by omega, G⟩, by simp [intOf]; omega⟩
                  · have hj1 : ¬ (k : Int) < (M.length : Int) + 8 := by omega
                    go_wp2_with fail
                    exact ⟨⟨i + 1, rfl, by go_num, by omega, G⟩, by simp [intOf]; omega⟩
          · have hin : (m.comps.length : Int) ≤ (i : Int) := by omega
            obtain ⟨v, hv, hq⟩ := (hI.out.cd i hlt).2 (by omega)
            have hq' : v = cpZ := hq
            subst hq'
            clear hq
            have hrow := Hid.mk (fun (W : World) (q : Gr W0 W) => elem_atL cp_len (hI.out.c.gr q) i _ hv)
            have e0 : wr.cell? ⟨kc, i * 2, none⟩ = some (.slice none 0 0) := (hrow.out wr G.out) 0 _ rfl
            have e1 : wr.cell? ⟨kc, i * 2 + 1, none⟩ = some (.slice none 0 0) := (hrow.out wr G.out) 1 _ rfl
            clear hrow hv
            go_wp2_with fail
            exact ⟨⟨i + 1, rfl, by go_num, by omega, G⟩, by simp [intOf]; omega⟩
        · have hi1 : ¬ (i : Int) < (m.comps.length : Int) + 8 := by omega
          have c0 : wr.cell? ⟨w.heap.size, 2, none⟩ = some (.slice (some ⟨kg, 0, none⟩) m.gates.length (m.gates.length + 8)) := (BM.out.gr G.out).2.1 2
          have uw : wrap64 ((m.gates.length : Int) + 8) = (m.gates.length : Int) + 8 := w8_of _ l3
          have ux : IntKind.i64.wrap ((m.gates.length : Int) + 8) = (m.gates.length : Int) + 8 := x8_of _ l3
          have ul := l8_of m.gates.length
          go_upto_region 31 with fail
          clear c0 uw ux ul
          have G5 := G
          clear G
          go_loopw [4, 15] (fun y x wr => ∃ i : Nat, y = .bool true ∧ x = .int .i64 i ∧ i ≤ m.gates.length + 8 ∧ Hid (Gr W0 wr)) (fun _ x _ => m.gates.length + 8 - (intOf x).toNat)
          case atStart => exact ⟨0, rfl, rfl, by omega, G5⟩
          case round =>
            clear G5
            obtain ⟨i, rfl, rfl, hi, G⟩ := hrel
            by_cases hlt : i < m.gates.length + 8
            · have hi1 : (i : Int) < (m.gates.length : Int) + 8 := by omega
              have c0 : wr.cell? ⟨w.heap.size, 2, none⟩ = some (.slice (some ⟨kg, 0, none⟩) m.gates.length (m.gates.length + 8)) := (BM.out.gr G.out).2.1 2
              by_cases hn : i < m.gates.length
              · have hin : ¬ (m.gates.length : Int) ≤ (i : Int) := by omega
                obtain ⟨v, hv, _, _, B1, B2⟩ := (hI.out.gd i hlt).1 hn
                have hfit := hF.out.gs _ (List.getElem_mem hn)
                have sfit : m.gates[i].args.length ≤ 281474976710648 := by omega
                have tfit : m.gates[i].res.length ≤ 281474976710648 := by omega
                clear hfit
                replace B1 := Hid.mk B1
                replace B2 := Hid.mk B2
                have hrow := Hid.mk (fun (W : World) (q : Gr W0 W) => elem_atL gt_len (hI.out.g.gr q) i _ hv)
                clear hv
                have e2 : wr.cell? ⟨kg, i * 4 + 1 + 1, none⟩ = some (.slice v.x.a v.x.l v.x.c) := (hrow.out wr G.out) 2 _ rfl
                have hcl := Hid.mk (blank_any _ _ _ wr (B1.out.keep (Kt.gr G.out)) sfit)
                go_wp2_with fail
                refine hcl.out.mono ?_
                rintro x wq ⟨rfl, q9⟩
                replace G := Hid.mk (G.out.trans q9)
                clear q9 hcl e2 c0
                have e3 : wq.cell? ⟨kg, i * 4 + 1 + 1 + 1, none⟩ = some (.slice v.y.a v.y.l v.y.c) := (hrow.out wq G.out) 3 _ rfl
                have hcl := Hid.mk (blank_any _ _ _ wq (B2.out.keep (Kt.gr G.out)) tfit)
                go_wp2_with fail
                refine hcl.out.mono ?_
                rintro x wp ⟨rfl, q9⟩
                replace G := Hid.mk (G.out.trans q9)
                clear q9 hcl e3 hrow B1 B2
                go_wp2_with fail
                exact ⟨⟨i + 1, rfl, by go_num, by omega, G⟩, by simp [intOf]; omega⟩
              · have hin : (m.gates.length : Int) ≤ (i : Int) := by omega
                obtain ⟨v, hv, hq⟩ := (hI.out.gd i hlt).2 (by omega)
                have hq' : v = gtZ := hq
                subst hq'
                clear hq
                have hrow := Hid.mk (fun (W : World) (q : Gr W0 W) => elem_atL gt_len (hI.out.g.gr q) i _ hv)
                have e0 : wr.cell? ⟨kg, i * 4, none⟩ = some (.int .i64 0) := (hrow.out wr G.out) 0 _ rfl
                have e1 : wr.cell? ⟨kg, i * 4 + 1, none⟩ = some (.int .i64 0) := (hrow.out wr G.out) 1 _ rfl
                have e2 : wr.cell? ⟨kg, i * 4 + 1 + 1, none⟩ = some (.slice none 0 0) := (hrow.out wr G.out) 2 _ rfl
                have e3 : wr.cell? ⟨kg, i * 4 + 1 + 1 + 1, none⟩ = some (.slice none 0 0) := (hrow.out wr G.out) 3 _ rfl
                clear hrow hv
                go_wp2_with fail
                exact ⟨⟨i + 1, rfl, by go_num, by omega, G⟩, by simp [intOf]; omega⟩
            · have hi1 : ¬ (i : Int) < (m.gates.length : Int) + 8 := by omega
              go_wp2_with fail
              go_ret
              exact ⟨rfl, G0.out.trans G.out⟩
end Q
end Go.Proofs.YtcljibdikhpnlaaDoor
