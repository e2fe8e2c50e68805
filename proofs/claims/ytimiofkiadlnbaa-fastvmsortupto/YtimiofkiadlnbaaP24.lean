import Derived.Test.YtimiofkiadlnbaaP23
/-
  Stage 13, fastvm: a program that may be.
-/
namespace Go.Proofs.Ytimiofkiadlnbaa
namespace Z
open Go.RowKit
open T (Sep Ob Kp Mf FlIn boxOb)

/-- A program that may be. -/
structure Pr.Ok (P : Pr) : Prop where
  n1 : 1 ≤ P.gates.length ∧ P.gates.length ≤ 16
  nc : P.code.length = P.gates.length
  dp : 0 ≤ P.dep ∧ P.dep ≤ 16
  row : ∀ r ∈ P.code, (1 ≤ r.length ∧ r.length ≤ 400) ∧ ∀ i ∈ r, i.Ok r.length P.gates.length
  gate : ∀ k (h : k < P.gates.length) (h2 : k < P.code.length), P.gates[k].e < P.code[k].length ∧ P.gates[k].a ≤ 7 ∧ P.gates[k].s ≤ 7
/-- A program that came in: its code and its gates. -/
structure RwIn (w : World) (ca ga : Option Addr) (P : Pr) : Prop where
  code : ∀ k (h : k < P.code.length), ∃ (b off : Nat) (ra : Option Addr) (rc : Nat), ca = some ⟨b, off, none⟩ ∧ b < w.heap.size ∧ w.cell? ⟨b, off + k, none⟩ = some (.slice ra P.code[k].length rc) ∧ T.EIn 5 Fi.vals w ra P.code[k]
  gate : ∀ k (h : k < P.gates.length), ∃ b off : Nat, ga = some ⟨b, off, none⟩ ∧ b < w.heap.size ∧ w.rangeAt b (off + k * 19) P.gates[k].vals
theorem RwIn.gr {w W : World} {ca ga : Option Addr} {P : Pr} (h : RwIn w ca ga P) (g : Gr w W) : RwIn W ca ga P := by
  refine ⟨fun k hk => ?_, fun k hk => ?_⟩
  · obtain ⟨b, off, ra, rc, e1, e2, e3, e4⟩ := h.code k hk
    exact ⟨b, off, ra, rc, e1, Nat.lt_of_lt_of_le e2 g.below.size, (T.cell_of_block (g.below.block b e2) _).trans e3, e4.below g.below⟩
  · obtain ⟨b, off, e1, e2, e3⟩ := h.gate k hk
    exact ⟨b, off, e1, Nat.lt_of_lt_of_le e2 g.below.size, fun i v q => (T.cell_of_block (g.below.block b e2) _).trans (e3 i v q)⟩
theorem regs_one' (r : Nat → Int) : ∀ u ∈ regs r, u.oneCell' = true := regs_one r
theorem Fg.one (g : Fg) : g.vals.toArray.all (fun x => x.oneCell') = true := by
  rw [Array.all_eq_true_iff_forall_mem]
  intro u hu
  simp only [List.mem_toArray, Fg.vals, List.mem_cons] at hu
  rcases hu with rfl | rfl | rfl | hu
  · rfl
  · rfl
  · rfl
  · exact regs_one g.r u hu
set_option maxRecDepth 100000 in
set_option maxHeartbeats 4000000 in
theorem mayBe_ok (P : Pr) (ca ga : Option Addr) (cc gc : Nat) (mem : ByteArray) (w : World) (hP : RwIn w ca ga P) (ok : P.Ok) (hm : mem.size ≤ 65536) :
    Calls Try.prog 11 #[.agg #[.slice ca P.code.length cc, .slice ga P.gates.length gc, .string mem, .int .i64 P.dep]] w fun x w' => x = .returned (.bool true) ∧ Gr w w' := by
  have n1 := ok.n1
  have nc := ok.nc
  have dp := ok.dp
  have nci : ((P.code.length : Int) != (P.gates.length : Int)) = false := by simp [nc]
  have hmi : ¬ (65536 : Int) < (mem.size : Int) := by omega
  replace ok := Hz.mk ok
  replace nc := Hz.mk nc
  have hlen : P.gates.length ≤ 1000000 := by omega
  go_enter Try.func11, Try.ntmps11
  go_upto_region 1 with fail
  refine wp_world (fun W => At W w.heap.size #[.slice ca P.code.length cc, .slice ga P.gates.length gc, .string mem, .int .i64 P.dep] ∧ Gr w W) ⟨At.new w _ _, (Gr.refl _).alloc _⟩ ?_
  rintro W ⟨hA, G⟩
  replace hP := Hz.mk (hP.gr G)
  generalize w.heap.size = kp at *
  have c0 : W.cell? ⟨kp, 0, none⟩ = some (.slice ca P.code.length cc) := hA.2.1 0
  have c1 : W.cell? ⟨kp, 1, none⟩ = some (.slice ga P.gates.length gc) := hA.2.1 1
  have c2 : W.cell? ⟨kp, 2, none⟩ = some (.string mem) := hA.2.1 2
  have c3 : W.cell? ⟨kp, 3, none⟩ = some (.int .i64 P.dep) := hA.2.1 3
  replace hA := Hz.mk hA
  go_wp2_with fail
  refine (isWithin_ok _ _ _ _ (by omega) (by omega)).mono ?_
  rintro r w1 ⟨rfl, e1⟩
  subst e1
  go_wp2_with fail
  refine (isWithin_ok _ _ _ _ (by omega) (by omega)).mono ?_
  rintro r w2 ⟨rfl, e1⟩
  subst e1
  go_upto_region 6 with fail
  clear c0 c1 c2 c3
  go_loopw [32] (fun x wr => ∃ k : Nat, x = .int .i64 k ∧ k ≤ P.gates.length ∧ Hz (Gr w2 wr)) (fun x _ => P.gates.length - (intOf x).toNat)
  case atStart => exact ⟨0, rfl, Nat.zero_le _, Hz.mk (Gr.refl _)⟩
  case round =>
    obtain ⟨k, rfl, hk, G2⟩ := hrel
    by_cases hlt : k < P.gates.length
    · have hk1 : (k : Int) < (P.gates.length : Int) := Int.ofNat_lt.2 hlt
      have hkc : k < P.code.length := by rw [nc.out]; exact hlt
      have hk2 : (k : Int) < (P.code.length : Int) := Int.ofNat_lt.2 hkc
      have hrow := ok.out.row _ (List.getElem_mem hkc)
      have hga := ok.out.gate k hlt hkc
      obtain ⟨gb, goff, rfl, hgb, hgr⟩ := (hP.out.gr G2.out).gate k hlt
      go_upto_region 7 with fail
      refine wp_region_lit ?_
      refine wpList_plain rfl (fun K hK => ?_)
      go_simp
      with_reducible refine hK _ _ ?_
      clear hK K
      try simp only [Act.put, List.setIfInBounds_toArray, List.set_cons_zero, List.set_cons_succ]
      refine wpList_plain rfl (fun K hK => ?_)
      go_simp
      with_reducible refine hK _ _ ?_
      clear hK K
      try simp only [Act.put, List.setIfInBounds_toArray, List.set_cons_zero, List.set_cons_succ]
      refine wpList_plain rfl (fun K hK => ?_)
      refine wp_load_mid _ _ rfl _ (goff + k * 19) rfl P.gates[k].vals _ hgr Try.underlying52 rfl (by rw [Fg.len]; kernel_rfl) (hK _ _ ?_)
      clear hK K
      try simp only [Act.put, List.setIfInBounds_toArray, List.set_cons_zero, List.set_cons_succ]
      refine wpList_plain rfl (fun K hK => ?_)
      go_simp
      with_reducible refine hK _ _ ?_
      clear hK K
      try simp only [Act.put, List.setIfInBounds_toArray, List.set_cons_zero, List.set_cons_succ]
      have hA7 : At (wr.alloc (.cells (List.toArray [Value.int .i64 0, .int .i64 0, .int .i64 0, .int .u64 0, .int .u64 0, .int .u64 0, .int .u64 0, .int .u64 0, .int .u64 0, .int .u64 0, .int .u64 0, .int .u64 0, .int .u64 0, .int .u64 0, .int .u64 0, .int .u64 0, .int .u64 0, .int .u64 0, .int .u64 0]) 52)) wr.heap.size (List.toArray [Value.int .i64 0, .int .i64 0, .int .i64 0, .int .u64 0, .int .u64 0, .int .u64 0, .int .u64 0, .int .u64 0, .int .u64 0, .int .u64 0, .int .u64 0, .int .u64 0, .int .u64 0, .int .u64 0, .int .u64 0, .int .u64 0, .int .u64 0, .int .u64 0, .int .u64 0]) := At.new wr _ _
      have hth := Hz.mk (At.there hA7 0 19 (by decide))
      have hA8 := Hz.mk (At.setAll hA7 P.gates[k].vals (by rw [Fg.len]; rfl))
      have g8 := Hz.mk (Gr.setCells ((Gr.refl wr).alloc (.cells (List.toArray [Value.int .i64 0, .int .i64 0, .int .i64 0, .int .u64 0, .int .u64 0, .int .u64 0, .int .u64 0, .int .u64 0, .int .u64 0, .int .u64 0, .int .u64 0, .int .u64 0, .int .u64 0, .int .u64 0, .int .u64 0, .int .u64 0, .int .u64 0, .int .u64 0, .int .u64 0]) 52)) wr.heap.size (Nat.le_refl _) P.gates[k].vals 0)
      rw [← Fg.len P.gates[k]] at hth
      clear hA7
      refine wpList_plain rfl (fun K hK => ?_)
      go_simp
      with_reducible refine hK _ _ ?_
      clear hK K
      try simp only [Act.put, List.setIfInBounds_toArray, List.set_cons_zero, List.set_cons_succ]
      refine wpList_plain rfl (fun K hK => ?_)
      refine wp_store_mid _ _ _ rfl _ _ (List.toArray P.gates[k].vals) rfl rfl (by simpa using hth.out) (by rw [List.size_toArray, Fg.len]; kernel_rfl) (Fg.one _) (hK _ _ ?_)
      clear hK K
      try simp only [Act.put]
      generalize World.setCells _ _ _ _ = V at *
      have hA9 := hA8
      have G3 := Hz.mk (G2.out.trans g8.out)
      clear hA8 g8 hth hgr hgb
      generalize wr.heap.size = kg at *
      clear G2
      have hAp := Hz.mk (hA.out.gr G3.out)
      obtain ⟨b, off, ra, rc, e9, hb9, hcc, hE⟩ := (hP.out.gr G3.out).code k hkc
      subst e9
      replace hE := Hz.mk hE
      have KS : Hz (∀ U, Gr V U → U.cell? ⟨kp, 0, none⟩ = some (.slice (some ⟨b, off, none⟩) P.code.length cc) ∧ U.cell? ⟨kp, 1, none⟩ = some (.slice (some ⟨gb, goff, none⟩) P.gates.length gc) ∧ U.cell? ⟨b, off + k, none⟩ = some (.slice ra P.code[k].length rc) ∧ U.rangeAt kg 0 P.gates[k].vals) := Hz.mk (fun U g => ⟨(hAp.out.gr g).2.1 0, (hAp.out.gr g).2.1 1, (T.cell_of_block (g.below.block b hb9) _).trans hcc, (hA9.out.gr g).range⟩)
      have g0 : Gr V V.drew := (Gr.refl V).drew
      clear hb9 hcc
      go_upto_region 8 with fail
      refine wp_region_held_drew (S := (fun W => W.cell? ⟨kp, 0, none⟩ = some (.slice (some ⟨b, off, none⟩) P.code.length cc) ∧ W.cell? ⟨kp, 1, none⟩ = some (.slice (some ⟨gb, goff, none⟩) P.gates.length gc) ∧ W.cell? ⟨b, off + k, none⟩ = some (.slice ra P.code[k].length rc) ∧ W.rangeAt kg 0 P.gates[k].vals)) (by kernel_rfl) (KS.out _ g0) (fun hHeld => ?_)
      refine wpAnyH_take (i := 0) (oi := { dst := some 37, op := Op.fieldAddr 28 (Operand.tmp 1) 0, type := 0, pos := "program.go:17", after := #[], guard := none }) (v := ?_) rfl (by kernel_rfl) (by kernel_rfl) (by kernel_rfl) (fun _ _ _ h => h) (Or.inl ⟨by rfl, ?_⟩) (by assumption) ?_
      rotate_left
      · intro w hSw; (try dsimp only at hSw); go_simp; first | done | with_reducible rfl
      try simp only [Act.put, List.setIfInBounds_toArray, List.set_cons_zero, List.set_cons_succ]
      refine wpAnyH_take (i := 1) (oi := { dst := some 38, op := Op.load 25 (Operand.tmp 37), type := 25, pos := "program.go:17", after := #[{ on := 0, ground := Ground.data }], guard := none }) (v := ?_) rfl (by kernel_rfl) (by kernel_rfl) (by kernel_rfl) (fun _ _ _ h => h) (Or.inl ⟨by rfl, ?_⟩) (by assumption) ?_
      rotate_left
      · intro w hSw; (try dsimp only at hSw); go_simp; first | done | with_reducible rfl
      try simp only [Act.put, List.setIfInBounds_toArray, List.set_cons_zero, List.set_cons_succ]
      refine wpAnyH_take (i := 2) (oi := { dst := some 39, op := Op.move (Operand.tmp 3), type := 3, pos := "program.go:17", after := #[], guard := none }) (v := ?_) rfl (by kernel_rfl) (by kernel_rfl) (by kernel_rfl) (fun _ _ _ h => h) (Or.inl ⟨by rfl, ?_⟩) (by assumption) ?_
      rotate_left
      · intro w hSw; (try dsimp only at hSw); go_simp; first | done | with_reducible rfl
      try simp only [Act.put, List.setIfInBounds_toArray, List.set_cons_zero, List.set_cons_succ]
      refine wpAnyH_take (i := 3) (oi := { dst := some 40, op := Op.indexAddr 25 (Operand.tmp 38) (Operand.tmp 39), type := 0, pos := "program.go:17", after := #[{ on := 1, ground := Ground.data }, { on := 2, ground := Ground.data }], guard := none }) (v := ?_) rfl (by kernel_rfl) (by kernel_rfl) (by kernel_rfl) (fun _ _ _ h => h) (Or.inl ⟨by rfl, ?_⟩) (by assumption) ?_
      rotate_left
      · intro w hSw; (try dsimp only at hSw); go_simp; first | done | with_reducible rfl
      try simp only [Act.put, List.setIfInBounds_toArray, List.set_cons_zero, List.set_cons_succ]
      refine wpAnyH_take (i := 4) (oi := { dst := some 41, op := Op.load 33 (Operand.tmp 40), type := 33, pos := "program.go:17", after := #[{ on := 3, ground := Ground.data }], guard := none }) (v := ?_) rfl (by kernel_rfl) (by kernel_rfl) (by kernel_rfl) (fun _ _ _ h => h) (Or.inl ⟨by rfl, ?_⟩) (by assumption) ?_
      rotate_left
      · intro w hSw; (try dsimp only at hSw); go_simp; first | done | with_reducible rfl
      try simp only [Act.put, List.setIfInBounds_toArray, List.set_cons_zero, List.set_cons_succ]
      refine wpAnyH_take (i := 5) (oi := { dst := some 42, op := Op.fieldAddr 28 (Operand.tmp 1) 1, type := 0, pos := "program.go:17", after := #[], guard := none }) (v := ?_) rfl (by kernel_rfl) (by kernel_rfl) (by kernel_rfl) (fun _ _ _ h => h) (Or.inl ⟨by rfl, ?_⟩) (by assumption) ?_
      rotate_left
      · intro w hSw; (try dsimp only at hSw); go_simp; first | done | with_reducible rfl
      try simp only [Act.put, List.setIfInBounds_toArray, List.set_cons_zero, List.set_cons_succ]
      refine wpAnyH_take (i := 6) (oi := { dst := some 43, op := Op.load 26 (Operand.tmp 42), type := 26, pos := "program.go:17", after := #[{ on := 5, ground := Ground.data }], guard := none }) (v := ?_) rfl (by kernel_rfl) (by kernel_rfl) (by kernel_rfl) (fun _ _ _ h => h) (Or.inl ⟨by rfl, ?_⟩) (by assumption) ?_
      rotate_left
      · intro w hSw; (try dsimp only at hSw); go_simp; first | done | with_reducible rfl
      try simp only [Act.put, List.setIfInBounds_toArray, List.set_cons_zero, List.set_cons_succ]
      refine wpAnyH_take (i := 7) (oi := { dst := some 44, op := Op.call { callee := Callee.builtin Builtin.len, args := #[Operand.tmp 43], argTypes := #[26] }, type := 3, pos := "program.go:17", after := #[{ on := 6, ground := Ground.data }], guard := none }) (v := ?_) rfl (by kernel_rfl) (by kernel_rfl) (by kernel_rfl) (fun _ _ _ h => h) (Or.inl ⟨by rfl, ?_⟩) (by assumption) ?_
      rotate_left
      · intro w hSw; (try dsimp only at hSw); go_simp; first | done | with_reducible rfl
      try simp only [Act.put, List.setIfInBounds_toArray, List.set_cons_zero, List.set_cons_succ]
      refine wpAnyH_ready (rs := [8]) (by kernel_rfl) (by simp) ?_
      refine AllReadyH.cons (o := { dst := some 45, op := Op.call { callee := Callee.value (Operand.func 22), args := #[Operand.tmp 41, Operand.tmp 44], argTypes := #[33, 3] }, type := 4, pos := "program.go:17", after := #[{ on := 4, ground := Ground.data }, { on := 7, ground := Ground.data }], guard := none }) rfl (fun K hK => ?_) AllReadyH.nil
      go_simp
      go_wp2_with (refine (row_ok P.code[k] ra rc P.gates.length _ (hE.out.below g0.below) hrow.1 (by omega) hrow.2).mono ?_; rintro r U1 ⟨rfl, gg⟩; have g1 := g0.trans gg; clear gg g0 hHeld)
      refine hK.out _ _ (KS.out _ g1) (fun hHeld => ?_)
      clear hK K
      try simp only [Act.put, List.setIfInBounds_toArray, List.set_cons_zero, List.set_cons_succ]
      refine wpAnyH_take (i := 9) (oi := { dst := some 46, op := Op.unOp UnOp.not 4 (Operand.tmp 45), type := 4, pos := "program.go:17", after := #[{ on := 8, ground := Ground.data }], guard := none }) (v := ?_) rfl (by kernel_rfl) (by kernel_rfl) (by kernel_rfl) (fun _ _ _ h => h) (Or.inl ⟨by rfl, ?_⟩) (by assumption) ?_
      rotate_left
      · intro w hSw; (try dsimp only at hSw); go_simp; first | done | with_reducible rfl
      try simp only [Act.put, List.setIfInBounds_toArray, List.set_cons_zero, List.set_cons_succ]
      refine wpAnyH_take (i := 10) (oi := { dst := some 47, op := Op.move (Operand.tmp 46), type := 4, pos := "program.go:17", after := #[{ on := 9, ground := Ground.data }, { on := 8, ground := Ground.chain }], guard := none }) (v := ?_) rfl (by kernel_rfl) (by kernel_rfl) (by kernel_rfl) (fun _ _ _ h => h) (Or.inl ⟨by rfl, ?_⟩) (by assumption) ?_
      rotate_left
      · intro w hSw; (try dsimp only at hSw); go_simp; first | done | with_reducible rfl
      try simp only [Act.put, List.setIfInBounds_toArray, List.set_cons_zero, List.set_cons_succ]
      refine wpAnyH_take (i := 11) (oi := { dst := some 48, op := Op.load 52 (Operand.tmp 4), type := 52, pos := "program.go:17", after := #[{ on := 10, ground := Ground.guard }], guard := some (10, false) }) (v := _) rfl (by kernel_rfl) (by kernel_rfl) (by kernel_rfl) (fun _ _ _ h => h) (yieldsIf_load_mid (by rfl) _ _ rfl _ _ rfl _ _ (fun _ h => h.2.2.2) Try.underlying52 rfl (by rw [Fg.len]; kernel_rfl)) (by assumption) ?_
      try simp only [Act.put, List.setIfInBounds_toArray, List.set_cons_zero, List.set_cons_succ]
      refine wpAnyH_take (i := 12) (oi := { dst := some 49, op := Op.fieldAddr 28 (Operand.tmp 1) 0, type := 0, pos := "program.go:17", after := #[{ on := 10, ground := Ground.guard }], guard := some (10, false) }) (v := ?_) rfl (by kernel_rfl) (by kernel_rfl) (by kernel_rfl) (fun _ _ _ h => h) (Or.inl ⟨by rfl, ?_⟩) (by assumption) ?_
      rotate_left
      · intro w hSw; (try dsimp only at hSw); go_simp; first | done | with_reducible rfl
      try simp only [Act.put, List.setIfInBounds_toArray, List.set_cons_zero, List.set_cons_succ]
      refine wpAnyH_take (i := 13) (oi := { dst := some 50, op := Op.load 25 (Operand.tmp 49), type := 25, pos := "program.go:17", after := #[{ on := 12, ground := Ground.data }, { on := 10, ground := Ground.guard }], guard := some (10, false) }) (v := ?_) rfl (by kernel_rfl) (by kernel_rfl) (by kernel_rfl) (fun _ _ _ h => h) (Or.inl ⟨by rfl, ?_⟩) (by assumption) ?_
      rotate_left
      · intro w hSw; (try dsimp only at hSw); go_simp; first | done | with_reducible rfl
      try simp only [Act.put, List.setIfInBounds_toArray, List.set_cons_zero, List.set_cons_succ]
      refine wpAnyH_take (i := 14) (oi := { dst := some 51, op := Op.move (Operand.tmp 3), type := 3, pos := "program.go:17", after := #[{ on := 10, ground := Ground.guard }], guard := some (10, false) }) (v := ?_) rfl (by kernel_rfl) (by kernel_rfl) (by kernel_rfl) (fun _ _ _ h => h) (Or.inl ⟨by rfl, ?_⟩) (by assumption) ?_
      rotate_left
      · intro w hSw; (try dsimp only at hSw); go_simp; first | done | with_reducible rfl
      try simp only [Act.put, List.setIfInBounds_toArray, List.set_cons_zero, List.set_cons_succ]
      refine wpAnyH_take (i := 15) (oi := { dst := some 52, op := Op.indexAddr 25 (Operand.tmp 50) (Operand.tmp 51), type := 0, pos := "program.go:17", after := #[{ on := 13, ground := Ground.data }, { on := 14, ground := Ground.data }, { on := 10, ground := Ground.guard }], guard := some (10, false) }) (v := ?_) rfl (by kernel_rfl) (by kernel_rfl) (by kernel_rfl) (fun _ _ _ h => h) (Or.inl ⟨by rfl, ?_⟩) (by assumption) ?_
      rotate_left
      · intro w hSw; (try dsimp only at hSw); go_simp; first | done | with_reducible rfl
      try simp only [Act.put, List.setIfInBounds_toArray, List.set_cons_zero, List.set_cons_succ]
      refine wpAnyH_take (i := 16) (oi := { dst := some 53, op := Op.load 33 (Operand.tmp 52), type := 33, pos := "program.go:17", after := #[{ on := 15, ground := Ground.data }, { on := 10, ground := Ground.guard }], guard := some (10, false) }) (v := ?_) rfl (by kernel_rfl) (by kernel_rfl) (by kernel_rfl) (fun _ _ _ h => h) (Or.inl ⟨by rfl, ?_⟩) (by assumption) ?_
      rotate_left
      · intro w hSw; (try dsimp only at hSw); go_simp; first | done | with_reducible rfl
      try simp only [Act.put, List.setIfInBounds_toArray, List.set_cons_zero, List.set_cons_succ]
      refine wpAnyH_take (i := 17) (oi := { dst := some 54, op := Op.call { callee := Callee.builtin Builtin.len, args := #[Operand.tmp 53], argTypes := #[33] }, type := 3, pos := "program.go:17", after := #[{ on := 16, ground := Ground.data }, { on := 10, ground := Ground.guard }], guard := some (10, false) }) (v := ?_) rfl (by kernel_rfl) (by kernel_rfl) (by kernel_rfl) (fun _ _ _ h => h) (Or.inl ⟨by rfl, ?_⟩) (by assumption) ?_
      rotate_left
      · intro w hSw; (try dsimp only at hSw); go_simp; first | done | with_reducible rfl
      try simp only [Act.put, List.setIfInBounds_toArray, List.set_cons_zero, List.set_cons_succ]
      refine wpAnyH_ready (rs := [18]) (by kernel_rfl) (by simp) ?_
      refine AllReadyH.cons (o := { dst := some 55, op := Op.call { callee := Callee.value (Operand.func 23), args := #[Operand.tmp 48, Operand.tmp 54], argTypes := #[52, 3] }, type := 4, pos := "program.go:17", after := #[{ on := 11, ground := Ground.data }, { on := 17, ground := Ground.data }, { on := 10, ground := Ground.chain }, { on := 10, ground := Ground.guard }], guard := some (10, false) }) rfl (fun K hK => ?_) AllReadyH.nil
      go_simp
      go_wp2_with (refine (gate_ok P.gates[k] P.code[k].length _ hga.1 hga.2.1 hga.2.2 (by omega)).mono ?_; rintro r U2 ⟨rfl, gg⟩; have g2 := g1.trans gg; clear gg g1 hHeld)
      refine hK.out _ _ (KS.out _ g2) (fun hHeld => ?_)
      clear hK K
      try simp only [Act.put, List.setIfInBounds_toArray, List.set_cons_zero, List.set_cons_succ]
      refine wpAnyH_take (i := 19) (oi := { dst := some 56, op := Op.unOp UnOp.not 4 (Operand.tmp 55), type := 4, pos := "program.go:17", after := #[{ on := 18, ground := Ground.data }, { on := 10, ground := Ground.guard }], guard := some (10, false) }) (v := ?_) rfl (by kernel_rfl) (by kernel_rfl) (by kernel_rfl) (fun _ _ _ h => h) (Or.inl ⟨by rfl, ?_⟩) (by assumption) ?_
      rotate_left
      · intro w hSw; (try dsimp only at hSw); go_simp; first | done | with_reducible rfl
      try simp only [Act.put, List.setIfInBounds_toArray, List.set_cons_zero, List.set_cons_succ]
      refine wpAnyH_take (i := 20) (oi := { dst := some 57, op := Op.pick (Operand.tmp 47) (Operand.const (Value.bool true)) (Operand.tmp 56), type := 4, pos := "program.go:17", after := #[{ on := 10, ground := Ground.data }, { on := 19, ground := Ground.data }], guard := none }) (v := ?_) rfl (by kernel_rfl) (by kernel_rfl) (by kernel_rfl) (fun _ _ _ h => h) (Or.inl ⟨by rfl, ?_⟩) (by assumption) ?_
      rotate_left
      · intro w hSw; (try dsimp only at hSw); go_simp; first | done | with_reducible rfl
      try simp only [Act.put, List.setIfInBounds_toArray, List.set_cons_zero, List.set_cons_succ]
      refine wpAnyH_done (by kernel_rfl) ?_ _
      clear hHeld KS
      have G4 := Hz.mk (G3.out.trans g2)
      clear G3 g2 hE hAp hA9
      go_wp2_with fail
      refine ⟨⟨k + 1, ?_, hlt, G4⟩, ?_⟩
      · first | rfl | rw [next_wY hlt hlen] | go_num
      · first | exact next_mY hlt | (rw [next_wY hlt hlen]; exact next_mY hlt)
    · have hk1 : ¬ (k : Int) < (P.gates.length : Int) := fun q => hlt (Int.ofNat_lt.1 q)
      go_wp2_with fail
      go_ret
      exact ⟨rfl, G.trans G2.out⟩
end Z
end Go.Proofs.Ytimiofkiadlnbaa


/-
  Stage 13, fastvm: the method value of an instruction.
-/
namespace Go.Proofs.Ytimiofkiadlnbaa
namespace Z
open Go.RowKit
open T (Sep Ob Kp Mf FlIn boxOb)

set_option maxRecDepth 100000 in
set_option maxHeartbeats 4000000 in
theorem m0_any (ia ib ic : Nat) (im : Int) (w : World) :
    Calls Try.prog 31 #[.agg #[.int .u8 0, .int .i64 ia, .int .i64 ib, .int .i64 ic, .int .u64 im]] w fun x w' => x = .returned (methV ⟨0, ia, ib, ic, im⟩) ∧ Gr w w' := by
  go_enter Try.func31, Try.ntmps31
  go_wp2_with fail
  go_ret
  exact ⟨rfl, (Gr.refl w).alloc _⟩
set_option maxRecDepth 100000 in
set_option maxHeartbeats 4000000 in
theorem m1_any (ia ib ic : Nat) (im : Int) (w : World) :
    Calls Try.prog 31 #[.agg #[.int .u8 1, .int .i64 ia, .int .i64 ib, .int .i64 ic, .int .u64 im]] w fun x w' => x = .returned (methV ⟨1, ia, ib, ic, im⟩) ∧ Gr w w' := by
  go_enter Try.func31, Try.ntmps31
  go_wp2_with fail
  go_ret
  exact ⟨rfl, (Gr.refl w).alloc _⟩
set_option maxRecDepth 100000 in
set_option maxHeartbeats 4000000 in
theorem m2_any (ia ib ic : Nat) (im : Int) (w : World) :
    Calls Try.prog 31 #[.agg #[.int .u8 2, .int .i64 ia, .int .i64 ib, .int .i64 ic, .int .u64 im]] w fun x w' => x = .returned (methV ⟨2, ia, ib, ic, im⟩) ∧ Gr w w' := by
  go_enter Try.func31, Try.ntmps31
  go_wp2_with fail
  go_ret
  exact ⟨rfl, (Gr.refl w).alloc _⟩
set_option maxRecDepth 100000 in
set_option maxHeartbeats 4000000 in
theorem m3_any (ia ib ic : Nat) (im : Int) (w : World) :
    Calls Try.prog 31 #[.agg #[.int .u8 3, .int .i64 ia, .int .i64 ib, .int .i64 ic, .int .u64 im]] w fun x w' => x = .returned (methV ⟨3, ia, ib, ic, im⟩) ∧ Gr w w' := by
  go_enter Try.func31, Try.ntmps31
  go_wp2_with fail
  go_ret
  exact ⟨rfl, (Gr.refl w).alloc _⟩
set_option maxRecDepth 100000 in
set_option maxHeartbeats 4000000 in
theorem m4_any (ia ib ic : Nat) (im : Int) (w : World) :
    Calls Try.prog 31 #[.agg #[.int .u8 4, .int .i64 ia, .int .i64 ib, .int .i64 ic, .int .u64 im]] w fun x w' => x = .returned (methV ⟨4, ia, ib, ic, im⟩) ∧ Gr w w' := by
  go_enter Try.func31, Try.ntmps31
  go_wp2_with fail
  go_ret
  exact ⟨rfl, (Gr.refl w).alloc _⟩
set_option maxRecDepth 100000 in
set_option maxHeartbeats 4000000 in
theorem m5_any (ia ib ic : Nat) (im : Int) (w : World) :
    Calls Try.prog 31 #[.agg #[.int .u8 5, .int .i64 ia, .int .i64 ib, .int .i64 ic, .int .u64 im]] w fun x w' => x = .returned (methV ⟨5, ia, ib, ic, im⟩) ∧ Gr w w' := by
  go_enter Try.func31, Try.ntmps31
  go_wp2_with fail
  go_ret
  exact ⟨rfl, (Gr.refl w).alloc _⟩
set_option maxRecDepth 100000 in
set_option maxHeartbeats 4000000 in
theorem m6_any (ia ib ic : Nat) (im : Int) (w : World) :
    Calls Try.prog 31 #[.agg #[.int .u8 6, .int .i64 ia, .int .i64 ib, .int .i64 ic, .int .u64 im]] w fun x w' => x = .returned (methV ⟨6, ia, ib, ic, im⟩) ∧ Gr w w' := by
  go_enter Try.func31, Try.ntmps31
  go_wp2_with fail
  go_ret
  exact ⟨rfl, (Gr.refl w).alloc _⟩
set_option maxRecDepth 100000 in
set_option maxHeartbeats 4000000 in
theorem m7_any (ia ib ic : Nat) (im : Int) (w : World) :
    Calls Try.prog 31 #[.agg #[.int .u8 7, .int .i64 ia, .int .i64 ib, .int .i64 ic, .int .u64 im]] w fun x w' => x = .returned (methV ⟨7, ia, ib, ic, im⟩) ∧ Gr w w' := by
  go_enter Try.func31, Try.ntmps31
  go_wp2_with fail
  go_ret
  exact ⟨rfl, (Gr.refl w).alloc _⟩
set_option maxRecDepth 100000 in
set_option maxHeartbeats 4000000 in
theorem m8_any (ia ib ic : Nat) (im : Int) (w : World) :
    Calls Try.prog 31 #[.agg #[.int .u8 8, .int .i64 ia, .int .i64 ib, .int .i64 ic, .int .u64 im]] w fun x w' => x = .returned (methV ⟨8, ia, ib, ic, im⟩) ∧ Gr w w' := by
  go_enter Try.func31, Try.ntmps31
  go_wp2_with fail
  go_ret
  exact ⟨rfl, (Gr.refl w).alloc _⟩
set_option maxRecDepth 100000 in
set_option maxHeartbeats 4000000 in
theorem m9_any (ia ib ic : Nat) (im : Int) (w : World) :
    Calls Try.prog 31 #[.agg #[.int .u8 9, .int .i64 ia, .int .i64 ib, .int .i64 ic, .int .u64 im]] w fun x w' => x = .returned (methV ⟨9, ia, ib, ic, im⟩) ∧ Gr w w' := by
  go_enter Try.func31, Try.ntmps31
  go_wp2_with fail
  go_ret
  exact ⟨rfl, (Gr.refl w).alloc _⟩
set_option maxRecDepth 100000 in
set_option maxHeartbeats 4000000 in
theorem m10_any (ia ib ic : Nat) (im : Int) (w : World) :
    Calls Try.prog 31 #[.agg #[.int .u8 10, .int .i64 ia, .int .i64 ib, .int .i64 ic, .int .u64 im]] w fun x w' => x = .returned (methV ⟨10, ia, ib, ic, im⟩) ∧ Gr w w' := by
  go_enter Try.func31, Try.ntmps31
  go_wp2_with fail
  go_ret
  exact ⟨rfl, (Gr.refl w).alloc _⟩
set_option maxRecDepth 100000 in
set_option maxHeartbeats 4000000 in
theorem m11_any (ia ib ic : Nat) (im : Int) (w : World) :
    Calls Try.prog 31 #[.agg #[.int .u8 11, .int .i64 ia, .int .i64 ib, .int .i64 ic, .int .u64 im]] w fun x w' => x = .returned (methV ⟨11, ia, ib, ic, im⟩) ∧ Gr w w' := by
  go_enter Try.func31, Try.ntmps31
  go_wp2_with fail
  go_ret
  exact ⟨rfl, (Gr.refl w).alloc _⟩
set_option maxRecDepth 100000 in
set_option maxHeartbeats 4000000 in
theorem m12_any (ia ib ic : Nat) (im : Int) (w : World) :
    Calls Try.prog 31 #[.agg #[.int .u8 12, .int .i64 ia, .int .i64 ib, .int .i64 ic, .int .u64 im]] w fun x w' => x = .returned (methV ⟨12, ia, ib, ic, im⟩) ∧ Gr w w' := by
  go_enter Try.func31, Try.ntmps31
  go_wp2_with fail
  go_ret
  exact ⟨rfl, (Gr.refl w).alloc _⟩
set_option maxRecDepth 100000 in
set_option maxHeartbeats 4000000 in
theorem m13_any (ia ib ic : Nat) (im : Int) (w : World) :
    Calls Try.prog 31 #[.agg #[.int .u8 13, .int .i64 ia, .int .i64 ib, .int .i64 ic, .int .u64 im]] w fun x w' => x = .returned (methV ⟨13, ia, ib, ic, im⟩) ∧ Gr w w' := by
  go_enter Try.func31, Try.ntmps31
  go_wp2_with fail
  go_ret
  exact ⟨rfl, (Gr.refl w).alloc _⟩
set_option maxRecDepth 100000 in
set_option maxHeartbeats 4000000 in
theorem m20_any (ia ib ic : Nat) (im : Int) (w : World) :
    Calls Try.prog 32 #[.agg #[.int .u8 20, .int .i64 ia, .int .i64 ib, .int .i64 ic, .int .u64 im]] w fun x w' => x = .returned (methV ⟨20, ia, ib, ic, im⟩) ∧ Gr w w' := by
  go_enter Try.func32, Try.ntmps32
  go_wp2_with fail
  go_ret
  exact ⟨rfl, (Gr.refl w).alloc _⟩
set_option maxRecDepth 100000 in
set_option maxHeartbeats 4000000 in
theorem m21_any (ia ib ic : Nat) (im : Int) (w : World) :
    Calls Try.prog 32 #[.agg #[.int .u8 21, .int .i64 ia, .int .i64 ib, .int .i64 ic, .int .u64 im]] w fun x w' => x = .returned (methV ⟨21, ia, ib, ic, im⟩) ∧ Gr w w' := by
  go_enter Try.func32, Try.ntmps32
  go_wp2_with fail
  go_ret
  exact ⟨rfl, (Gr.refl w).alloc _⟩
set_option maxRecDepth 100000 in
set_option maxHeartbeats 4000000 in
theorem m22_any (ia ib ic : Nat) (im : Int) (w : World) :
    Calls Try.prog 32 #[.agg #[.int .u8 22, .int .i64 ia, .int .i64 ib, .int .i64 ic, .int .u64 im]] w fun x w' => x = .returned (methV ⟨22, ia, ib, ic, im⟩) ∧ Gr w w' := by
  go_enter Try.func32, Try.ntmps32
  go_wp2_with fail
  go_ret
  exact ⟨rfl, (Gr.refl w).alloc _⟩
set_option maxRecDepth 100000 in
set_option maxHeartbeats 4000000 in
theorem m23_any (ia ib ic : Nat) (im : Int) (w : World) :
    Calls Try.prog 32 #[.agg #[.int .u8 23, .int .i64 ia, .int .i64 ib, .int .i64 ic, .int .u64 im]] w fun x w' => x = .returned (methV ⟨23, ia, ib, ic, im⟩) ∧ Gr w w' := by
  go_enter Try.func32, Try.ntmps32
  go_wp2_with fail
  go_ret
  exact ⟨rfl, (Gr.refl w).alloc _⟩
set_option maxRecDepth 100000 in
set_option maxHeartbeats 4000000 in
theorem m24_any (ia ib ic : Nat) (im : Int) (w : World) :
    Calls Try.prog 32 #[.agg #[.int .u8 24, .int .i64 ia, .int .i64 ib, .int .i64 ic, .int .u64 im]] w fun x w' => x = .returned (methV ⟨24, ia, ib, ic, im⟩) ∧ Gr w w' := by
  go_enter Try.func32, Try.ntmps32
  go_wp2_with fail
  go_ret
  exact ⟨rfl, (Gr.refl w).alloc _⟩
set_option maxRecDepth 100000 in
set_option maxHeartbeats 4000000 in
theorem m27_any (ia ib ic : Nat) (im : Int) (w : World) :
    Calls Try.prog 32 #[.agg #[.int .u8 27, .int .i64 ia, .int .i64 ib, .int .i64 ic, .int .u64 im]] w fun x w' => x = .returned (methV ⟨27, ia, ib, ic, im⟩) ∧ Gr w w' := by
  go_enter Try.func32, Try.ntmps32
  go_wp2_with fail
  go_ret
  exact ⟨rfl, (Gr.refl w).alloc _⟩
set_option maxRecDepth 100000 in
set_option maxHeartbeats 4000000 in
theorem m28_any (ia ib ic : Nat) (im : Int) (w : World) :
    Calls Try.prog 32 #[.agg #[.int .u8 28, .int .i64 ia, .int .i64 ib, .int .i64 ic, .int .u64 im]] w fun x w' => x = .returned (methV ⟨28, ia, ib, ic, im⟩) ∧ Gr w w' := by
  go_enter Try.func32, Try.ntmps32
  go_wp2_with fail
  go_ret
  exact ⟨rfl, (Gr.refl w).alloc _⟩
set_option maxRecDepth 100000 in
set_option maxHeartbeats 4000000 in
theorem m29_any (ia ib ic : Nat) (im : Int) (w : World) :
    Calls Try.prog 32 #[.agg #[.int .u8 29, .int .i64 ia, .int .i64 ib, .int .i64 ic, .int .u64 im]] w fun x w' => x = .returned (methV ⟨29, ia, ib, ic, im⟩) ∧ Gr w w' := by
  go_enter Try.func32, Try.ntmps32
  go_wp2_with fail
  go_ret
  exact ⟨rfl, (Gr.refl w).alloc _⟩
set_option maxRecDepth 100000 in
set_option maxHeartbeats 4000000 in
theorem m30_any (ia ib ic : Nat) (im : Int) (w : World) :
    Calls Try.prog 32 #[.agg #[.int .u8 30, .int .i64 ia, .int .i64 ib, .int .i64 ic, .int .u64 im]] w fun x w' => x = .returned (methV ⟨30, ia, ib, ic, im⟩) ∧ Gr w w' := by
  go_enter Try.func32, Try.ntmps32
  go_wp2_with fail
  go_ret
  exact ⟨rfl, (Gr.refl w).alloc _⟩
set_option maxRecDepth 100000 in
set_option maxHeartbeats 4000000 in
theorem m31_any (ia ib ic : Nat) (im : Int) (w : World) :
    Calls Try.prog 32 #[.agg #[.int .u8 31, .int .i64 ia, .int .i64 ib, .int .i64 ic, .int .u64 im]] w fun x w' => x = .returned (methV ⟨31, ia, ib, ic, im⟩) ∧ Gr w w' := by
  go_enter Try.func32, Try.ntmps32
  go_wp2_with fail
  go_ret
  exact ⟨rfl, (Gr.refl w).alloc _⟩
set_option maxRecDepth 100000 in
set_option maxHeartbeats 4000000 in
theorem m32_any (ia ib ic : Nat) (im : Int) (w : World) :
    Calls Try.prog 32 #[.agg #[.int .u8 32, .int .i64 ia, .int .i64 ib, .int .i64 ic, .int .u64 im]] w fun x w' => x = .returned (methV ⟨32, ia, ib, ic, im⟩) ∧ Gr w w' := by
  go_enter Try.func32, Try.ntmps32
  go_wp2_with fail
  go_ret
  exact ⟨rfl, (Gr.refl w).alloc _⟩
set_option maxRecDepth 100000 in
set_option maxHeartbeats 4000000 in
theorem m60_any (ia ib ic : Nat) (im : Int) (w : World) :
    Calls Try.prog 33 #[.agg #[.int .u8 60, .int .i64 ia, .int .i64 ib, .int .i64 ic, .int .u64 im]] w fun x w' => x = .returned (methV ⟨60, ia, ib, ic, im⟩) ∧ Gr w w' := by
  go_enter Try.func33, Try.ntmps33
  go_wp2_with fail
  go_ret
  exact ⟨rfl, (Gr.refl w).alloc _⟩
set_option maxRecDepth 100000 in
set_option maxHeartbeats 4000000 in
theorem m61_any (ia ib ic : Nat) (im : Int) (w : World) :
    Calls Try.prog 33 #[.agg #[.int .u8 61, .int .i64 ia, .int .i64 ib, .int .i64 ic, .int .u64 im]] w fun x w' => x = .returned (methV ⟨61, ia, ib, ic, im⟩) ∧ Gr w w' := by
  go_enter Try.func33, Try.ntmps33
  go_wp2_with fail
  go_ret
  exact ⟨rfl, (Gr.refl w).alloc _⟩
set_option maxRecDepth 100000 in
set_option maxHeartbeats 4000000 in
theorem m62_any (ia ib ic : Nat) (im : Int) (w : World) :
    Calls Try.prog 33 #[.agg #[.int .u8 62, .int .i64 ia, .int .i64 ib, .int .i64 ic, .int .u64 im]] w fun x w' => x = .returned (methV ⟨62, ia, ib, ic, im⟩) ∧ Gr w w' := by
  go_enter Try.func33, Try.ntmps33
  go_wp2_with fail
  go_ret
  exact ⟨rfl, (Gr.refl w).alloc _⟩
set_option maxRecDepth 100000 in
set_option maxHeartbeats 4000000 in
theorem m63_any (ia ib ic : Nat) (im : Int) (w : World) :
    Calls Try.prog 33 #[.agg #[.int .u8 63, .int .i64 ia, .int .i64 ib, .int .i64 ic, .int .u64 im]] w fun x w' => x = .returned (methV ⟨63, ia, ib, ic, im⟩) ∧ Gr w w' := by
  go_enter Try.func33, Try.ntmps33
  go_wp2_with fail
  go_ret
  exact ⟨rfl, (Gr.refl w).alloc _⟩
set_option maxRecDepth 100000 in
set_option maxHeartbeats 4000000 in
theorem m64_any (ia ib ic : Nat) (im : Int) (w : World) :
    Calls Try.prog 33 #[.agg #[.int .u8 64, .int .i64 ia, .int .i64 ib, .int .i64 ic, .int .u64 im]] w fun x w' => x = .returned (methV ⟨64, ia, ib, ic, im⟩) ∧ Gr w w' := by
  go_enter Try.func33, Try.ntmps33
  go_wp2_with fail
  go_ret
  exact ⟨rfl, (Gr.refl w).alloc _⟩
set_option maxRecDepth 100000 in
set_option maxHeartbeats 4000000 in
theorem m65_any (ia ib ic : Nat) (im : Int) (w : World) :
    Calls Try.prog 33 #[.agg #[.int .u8 65, .int .i64 ia, .int .i64 ib, .int .i64 ic, .int .u64 im]] w fun x w' => x = .returned (methV ⟨65, ia, ib, ic, im⟩) ∧ Gr w w' := by
  go_enter Try.func33, Try.ntmps33
  go_wp2_with fail
  go_ret
  exact ⟨rfl, (Gr.refl w).alloc _⟩
set_option maxRecDepth 100000 in
set_option maxHeartbeats 4000000 in
theorem m70_any (ia ib ic : Nat) (im : Int) (w : World) :
    Calls Try.prog 34 #[.agg #[.int .u8 70, .int .i64 ia, .int .i64 ib, .int .i64 ic, .int .u64 im]] w fun x w' => x = .returned (methV ⟨70, ia, ib, ic, im⟩) ∧ Gr w w' := by
  go_enter Try.func34, Try.ntmps34
  go_wp2_with fail
  go_ret
  exact ⟨rfl, (Gr.refl w).alloc _⟩
set_option maxRecDepth 100000 in
set_option maxHeartbeats 4000000 in
theorem m71_any (ia ib ic : Nat) (im : Int) (w : World) :
    Calls Try.prog 34 #[.agg #[.int .u8 71, .int .i64 ia, .int .i64 ib, .int .i64 ic, .int .u64 im]] w fun x w' => x = .returned (methV ⟨71, ia, ib, ic, im⟩) ∧ Gr w w' := by
  go_enter Try.func34, Try.ntmps34
  go_wp2_with fail
  go_ret
  exact ⟨rfl, (Gr.refl w).alloc _⟩
set_option maxRecDepth 100000 in
set_option maxHeartbeats 4000000 in
theorem m72_any (ia ib ic : Nat) (im : Int) (w : World) :
    Calls Try.prog 34 #[.agg #[.int .u8 72, .int .i64 ia, .int .i64 ib, .int .i64 ic, .int .u64 im]] w fun x w' => x = .returned (methV ⟨72, ia, ib, ic, im⟩) ∧ Gr w w' := by
  go_enter Try.func34, Try.ntmps34
  go_wp2_with fail
  go_ret
  exact ⟨rfl, (Gr.refl w).alloc _⟩
set_option maxRecDepth 100000 in
set_option maxHeartbeats 4000000 in
theorem method_ok (i : Fi) (w : World) (h : Named i.op) :
    Calls Try.prog 24 #[.agg #[.int .u8 i.op, .int .i64 i.a, .int .i64 i.b, .int .i64 i.c, .int .u64 i.i]] w fun x w' => x = .returned (methV i) ∧ Gr w w' := by
  obtain ⟨op, ia, ib, ic, im⟩ := i
  dsimp only at *
  have hc : op = 0 ∨ op = 1 ∨ op = 2 ∨ op = 3 ∨ op = 4 ∨ op = 5 ∨ op = 6 ∨ op = 7 ∨ op = 8 ∨ op = 9 ∨ op = 10 ∨ op = 11 ∨ op = 12 ∨ op = 13 ∨ op = 20 ∨ op = 21 ∨ op = 22 ∨ op = 23 ∨ op = 24 ∨ op = 27 ∨ op = 28 ∨ op = 29 ∨ op = 30 ∨ op = 31 ∨ op = 32 ∨ op = 60 ∨ op = 61 ∨ op = 62 ∨ op = 63 ∨ op = 64 ∨ op = 65 ∨ op = 70 ∨ op = 71 ∨ op = 72 := by unfold Named at h; omega
  clear h
  rcases hc with rfl | rfl | rfl | rfl | rfl | rfl | rfl | rfl | rfl | rfl | rfl | rfl | rfl | rfl | rfl | rfl | rfl | rfl | rfl | rfl | rfl | rfl | rfl | rfl | rfl | rfl | rfl | rfl | rfl | rfl | rfl | rfl | rfl | rfl
  · go_enter Try.func24, Try.ntmps24
    go_wp2_with fail
    refine (m0_any ia ib ic im _).mono ?_
    rintro r w1 ⟨rfl, g1⟩
    go_wp2_with fail
    go_ret
    exact ⟨rfl, ((Gr.refl w).alloc _).trans g1⟩
  · go_enter Try.func24, Try.ntmps24
    go_wp2_with fail
    refine (m1_any ia ib ic im _).mono ?_
    rintro r w1 ⟨rfl, g1⟩
    go_wp2_with fail
    go_ret
    exact ⟨rfl, ((Gr.refl w).alloc _).trans g1⟩
  · go_enter Try.func24, Try.ntmps24
    go_wp2_with fail
    refine (m2_any ia ib ic im _).mono ?_
    rintro r w1 ⟨rfl, g1⟩
    go_wp2_with fail
    go_ret
    exact ⟨rfl, ((Gr.refl w).alloc _).trans g1⟩
  · go_enter Try.func24, Try.ntmps24
    go_wp2_with fail
    refine (m3_any ia ib ic im _).mono ?_
    rintro r w1 ⟨rfl, g1⟩
    go_wp2_with fail
    go_ret
    exact ⟨rfl, ((Gr.refl w).alloc _).trans g1⟩
  · go_enter Try.func24, Try.ntmps24
    go_wp2_with fail
    refine (m4_any ia ib ic im _).mono ?_
    rintro r w1 ⟨rfl, g1⟩
    go_wp2_with fail
    go_ret
    exact ⟨rfl, ((Gr.refl w).alloc _).trans g1⟩
  · go_enter Try.func24, Try.ntmps24
    go_wp2_with fail
    refine (m5_any ia ib ic im _).mono ?_
    rintro r w1 ⟨rfl, g1⟩
    go_wp2_with fail
    go_ret
    exact ⟨rfl, ((Gr.refl w).alloc _).trans g1⟩
  · go_enter Try.func24, Try.ntmps24
    go_wp2_with fail
    refine (m6_any ia ib ic im _).mono ?_
    rintro r w1 ⟨rfl, g1⟩
    go_wp2_with fail
    go_ret
    exact ⟨rfl, ((Gr.refl w).alloc _).trans g1⟩
  · go_enter Try.func24, Try.ntmps24
    go_wp2_with fail
    refine (m7_any ia ib ic im _).mono ?_
    rintro r w1 ⟨rfl, g1⟩
    go_wp2_with fail
    go_ret
    exact ⟨rfl, ((Gr.refl w).alloc _).trans g1⟩
  · go_enter Try.func24, Try.ntmps24
    go_wp2_with fail
    refine (m8_any ia ib ic im _).mono ?_
    rintro r w1 ⟨rfl, g1⟩
    go_wp2_with fail
    go_ret
    exact ⟨rfl, ((Gr.refl w).alloc _).trans g1⟩
  · go_enter Try.func24, Try.ntmps24
    go_wp2_with fail
    refine (m9_any ia ib ic im _).mono ?_
    rintro r w1 ⟨rfl, g1⟩
    go_wp2_with fail
    go_ret
    exact ⟨rfl, ((Gr.refl w).alloc _).trans g1⟩
  · go_enter Try.func24, Try.ntmps24
    go_wp2_with fail
    refine (m10_any ia ib ic im _).mono ?_
    rintro r w1 ⟨rfl, g1⟩
    go_wp2_with fail
    go_ret
    exact ⟨rfl, ((Gr.refl w).alloc _).trans g1⟩
  · go_enter Try.func24, Try.ntmps24
    go_wp2_with fail
    refine (m11_any ia ib ic im _).mono ?_
    rintro r w1 ⟨rfl, g1⟩
    go_wp2_with fail
    go_ret
    exact ⟨rfl, ((Gr.refl w).alloc _).trans g1⟩
  · go_enter Try.func24, Try.ntmps24
    go_wp2_with fail
    refine (m12_any ia ib ic im _).mono ?_
    rintro r w1 ⟨rfl, g1⟩
    go_wp2_with fail
    go_ret
    exact ⟨rfl, ((Gr.refl w).alloc _).trans g1⟩
  · go_enter Try.func24, Try.ntmps24
    go_wp2_with fail
    refine (m13_any ia ib ic im _).mono ?_
    rintro r w1 ⟨rfl, g1⟩
    go_wp2_with fail
    go_ret
    exact ⟨rfl, ((Gr.refl w).alloc _).trans g1⟩
  · go_enter Try.func24, Try.ntmps24
    go_wp2_with fail
    refine (m20_any ia ib ic im _).mono ?_
    rintro r w1 ⟨rfl, g1⟩
    go_wp2_with fail
    go_ret
    exact ⟨rfl, ((Gr.refl w).alloc _).trans g1⟩
  · go_enter Try.func24, Try.ntmps24
    go_wp2_with fail
    refine (m21_any ia ib ic im _).mono ?_
    rintro r w1 ⟨rfl, g1⟩
    go_wp2_with fail
    go_ret
    exact ⟨rfl, ((Gr.refl w).alloc _).trans g1⟩
  · go_enter Try.func24, Try.ntmps24
    go_wp2_with fail
    refine (m22_any ia ib ic im _).mono ?_
    rintro r w1 ⟨rfl, g1⟩
    go_wp2_with fail
    go_ret
    exact ⟨rfl, ((Gr.refl w).alloc _).trans g1⟩
  · go_enter Try.func24, Try.ntmps24
    go_wp2_with fail
    refine (m23_any ia ib ic im _).mono ?_
    rintro r w1 ⟨rfl, g1⟩
    go_wp2_with fail
    go_ret
    exact ⟨rfl, ((Gr.refl w).alloc _).trans g1⟩
  · go_enter Try.func24, Try.ntmps24
    go_wp2_with fail
    refine (m24_any ia ib ic im _).mono ?_
    rintro r w1 ⟨rfl, g1⟩
    go_wp2_with fail
    go_ret
    exact ⟨rfl, ((Gr.refl w).alloc _).trans g1⟩
  · go_enter Try.func24, Try.ntmps24
    go_wp2_with fail
    refine (m27_any ia ib ic im _).mono ?_
    rintro r w1 ⟨rfl, g1⟩
    go_wp2_with fail
    go_ret
    exact ⟨rfl, ((Gr.refl w).alloc _).trans g1⟩
  · go_enter Try.func24, Try.ntmps24
    go_wp2_with fail
    refine (m28_any ia ib ic im _).mono ?_
    rintro r w1 ⟨rfl, g1⟩
    go_wp2_with fail
    go_ret
    exact ⟨rfl, ((Gr.refl w).alloc _).trans g1⟩
  · go_enter Try.func24, Try.ntmps24
    go_wp2_with fail
    refine (m29_any ia ib ic im _).mono ?_
    rintro r w1 ⟨rfl, g1⟩
    go_wp2_with fail
    go_ret
    exact ⟨rfl, ((Gr.refl w).alloc _).trans g1⟩
  · go_enter Try.func24, Try.ntmps24
    go_wp2_with fail
    refine (m30_any ia ib ic im _).mono ?_
    rintro r w1 ⟨rfl, g1⟩
    go_wp2_with fail
    go_ret
    exact ⟨rfl, ((Gr.refl w).alloc _).trans g1⟩
  · go_enter Try.func24, Try.ntmps24
    go_wp2_with fail
    refine (m31_any ia ib ic im _).mono ?_
    rintro r w1 ⟨rfl, g1⟩
    go_wp2_with fail
    go_ret
    exact ⟨rfl, ((Gr.refl w).alloc _).trans g1⟩
  · go_enter Try.func24, Try.ntmps24
    go_wp2_with fail
    refine (m32_any ia ib ic im _).mono ?_
    rintro r w1 ⟨rfl, g1⟩
    go_wp2_with fail
    go_ret
    exact ⟨rfl, ((Gr.refl w).alloc _).trans g1⟩
  · go_enter Try.func24, Try.ntmps24
    go_wp2_with fail
    refine (m60_any ia ib ic im _).mono ?_
    rintro r w1 ⟨rfl, g1⟩
    go_wp2_with fail
    go_ret
    exact ⟨rfl, ((Gr.refl w).alloc _).trans g1⟩
  · go_enter Try.func24, Try.ntmps24
    go_wp2_with fail
    refine (m61_any ia ib ic im _).mono ?_
    rintro r w1 ⟨rfl, g1⟩
    go_wp2_with fail
    go_ret
    exact ⟨rfl, ((Gr.refl w).alloc _).trans g1⟩
  · go_enter Try.func24, Try.ntmps24
    go_wp2_with fail
    refine (m62_any ia ib ic im _).mono ?_
    rintro r w1 ⟨rfl, g1⟩
    go_wp2_with fail
    go_ret
    exact ⟨rfl, ((Gr.refl w).alloc _).trans g1⟩
  · go_enter Try.func24, Try.ntmps24
    go_wp2_with fail
    refine (m63_any ia ib ic im _).mono ?_
    rintro r w1 ⟨rfl, g1⟩
    go_wp2_with fail
    go_ret
    exact ⟨rfl, ((Gr.refl w).alloc _).trans g1⟩
  · go_enter Try.func24, Try.ntmps24
    go_wp2_with fail
    refine (m64_any ia ib ic im _).mono ?_
    rintro r w1 ⟨rfl, g1⟩
    go_wp2_with fail
    go_ret
    exact ⟨rfl, ((Gr.refl w).alloc _).trans g1⟩
  · go_enter Try.func24, Try.ntmps24
    go_wp2_with fail
    refine (m65_any ia ib ic im _).mono ?_
    rintro r w1 ⟨rfl, g1⟩
    go_wp2_with fail
    go_ret
    exact ⟨rfl, ((Gr.refl w).alloc _).trans g1⟩
  · go_enter Try.func24, Try.ntmps24
    go_wp2_with fail
    refine (m70_any ia ib ic im _).mono ?_
    rintro r w1 ⟨rfl, g1⟩
    go_wp2_with fail
    go_ret
    exact ⟨rfl, ((Gr.refl w).alloc _).trans g1⟩
  · go_enter Try.func24, Try.ntmps24
    go_wp2_with fail
    refine (m71_any ia ib ic im _).mono ?_
    rintro r w1 ⟨rfl, g1⟩
    go_wp2_with fail
    go_ret
    exact ⟨rfl, ((Gr.refl w).alloc _).trans g1⟩
  · go_enter Try.func24, Try.ntmps24
    go_wp2_with fail
    refine (m72_any ia ib ic im _).mono ?_
    rintro r w1 ⟨rfl, g1⟩
    go_wp2_with fail
    go_ret
    exact ⟨rfl, ((Gr.refl w).alloc _).trans g1⟩
end Z
end Go.Proofs.Ytimiofkiadlnbaa
