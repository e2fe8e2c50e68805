import Derived.Test.YtbichnngepjpnaaGreatZOpsC
/-
  Stage 13, fastvm: guards and branches
-/
namespace Go.Proofs.YtbichnngepjpnaaGreat
namespace Z
open Go.RowKit
open T (Sep Ob Kp Mf FlIn)

set_option maxRecDepth 100000 in
set_option maxHeartbeats 4000000 in
theorem branch_any (a : Nat) (x : Fx) (i : Fi) (w : World) (h : Bx w a x) (ok : Bool) (hp : x.p ≤ 1000000) (hj : 0 ≤ i.i ∧ i.i < 1000) :
    Calls Tryz.prog 98 #[.agg #[.int .u8 i.op, .int .i64 i.a, .int .i64 i.b, .int .i64 i.c, .int .u64 i.i], .pointer (some ⟨a, 0, none⟩), .bool ok] w fun r w' => r = .returned (.tuple #[]) ∧ Bo1 a (x.br ok i.i.toNat) w w' := by
  cases ok
  · skip
    have hne : ¬ w.heap.size = a := by have := h.lt; omega
    have hx := Hz.mk h
    clear h
    go_enter Tryz.func98, Tryz.ntmps98
    go_upto_region 1 with fail
    refine wp_world (fun W => At W w.heap.size #[.int .u8 i.op, .int .i64 i.a, .int .i64 i.b, .int .i64 i.c, .int .u64 i.i] ∧ Gr w W) ⟨At.new w _ _, (Gr.refl _).alloc _⟩ ?_
    rintro W ⟨hA, G⟩
    generalize w.heap.size = kb at *
    replace hA := Hz.mk hA
    have KS : Hz (∀ V, At V kb #[.int .u8 i.op, .int .i64 i.a, .int .i64 i.b, .int .i64 i.c, .int .u64 i.i] → V.rangeAt kb 0 (Fi.vals i) ∧ V.cell? ⟨kb, 1, none⟩ = some (.int .i64 i.a) ∧ V.cell? ⟨kb, 3, none⟩ = some (.int .i64 i.c) ∧ V.cell? ⟨kb, 4, none⟩ = some (.int .u64 i.i)) := Hz.mk (fun V q => ⟨fun j v e => by rw [Nat.zero_add]; exact (q.2.1 j).trans (by simpa [Fi.vals] using e), q.2.1 1, q.2.1 3, q.2.1 4⟩)
    replace hj := Hz.mk hj
    go_wp2_with fail
    refine (next_any a x _ (hx.out.gr G) hp).mono ?_
    rintro r V9 ⟨rfl, hB⟩
    replace hB := Hz.mk hB
    go_wp2_with fail
    first | go_end0 | ((try simp only [Exit.inBlock, Exit.then]); refine bodyPost_ret (results_none rfl _ _ _) rfl ?_)
    exact ⟨rfl, hB.out.after G⟩
  · skip
    have hne : ¬ w.heap.size = a := by have := h.lt; omega
    have hx := Hz.mk h
    clear h
    go_enter Tryz.func98, Tryz.ntmps98
    go_upto_region 1 with fail
    refine wp_world (fun W => At W w.heap.size #[.int .u8 i.op, .int .i64 i.a, .int .i64 i.b, .int .i64 i.c, .int .u64 i.i] ∧ Gr w W) ⟨At.new w _ _, (Gr.refl _).alloc _⟩ ?_
    rintro W ⟨hA, G⟩
    generalize w.heap.size = kb at *
    replace hA := Hz.mk hA
    have KS : Hz (∀ V, At V kb #[.int .u8 i.op, .int .i64 i.a, .int .i64 i.b, .int .i64 i.c, .int .u64 i.i] → V.rangeAt kb 0 (Fi.vals i) ∧ V.cell? ⟨kb, 1, none⟩ = some (.int .i64 i.a) ∧ V.cell? ⟨kb, 3, none⟩ = some (.int .i64 i.c) ∧ V.cell? ⟨kb, 4, none⟩ = some (.int .u64 i.i)) := Hz.mk (fun V q => ⟨fun j v e => by rw [Nat.zero_add]; exact (q.2.1 j).trans (by simpa [Fi.vals] using e), q.2.1 1, q.2.1 3, q.2.1 4⟩)
    have q0 : W.cell? ⟨kb, 0, none⟩ = some (.int .u8 i.op) := hA.out.2.1 0
    have q1 : W.cell? ⟨kb, 1, none⟩ = some (.int .i64 i.a) := hA.out.2.1 1
    have q2 : W.cell? ⟨kb, 2, none⟩ = some (.int .i64 i.b) := hA.out.2.1 2
    have q3 : W.cell? ⟨kb, 3, none⟩ = some (.int .i64 i.c) := hA.out.2.1 3
    have q4 : W.cell? ⟨kb, 4, none⟩ = some (.int .u64 i.i) := hA.out.2.1 4
    have hJ := Hz.mk (jmp_op a x i W (hx.out.gr G) hj)
    replace hj := Hz.mk hj
    go_wp2_with fail
    refine hJ.out.mono ?_
    rintro r V9 ⟨rfl, hB⟩
    replace hB := Hz.mk hB
    go_wp2_with fail
    first | go_end0 | ((try simp only [Exit.inBlock, Exit.then]); refine bodyPost_ret (results_none rfl _ _ _) rfl ?_)
    exact ⟨rfl, hB.out.after G⟩
set_option maxRecDepth 100000 in
set_option maxHeartbeats 4000000 in
theorem beq_op (a : Nat) (x : Fx) (i : Fi) (w : World) (h : Bx w a x) (ha : i.a < 16) (hb : i.b < 16) (hp : x.p ≤ 1000000) (hj : 0 ≤ i.i ∧ i.i < 1000) :
    Calls Tryz.prog 72 #[.agg #[.int .u8 i.op, .int .i64 i.a, .int .i64 i.b, .int .i64 i.c, .int .u64 i.i], .pointer (some ⟨a, 0, none⟩)] w fun r w' => r = .returned (.tuple #[]) ∧ Bo1 a (x.br ((x.r i.a == x.r i.b)) i.i.toNat) w w' := by
  replace hj := Hz.mk hj
  have hne : ¬ w.heap.size = a := by have := h.lt; omega
  have hx := Hz.mk h
  clear h
  go_enter Tryz.func72, Tryz.ntmps72
  go_upto_region 1 with fail
  refine wp_world (fun W => At W w.heap.size #[.int .u8 i.op, .int .i64 i.a, .int .i64 i.b, .int .i64 i.c, .int .u64 i.i] ∧ Gr w W) ⟨At.new w _ _, (Gr.refl _).alloc _⟩ ?_
  rintro W ⟨hA, G⟩
  generalize w.heap.size = kb at *
  replace hA := Hz.mk hA
  have KS : Hz (∀ V, At V kb #[.int .u8 i.op, .int .i64 i.a, .int .i64 i.b, .int .i64 i.c, .int .u64 i.i] → V.rangeAt kb 0 (Fi.vals i) ∧ V.cell? ⟨kb, 1, none⟩ = some (.int .i64 i.a) ∧ V.cell? ⟨kb, 3, none⟩ = some (.int .i64 i.c) ∧ V.cell? ⟨kb, 4, none⟩ = some (.int .u64 i.i)) := Hz.mk (fun V q => ⟨fun j v e => by rw [Nat.zero_add]; exact (q.2.1 j).trans (by simpa [Fi.vals] using e), q.2.1 1, q.2.1 3, q.2.1 4⟩)
  have g0 : Gr W W.drew := (Gr.refl W).drew
  refine wp_region_held_drew (S := (fun W => W.rangeAt kb 0 (Fi.vals i) ∧ W.cell? ⟨kb, 1, none⟩ = some (.int .i64 i.a) ∧ W.cell? ⟨kb, 3, none⟩ = some (.int .i64 i.c) ∧ W.cell? ⟨kb, 4, none⟩ = some (.int .u64 i.i))) (by kernel_rfl) (KS.out _ (hA.out.gr g0)) (fun hHeld => ?_)
  refine wpAnyH_take (i := 0) (oi := { dst := some 4, op := Op.load 101 (Operand.tmp 2), type := 101, pos := "steer.go:7", after := #[], guard := none }) (v := _) rfl (by kernel_rfl) (by kernel_rfl) (by kernel_rfl) (fun _ _ _ h => h) (yieldsIf_load_mid (by rfl) _ _ rfl _ _ rfl _ _ (fun _ h => h.1) Tryz.underlying101 rfl (by kernel_rfl)) (by assumption) ?_
  try simp only [Act.put, List.setIfInBounds_toArray, List.set_cons_zero, List.set_cons_succ]
  refine wpAnyH_take (i := 1) (oi := { dst := some 5, op := Op.move (Operand.tmp 1), type := 28, pos := "steer.go:7", after := #[], guard := none }) (v := ?_) rfl (by kernel_rfl) (by kernel_rfl) (by kernel_rfl) (fun _ _ _ h => h) (Or.inl ⟨by rfl, ?_⟩) (by assumption) ?_
  rotate_left
  · intro w hSw; (try dsimp only at hSw); go_simp; first | done | with_reducible rfl
  try simp only [Act.put, List.setIfInBounds_toArray, List.set_cons_zero, List.set_cons_succ]
  refine wpAnyH_take (i := 2) (oi := { dst := some 6, op := Op.move (Operand.tmp 1), type := 28, pos := "steer.go:7", after := #[], guard := none }) (v := ?_) rfl (by kernel_rfl) (by kernel_rfl) (by kernel_rfl) (fun _ _ _ h => h) (Or.inl ⟨by rfl, ?_⟩) (by assumption) ?_
  rotate_left
  · intro w hSw; (try dsimp only at hSw); go_simp; first | done | with_reducible rfl
  try simp only [Act.put, List.setIfInBounds_toArray, List.set_cons_zero, List.set_cons_succ]
  refine wpAnyH_take (i := 3) (oi := { dst := some 7, op := Op.load 101 (Operand.tmp 2), type := 101, pos := "steer.go:7", after := #[], guard := none }) (v := _) rfl (by kernel_rfl) (by kernel_rfl) (by kernel_rfl) (fun _ _ _ h => h) (yieldsIf_load_mid (by rfl) _ _ rfl _ _ rfl _ _ (fun _ h => h.1) Tryz.underlying101 rfl (by kernel_rfl)) (by assumption) ?_
  try simp only [Act.put, List.setIfInBounds_toArray, List.set_cons_zero, List.set_cons_succ]
  refine wpAnyH_take (i := 5) (oi := { dst := some 9, op := Op.move (Operand.tmp 1), type := 28, pos := "steer.go:7", after := #[], guard := none }) (v := ?_) rfl (by kernel_rfl) (by kernel_rfl) (by kernel_rfl) (fun _ _ _ h => h) (Or.inl ⟨by rfl, ?_⟩) (by assumption) ?_
  rotate_left
  · intro w hSw; (try dsimp only at hSw); go_simp; first | done | with_reducible rfl
  try simp only [Act.put, List.setIfInBounds_toArray, List.set_cons_zero, List.set_cons_succ]
  refine wpAnyH_take (i := 6) (oi := { dst := some 10, op := Op.load 101 (Operand.tmp 2), type := 101, pos := "steer.go:7", after := #[], guard := none }) (v := _) rfl (by kernel_rfl) (by kernel_rfl) (by kernel_rfl) (fun _ _ _ h => h) (yieldsIf_load_mid (by rfl) _ _ rfl _ _ rfl _ _ (fun _ h => h.1) Tryz.underlying101 rfl (by kernel_rfl)) (by assumption) ?_
  try simp only [Act.put, List.setIfInBounds_toArray, List.set_cons_zero, List.set_cons_succ]
  refine wpAnyH_ready (rs := [4]) (by kernel_rfl) (by simp) ?_
  refine AllReadyH.cons (o := { dst := some 8, op := Op.call { callee := Callee.value (Operand.func 99), args := #[Operand.tmp 6, Operand.tmp 7], argTypes := #[28, 101] }, type := 31, pos := "steer.go:7", after := #[{ on := 2, ground := Ground.data }, { on := 3, ground := Ground.data }], guard := none }) rfl (fun K hK => ?_) AllReadyH.nil
  go_simp
  go_wp2_with (refine (a_any a x i _ ((hx.out.gr G).gr g0) ha).mono ?_; rintro r V1 ⟨rfl, gg⟩; have g1 := g0.trans gg; clear gg g0 hHeld)
  refine hK.out _ _ (KS.out _ (hA.out.gr g1)) (fun hHeld => ?_)
  clear hK K
  try simp only [Act.put, List.setIfInBounds_toArray, List.set_cons_zero, List.set_cons_succ]
  refine wpAnyH_ready (rs := [7]) (by kernel_rfl) (by simp) ?_
  refine AllReadyH.cons (o := { dst := some 11, op := Op.call { callee := Callee.value (Operand.func 94), args := #[Operand.tmp 9, Operand.tmp 10], argTypes := #[28, 101] }, type := 31, pos := "steer.go:7", after := #[{ on := 5, ground := Ground.data }, { on := 6, ground := Ground.data }, { on := 4, ground := Ground.chain }], guard := none }) rfl (fun K hK => ?_) AllReadyH.nil
  go_simp
  go_wp2_with (refine (b_any a x i _ ((hx.out.gr G).gr g1) hb).mono ?_; rintro r V2 ⟨rfl, gg⟩; have g2 := g1.trans gg; clear gg g1 hHeld)
  refine hK.out _ _ (KS.out _ (hA.out.gr g2)) (fun hHeld => ?_)
  clear hK K
  try simp only [Act.put, List.setIfInBounds_toArray, List.set_cons_zero, List.set_cons_succ]
  refine wpAnyH_take (i := 8) (oi := { dst := some 12, op := Op.binOp BinOp.eql 31 (Operand.tmp 8) (Operand.tmp 11) 31, type := 4, pos := "steer.go:7", after := #[{ on := 4, ground := Ground.data }, { on := 7, ground := Ground.data }], guard := none }) (v := ?_) rfl (by kernel_rfl) (by kernel_rfl) (by kernel_rfl) (fun _ _ _ h => h) (Or.inl ⟨by rfl, ?_⟩) (by assumption) ?_
  rotate_left
  · intro w hSw; (try dsimp only at hSw); go_simp; first | done | with_reducible rfl
  try simp only [Act.put, List.setIfInBounds_toArray, List.set_cons_zero, List.set_cons_succ]
  refine wpAnyH_ready (rs := [9]) (by kernel_rfl) (by simp) ?_
  refine AllReadyH.cons (o := { dst := some 13, op := Op.call { callee := Callee.value (Operand.func 98), args := #[Operand.tmp 4, Operand.tmp 5, Operand.tmp 12], argTypes := #[101, 28, 4] }, type := 0, pos := "steer.go:7", after := #[{ on := 0, ground := Ground.data }, { on := 1, ground := Ground.data }, { on := 8, ground := Ground.data }, { on := 7, ground := Ground.chain }], guard := none }) rfl (fun K hK => ?_) AllReadyH.nil
  go_simp
  go_wp2_with (refine (branch_any a x i _ ((hx.out.gr G).gr g2) _ hp hj.out).mono ?_; rintro r V9 ⟨rfl, hB⟩; clear hHeld)
  refine hK.out _ _ (KS.out _ (T.at_kp (hA.out.gr g2) hB.2 hne)) (fun hHeld => ?_)
  clear hK K
  try simp only [Act.put, List.setIfInBounds_toArray, List.set_cons_zero, List.set_cons_succ]
  refine wpAnyH_done (by kernel_rfl) ?_ _
  clear hHeld
  go_wp2_with fail
  first | go_end0 | ((try simp only [Exit.inBlock, Exit.then]); refine bodyPost_ret (results_none rfl _ _ _) rfl ?_)
  exact ⟨rfl, hB.after (G.trans g2)⟩
set_option maxRecDepth 100000 in
set_option maxHeartbeats 4000000 in
theorem bne_op (a : Nat) (x : Fx) (i : Fi) (w : World) (h : Bx w a x) (ha : i.a < 16) (hb : i.b < 16) (hp : x.p ≤ 1000000) (hj : 0 ≤ i.i ∧ i.i < 1000) :
    Calls Tryz.prog 73 #[.agg #[.int .u8 i.op, .int .i64 i.a, .int .i64 i.b, .int .i64 i.c, .int .u64 i.i], .pointer (some ⟨a, 0, none⟩)] w fun r w' => r = .returned (.tuple #[]) ∧ Bo1 a (x.br ((x.r i.a != x.r i.b)) i.i.toNat) w w' := by
  replace hj := Hz.mk hj
  have hne : ¬ w.heap.size = a := by have := h.lt; omega
  have hx := Hz.mk h
  clear h
  go_enter Tryz.func73, Tryz.ntmps73
  go_upto_region 1 with fail
  refine wp_world (fun W => At W w.heap.size #[.int .u8 i.op, .int .i64 i.a, .int .i64 i.b, .int .i64 i.c, .int .u64 i.i] ∧ Gr w W) ⟨At.new w _ _, (Gr.refl _).alloc _⟩ ?_
  rintro W ⟨hA, G⟩
  generalize w.heap.size = kb at *
  replace hA := Hz.mk hA
  have KS : Hz (∀ V, At V kb #[.int .u8 i.op, .int .i64 i.a, .int .i64 i.b, .int .i64 i.c, .int .u64 i.i] → V.rangeAt kb 0 (Fi.vals i) ∧ V.cell? ⟨kb, 1, none⟩ = some (.int .i64 i.a) ∧ V.cell? ⟨kb, 3, none⟩ = some (.int .i64 i.c) ∧ V.cell? ⟨kb, 4, none⟩ = some (.int .u64 i.i)) := Hz.mk (fun V q => ⟨fun j v e => by rw [Nat.zero_add]; exact (q.2.1 j).trans (by simpa [Fi.vals] using e), q.2.1 1, q.2.1 3, q.2.1 4⟩)
  have g0 : Gr W W.drew := (Gr.refl W).drew
  refine wp_region_held_drew (S := (fun W => W.rangeAt kb 0 (Fi.vals i) ∧ W.cell? ⟨kb, 1, none⟩ = some (.int .i64 i.a) ∧ W.cell? ⟨kb, 3, none⟩ = some (.int .i64 i.c) ∧ W.cell? ⟨kb, 4, none⟩ = some (.int .u64 i.i))) (by kernel_rfl) (KS.out _ (hA.out.gr g0)) (fun hHeld => ?_)
  refine wpAnyH_take (i := 0) (oi := { dst := some 4, op := Op.load 101 (Operand.tmp 2), type := 101, pos := "steer.go:9", after := #[], guard := none }) (v := _) rfl (by kernel_rfl) (by kernel_rfl) (by kernel_rfl) (fun _ _ _ h => h) (yieldsIf_load_mid (by rfl) _ _ rfl _ _ rfl _ _ (fun _ h => h.1) Tryz.underlying101 rfl (by kernel_rfl)) (by assumption) ?_
  try simp only [Act.put, List.setIfInBounds_toArray, List.set_cons_zero, List.set_cons_succ]
  refine wpAnyH_take (i := 1) (oi := { dst := some 5, op := Op.move (Operand.tmp 1), type := 28, pos := "steer.go:9", after := #[], guard := none }) (v := ?_) rfl (by kernel_rfl) (by kernel_rfl) (by kernel_rfl) (fun _ _ _ h => h) (Or.inl ⟨by rfl, ?_⟩) (by assumption) ?_
  rotate_left
  · intro w hSw; (try dsimp only at hSw); go_simp; first | done | with_reducible rfl
  try simp only [Act.put, List.setIfInBounds_toArray, List.set_cons_zero, List.set_cons_succ]
  refine wpAnyH_take (i := 2) (oi := { dst := some 6, op := Op.move (Operand.tmp 1), type := 28, pos := "steer.go:9", after := #[], guard := none }) (v := ?_) rfl (by kernel_rfl) (by kernel_rfl) (by kernel_rfl) (fun _ _ _ h => h) (Or.inl ⟨by rfl, ?_⟩) (by assumption) ?_
  rotate_left
  · intro w hSw; (try dsimp only at hSw); go_simp; first | done | with_reducible rfl
  try simp only [Act.put, List.setIfInBounds_toArray, List.set_cons_zero, List.set_cons_succ]
  refine wpAnyH_take (i := 3) (oi := { dst := some 7, op := Op.load 101 (Operand.tmp 2), type := 101, pos := "steer.go:9", after := #[], guard := none }) (v := _) rfl (by kernel_rfl) (by kernel_rfl) (by kernel_rfl) (fun _ _ _ h => h) (yieldsIf_load_mid (by rfl) _ _ rfl _ _ rfl _ _ (fun _ h => h.1) Tryz.underlying101 rfl (by kernel_rfl)) (by assumption) ?_
  try simp only [Act.put, List.setIfInBounds_toArray, List.set_cons_zero, List.set_cons_succ]
  refine wpAnyH_take (i := 5) (oi := { dst := some 9, op := Op.move (Operand.tmp 1), type := 28, pos := "steer.go:9", after := #[], guard := none }) (v := ?_) rfl (by kernel_rfl) (by kernel_rfl) (by kernel_rfl) (fun _ _ _ h => h) (Or.inl ⟨by rfl, ?_⟩) (by assumption) ?_
  rotate_left
  · intro w hSw; (try dsimp only at hSw); go_simp; first | done | with_reducible rfl
  try simp only [Act.put, List.setIfInBounds_toArray, List.set_cons_zero, List.set_cons_succ]
  refine wpAnyH_take (i := 6) (oi := { dst := some 10, op := Op.load 101 (Operand.tmp 2), type := 101, pos := "steer.go:9", after := #[], guard := none }) (v := _) rfl (by kernel_rfl) (by kernel_rfl) (by kernel_rfl) (fun _ _ _ h => h) (yieldsIf_load_mid (by rfl) _ _ rfl _ _ rfl _ _ (fun _ h => h.1) Tryz.underlying101 rfl (by kernel_rfl)) (by assumption) ?_
  try simp only [Act.put, List.setIfInBounds_toArray, List.set_cons_zero, List.set_cons_succ]
  refine wpAnyH_ready (rs := [4]) (by kernel_rfl) (by simp) ?_
  refine AllReadyH.cons (o := { dst := some 8, op := Op.call { callee := Callee.value (Operand.func 99), args := #[Operand.tmp 6, Operand.tmp 7], argTypes := #[28, 101] }, type := 31, pos := "steer.go:9", after := #[{ on := 2, ground := Ground.data }, { on := 3, ground := Ground.data }], guard := none }) rfl (fun K hK => ?_) AllReadyH.nil
  go_simp
  go_wp2_with (refine (a_any a x i _ ((hx.out.gr G).gr g0) ha).mono ?_; rintro r V1 ⟨rfl, gg⟩; have g1 := g0.trans gg; clear gg g0 hHeld)
  refine hK.out _ _ (KS.out _ (hA.out.gr g1)) (fun hHeld => ?_)
  clear hK K
  try simp only [Act.put, List.setIfInBounds_toArray, List.set_cons_zero, List.set_cons_succ]
  refine wpAnyH_ready (rs := [7]) (by kernel_rfl) (by simp) ?_
  refine AllReadyH.cons (o := { dst := some 11, op := Op.call { callee := Callee.value (Operand.func 94), args := #[Operand.tmp 9, Operand.tmp 10], argTypes := #[28, 101] }, type := 31, pos := "steer.go:9", after := #[{ on := 5, ground := Ground.data }, { on := 6, ground := Ground.data }, { on := 4, ground := Ground.chain }], guard := none }) rfl (fun K hK => ?_) AllReadyH.nil
  go_simp
  go_wp2_with (refine (b_any a x i _ ((hx.out.gr G).gr g1) hb).mono ?_; rintro r V2 ⟨rfl, gg⟩; have g2 := g1.trans gg; clear gg g1 hHeld)
  refine hK.out _ _ (KS.out _ (hA.out.gr g2)) (fun hHeld => ?_)
  clear hK K
  try simp only [Act.put, List.setIfInBounds_toArray, List.set_cons_zero, List.set_cons_succ]
  refine wpAnyH_take (i := 8) (oi := { dst := some 12, op := Op.binOp BinOp.neq 31 (Operand.tmp 8) (Operand.tmp 11) 31, type := 4, pos := "steer.go:9", after := #[{ on := 4, ground := Ground.data }, { on := 7, ground := Ground.data }], guard := none }) (v := ?_) rfl (by kernel_rfl) (by kernel_rfl) (by kernel_rfl) (fun _ _ _ h => h) (Or.inl ⟨by rfl, ?_⟩) (by assumption) ?_
  rotate_left
  · intro w hSw; (try dsimp only at hSw); go_simp; first | done | with_reducible rfl
  try simp only [Act.put, List.setIfInBounds_toArray, List.set_cons_zero, List.set_cons_succ]
  refine wpAnyH_ready (rs := [9]) (by kernel_rfl) (by simp) ?_
  refine AllReadyH.cons (o := { dst := some 13, op := Op.call { callee := Callee.value (Operand.func 98), args := #[Operand.tmp 4, Operand.tmp 5, Operand.tmp 12], argTypes := #[101, 28, 4] }, type := 0, pos := "steer.go:9", after := #[{ on := 0, ground := Ground.data }, { on := 1, ground := Ground.data }, { on := 8, ground := Ground.data }, { on := 7, ground := Ground.chain }], guard := none }) rfl (fun K hK => ?_) AllReadyH.nil
  go_simp
  go_wp2_with (refine (branch_any a x i _ ((hx.out.gr G).gr g2) _ hp hj.out).mono ?_; rintro r V9 ⟨rfl, hB⟩; clear hHeld)
  refine hK.out _ _ (KS.out _ (T.at_kp (hA.out.gr g2) hB.2 hne)) (fun hHeld => ?_)
  clear hK K
  try simp only [Act.put, List.setIfInBounds_toArray, List.set_cons_zero, List.set_cons_succ]
  refine wpAnyH_done (by kernel_rfl) ?_ _
  clear hHeld
  go_wp2_with fail
  first | go_end0 | ((try simp only [Exit.inBlock, Exit.then]); refine bodyPost_ret (results_none rfl _ _ _) rfl ?_)
  exact ⟨rfl, hB.after (G.trans g2)⟩
set_option maxRecDepth 100000 in
set_option maxHeartbeats 4000000 in
theorem blt_op (a : Nat) (x : Fx) (i : Fi) (w : World) (h : Bx w a x) (ha : i.a < 16) (hb : i.b < 16) (hp : x.p ≤ 1000000) (hj : 0 ≤ i.i ∧ i.i < 1000) :
    Calls Tryz.prog 74 #[.agg #[.int .u8 i.op, .int .i64 i.a, .int .i64 i.b, .int .i64 i.c, .int .u64 i.i], .pointer (some ⟨a, 0, none⟩)] w fun r w' => r = .returned (.tuple #[]) ∧ Bo1 a (x.br (decide (x.r i.a < x.r i.b)) i.i.toNat) w w' := by
  replace hj := Hz.mk hj
  have hne : ¬ w.heap.size = a := by have := h.lt; omega
  have hx := Hz.mk h
  clear h
  go_enter Tryz.func74, Tryz.ntmps74
  go_upto_region 1 with fail
  refine wp_world (fun W => At W w.heap.size #[.int .u8 i.op, .int .i64 i.a, .int .i64 i.b, .int .i64 i.c, .int .u64 i.i] ∧ Gr w W) ⟨At.new w _ _, (Gr.refl _).alloc _⟩ ?_
  rintro W ⟨hA, G⟩
  generalize w.heap.size = kb at *
  replace hA := Hz.mk hA
  have KS : Hz (∀ V, At V kb #[.int .u8 i.op, .int .i64 i.a, .int .i64 i.b, .int .i64 i.c, .int .u64 i.i] → V.rangeAt kb 0 (Fi.vals i) ∧ V.cell? ⟨kb, 1, none⟩ = some (.int .i64 i.a) ∧ V.cell? ⟨kb, 3, none⟩ = some (.int .i64 i.c) ∧ V.cell? ⟨kb, 4, none⟩ = some (.int .u64 i.i)) := Hz.mk (fun V q => ⟨fun j v e => by rw [Nat.zero_add]; exact (q.2.1 j).trans (by simpa [Fi.vals] using e), q.2.1 1, q.2.1 3, q.2.1 4⟩)
  have g0 : Gr W W.drew := (Gr.refl W).drew
  refine wp_region_held_drew (S := (fun W => W.rangeAt kb 0 (Fi.vals i) ∧ W.cell? ⟨kb, 1, none⟩ = some (.int .i64 i.a) ∧ W.cell? ⟨kb, 3, none⟩ = some (.int .i64 i.c) ∧ W.cell? ⟨kb, 4, none⟩ = some (.int .u64 i.i))) (by kernel_rfl) (KS.out _ (hA.out.gr g0)) (fun hHeld => ?_)
  refine wpAnyH_take (i := 0) (oi := { dst := some 4, op := Op.load 101 (Operand.tmp 2), type := 101, pos := "steer.go:11", after := #[], guard := none }) (v := _) rfl (by kernel_rfl) (by kernel_rfl) (by kernel_rfl) (fun _ _ _ h => h) (yieldsIf_load_mid (by rfl) _ _ rfl _ _ rfl _ _ (fun _ h => h.1) Tryz.underlying101 rfl (by kernel_rfl)) (by assumption) ?_
  try simp only [Act.put, List.setIfInBounds_toArray, List.set_cons_zero, List.set_cons_succ]
  refine wpAnyH_take (i := 1) (oi := { dst := some 5, op := Op.move (Operand.tmp 1), type := 28, pos := "steer.go:11", after := #[], guard := none }) (v := ?_) rfl (by kernel_rfl) (by kernel_rfl) (by kernel_rfl) (fun _ _ _ h => h) (Or.inl ⟨by rfl, ?_⟩) (by assumption) ?_
  rotate_left
  · intro w hSw; (try dsimp only at hSw); go_simp; first | done | with_reducible rfl
  try simp only [Act.put, List.setIfInBounds_toArray, List.set_cons_zero, List.set_cons_succ]
  refine wpAnyH_take (i := 2) (oi := { dst := some 6, op := Op.move (Operand.tmp 1), type := 28, pos := "steer.go:11", after := #[], guard := none }) (v := ?_) rfl (by kernel_rfl) (by kernel_rfl) (by kernel_rfl) (fun _ _ _ h => h) (Or.inl ⟨by rfl, ?_⟩) (by assumption) ?_
  rotate_left
  · intro w hSw; (try dsimp only at hSw); go_simp; first | done | with_reducible rfl
  try simp only [Act.put, List.setIfInBounds_toArray, List.set_cons_zero, List.set_cons_succ]
  refine wpAnyH_take (i := 3) (oi := { dst := some 7, op := Op.load 101 (Operand.tmp 2), type := 101, pos := "steer.go:11", after := #[], guard := none }) (v := _) rfl (by kernel_rfl) (by kernel_rfl) (by kernel_rfl) (fun _ _ _ h => h) (yieldsIf_load_mid (by rfl) _ _ rfl _ _ rfl _ _ (fun _ h => h.1) Tryz.underlying101 rfl (by kernel_rfl)) (by assumption) ?_
  try simp only [Act.put, List.setIfInBounds_toArray, List.set_cons_zero, List.set_cons_succ]
  refine wpAnyH_take (i := 5) (oi := { dst := some 9, op := Op.move (Operand.tmp 1), type := 28, pos := "steer.go:11", after := #[], guard := none }) (v := ?_) rfl (by kernel_rfl) (by kernel_rfl) (by kernel_rfl) (fun _ _ _ h => h) (Or.inl ⟨by rfl, ?_⟩) (by assumption) ?_
  rotate_left
  · intro w hSw; (try dsimp only at hSw); go_simp; first | done | with_reducible rfl
  try simp only [Act.put, List.setIfInBounds_toArray, List.set_cons_zero, List.set_cons_succ]
  refine wpAnyH_take (i := 6) (oi := { dst := some 10, op := Op.load 101 (Operand.tmp 2), type := 101, pos := "steer.go:11", after := #[], guard := none }) (v := _) rfl (by kernel_rfl) (by kernel_rfl) (by kernel_rfl) (fun _ _ _ h => h) (yieldsIf_load_mid (by rfl) _ _ rfl _ _ rfl _ _ (fun _ h => h.1) Tryz.underlying101 rfl (by kernel_rfl)) (by assumption) ?_
  try simp only [Act.put, List.setIfInBounds_toArray, List.set_cons_zero, List.set_cons_succ]
  refine wpAnyH_ready (rs := [4]) (by kernel_rfl) (by simp) ?_
  refine AllReadyH.cons (o := { dst := some 8, op := Op.call { callee := Callee.value (Operand.func 99), args := #[Operand.tmp 6, Operand.tmp 7], argTypes := #[28, 101] }, type := 31, pos := "steer.go:11", after := #[{ on := 2, ground := Ground.data }, { on := 3, ground := Ground.data }], guard := none }) rfl (fun K hK => ?_) AllReadyH.nil
  go_simp
  go_wp2_with (refine (a_any a x i _ ((hx.out.gr G).gr g0) ha).mono ?_; rintro r V1 ⟨rfl, gg⟩; have g1 := g0.trans gg; clear gg g0 hHeld)
  refine hK.out _ _ (KS.out _ (hA.out.gr g1)) (fun hHeld => ?_)
  clear hK K
  try simp only [Act.put, List.setIfInBounds_toArray, List.set_cons_zero, List.set_cons_succ]
  refine wpAnyH_ready (rs := [7]) (by kernel_rfl) (by simp) ?_
  refine AllReadyH.cons (o := { dst := some 11, op := Op.call { callee := Callee.value (Operand.func 94), args := #[Operand.tmp 9, Operand.tmp 10], argTypes := #[28, 101] }, type := 31, pos := "steer.go:11", after := #[{ on := 5, ground := Ground.data }, { on := 6, ground := Ground.data }, { on := 4, ground := Ground.chain }], guard := none }) rfl (fun K hK => ?_) AllReadyH.nil
  go_simp
  go_wp2_with (refine (b_any a x i _ ((hx.out.gr G).gr g1) hb).mono ?_; rintro r V2 ⟨rfl, gg⟩; have g2 := g1.trans gg; clear gg g1 hHeld)
  refine hK.out _ _ (KS.out _ (hA.out.gr g2)) (fun hHeld => ?_)
  clear hK K
  try simp only [Act.put, List.setIfInBounds_toArray, List.set_cons_zero, List.set_cons_succ]
  refine wpAnyH_take (i := 8) (oi := { dst := some 12, op := Op.binOp BinOp.lss 31 (Operand.tmp 8) (Operand.tmp 11) 31, type := 4, pos := "steer.go:11", after := #[{ on := 4, ground := Ground.data }, { on := 7, ground := Ground.data }], guard := none }) (v := ?_) rfl (by kernel_rfl) (by kernel_rfl) (by kernel_rfl) (fun _ _ _ h => h) (Or.inl ⟨by rfl, ?_⟩) (by assumption) ?_
  rotate_left
  · intro w hSw; (try dsimp only at hSw); go_simp; first | done | with_reducible rfl
  try simp only [Act.put, List.setIfInBounds_toArray, List.set_cons_zero, List.set_cons_succ]
  refine wpAnyH_ready (rs := [9]) (by kernel_rfl) (by simp) ?_
  refine AllReadyH.cons (o := { dst := some 13, op := Op.call { callee := Callee.value (Operand.func 98), args := #[Operand.tmp 4, Operand.tmp 5, Operand.tmp 12], argTypes := #[101, 28, 4] }, type := 0, pos := "steer.go:11", after := #[{ on := 0, ground := Ground.data }, { on := 1, ground := Ground.data }, { on := 8, ground := Ground.data }, { on := 7, ground := Ground.chain }], guard := none }) rfl (fun K hK => ?_) AllReadyH.nil
  go_simp
  go_wp2_with (refine (branch_any a x i _ ((hx.out.gr G).gr g2) _ hp hj.out).mono ?_; rintro r V9 ⟨rfl, hB⟩; clear hHeld)
  refine hK.out _ _ (KS.out _ (T.at_kp (hA.out.gr g2) hB.2 hne)) (fun hHeld => ?_)
  clear hK K
  try simp only [Act.put, List.setIfInBounds_toArray, List.set_cons_zero, List.set_cons_succ]
  refine wpAnyH_done (by kernel_rfl) ?_ _
  clear hHeld
  go_wp2_with fail
  first | go_end0 | ((try simp only [Exit.inBlock, Exit.then]); refine bodyPost_ret (results_none rfl _ _ _) rfl ?_)
  exact ⟨rfl, hB.after (G.trans g2)⟩
set_option maxRecDepth 100000 in
set_option maxHeartbeats 4000000 in
theorem bge_op (a : Nat) (x : Fx) (i : Fi) (w : World) (h : Bx w a x) (ha : i.a < 16) (hb : i.b < 16) (hp : x.p ≤ 1000000) (hj : 0 ≤ i.i ∧ i.i < 1000) :
    Calls Tryz.prog 75 #[.agg #[.int .u8 i.op, .int .i64 i.a, .int .i64 i.b, .int .i64 i.c, .int .u64 i.i], .pointer (some ⟨a, 0, none⟩)] w fun r w' => r = .returned (.tuple #[]) ∧ Bo1 a (x.br (decide (x.r i.b ≤ x.r i.a)) i.i.toNat) w w' := by
  replace hj := Hz.mk hj
  have hne : ¬ w.heap.size = a := by have := h.lt; omega
  have hx := Hz.mk h
  clear h
  go_enter Tryz.func75, Tryz.ntmps75
  go_upto_region 1 with fail
  refine wp_world (fun W => At W w.heap.size #[.int .u8 i.op, .int .i64 i.a, .int .i64 i.b, .int .i64 i.c, .int .u64 i.i] ∧ Gr w W) ⟨At.new w _ _, (Gr.refl _).alloc _⟩ ?_
  rintro W ⟨hA, G⟩
  generalize w.heap.size = kb at *
  replace hA := Hz.mk hA
  have KS : Hz (∀ V, At V kb #[.int .u8 i.op, .int .i64 i.a, .int .i64 i.b, .int .i64 i.c, .int .u64 i.i] → V.rangeAt kb 0 (Fi.vals i) ∧ V.cell? ⟨kb, 1, none⟩ = some (.int .i64 i.a) ∧ V.cell? ⟨kb, 3, none⟩ = some (.int .i64 i.c) ∧ V.cell? ⟨kb, 4, none⟩ = some (.int .u64 i.i)) := Hz.mk (fun V q => ⟨fun j v e => by rw [Nat.zero_add]; exact (q.2.1 j).trans (by simpa [Fi.vals] using e), q.2.1 1, q.2.1 3, q.2.1 4⟩)
  have g0 : Gr W W.drew := (Gr.refl W).drew
  refine wp_region_held_drew (S := (fun W => W.rangeAt kb 0 (Fi.vals i) ∧ W.cell? ⟨kb, 1, none⟩ = some (.int .i64 i.a) ∧ W.cell? ⟨kb, 3, none⟩ = some (.int .i64 i.c) ∧ W.cell? ⟨kb, 4, none⟩ = some (.int .u64 i.i))) (by kernel_rfl) (KS.out _ (hA.out.gr g0)) (fun hHeld => ?_)
  refine wpAnyH_take (i := 0) (oi := { dst := some 4, op := Op.load 101 (Operand.tmp 2), type := 101, pos := "steer.go:13", after := #[], guard := none }) (v := _) rfl (by kernel_rfl) (by kernel_rfl) (by kernel_rfl) (fun _ _ _ h => h) (yieldsIf_load_mid (by rfl) _ _ rfl _ _ rfl _ _ (fun _ h => h.1) Tryz.underlying101 rfl (by kernel_rfl)) (by assumption) ?_
  try simp only [Act.put, List.setIfInBounds_toArray, List.set_cons_zero, List.set_cons_succ]
  refine wpAnyH_take (i := 1) (oi := { dst := some 5, op := Op.move (Operand.tmp 1), type := 28, pos := "steer.go:13", after := #[], guard := none }) (v := ?_) rfl (by kernel_rfl) (by kernel_rfl) (by kernel_rfl) (fun _ _ _ h => h) (Or.inl ⟨by rfl, ?_⟩) (by assumption) ?_
  rotate_left
  · intro w hSw; (try dsimp only at hSw); go_simp; first | done | with_reducible rfl
  try simp only [Act.put, List.setIfInBounds_toArray, List.set_cons_zero, List.set_cons_succ]
  refine wpAnyH_take (i := 2) (oi := { dst := some 6, op := Op.move (Operand.tmp 1), type := 28, pos := "steer.go:13", after := #[], guard := none }) (v := ?_) rfl (by kernel_rfl) (by kernel_rfl) (by kernel_rfl) (fun _ _ _ h => h) (Or.inl ⟨by rfl, ?_⟩) (by assumption) ?_
  rotate_left
  · intro w hSw; (try dsimp only at hSw); go_simp; first | done | with_reducible rfl
  try simp only [Act.put, List.setIfInBounds_toArray, List.set_cons_zero, List.set_cons_succ]
  refine wpAnyH_take (i := 3) (oi := { dst := some 7, op := Op.load 101 (Operand.tmp 2), type := 101, pos := "steer.go:13", after := #[], guard := none }) (v := _) rfl (by kernel_rfl) (by kernel_rfl) (by kernel_rfl) (fun _ _ _ h => h) (yieldsIf_load_mid (by rfl) _ _ rfl _ _ rfl _ _ (fun _ h => h.1) Tryz.underlying101 rfl (by kernel_rfl)) (by assumption) ?_
  try simp only [Act.put, List.setIfInBounds_toArray, List.set_cons_zero, List.set_cons_succ]
  refine wpAnyH_take (i := 5) (oi := { dst := some 9, op := Op.move (Operand.tmp 1), type := 28, pos := "steer.go:13", after := #[], guard := none }) (v := ?_) rfl (by kernel_rfl) (by kernel_rfl) (by kernel_rfl) (fun _ _ _ h => h) (Or.inl ⟨by rfl, ?_⟩) (by assumption) ?_
  rotate_left
  · intro w hSw; (try dsimp only at hSw); go_simp; first | done | with_reducible rfl
  try simp only [Act.put, List.setIfInBounds_toArray, List.set_cons_zero, List.set_cons_succ]
  refine wpAnyH_take (i := 6) (oi := { dst := some 10, op := Op.load 101 (Operand.tmp 2), type := 101, pos := "steer.go:13", after := #[], guard := none }) (v := _) rfl (by kernel_rfl) (by kernel_rfl) (by kernel_rfl) (fun _ _ _ h => h) (yieldsIf_load_mid (by rfl) _ _ rfl _ _ rfl _ _ (fun _ h => h.1) Tryz.underlying101 rfl (by kernel_rfl)) (by assumption) ?_
  try simp only [Act.put, List.setIfInBounds_toArray, List.set_cons_zero, List.set_cons_succ]
  refine wpAnyH_ready (rs := [4]) (by kernel_rfl) (by simp) ?_
  refine AllReadyH.cons (o := { dst := some 8, op := Op.call { callee := Callee.value (Operand.func 99), args := #[Operand.tmp 6, Operand.tmp 7], argTypes := #[28, 101] }, type := 31, pos := "steer.go:13", after := #[{ on := 2, ground := Ground.data }, { on := 3, ground := Ground.data }], guard := none }) rfl (fun K hK => ?_) AllReadyH.nil
  go_simp
  go_wp2_with (refine (a_any a x i _ ((hx.out.gr G).gr g0) ha).mono ?_; rintro r V1 ⟨rfl, gg⟩; have g1 := g0.trans gg; clear gg g0 hHeld)
  refine hK.out _ _ (KS.out _ (hA.out.gr g1)) (fun hHeld => ?_)
  clear hK K
  try simp only [Act.put, List.setIfInBounds_toArray, List.set_cons_zero, List.set_cons_succ]
  refine wpAnyH_ready (rs := [7]) (by kernel_rfl) (by simp) ?_
  refine AllReadyH.cons (o := { dst := some 11, op := Op.call { callee := Callee.value (Operand.func 94), args := #[Operand.tmp 9, Operand.tmp 10], argTypes := #[28, 101] }, type := 31, pos := "steer.go:13", after := #[{ on := 5, ground := Ground.data }, { on := 6, ground := Ground.data }, { on := 4, ground := Ground.chain }], guard := none }) rfl (fun K hK => ?_) AllReadyH.nil
  go_simp
  go_wp2_with (refine (b_any a x i _ ((hx.out.gr G).gr g1) hb).mono ?_; rintro r V2 ⟨rfl, gg⟩; have g2 := g1.trans gg; clear gg g1 hHeld)
  refine hK.out _ _ (KS.out _ (hA.out.gr g2)) (fun hHeld => ?_)
  clear hK K
  try simp only [Act.put, List.setIfInBounds_toArray, List.set_cons_zero, List.set_cons_succ]
  refine wpAnyH_take (i := 8) (oi := { dst := some 12, op := Op.binOp BinOp.geq 31 (Operand.tmp 8) (Operand.tmp 11) 31, type := 4, pos := "steer.go:13", after := #[{ on := 4, ground := Ground.data }, { on := 7, ground := Ground.data }], guard := none }) (v := ?_) rfl (by kernel_rfl) (by kernel_rfl) (by kernel_rfl) (fun _ _ _ h => h) (Or.inl ⟨by rfl, ?_⟩) (by assumption) ?_
  rotate_left
  · intro w hSw; (try dsimp only at hSw); go_simp; first | done | with_reducible rfl
  try simp only [Act.put, List.setIfInBounds_toArray, List.set_cons_zero, List.set_cons_succ]
  refine wpAnyH_ready (rs := [9]) (by kernel_rfl) (by simp) ?_
  refine AllReadyH.cons (o := { dst := some 13, op := Op.call { callee := Callee.value (Operand.func 98), args := #[Operand.tmp 4, Operand.tmp 5, Operand.tmp 12], argTypes := #[101, 28, 4] }, type := 0, pos := "steer.go:13", after := #[{ on := 0, ground := Ground.data }, { on := 1, ground := Ground.data }, { on := 8, ground := Ground.data }, { on := 7, ground := Ground.chain }], guard := none }) rfl (fun K hK => ?_) AllReadyH.nil
  go_simp
  go_wp2_with (refine (branch_any a x i _ ((hx.out.gr G).gr g2) _ hp hj.out).mono ?_; rintro r V9 ⟨rfl, hB⟩; clear hHeld)
  refine hK.out _ _ (KS.out _ (T.at_kp (hA.out.gr g2) hB.2 hne)) (fun hHeld => ?_)
  clear hK K
  try simp only [Act.put, List.setIfInBounds_toArray, List.set_cons_zero, List.set_cons_succ]
  refine wpAnyH_done (by kernel_rfl) ?_ _
  clear hHeld
  go_wp2_with fail
  first | go_end0 | ((try simp only [Exit.inBlock, Exit.then]); refine bodyPost_ret (results_none rfl _ _ _) rfl ?_)
  exact ⟨rfl, hB.after (G.trans g2)⟩
set_option maxRecDepth 100000 in
set_option maxHeartbeats 4000000 in
theorem guardBelow_op (a : Nat) (x : Fx) (i : Fi) (w : World) (h : Bx w a x) (ha : i.a < 16) (hp : x.p ≤ 1000000) :
    Calls Tryz.prog 88 #[.agg #[.int .u8 i.op, .int .i64 i.a, .int .i64 i.b, .int .i64 i.c, .int .u64 i.i], .pointer (some ⟨a, 0, none⟩)] w fun r w' => r = .returned (.tuple #[]) ∧ Bo1 a (x.dm (decide (x.r i.a < i.i)) (IntKind.u64.wrap i.c)) w w' := by
  have hne : ¬ w.heap.size = a := by have := h.lt; omega
  have hx := Hz.mk h
  clear h
  go_enter Tryz.func88, Tryz.ntmps88
  go_upto_region 1 with fail
  refine wp_world (fun W => At W w.heap.size #[.int .u8 i.op, .int .i64 i.a, .int .i64 i.b, .int .i64 i.c, .int .u64 i.i] ∧ Gr w W) ⟨At.new w _ _, (Gr.refl _).alloc _⟩ ?_
  rintro W ⟨hA, G⟩
  generalize w.heap.size = kb at *
  replace hA := Hz.mk hA
  have KS : Hz (∀ V, At V kb #[.int .u8 i.op, .int .i64 i.a, .int .i64 i.b, .int .i64 i.c, .int .u64 i.i] → V.rangeAt kb 0 (Fi.vals i) ∧ V.cell? ⟨kb, 1, none⟩ = some (.int .i64 i.a) ∧ V.cell? ⟨kb, 3, none⟩ = some (.int .i64 i.c) ∧ V.cell? ⟨kb, 4, none⟩ = some (.int .u64 i.i)) := Hz.mk (fun V q => ⟨fun j v e => by rw [Nat.zero_add]; exact (q.2.1 j).trans (by simpa [Fi.vals] using e), q.2.1 1, q.2.1 3, q.2.1 4⟩)
  have g0 : Gr W W.drew := (Gr.refl W).drew
  refine wp_region_held_drew (S := (fun W => W.rangeAt kb 0 (Fi.vals i) ∧ W.cell? ⟨kb, 1, none⟩ = some (.int .i64 i.a) ∧ W.cell? ⟨kb, 3, none⟩ = some (.int .i64 i.c) ∧ W.cell? ⟨kb, 4, none⟩ = some (.int .u64 i.i))) (by kernel_rfl) (KS.out _ (hA.out.gr g0)) (fun hHeld => ?_)
  refine wpAnyH_take (i := 0) (oi := { dst := some 4, op := Op.load 101 (Operand.tmp 2), type := 101, pos := "steer.go:43", after := #[], guard := none }) (v := _) rfl (by kernel_rfl) (by kernel_rfl) (by kernel_rfl) (fun _ _ _ h => h) (yieldsIf_load_mid (by rfl) _ _ rfl _ _ rfl _ _ (fun _ h => h.1) Tryz.underlying101 rfl (by kernel_rfl)) (by assumption) ?_
  try simp only [Act.put, List.setIfInBounds_toArray, List.set_cons_zero, List.set_cons_succ]
  refine wpAnyH_take (i := 1) (oi := { dst := some 5, op := Op.move (Operand.tmp 1), type := 28, pos := "steer.go:43", after := #[], guard := none }) (v := ?_) rfl (by kernel_rfl) (by kernel_rfl) (by kernel_rfl) (fun _ _ _ h => h) (Or.inl ⟨by rfl, ?_⟩) (by assumption) ?_
  rotate_left
  · intro w hSw; (try dsimp only at hSw); go_simp; first | done | with_reducible rfl
  try simp only [Act.put, List.setIfInBounds_toArray, List.set_cons_zero, List.set_cons_succ]
  refine wpAnyH_take (i := 2) (oi := { dst := some 6, op := Op.move (Operand.tmp 1), type := 28, pos := "steer.go:43", after := #[], guard := none }) (v := ?_) rfl (by kernel_rfl) (by kernel_rfl) (by kernel_rfl) (fun _ _ _ h => h) (Or.inl ⟨by rfl, ?_⟩) (by assumption) ?_
  rotate_left
  · intro w hSw; (try dsimp only at hSw); go_simp; first | done | with_reducible rfl
  try simp only [Act.put, List.setIfInBounds_toArray, List.set_cons_zero, List.set_cons_succ]
  refine wpAnyH_take (i := 3) (oi := { dst := some 7, op := Op.load 101 (Operand.tmp 2), type := 101, pos := "steer.go:43", after := #[], guard := none }) (v := _) rfl (by kernel_rfl) (by kernel_rfl) (by kernel_rfl) (fun _ _ _ h => h) (yieldsIf_load_mid (by rfl) _ _ rfl _ _ rfl _ _ (fun _ h => h.1) Tryz.underlying101 rfl (by kernel_rfl)) (by assumption) ?_
  try simp only [Act.put, List.setIfInBounds_toArray, List.set_cons_zero, List.set_cons_succ]
  refine wpAnyH_take (i := 5) (oi := { dst := some 9, op := Op.fieldAddr 101 (Operand.tmp 2) 4, type := 0, pos := "steer.go:43", after := #[], guard := none }) (v := ?_) rfl (by kernel_rfl) (by kernel_rfl) (by kernel_rfl) (fun _ _ _ h => h) (Or.inl ⟨by rfl, ?_⟩) (by assumption) ?_
  rotate_left
  · intro w hSw; (try dsimp only at hSw); go_simp; first | done | with_reducible rfl
  try simp only [Act.put, List.setIfInBounds_toArray, List.set_cons_zero, List.set_cons_succ]
  refine wpAnyH_take (i := 6) (oi := { dst := some 10, op := Op.load 31 (Operand.tmp 9), type := 31, pos := "steer.go:43", after := #[{ on := 5, ground := Ground.data }], guard := none }) (v := ?_) rfl (by kernel_rfl) (by kernel_rfl) (by kernel_rfl) (fun _ _ _ h => h) (Or.inl ⟨by rfl, ?_⟩) (by assumption) ?_
  rotate_left
  · intro w hSw; (try dsimp only at hSw); go_simp; first | done | with_reducible rfl
  try simp only [Act.put, List.setIfInBounds_toArray, List.set_cons_zero, List.set_cons_succ]
  refine wpAnyH_ready (rs := [4]) (by kernel_rfl) (by simp) ?_
  refine AllReadyH.cons (o := { dst := some 8, op := Op.call { callee := Callee.value (Operand.func 99), args := #[Operand.tmp 6, Operand.tmp 7], argTypes := #[28, 101] }, type := 31, pos := "steer.go:43", after := #[{ on := 2, ground := Ground.data }, { on := 3, ground := Ground.data }], guard := none }) rfl (fun K hK => ?_) AllReadyH.nil
  go_simp
  go_wp2_with (refine (a_any a x i _ ((hx.out.gr G).gr g0) ha).mono ?_; rintro r V1 ⟨rfl, gg⟩; have g1 := g0.trans gg; clear gg g0 hHeld)
  refine hK.out _ _ (KS.out _ (hA.out.gr g1)) (fun hHeld => ?_)
  clear hK K
  try simp only [Act.put, List.setIfInBounds_toArray, List.set_cons_zero, List.set_cons_succ]
  refine wpAnyH_take (i := 7) (oi := { dst := some 11, op := Op.binOp BinOp.lss 31 (Operand.tmp 8) (Operand.tmp 10) 31, type := 4, pos := "steer.go:43", after := #[{ on := 4, ground := Ground.data }, { on := 6, ground := Ground.data }], guard := none }) (v := ?_) rfl (by kernel_rfl) (by kernel_rfl) (by kernel_rfl) (fun _ _ _ h => h) (Or.inl ⟨by rfl, ?_⟩) (by assumption) ?_
  rotate_left
  · intro w hSw; (try dsimp only at hSw); go_simp; first | done | with_reducible rfl
  try simp only [Act.put, List.setIfInBounds_toArray, List.set_cons_zero, List.set_cons_succ]
  refine wpAnyH_ready (rs := [8]) (by kernel_rfl) (by simp) ?_
  refine AllReadyH.cons (o := { dst := some 12, op := Op.call { callee := Callee.value (Operand.func 104), args := #[Operand.tmp 4, Operand.tmp 5, Operand.tmp 11], argTypes := #[101, 28, 4] }, type := 0, pos := "steer.go:43", after := #[{ on := 0, ground := Ground.data }, { on := 1, ground := Ground.data }, { on := 7, ground := Ground.data }, { on := 4, ground := Ground.chain }], guard := none }) rfl (fun K hK => ?_) AllReadyH.nil
  go_simp
  go_wp2_with (refine (demand_any a x i _ ((hx.out.gr G).gr g1) _ hp).mono ?_; rintro r V9 ⟨rfl, hB⟩; clear hHeld)
  refine hK.out _ _ (KS.out _ (T.at_kp (hA.out.gr g1) hB.2 hne)) (fun hHeld => ?_)
  clear hK K
  try simp only [Act.put, List.setIfInBounds_toArray, List.set_cons_zero, List.set_cons_succ]
  refine wpAnyH_done (by kernel_rfl) ?_ _
  clear hHeld
  go_wp2_with fail
  first | go_end0 | ((try simp only [Exit.inBlock, Exit.then]); refine bodyPost_ret (results_none rfl _ _ _) rfl ?_)
  exact ⟨rfl, hB.after (G.trans g1)⟩
set_option maxRecDepth 100000 in
set_option maxHeartbeats 4000000 in
theorem guardNotBelow_op (a : Nat) (x : Fx) (i : Fi) (w : World) (h : Bx w a x) (ha : i.a < 16) (hp : x.p ≤ 1000000) :
    Calls Tryz.prog 89 #[.agg #[.int .u8 i.op, .int .i64 i.a, .int .i64 i.b, .int .i64 i.c, .int .u64 i.i], .pointer (some ⟨a, 0, none⟩)] w fun r w' => r = .returned (.tuple #[]) ∧ Bo1 a (x.dm (decide (i.i ≤ x.r i.a)) (IntKind.u64.wrap i.c)) w w' := by
  have hne : ¬ w.heap.size = a := by have := h.lt; omega
  have hx := Hz.mk h
  clear h
  go_enter Tryz.func89, Tryz.ntmps89
  go_upto_region 1 with fail
  refine wp_world (fun W => At W w.heap.size #[.int .u8 i.op, .int .i64 i.a, .int .i64 i.b, .int .i64 i.c, .int .u64 i.i] ∧ Gr w W) ⟨At.new w _ _, (Gr.refl _).alloc _⟩ ?_
  rintro W ⟨hA, G⟩
  generalize w.heap.size = kb at *
  replace hA := Hz.mk hA
  have KS : Hz (∀ V, At V kb #[.int .u8 i.op, .int .i64 i.a, .int .i64 i.b, .int .i64 i.c, .int .u64 i.i] → V.rangeAt kb 0 (Fi.vals i) ∧ V.cell? ⟨kb, 1, none⟩ = some (.int .i64 i.a) ∧ V.cell? ⟨kb, 3, none⟩ = some (.int .i64 i.c) ∧ V.cell? ⟨kb, 4, none⟩ = some (.int .u64 i.i)) := Hz.mk (fun V q => ⟨fun j v e => by rw [Nat.zero_add]; exact (q.2.1 j).trans (by simpa [Fi.vals] using e), q.2.1 1, q.2.1 3, q.2.1 4⟩)
  have g0 : Gr W W.drew := (Gr.refl W).drew
  refine wp_region_held_drew (S := (fun W => W.rangeAt kb 0 (Fi.vals i) ∧ W.cell? ⟨kb, 1, none⟩ = some (.int .i64 i.a) ∧ W.cell? ⟨kb, 3, none⟩ = some (.int .i64 i.c) ∧ W.cell? ⟨kb, 4, none⟩ = some (.int .u64 i.i))) (by kernel_rfl) (KS.out _ (hA.out.gr g0)) (fun hHeld => ?_)
  refine wpAnyH_take (i := 0) (oi := { dst := some 4, op := Op.load 101 (Operand.tmp 2), type := 101, pos := "steer.go:45", after := #[], guard := none }) (v := _) rfl (by kernel_rfl) (by kernel_rfl) (by kernel_rfl) (fun _ _ _ h => h) (yieldsIf_load_mid (by rfl) _ _ rfl _ _ rfl _ _ (fun _ h => h.1) Tryz.underlying101 rfl (by kernel_rfl)) (by assumption) ?_
  try simp only [Act.put, List.setIfInBounds_toArray, List.set_cons_zero, List.set_cons_succ]
  refine wpAnyH_take (i := 1) (oi := { dst := some 5, op := Op.move (Operand.tmp 1), type := 28, pos := "steer.go:45", after := #[], guard := none }) (v := ?_) rfl (by kernel_rfl) (by kernel_rfl) (by kernel_rfl) (fun _ _ _ h => h) (Or.inl ⟨by rfl, ?_⟩) (by assumption) ?_
  rotate_left
  · intro w hSw; (try dsimp only at hSw); go_simp; first | done | with_reducible rfl
  try simp only [Act.put, List.setIfInBounds_toArray, List.set_cons_zero, List.set_cons_succ]
  refine wpAnyH_take (i := 2) (oi := { dst := some 6, op := Op.move (Operand.tmp 1), type := 28, pos := "steer.go:45", after := #[], guard := none }) (v := ?_) rfl (by kernel_rfl) (by kernel_rfl) (by kernel_rfl) (fun _ _ _ h => h) (Or.inl ⟨by rfl, ?_⟩) (by assumption) ?_
  rotate_left
  · intro w hSw; (try dsimp only at hSw); go_simp; first | done | with_reducible rfl
  try simp only [Act.put, List.setIfInBounds_toArray, List.set_cons_zero, List.set_cons_succ]
  refine wpAnyH_take (i := 3) (oi := { dst := some 7, op := Op.load 101 (Operand.tmp 2), type := 101, pos := "steer.go:45", after := #[], guard := none }) (v := _) rfl (by kernel_rfl) (by kernel_rfl) (by kernel_rfl) (fun _ _ _ h => h) (yieldsIf_load_mid (by rfl) _ _ rfl _ _ rfl _ _ (fun _ h => h.1) Tryz.underlying101 rfl (by kernel_rfl)) (by assumption) ?_
  try simp only [Act.put, List.setIfInBounds_toArray, List.set_cons_zero, List.set_cons_succ]
  refine wpAnyH_take (i := 5) (oi := { dst := some 9, op := Op.fieldAddr 101 (Operand.tmp 2) 4, type := 0, pos := "steer.go:45", after := #[], guard := none }) (v := ?_) rfl (by kernel_rfl) (by kernel_rfl) (by kernel_rfl) (fun _ _ _ h => h) (Or.inl ⟨by rfl, ?_⟩) (by assumption) ?_
  rotate_left
  · intro w hSw; (try dsimp only at hSw); go_simp; first | done | with_reducible rfl
  try simp only [Act.put, List.setIfInBounds_toArray, List.set_cons_zero, List.set_cons_succ]
  refine wpAnyH_take (i := 6) (oi := { dst := some 10, op := Op.load 31 (Operand.tmp 9), type := 31, pos := "steer.go:45", after := #[{ on := 5, ground := Ground.data }], guard := none }) (v := ?_) rfl (by kernel_rfl) (by kernel_rfl) (by kernel_rfl) (fun _ _ _ h => h) (Or.inl ⟨by rfl, ?_⟩) (by assumption) ?_
  rotate_left
  · intro w hSw; (try dsimp only at hSw); go_simp; first | done | with_reducible rfl
  try simp only [Act.put, List.setIfInBounds_toArray, List.set_cons_zero, List.set_cons_succ]
  refine wpAnyH_ready (rs := [4]) (by kernel_rfl) (by simp) ?_
  refine AllReadyH.cons (o := { dst := some 8, op := Op.call { callee := Callee.value (Operand.func 99), args := #[Operand.tmp 6, Operand.tmp 7], argTypes := #[28, 101] }, type := 31, pos := "steer.go:45", after := #[{ on := 2, ground := Ground.data }, { on := 3, ground := Ground.data }], guard := none }) rfl (fun K hK => ?_) AllReadyH.nil
  go_simp
  go_wp2_with (refine (a_any a x i _ ((hx.out.gr G).gr g0) ha).mono ?_; rintro r V1 ⟨rfl, gg⟩; have g1 := g0.trans gg; clear gg g0 hHeld)
  refine hK.out _ _ (KS.out _ (hA.out.gr g1)) (fun hHeld => ?_)
  clear hK K
  try simp only [Act.put, List.setIfInBounds_toArray, List.set_cons_zero, List.set_cons_succ]
  refine wpAnyH_take (i := 7) (oi := { dst := some 11, op := Op.binOp BinOp.geq 31 (Operand.tmp 8) (Operand.tmp 10) 31, type := 4, pos := "steer.go:45", after := #[{ on := 4, ground := Ground.data }, { on := 6, ground := Ground.data }], guard := none }) (v := ?_) rfl (by kernel_rfl) (by kernel_rfl) (by kernel_rfl) (fun _ _ _ h => h) (Or.inl ⟨by rfl, ?_⟩) (by assumption) ?_
  rotate_left
  · intro w hSw; (try dsimp only at hSw); go_simp; first | done | with_reducible rfl
  try simp only [Act.put, List.setIfInBounds_toArray, List.set_cons_zero, List.set_cons_succ]
  refine wpAnyH_ready (rs := [8]) (by kernel_rfl) (by simp) ?_
  refine AllReadyH.cons (o := { dst := some 12, op := Op.call { callee := Callee.value (Operand.func 104), args := #[Operand.tmp 4, Operand.tmp 5, Operand.tmp 11], argTypes := #[101, 28, 4] }, type := 0, pos := "steer.go:45", after := #[{ on := 0, ground := Ground.data }, { on := 1, ground := Ground.data }, { on := 7, ground := Ground.data }, { on := 4, ground := Ground.chain }], guard := none }) rfl (fun K hK => ?_) AllReadyH.nil
  go_simp
  go_wp2_with (refine (demand_any a x i _ ((hx.out.gr G).gr g1) _ hp).mono ?_; rintro r V9 ⟨rfl, hB⟩; clear hHeld)
  refine hK.out _ _ (KS.out _ (T.at_kp (hA.out.gr g1) hB.2 hne)) (fun hHeld => ?_)
  clear hK K
  try simp only [Act.put, List.setIfInBounds_toArray, List.set_cons_zero, List.set_cons_succ]
  refine wpAnyH_done (by kernel_rfl) ?_ _
  clear hHeld
  go_wp2_with fail
  first | go_end0 | ((try simp only [Exit.inBlock, Exit.then]); refine bodyPost_ret (results_none rfl _ _ _) rfl ?_)
  exact ⟨rfl, hB.after (G.trans g1)⟩
set_option maxRecDepth 100000 in
set_option maxHeartbeats 4000000 in
theorem guard_op (a : Nat) (x : Fx) (i : Fi) (w : World) (h : Bx w a x) (hp : x.p ≤ 1000000) :
    Calls Tryz.prog 90 #[.agg #[.int .u8 i.op, .int .i64 i.a, .int .i64 i.b, .int .i64 i.c, .int .u64 i.i], .pointer (some ⟨a, 0, none⟩)] w fun r w' => r = .returned (.tuple #[]) ∧ Bo1 a (x.fin 2 (IntKind.u64.wrap i.c) 0) w w' := by
  have hne : ¬ w.heap.size = a := by have := h.lt; omega
  have hx := Hz.mk h
  clear h
  go_enter Tryz.func90, Tryz.ntmps90
  go_upto_region 1 with fail
  refine wp_world (fun W => At W w.heap.size #[.int .u8 i.op, .int .i64 i.a, .int .i64 i.b, .int .i64 i.c, .int .u64 i.i] ∧ Gr w W) ⟨At.new w _ _, (Gr.refl _).alloc _⟩ ?_
  rintro W ⟨hA, G⟩
  generalize w.heap.size = kb at *
  replace hA := Hz.mk hA
  have KS : Hz (∀ V, At V kb #[.int .u8 i.op, .int .i64 i.a, .int .i64 i.b, .int .i64 i.c, .int .u64 i.i] → V.rangeAt kb 0 (Fi.vals i) ∧ V.cell? ⟨kb, 1, none⟩ = some (.int .i64 i.a) ∧ V.cell? ⟨kb, 3, none⟩ = some (.int .i64 i.c) ∧ V.cell? ⟨kb, 4, none⟩ = some (.int .u64 i.i)) := Hz.mk (fun V q => ⟨fun j v e => by rw [Nat.zero_add]; exact (q.2.1 j).trans (by simpa [Fi.vals] using e), q.2.1 1, q.2.1 3, q.2.1 4⟩)
  have q0 : W.cell? ⟨kb, 0, none⟩ = some (.int .u8 i.op) := hA.out.2.1 0
  have q1 : W.cell? ⟨kb, 1, none⟩ = some (.int .i64 i.a) := hA.out.2.1 1
  have q2 : W.cell? ⟨kb, 2, none⟩ = some (.int .i64 i.b) := hA.out.2.1 2
  have q3 : W.cell? ⟨kb, 3, none⟩ = some (.int .i64 i.c) := hA.out.2.1 3
  have q4 : W.cell? ⟨kb, 4, none⟩ = some (.int .u64 i.i) := hA.out.2.1 4
  go_wp2_with fail
  refine (demand_any a x i _ (hx.out.gr G) false hp).mono ?_
  rintro r V9 ⟨rfl, hB⟩
  replace hB := Hz.mk hB
  go_wp2_with fail
  first | go_end0 | ((try simp only [Exit.inBlock, Exit.then]); refine bodyPost_ret (results_none rfl _ _ _) rfl ?_)
  exact ⟨rfl, hB.out.after G⟩
end Z
end Go.Proofs.YtbichnngepjpnaaGreat
