/-
  Stage 13, fastvm: loads.
-/
import Derived.Test.YtijmjmefdedojaaGreatZBox
namespace Go.Proofs.YtijmjmefdedojaaGreat
namespace Z
open Go.RowKit
open T (Sep Ob Kp Mf FlIn boxOb)

set_option maxRecDepth 100000 in
set_option maxHeartbeats 4000000 in
theorem load1_bad (B : Nat) (W0 : World) (a : Nat) (P : Pr) (s : Fm) (l : List Ob) (i : Fi) (h : MIn B W0 a P s l) (hb : i.b < 16) (hq9 : 65536 - 1 < IntKind.u64.wrap (s.r i.b + i.i)) :
    Calls Tryz.prog 105 #[.agg #[.int .u8 i.op, .int .i64 i.a, .int .i64 i.b, .int .i64 i.c, .int .u64 i.i], .pointer (some ⟨a, 0, none⟩), .int .u64 1] W0 fun x w' => x = .returned (.tuple #[]) ∧ MIn B w' a P { s with e := 7, v := 0, f := 5 } l ∧ Below B W0 w' := by
  replace hq9 := Hz.mk hq9
  have h2 := Hz.mk (h.new #[.int .u8 i.op, .int .i64 i.a, .int .i64 i.b, .int .i64 i.c, .int .u64 i.i] 104)
  clear h
  go_enter Tryz.func105, Tryz.ntmps105
  go_upto_region 1 with fail
  refine wp_world (fun W => MIn B W a P s (boxOb W0.heap.size #[.int .u8 i.op, .int .i64 i.a, .int .i64 i.b, .int .i64 i.c, .int .u64 i.i] :: l) ∧ Below B W0 W) h2.out ?_
  rintro W ⟨h, hB⟩
  replace h := Hz.mk h
  replace hB := Hz.mk hB
  clear h2
  generalize W0.heap.size = kb at *
  have KS : Hz (∀ V, At V kb #[.int .u8 i.op, .int .i64 i.a, .int .i64 i.b, .int .i64 i.c, .int .u64 i.i] → V.rangeAt kb 0 (Fi.vals i) ∧ V.cell? ⟨kb, 1, none⟩ = some (.int .i64 i.a) ∧ V.cell? ⟨kb, 3, none⟩ = some (.int .i64 i.c) ∧ V.cell? ⟨kb, 4, none⟩ = some (.int .u64 i.i)) := Hz.mk (fun V q => ⟨fun j v e => by rw [Nat.zero_add]; exact (q.2.1 j).trans (by simpa [Fi.vals] using e), q.2.1 1, q.2.1 3, q.2.1 4⟩)
  have hleW := h.out.le
  obtain ⟨q, hq⟩ := h.out.bx
  replace hq := Hz.mk hq
  have g0 : Gr W W.drew := (Gr.refl W).drew
  refine wp_region_held_drew (S := (fun W => W.rangeAt kb 0 (Fi.vals i) ∧ W.cell? ⟨kb, 1, none⟩ = some (.int .i64 i.a) ∧ W.cell? ⟨kb, 3, none⟩ = some (.int .i64 i.c) ∧ W.cell? ⟨kb, 4, none⟩ = some (.int .u64 i.i))) (by kernel_rfl) (KS.out _ ((h.out.there (boxOb kb #[.int .u8 i.op, .int .i64 i.a, .int .i64 i.b, .int .i64 i.c, .int .u64 i.i]) (.head _)).gr g0)) (fun hHeld => ?_)
  refine wpAnyH_take (i := 0) (oi := { dst := some 9, op := Op.move (Operand.tmp 1), type := 23, pos := "touch.go:25", after := #[], guard := none }) (v := ?_) rfl (by kernel_rfl) (by kernel_rfl) (by kernel_rfl) (fun _ _ _ h => h) (Or.inl ⟨by rfl, ?_⟩) (by assumption) ?_
  rotate_left
  · intro w hSw; (try dsimp only at hSw); go_simp; first | done | with_reducible rfl
  try simp only [Act.put, List.setIfInBounds_toArray, List.set_cons_zero, List.set_cons_succ]
  refine wpAnyH_take (i := 1) (oi := { dst := some 10, op := Op.load 104 (Operand.tmp 3), type := 104, pos := "touch.go:25", after := #[], guard := none }) (v := _) rfl (by kernel_rfl) (by kernel_rfl) (by kernel_rfl) (fun _ _ _ h => h) (yieldsIf_load_mid (by rfl) _ _ rfl _ _ rfl _ _ (fun _ h => h.1) Tryz.underlying104 rfl (by kernel_rfl)) (by assumption) ?_
  try simp only [Act.put, List.setIfInBounds_toArray, List.set_cons_zero, List.set_cons_succ]
  refine wpAnyH_take (i := 3) (oi := { dst := some 12, op := Op.fieldAddr 104 (Operand.tmp 3) 4, type := 0, pos := "touch.go:25", after := #[], guard := none }) (v := ?_) rfl (by kernel_rfl) (by kernel_rfl) (by kernel_rfl) (fun _ _ _ h => h) (Or.inl ⟨by rfl, ?_⟩) (by assumption) ?_
  rotate_left
  · intro w hSw; (try dsimp only at hSw); go_simp; first | done | with_reducible rfl
  try simp only [Act.put, List.setIfInBounds_toArray, List.set_cons_zero, List.set_cons_succ]
  refine wpAnyH_take (i := 4) (oi := { dst := some 13, op := Op.load 25 (Operand.tmp 12), type := 25, pos := "touch.go:25", after := #[{ on := 3, ground := Ground.data }], guard := none }) (v := ?_) rfl (by kernel_rfl) (by kernel_rfl) (by kernel_rfl) (fun _ _ _ h => h) (Or.inl ⟨by rfl, ?_⟩) (by assumption) ?_
  rotate_left
  · intro w hSw; (try dsimp only at hSw); go_simp; first | done | with_reducible rfl
  try simp only [Act.put, List.setIfInBounds_toArray, List.set_cons_zero, List.set_cons_succ]
  refine wpAnyH_ready (rs := [2]) (by kernel_rfl) (by simp) ?_
  refine AllReadyH.cons (o := { dst := some 11, op := Op.call { callee := Callee.value (Operand.func 97), args := #[Operand.tmp 9, Operand.tmp 10], argTypes := #[23, 104] }, type := 25, pos := "touch.go:25", after := #[{ on := 0, ground := Ground.data }, { on := 1, ground := Ground.data }], guard := none }) rfl (fun K hK => ?_) AllReadyH.nil
  go_simp
  go_wp2_with (refine (b_any a (bxOf P s q) i _ (hq.out.gr g0) hb).mono ?_; rintro r V1 ⟨rfl, gg⟩; have g1 := g0.trans gg; clear gg g0 hHeld)
  refine hK.out _ _ (KS.out _ ((h.out.there (boxOb kb #[.int .u8 i.op, .int .i64 i.a, .int .i64 i.b, .int .i64 i.c, .int .u64 i.i]) (.head _)).gr g1)) (fun hHeld => ?_)
  clear hK K
  try simp only [Act.put, List.setIfInBounds_toArray, List.set_cons_zero, List.set_cons_succ]
  refine wpAnyH_take (i := 5) (oi := { dst := some 14, op := Op.binOp BinOp.add 25 (Operand.tmp 11) (Operand.tmp 13) 25, type := 25, pos := "touch.go:25", after := #[{ on := 2, ground := Ground.data }, { on := 4, ground := Ground.data }], guard := none }) (v := ?_) rfl (by kernel_rfl) (by kernel_rfl) (by kernel_rfl) (fun _ _ _ h => h) (Or.inl ⟨by rfl, ?_⟩) (by assumption) ?_
  rotate_left
  · intro w hSw; (try dsimp only at hSw); go_simp; first | done | with_reducible rfl
  try simp only [Act.put, List.setIfInBounds_toArray, List.set_cons_zero, List.set_cons_succ]
  refine wpAnyH_take (i := 6) (oi := { dst := some 6, op := Op.assign (Operand.tmp 14), type := 25, pos := "touch.go:25", after := #[{ on := 5, ground := Ground.data }, { on := 2, ground := Ground.chain }, { on := 0, ground := Ground.phase }, { on := 1, ground := Ground.phase }, { on := 2, ground := Ground.phase }, { on := 3, ground := Ground.phase }, { on := 4, ground := Ground.phase }, { on := 5, ground := Ground.phase }], guard := none }) (v := ?_) rfl (by kernel_rfl) (by kernel_rfl) (by kernel_rfl) (fun _ _ _ h => h) (Or.inl ⟨by rfl, ?_⟩) (by assumption) ?_
  rotate_left
  · intro w hSw; (try dsimp only at hSw); go_simp; first | done | with_reducible rfl
  try simp only [Act.put, List.setIfInBounds_toArray, List.set_cons_zero, List.set_cons_succ]
  refine wpAnyH_done (by kernel_rfl) ?_ _
  clear hHeld hq
  rw [show (bxOf P s q).r = s.r from rfl]
  clear q
  replace h := Hz.mk (h.out.gro g1)
  replace hB : Hz (Below B W0 V1) := Hz.mk (hB.out.trans (g1.below.mono hleW))
  clear g1
  have ht := Hz.mk (touch_bad B V1 a P s _ false (IntKind.u64.wrap (s.r i.b + i.i)) 1 h.out (by omega) hq9.out)
  go_wp2_with fail
  refine (ht.out).mono ?_
  rintro r V2 ⟨rfl, h2, hB2⟩
  replace hB : Hz (Below B W0 V2) := Hz.mk (hB.out.trans hB2)
  clear hB2
  clear h
  have h := Hz.mk h2
  clear h2
  go_wp2_with fail
  first | go_end0 | ((try simp only [Exit.inBlock, Exit.then]); refine bodyPost_ret (results_none rfl _ _ _) rfl ?_)
  exact ⟨rfl, h.out.drop, hB.out⟩
set_option maxRecDepth 100000 in
set_option maxHeartbeats 4000000 in
theorem load1_ok (B : Nat) (W0 : World) (a : Nat) (P : Pr) (s : Fm) (l : List Ob) (i : Fi) (h : MIn B W0 a P s l) (ha : i.a < 16) (hb : i.b < 16) (hq9 : IntKind.u64.wrap (s.r i.b + i.i) ≤ 65536 - 1) (hl : s.tc.length ≤ 1000000) (hp : s.p ≤ 1000000) :
    Calls Tryz.prog 105 #[.agg #[.int .u8 i.op, .int .i64 i.a, .int .i64 i.b, .int .i64 i.c, .int .u64 i.i], .pointer (some ⟨a, 0, none⟩), .int .u64 1] W0 fun x w' => x = .returned (.tuple #[]) ∧ MIn B w' a P { s with tc := s.tc ++ [⟨false, IntKind.u64.wrap (s.r i.b + i.i), 1⟩], r := updR s.r i.a (T.ldV s.m (IntKind.u64.wrap (s.r i.b + i.i)).toNat 1 : Nat), p := s.p + 1 } l ∧ Below B W0 w' := by
  obtain ⟨N, hAD⟩ : ∃ N : Nat, IntKind.u64.wrap (s.r i.b + i.i) = (N : Int) := ⟨(IntKind.u64.wrap (s.r i.b + i.i)).toNat, by have := wrap_u64_nonneg (s.r i.b + i.i); omega⟩
  simp only [hAD, Int.toNat_natCast] at hq9 ⊢
  have e7 : N < 18446744073709551616 := by omega
  generalize hLV : T.ldV s.m N 1 = LV at *
  replace hq9 := Hz.mk hq9
  replace hLV := Hz.mk hLV
  have h2 := Hz.mk (h.new #[.int .u8 i.op, .int .i64 i.a, .int .i64 i.b, .int .i64 i.c, .int .u64 i.i] 104)
  clear h
  go_enter Tryz.func105, Tryz.ntmps105
  go_upto_region 1 with fail
  refine wp_world (fun W => MIn B W a P s (boxOb W0.heap.size #[.int .u8 i.op, .int .i64 i.a, .int .i64 i.b, .int .i64 i.c, .int .u64 i.i] :: l) ∧ Below B W0 W) h2.out ?_
  rintro W ⟨h, hB⟩
  replace h := Hz.mk h
  replace hB := Hz.mk hB
  clear h2
  generalize W0.heap.size = kb at *
  have KS : Hz (∀ V, At V kb #[.int .u8 i.op, .int .i64 i.a, .int .i64 i.b, .int .i64 i.c, .int .u64 i.i] → V.rangeAt kb 0 (Fi.vals i) ∧ V.cell? ⟨kb, 1, none⟩ = some (.int .i64 i.a) ∧ V.cell? ⟨kb, 3, none⟩ = some (.int .i64 i.c) ∧ V.cell? ⟨kb, 4, none⟩ = some (.int .u64 i.i)) := Hz.mk (fun V q => ⟨fun j v e => by rw [Nat.zero_add]; exact (q.2.1 j).trans (by simpa [Fi.vals] using e), q.2.1 1, q.2.1 3, q.2.1 4⟩)
  have hleW := h.out.le
  obtain ⟨q, hq⟩ := h.out.bx
  replace hq := Hz.mk hq
  have g0 : Gr W W.drew := (Gr.refl W).drew
  refine wp_region_held_drew (S := (fun W => W.rangeAt kb 0 (Fi.vals i) ∧ W.cell? ⟨kb, 1, none⟩ = some (.int .i64 i.a) ∧ W.cell? ⟨kb, 3, none⟩ = some (.int .i64 i.c) ∧ W.cell? ⟨kb, 4, none⟩ = some (.int .u64 i.i))) (by kernel_rfl) (KS.out _ ((h.out.there (boxOb kb #[.int .u8 i.op, .int .i64 i.a, .int .i64 i.b, .int .i64 i.c, .int .u64 i.i]) (.head _)).gr g0)) (fun hHeld => ?_)
  refine wpAnyH_take (i := 0) (oi := { dst := some 9, op := Op.move (Operand.tmp 1), type := 23, pos := "touch.go:25", after := #[], guard := none }) (v := ?_) rfl (by kernel_rfl) (by kernel_rfl) (by kernel_rfl) (fun _ _ _ h => h) (Or.inl ⟨by rfl, ?_⟩) (by assumption) ?_
  rotate_left
  · intro w hSw; (try dsimp only at hSw); go_simp; first | done | with_reducible rfl
  try simp only [Act.put, List.setIfInBounds_toArray, List.set_cons_zero, List.set_cons_succ]
  refine wpAnyH_take (i := 1) (oi := { dst := some 10, op := Op.load 104 (Operand.tmp 3), type := 104, pos := "touch.go:25", after := #[], guard := none }) (v := _) rfl (by kernel_rfl) (by kernel_rfl) (by kernel_rfl) (fun _ _ _ h => h) (yieldsIf_load_mid (by rfl) _ _ rfl _ _ rfl _ _ (fun _ h => h.1) Tryz.underlying104 rfl (by kernel_rfl)) (by assumption) ?_
  try simp only [Act.put, List.setIfInBounds_toArray, List.set_cons_zero, List.set_cons_succ]
  refine wpAnyH_take (i := 3) (oi := { dst := some 12, op := Op.fieldAddr 104 (Operand.tmp 3) 4, type := 0, pos := "touch.go:25", after := #[], guard := none }) (v := ?_) rfl (by kernel_rfl) (by kernel_rfl) (by kernel_rfl) (fun _ _ _ h => h) (Or.inl ⟨by rfl, ?_⟩) (by assumption) ?_
  rotate_left
  · intro w hSw; (try dsimp only at hSw); go_simp; first | done | with_reducible rfl
  try simp only [Act.put, List.setIfInBounds_toArray, List.set_cons_zero, List.set_cons_succ]
  refine wpAnyH_take (i := 4) (oi := { dst := some 13, op := Op.load 25 (Operand.tmp 12), type := 25, pos := "touch.go:25", after := #[{ on := 3, ground := Ground.data }], guard := none }) (v := ?_) rfl (by kernel_rfl) (by kernel_rfl) (by kernel_rfl) (fun _ _ _ h => h) (Or.inl ⟨by rfl, ?_⟩) (by assumption) ?_
  rotate_left
  · intro w hSw; (try dsimp only at hSw); go_simp; first | done | with_reducible rfl
  try simp only [Act.put, List.setIfInBounds_toArray, List.set_cons_zero, List.set_cons_succ]
  refine wpAnyH_ready (rs := [2]) (by kernel_rfl) (by simp) ?_
  refine AllReadyH.cons (o := { dst := some 11, op := Op.call { callee := Callee.value (Operand.func 97), args := #[Operand.tmp 9, Operand.tmp 10], argTypes := #[23, 104] }, type := 25, pos := "touch.go:25", after := #[{ on := 0, ground := Ground.data }, { on := 1, ground := Ground.data }], guard := none }) rfl (fun K hK => ?_) AllReadyH.nil
  go_simp
  go_wp2_with (refine (b_any a (bxOf P s q) i _ (hq.out.gr g0) hb).mono ?_; rintro r V1 ⟨rfl, gg⟩; have g1 := g0.trans gg; clear gg g0 hHeld)
  refine hK.out _ _ (KS.out _ ((h.out.there (boxOb kb #[.int .u8 i.op, .int .i64 i.a, .int .i64 i.b, .int .i64 i.c, .int .u64 i.i]) (.head _)).gr g1)) (fun hHeld => ?_)
  clear hK K
  try simp only [Act.put, List.setIfInBounds_toArray, List.set_cons_zero, List.set_cons_succ]
  refine wpAnyH_take (i := 5) (oi := { dst := some 14, op := Op.binOp BinOp.add 25 (Operand.tmp 11) (Operand.tmp 13) 25, type := 25, pos := "touch.go:25", after := #[{ on := 2, ground := Ground.data }, { on := 4, ground := Ground.data }], guard := none }) (v := ?_) rfl (by kernel_rfl) (by kernel_rfl) (by kernel_rfl) (fun _ _ _ h => h) (Or.inl ⟨by rfl, ?_⟩) (by assumption) ?_
  rotate_left
  · intro w hSw; (try dsimp only at hSw); go_simp; first | done | with_reducible rfl
  try simp only [Act.put, List.setIfInBounds_toArray, List.set_cons_zero, List.set_cons_succ]
  refine wpAnyH_take (i := 6) (oi := { dst := some 6, op := Op.assign (Operand.tmp 14), type := 25, pos := "touch.go:25", after := #[{ on := 5, ground := Ground.data }, { on := 2, ground := Ground.chain }, { on := 0, ground := Ground.phase }, { on := 1, ground := Ground.phase }, { on := 2, ground := Ground.phase }, { on := 3, ground := Ground.phase }, { on := 4, ground := Ground.phase }, { on := 5, ground := Ground.phase }], guard := none }) (v := ?_) rfl (by kernel_rfl) (by kernel_rfl) (by kernel_rfl) (fun _ _ _ h => h) (Or.inl ⟨by rfl, ?_⟩) (by assumption) ?_
  rotate_left
  · intro w hSw; (try dsimp only at hSw); go_simp; first | done | with_reducible rfl
  try simp only [Act.put, List.setIfInBounds_toArray, List.set_cons_zero, List.set_cons_succ]
  refine wpAnyH_done (by kernel_rfl) ?_ _
  clear hHeld hq
  rw [show (bxOf P s q).r = s.r from rfl]
  clear q
  replace h := Hz.mk (h.out.gro g1)
  replace hB : Hz (Below B W0 V1) := Hz.mk (hB.out.trans (g1.below.mono hleW))
  clear g1
  rw [hAD]
  clear hAD
  have ht := Hz.mk (touch_ok B V1 a P s _ false (N : Int) 1 h.out (by omega) hq9.out hl)
  go_wp2_with fail
  refine (ht.out).mono ?_
  rintro r V2 ⟨rfl, h2, hB2⟩
  replace hB : Hz (Below B W0 V2) := Hz.mk (hB.out.trans hB2)
  clear hB2
  clear h
  have h := Hz.mk h2
  clear h2
  clear ht
  obtain ⟨km, c3, FF, hF, _⟩ := h.out.onMem
  have hld := Hz.mk (T.flLoad_any FF km N 1 s.m V2 hF e7 (by decide))
  rw [hLV.out] at hld
  clear hF
  have hleW := h.out.le
  go_wp2_with fail
  refine hld.out.mono ?_
  rintro r V3 ⟨rfl, hB2⟩
  clear c3 hld
  replace h := Hz.mk (h.out.gr hB2)
  replace hB2 := hB2.mono hleW
  replace hB : Hz (Below B W0 V3) := Hz.mk (hB.out.trans hB2)
  clear hB2
  have q1 : V3.cell? ⟨kb, 1, none⟩ = some (.int .i64 i.a) := (h.out.there (boxOb kb #[.int .u8 i.op, .int .i64 i.a, .int .i64 i.b, .int .i64 i.c, .int .u64 i.i]) (.head _)).2.1 1
  have hly := Hz.mk (h.out.onBox (s' := { s with tc := s.tc ++ [⟨false, (N : Int), 1⟩], r := updR s.r i.a (LV : Nat), p := s.p + 1 }) ⟨rfl, rfl, rfl, rfl, rfl⟩ (fun q hb => lay_any a _ i.a (LV : Nat) V3 hb ha hp))
  go_wp2_with fail
  refine (hly.out).mono ?_
  rintro r V4 ⟨rfl, h2, hB2⟩
  replace hB : Hz (Below B W0 V4) := Hz.mk (hB.out.trans hB2)
  clear hB2
  clear h
  have h := Hz.mk h2
  clear h2
  go_wp2_with fail
  first | go_end0 | ((try simp only [Exit.inBlock, Exit.then]); refine bodyPost_ret (results_none rfl _ _ _) rfl ?_)
  exact ⟨rfl, h.out.drop, hB.out⟩
set_option maxRecDepth 100000 in
set_option maxHeartbeats 4000000 in
theorem load8_bad (B : Nat) (W0 : World) (a : Nat) (P : Pr) (s : Fm) (l : List Ob) (i : Fi) (h : MIn B W0 a P s l) (hb : i.b < 16) (hq9 : 65536 - 8 < IntKind.u64.wrap (s.r i.b + i.i)) :
    Calls Tryz.prog 105 #[.agg #[.int .u8 i.op, .int .i64 i.a, .int .i64 i.b, .int .i64 i.c, .int .u64 i.i], .pointer (some ⟨a, 0, none⟩), .int .u64 8] W0 fun x w' => x = .returned (.tuple #[]) ∧ MIn B w' a P { s with e := 7, v := 0, f := 5 } l ∧ Below B W0 w' := by
  replace hq9 := Hz.mk hq9
  have h2 := Hz.mk (h.new #[.int .u8 i.op, .int .i64 i.a, .int .i64 i.b, .int .i64 i.c, .int .u64 i.i] 104)
  clear h
  go_enter Tryz.func105, Tryz.ntmps105
  go_upto_region 1 with fail
  refine wp_world (fun W => MIn B W a P s (boxOb W0.heap.size #[.int .u8 i.op, .int .i64 i.a, .int .i64 i.b, .int .i64 i.c, .int .u64 i.i] :: l) ∧ Below B W0 W) h2.out ?_
  rintro W ⟨h, hB⟩
  replace h := Hz.mk h
  replace hB := Hz.mk hB
  clear h2
  generalize W0.heap.size = kb at *
  have KS : Hz (∀ V, At V kb #[.int .u8 i.op, .int .i64 i.a, .int .i64 i.b, .int .i64 i.c, .int .u64 i.i] → V.rangeAt kb 0 (Fi.vals i) ∧ V.cell? ⟨kb, 1, none⟩ = some (.int .i64 i.a) ∧ V.cell? ⟨kb, 3, none⟩ = some (.int .i64 i.c) ∧ V.cell? ⟨kb, 4, none⟩ = some (.int .u64 i.i)) := Hz.mk (fun V q => ⟨fun j v e => by rw [Nat.zero_add]; exact (q.2.1 j).trans (by simpa [Fi.vals] using e), q.2.1 1, q.2.1 3, q.2.1 4⟩)
  have hleW := h.out.le
  obtain ⟨q, hq⟩ := h.out.bx
  replace hq := Hz.mk hq
  have g0 : Gr W W.drew := (Gr.refl W).drew
  refine wp_region_held_drew (S := (fun W => W.rangeAt kb 0 (Fi.vals i) ∧ W.cell? ⟨kb, 1, none⟩ = some (.int .i64 i.a) ∧ W.cell? ⟨kb, 3, none⟩ = some (.int .i64 i.c) ∧ W.cell? ⟨kb, 4, none⟩ = some (.int .u64 i.i))) (by kernel_rfl) (KS.out _ ((h.out.there (boxOb kb #[.int .u8 i.op, .int .i64 i.a, .int .i64 i.b, .int .i64 i.c, .int .u64 i.i]) (.head _)).gr g0)) (fun hHeld => ?_)
  refine wpAnyH_take (i := 0) (oi := { dst := some 9, op := Op.move (Operand.tmp 1), type := 23, pos := "touch.go:25", after := #[], guard := none }) (v := ?_) rfl (by kernel_rfl) (by kernel_rfl) (by kernel_rfl) (fun _ _ _ h => h) (Or.inl ⟨by rfl, ?_⟩) (by assumption) ?_
  rotate_left
  · intro w hSw; (try dsimp only at hSw); go_simp; first | done | with_reducible rfl
  try simp only [Act.put, List.setIfInBounds_toArray, List.set_cons_zero, List.set_cons_succ]
  refine wpAnyH_take (i := 1) (oi := { dst := some 10, op := Op.load 104 (Operand.tmp 3), type := 104, pos := "touch.go:25", after := #[], guard := none }) (v := _) rfl (by kernel_rfl) (by kernel_rfl) (by kernel_rfl) (fun _ _ _ h => h) (yieldsIf_load_mid (by rfl) _ _ rfl _ _ rfl _ _ (fun _ h => h.1) Tryz.underlying104 rfl (by kernel_rfl)) (by assumption) ?_
  try simp only [Act.put, List.setIfInBounds_toArray, List.set_cons_zero, List.set_cons_succ]
  refine wpAnyH_take (i := 3) (oi := { dst := some 12, op := Op.fieldAddr 104 (Operand.tmp 3) 4, type := 0, pos := "touch.go:25", after := #[], guard := none }) (v := ?_) rfl (by kernel_rfl) (by kernel_rfl) (by kernel_rfl) (fun _ _ _ h => h) (Or.inl ⟨by rfl, ?_⟩) (by assumption) ?_
  rotate_left
  · intro w hSw; (try dsimp only at hSw); go_simp; first | done | with_reducible rfl
  try simp only [Act.put, List.setIfInBounds_toArray, List.set_cons_zero, List.set_cons_succ]
  refine wpAnyH_take (i := 4) (oi := { dst := some 13, op := Op.load 25 (Operand.tmp 12), type := 25, pos := "touch.go:25", after := #[{ on := 3, ground := Ground.data }], guard := none }) (v := ?_) rfl (by kernel_rfl) (by kernel_rfl) (by kernel_rfl) (fun _ _ _ h => h) (Or.inl ⟨by rfl, ?_⟩) (by assumption) ?_
  rotate_left
  · intro w hSw; (try dsimp only at hSw); go_simp; first | done | with_reducible rfl
  try simp only [Act.put, List.setIfInBounds_toArray, List.set_cons_zero, List.set_cons_succ]
  refine wpAnyH_ready (rs := [2]) (by kernel_rfl) (by simp) ?_
  refine AllReadyH.cons (o := { dst := some 11, op := Op.call { callee := Callee.value (Operand.func 97), args := #[Operand.tmp 9, Operand.tmp 10], argTypes := #[23, 104] }, type := 25, pos := "touch.go:25", after := #[{ on := 0, ground := Ground.data }, { on := 1, ground := Ground.data }], guard := none }) rfl (fun K hK => ?_) AllReadyH.nil
  go_simp
  go_wp2_with (refine (b_any a (bxOf P s q) i _ (hq.out.gr g0) hb).mono ?_; rintro r V1 ⟨rfl, gg⟩; have g1 := g0.trans gg; clear gg g0 hHeld)
  refine hK.out _ _ (KS.out _ ((h.out.there (boxOb kb #[.int .u8 i.op, .int .i64 i.a, .int .i64 i.b, .int .i64 i.c, .int .u64 i.i]) (.head _)).gr g1)) (fun hHeld => ?_)
  clear hK K
  try simp only [Act.put, List.setIfInBounds_toArray, List.set_cons_zero, List.set_cons_succ]
  refine wpAnyH_take (i := 5) (oi := { dst := some 14, op := Op.binOp BinOp.add 25 (Operand.tmp 11) (Operand.tmp 13) 25, type := 25, pos := "touch.go:25", after := #[{ on := 2, ground := Ground.data }, { on := 4, ground := Ground.data }], guard := none }) (v := ?_) rfl (by kernel_rfl) (by kernel_rfl) (by kernel_rfl) (fun _ _ _ h => h) (Or.inl ⟨by rfl, ?_⟩) (by assumption) ?_
  rotate_left
  · intro w hSw; (try dsimp only at hSw); go_simp; first | done | with_reducible rfl
  try simp only [Act.put, List.setIfInBounds_toArray, List.set_cons_zero, List.set_cons_succ]
  refine wpAnyH_take (i := 6) (oi := { dst := some 6, op := Op.assign (Operand.tmp 14), type := 25, pos := "touch.go:25", after := #[{ on := 5, ground := Ground.data }, { on := 2, ground := Ground.chain }, { on := 0, ground := Ground.phase }, { on := 1, ground := Ground.phase }, { on := 2, ground := Ground.phase }, { on := 3, ground := Ground.phase }, { on := 4, ground := Ground.phase }, { on := 5, ground := Ground.phase }], guard := none }) (v := ?_) rfl (by kernel_rfl) (by kernel_rfl) (by kernel_rfl) (fun _ _ _ h => h) (Or.inl ⟨by rfl, ?_⟩) (by assumption) ?_
  rotate_left
  · intro w hSw; (try dsimp only at hSw); go_simp; first | done | with_reducible rfl
  try simp only [Act.put, List.setIfInBounds_toArray, List.set_cons_zero, List.set_cons_succ]
  refine wpAnyH_done (by kernel_rfl) ?_ _
  clear hHeld hq
  rw [show (bxOf P s q).r = s.r from rfl]
  clear q
  replace h := Hz.mk (h.out.gro g1)
  replace hB : Hz (Below B W0 V1) := Hz.mk (hB.out.trans (g1.below.mono hleW))
  clear g1
  have ht := Hz.mk (touch_bad B V1 a P s _ false (IntKind.u64.wrap (s.r i.b + i.i)) 8 h.out (by omega) hq9.out)
  go_wp2_with fail
  refine (ht.out).mono ?_
  rintro r V2 ⟨rfl, h2, hB2⟩
  replace hB : Hz (Below B W0 V2) := Hz.mk (hB.out.trans hB2)
  clear hB2
  clear h
  have h := Hz.mk h2
  clear h2
  go_wp2_with fail
  first | go_end0 | ((try simp only [Exit.inBlock, Exit.then]); refine bodyPost_ret (results_none rfl _ _ _) rfl ?_)
  exact ⟨rfl, h.out.drop, hB.out⟩
set_option maxRecDepth 100000 in
set_option maxHeartbeats 4000000 in
theorem load8_ok (B : Nat) (W0 : World) (a : Nat) (P : Pr) (s : Fm) (l : List Ob) (i : Fi) (h : MIn B W0 a P s l) (ha : i.a < 16) (hb : i.b < 16) (hq9 : IntKind.u64.wrap (s.r i.b + i.i) ≤ 65536 - 8) (hl : s.tc.length ≤ 1000000) (hp : s.p ≤ 1000000) :
    Calls Tryz.prog 105 #[.agg #[.int .u8 i.op, .int .i64 i.a, .int .i64 i.b, .int .i64 i.c, .int .u64 i.i], .pointer (some ⟨a, 0, none⟩), .int .u64 8] W0 fun x w' => x = .returned (.tuple #[]) ∧ MIn B w' a P { s with tc := s.tc ++ [⟨false, IntKind.u64.wrap (s.r i.b + i.i), 8⟩], r := updR s.r i.a (T.ldV s.m (IntKind.u64.wrap (s.r i.b + i.i)).toNat 8 : Nat), p := s.p + 1 } l ∧ Below B W0 w' := by
  obtain ⟨N, hAD⟩ : ∃ N : Nat, IntKind.u64.wrap (s.r i.b + i.i) = (N : Int) := ⟨(IntKind.u64.wrap (s.r i.b + i.i)).toNat, by have := wrap_u64_nonneg (s.r i.b + i.i); omega⟩
  simp only [hAD, Int.toNat_natCast] at hq9 ⊢
  have e7 : N < 18446744073709551616 := by omega
  generalize hLV : T.ldV s.m N 8 = LV at *
  replace hq9 := Hz.mk hq9
  replace hLV := Hz.mk hLV
  have h2 := Hz.mk (h.new #[.int .u8 i.op, .int .i64 i.a, .int .i64 i.b, .int .i64 i.c, .int .u64 i.i] 104)
  clear h
  go_enter Tryz.func105, Tryz.ntmps105
  go_upto_region 1 with fail
  refine wp_world (fun W => MIn B W a P s (boxOb W0.heap.size #[.int .u8 i.op, .int .i64 i.a, .int .i64 i.b, .int .i64 i.c, .int .u64 i.i] :: l) ∧ Below B W0 W) h2.out ?_
  rintro W ⟨h, hB⟩
  replace h := Hz.mk h
  replace hB := Hz.mk hB
  clear h2
  generalize W0.heap.size = kb at *
  have KS : Hz (∀ V, At V kb #[.int .u8 i.op, .int .i64 i.a, .int .i64 i.b, .int .i64 i.c, .int .u64 i.i] → V.rangeAt kb 0 (Fi.vals i) ∧ V.cell? ⟨kb, 1, none⟩ = some (.int .i64 i.a) ∧ V.cell? ⟨kb, 3, none⟩ = some (.int .i64 i.c) ∧ V.cell? ⟨kb, 4, none⟩ = some (.int .u64 i.i)) := Hz.mk (fun V q => ⟨fun j v e => by rw [Nat.zero_add]; exact (q.2.1 j).trans (by simpa [Fi.vals] using e), q.2.1 1, q.2.1 3, q.2.1 4⟩)
  have hleW := h.out.le
  obtain ⟨q, hq⟩ := h.out.bx
  replace hq := Hz.mk hq
  have g0 : Gr W W.drew := (Gr.refl W).drew
  refine wp_region_held_drew (S := (fun W => W.rangeAt kb 0 (Fi.vals i) ∧ W.cell? ⟨kb, 1, none⟩ = some (.int .i64 i.a) ∧ W.cell? ⟨kb, 3, none⟩ = some (.int .i64 i.c) ∧ W.cell? ⟨kb, 4, none⟩ = some (.int .u64 i.i))) (by kernel_rfl) (KS.out _ ((h.out.there (boxOb kb #[.int .u8 i.op, .int .i64 i.a, .int .i64 i.b, .int .i64 i.c, .int .u64 i.i]) (.head _)).gr g0)) (fun hHeld => ?_)
  refine wpAnyH_take (i := 0) (oi := { dst := some 9, op := Op.move (Operand.tmp 1), type := 23, pos := "touch.go:25", after := #[], guard := none }) (v := ?_) rfl (by kernel_rfl) (by kernel_rfl) (by kernel_rfl) (fun _ _ _ h => h) (Or.inl ⟨by rfl, ?_⟩) (by assumption) ?_
  rotate_left
  · intro w hSw; (try dsimp only at hSw); go_simp; first | done | with_reducible rfl
  try simp only [Act.put, List.setIfInBounds_toArray, List.set_cons_zero, List.set_cons_succ]
  refine wpAnyH_take (i := 1) (oi := { dst := some 10, op := Op.load 104 (Operand.tmp 3), type := 104, pos := "touch.go:25", after := #[], guard := none }) (v := _) rfl (by kernel_rfl) (by kernel_rfl) (by kernel_rfl) (fun _ _ _ h => h) (yieldsIf_load_mid (by rfl) _ _ rfl _ _ rfl _ _ (fun _ h => h.1) Tryz.underlying104 rfl (by kernel_rfl)) (by assumption) ?_
  try simp only [Act.put, List.setIfInBounds_toArray, List.set_cons_zero, List.set_cons_succ]
  refine wpAnyH_take (i := 3) (oi := { dst := some 12, op := Op.fieldAddr 104 (Operand.tmp 3) 4, type := 0, pos := "touch.go:25", after := #[], guard := none }) (v := ?_) rfl (by kernel_rfl) (by kernel_rfl) (by kernel_rfl) (fun _ _ _ h => h) (Or.inl ⟨by rfl, ?_⟩) (by assumption) ?_
  rotate_left
  · intro w hSw; (try dsimp only at hSw); go_simp; first | done | with_reducible rfl
  try simp only [Act.put, List.setIfInBounds_toArray, List.set_cons_zero, List.set_cons_succ]
  refine wpAnyH_take (i := 4) (oi := { dst := some 13, op := Op.load 25 (Operand.tmp 12), type := 25, pos := "touch.go:25", after := #[{ on := 3, ground := Ground.data }], guard := none }) (v := ?_) rfl (by kernel_rfl) (by kernel_rfl) (by kernel_rfl) (fun _ _ _ h => h) (Or.inl ⟨by rfl, ?_⟩) (by assumption) ?_
  rotate_left
  · intro w hSw; (try dsimp only at hSw); go_simp; first | done | with_reducible rfl
  try simp only [Act.put, List.setIfInBounds_toArray, List.set_cons_zero, List.set_cons_succ]
  refine wpAnyH_ready (rs := [2]) (by kernel_rfl) (by simp) ?_
  refine AllReadyH.cons (o := { dst := some 11, op := Op.call { callee := Callee.value (Operand.func 97), args := #[Operand.tmp 9, Operand.tmp 10], argTypes := #[23, 104] }, type := 25, pos := "touch.go:25", after := #[{ on := 0, ground := Ground.data }, { on := 1, ground := Ground.data }], guard := none }) rfl (fun K hK => ?_) AllReadyH.nil
  go_simp
  go_wp2_with (refine (b_any a (bxOf P s q) i _ (hq.out.gr g0) hb).mono ?_; rintro r V1 ⟨rfl, gg⟩; have g1 := g0.trans gg; clear gg g0 hHeld)
  refine hK.out _ _ (KS.out _ ((h.out.there (boxOb kb #[.int .u8 i.op, .int .i64 i.a, .int .i64 i.b, .int .i64 i.c, .int .u64 i.i]) (.head _)).gr g1)) (fun hHeld => ?_)
  clear hK K
  try simp only [Act.put, List.setIfInBounds_toArray, List.set_cons_zero, List.set_cons_succ]
  refine wpAnyH_take (i := 5) (oi := { dst := some 14, op := Op.binOp BinOp.add 25 (Operand.tmp 11) (Operand.tmp 13) 25, type := 25, pos := "touch.go:25", after := #[{ on := 2, ground := Ground.data }, { on := 4, ground := Ground.data }], guard := none }) (v := ?_) rfl (by kernel_rfl) (by kernel_rfl) (by kernel_rfl) (fun _ _ _ h => h) (Or.inl ⟨by rfl, ?_⟩) (by assumption) ?_
  rotate_left
  · intro w hSw; (try dsimp only at hSw); go_simp; first | done | with_reducible rfl
  try simp only [Act.put, List.setIfInBounds_toArray, List.set_cons_zero, List.set_cons_succ]
  refine wpAnyH_take (i := 6) (oi := { dst := some 6, op := Op.assign (Operand.tmp 14), type := 25, pos := "touch.go:25", after := #[{ on := 5, ground := Ground.data }, { on := 2, ground := Ground.chain }, { on := 0, ground := Ground.phase }, { on := 1, ground := Ground.phase }, { on := 2, ground := Ground.phase }, { on := 3, ground := Ground.phase }, { on := 4, ground := Ground.phase }, { on := 5, ground := Ground.phase }], guard := none }) (v := ?_) rfl (by kernel_rfl) (by kernel_rfl) (by kernel_rfl) (fun _ _ _ h => h) (Or.inl ⟨by rfl, ?_⟩) (by assumption) ?_
  rotate_left
  · intro w hSw; (try dsimp only at hSw); go_simp; first | done | with_reducible rfl
  try simp only [Act.put, List.setIfInBounds_toArray, List.set_cons_zero, List.set_cons_succ]
  refine wpAnyH_done (by kernel_rfl) ?_ _
  clear hHeld hq
  rw [show (bxOf P s q).r = s.r from rfl]
  clear q
  replace h := Hz.mk (h.out.gro g1)
  replace hB : Hz (Below B W0 V1) := Hz.mk (hB.out.trans (g1.below.mono hleW))
  clear g1
  rw [hAD]
  clear hAD
  have ht := Hz.mk (touch_ok B V1 a P s _ false (N : Int) 8 h.out (by omega) hq9.out hl)
  go_wp2_with fail
  refine (ht.out).mono ?_
  rintro r V2 ⟨rfl, h2, hB2⟩
  replace hB : Hz (Below B W0 V2) := Hz.mk (hB.out.trans hB2)
  clear hB2
  clear h
  have h := Hz.mk h2
  clear h2
  clear ht
  obtain ⟨km, c3, FF, hF, _⟩ := h.out.onMem
  have hld := Hz.mk (T.flLoad_any FF km N 8 s.m V2 hF e7 (by decide))
  rw [hLV.out] at hld
  clear hF
  have hleW := h.out.le
  go_wp2_with fail
  refine hld.out.mono ?_
  rintro r V3 ⟨rfl, hB2⟩
  clear c3 hld
  replace h := Hz.mk (h.out.gr hB2)
  replace hB2 := hB2.mono hleW
  replace hB : Hz (Below B W0 V3) := Hz.mk (hB.out.trans hB2)
  clear hB2
  have q1 : V3.cell? ⟨kb, 1, none⟩ = some (.int .i64 i.a) := (h.out.there (boxOb kb #[.int .u8 i.op, .int .i64 i.a, .int .i64 i.b, .int .i64 i.c, .int .u64 i.i]) (.head _)).2.1 1
  have hly := Hz.mk (h.out.onBox (s' := { s with tc := s.tc ++ [⟨false, (N : Int), 8⟩], r := updR s.r i.a (LV : Nat), p := s.p + 1 }) ⟨rfl, rfl, rfl, rfl, rfl⟩ (fun q hb => lay_any a _ i.a (LV : Nat) V3 hb ha hp))
  go_wp2_with fail
  refine (hly.out).mono ?_
  rintro r V4 ⟨rfl, h2, hB2⟩
  replace hB : Hz (Below B W0 V4) := Hz.mk (hB.out.trans hB2)
  clear hB2
  clear h
  have h := Hz.mk h2
  clear h2
  go_wp2_with fail
  first | go_end0 | ((try simp only [Exit.inBlock, Exit.then]); refine bodyPost_ret (results_none rfl _ _ _) rfl ?_)
  exact ⟨rfl, h.out.drop, hB.out⟩
set_option maxRecDepth 100000 in
set_option maxHeartbeats 4000000 in
theorem load16_bad (B : Nat) (W0 : World) (a : Nat) (P : Pr) (s : Fm) (l : List Ob) (i : Fi) (h : MIn B W0 a P s l) (hb : i.b < 16) (hq9 : 65536 - 16 < IntKind.u64.wrap (s.r i.b + i.i)) :
    Calls Tryz.prog 105 #[.agg #[.int .u8 i.op, .int .i64 i.a, .int .i64 i.b, .int .i64 i.c, .int .u64 i.i], .pointer (some ⟨a, 0, none⟩), .int .u64 16] W0 fun x w' => x = .returned (.tuple #[]) ∧ MIn B w' a P { s with e := 7, v := 0, f := 5 } l ∧ Below B W0 w' := by
  replace hq9 := Hz.mk hq9
  have h2 := Hz.mk (h.new #[.int .u8 i.op, .int .i64 i.a, .int .i64 i.b, .int .i64 i.c, .int .u64 i.i] 104)
  clear h
  go_enter Tryz.func105, Tryz.ntmps105
  go_upto_region 1 with fail
  refine wp_world (fun W => MIn B W a P s (boxOb W0.heap.size #[.int .u8 i.op, .int .i64 i.a, .int .i64 i.b, .int .i64 i.c, .int .u64 i.i] :: l) ∧ Below B W0 W) h2.out ?_
  rintro W ⟨h, hB⟩
  replace h := Hz.mk h
  replace hB := Hz.mk hB
  clear h2
  generalize W0.heap.size = kb at *
  have KS : Hz (∀ V, At V kb #[.int .u8 i.op, .int .i64 i.a, .int .i64 i.b, .int .i64 i.c, .int .u64 i.i] → V.rangeAt kb 0 (Fi.vals i) ∧ V.cell? ⟨kb, 1, none⟩ = some (.int .i64 i.a) ∧ V.cell? ⟨kb, 3, none⟩ = some (.int .i64 i.c) ∧ V.cell? ⟨kb, 4, none⟩ = some (.int .u64 i.i)) := Hz.mk (fun V q => ⟨fun j v e => by rw [Nat.zero_add]; exact (q.2.1 j).trans (by simpa [Fi.vals] using e), q.2.1 1, q.2.1 3, q.2.1 4⟩)
  have hleW := h.out.le
  obtain ⟨q, hq⟩ := h.out.bx
  replace hq := Hz.mk hq
  have g0 : Gr W W.drew := (Gr.refl W).drew
  refine wp_region_held_drew (S := (fun W => W.rangeAt kb 0 (Fi.vals i) ∧ W.cell? ⟨kb, 1, none⟩ = some (.int .i64 i.a) ∧ W.cell? ⟨kb, 3, none⟩ = some (.int .i64 i.c) ∧ W.cell? ⟨kb, 4, none⟩ = some (.int .u64 i.i))) (by kernel_rfl) (KS.out _ ((h.out.there (boxOb kb #[.int .u8 i.op, .int .i64 i.a, .int .i64 i.b, .int .i64 i.c, .int .u64 i.i]) (.head _)).gr g0)) (fun hHeld => ?_)
  refine wpAnyH_take (i := 0) (oi := { dst := some 9, op := Op.move (Operand.tmp 1), type := 23, pos := "touch.go:25", after := #[], guard := none }) (v := ?_) rfl (by kernel_rfl) (by kernel_rfl) (by kernel_rfl) (fun _ _ _ h => h) (Or.inl ⟨by rfl, ?_⟩) (by assumption) ?_
  rotate_left
  · intro w hSw; (try dsimp only at hSw); go_simp; first | done | with_reducible rfl
  try simp only [Act.put, List.setIfInBounds_toArray, List.set_cons_zero, List.set_cons_succ]
  refine wpAnyH_take (i := 1) (oi := { dst := some 10, op := Op.load 104 (Operand.tmp 3), type := 104, pos := "touch.go:25", after := #[], guard := none }) (v := _) rfl (by kernel_rfl) (by kernel_rfl) (by kernel_rfl) (fun _ _ _ h => h) (yieldsIf_load_mid (by rfl) _ _ rfl _ _ rfl _ _ (fun _ h => h.1) Tryz.underlying104 rfl (by kernel_rfl)) (by assumption) ?_
  try simp only [Act.put, List.setIfInBounds_toArray, List.set_cons_zero, List.set_cons_succ]
  refine wpAnyH_take (i := 3) (oi := { dst := some 12, op := Op.fieldAddr 104 (Operand.tmp 3) 4, type := 0, pos := "touch.go:25", after := #[], guard := none }) (v := ?_) rfl (by kernel_rfl) (by kernel_rfl) (by kernel_rfl) (fun _ _ _ h => h) (Or.inl ⟨by rfl, ?_⟩) (by assumption) ?_
  rotate_left
  · intro w hSw; (try dsimp only at hSw); go_simp; first | done | with_reducible rfl
  try simp only [Act.put, List.setIfInBounds_toArray, List.set_cons_zero, List.set_cons_succ]
  refine wpAnyH_take (i := 4) (oi := { dst := some 13, op := Op.load 25 (Operand.tmp 12), type := 25, pos := "touch.go:25", after := #[{ on := 3, ground := Ground.data }], guard := none }) (v := ?_) rfl (by kernel_rfl) (by kernel_rfl) (by kernel_rfl) (fun _ _ _ h => h) (Or.inl ⟨by rfl, ?_⟩) (by assumption) ?_
  rotate_left
  · intro w hSw; (try dsimp only at hSw); go_simp; first | done | with_reducible rfl
  try simp only [Act.put, List.setIfInBounds_toArray, List.set_cons_zero, List.set_cons_succ]
  refine wpAnyH_ready (rs := [2]) (by kernel_rfl) (by simp) ?_
  refine AllReadyH.cons (o := { dst := some 11, op := Op.call { callee := Callee.value (Operand.func 97), args := #[Operand.tmp 9, Operand.tmp 10], argTypes := #[23, 104] }, type := 25, pos := "touch.go:25", after := #[{ on := 0, ground := Ground.data }, { on := 1, ground := Ground.data }], guard := none }) rfl (fun K hK => ?_) AllReadyH.nil
  go_simp
  go_wp2_with (refine (b_any a (bxOf P s q) i _ (hq.out.gr g0) hb).mono ?_; rintro r V1 ⟨rfl, gg⟩; have g1 := g0.trans gg; clear gg g0 hHeld)
  refine hK.out _ _ (KS.out _ ((h.out.there (boxOb kb #[.int .u8 i.op, .int .i64 i.a, .int .i64 i.b, .int .i64 i.c, .int .u64 i.i]) (.head _)).gr g1)) (fun hHeld => ?_)
  clear hK K
  try simp only [Act.put, List.setIfInBounds_toArray, List.set_cons_zero, List.set_cons_succ]
  refine wpAnyH_take (i := 5) (oi := { dst := some 14, op := Op.binOp BinOp.add 25 (Operand.tmp 11) (Operand.tmp 13) 25, type := 25, pos := "touch.go:25", after := #[{ on := 2, ground := Ground.data }, { on := 4, ground := Ground.data }], guard := none }) (v := ?_) rfl (by kernel_rfl) (by kernel_rfl) (by kernel_rfl) (fun _ _ _ h => h) (Or.inl ⟨by rfl, ?_⟩) (by assumption) ?_
  rotate_left
  · intro w hSw; (try dsimp only at hSw); go_simp; first | done | with_reducible rfl
  try simp only [Act.put, List.setIfInBounds_toArray, List.set_cons_zero, List.set_cons_succ]
  refine wpAnyH_take (i := 6) (oi := { dst := some 6, op := Op.assign (Operand.tmp 14), type := 25, pos := "touch.go:25", after := #[{ on := 5, ground := Ground.data }, { on := 2, ground := Ground.chain }, { on := 0, ground := Ground.phase }, { on := 1, ground := Ground.phase }, { on := 2, ground := Ground.phase }, { on := 3, ground := Ground.phase }, { on := 4, ground := Ground.phase }, { on := 5, ground := Ground.phase }], guard := none }) (v := ?_) rfl (by kernel_rfl) (by kernel_rfl) (by kernel_rfl) (fun _ _ _ h => h) (Or.inl ⟨by rfl, ?_⟩) (by assumption) ?_
  rotate_left
  · intro w hSw; (try dsimp only at hSw); go_simp; first | done | with_reducible rfl
  try simp only [Act.put, List.setIfInBounds_toArray, List.set_cons_zero, List.set_cons_succ]
  refine wpAnyH_done (by kernel_rfl) ?_ _
  clear hHeld hq
  rw [show (bxOf P s q).r = s.r from rfl]
  clear q
  replace h := Hz.mk (h.out.gro g1)
  replace hB : Hz (Below B W0 V1) := Hz.mk (hB.out.trans (g1.below.mono hleW))
  clear g1
  have ht := Hz.mk (touch_bad B V1 a P s _ false (IntKind.u64.wrap (s.r i.b + i.i)) 16 h.out (by omega) hq9.out)
  go_wp2_with fail
  refine (ht.out).mono ?_
  rintro r V2 ⟨rfl, h2, hB2⟩
  replace hB : Hz (Below B W0 V2) := Hz.mk (hB.out.trans hB2)
  clear hB2
  clear h
  have h := Hz.mk h2
  clear h2
  go_wp2_with fail
  first | go_end0 | ((try simp only [Exit.inBlock, Exit.then]); refine bodyPost_ret (results_none rfl _ _ _) rfl ?_)
  exact ⟨rfl, h.out.drop, hB.out⟩
set_option maxRecDepth 100000 in
set_option maxHeartbeats 4000000 in
theorem load16_ok (B : Nat) (W0 : World) (a : Nat) (P : Pr) (s : Fm) (l : List Ob) (i : Fi) (h : MIn B W0 a P s l) (ha : i.a < 16) (hb : i.b < 16) (hq9 : IntKind.u64.wrap (s.r i.b + i.i) ≤ 65536 - 16) (hl : s.tc.length ≤ 1000000) (hp : s.p ≤ 1000000) :
    Calls Tryz.prog 105 #[.agg #[.int .u8 i.op, .int .i64 i.a, .int .i64 i.b, .int .i64 i.c, .int .u64 i.i], .pointer (some ⟨a, 0, none⟩), .int .u64 16] W0 fun x w' => x = .returned (.tuple #[]) ∧ MIn B w' a P { s with tc := s.tc ++ [⟨false, IntKind.u64.wrap (s.r i.b + i.i), 16⟩], r := updR s.r i.a (T.ldV s.m (IntKind.u64.wrap (s.r i.b + i.i)).toNat 8 : Nat), p := s.p + 1 } l ∧ Below B W0 w' := by
  obtain ⟨N, hAD⟩ : ∃ N : Nat, IntKind.u64.wrap (s.r i.b + i.i) = (N : Int) := ⟨(IntKind.u64.wrap (s.r i.b + i.i)).toNat, by have := wrap_u64_nonneg (s.r i.b + i.i); omega⟩
  simp only [hAD, Int.toNat_natCast] at hq9 ⊢
  have e7 : N < 18446744073709551616 := by omega
  generalize hLV : T.ldV s.m N 8 = LV at *
  replace hq9 := Hz.mk hq9
  replace hLV := Hz.mk hLV
  have h2 := Hz.mk (h.new #[.int .u8 i.op, .int .i64 i.a, .int .i64 i.b, .int .i64 i.c, .int .u64 i.i] 104)
  clear h
  go_enter Tryz.func105, Tryz.ntmps105
  go_upto_region 1 with fail
  refine wp_world (fun W => MIn B W a P s (boxOb W0.heap.size #[.int .u8 i.op, .int .i64 i.a, .int .i64 i.b, .int .i64 i.c, .int .u64 i.i] :: l) ∧ Below B W0 W) h2.out ?_
  rintro W ⟨h, hB⟩
  replace h := Hz.mk h
  replace hB := Hz.mk hB
  clear h2
  generalize W0.heap.size = kb at *
  have KS : Hz (∀ V, At V kb #[.int .u8 i.op, .int .i64 i.a, .int .i64 i.b, .int .i64 i.c, .int .u64 i.i] → V.rangeAt kb 0 (Fi.vals i) ∧ V.cell? ⟨kb, 1, none⟩ = some (.int .i64 i.a) ∧ V.cell? ⟨kb, 3, none⟩ = some (.int .i64 i.c) ∧ V.cell? ⟨kb, 4, none⟩ = some (.int .u64 i.i)) := Hz.mk (fun V q => ⟨fun j v e => by rw [Nat.zero_add]; exact (q.2.1 j).trans (by simpa [Fi.vals] using e), q.2.1 1, q.2.1 3, q.2.1 4⟩)
  have hleW := h.out.le
  obtain ⟨q, hq⟩ := h.out.bx
  replace hq := Hz.mk hq
  have g0 : Gr W W.drew := (Gr.refl W).drew
  refine wp_region_held_drew (S := (fun W => W.rangeAt kb 0 (Fi.vals i) ∧ W.cell? ⟨kb, 1, none⟩ = some (.int .i64 i.a) ∧ W.cell? ⟨kb, 3, none⟩ = some (.int .i64 i.c) ∧ W.cell? ⟨kb, 4, none⟩ = some (.int .u64 i.i))) (by kernel_rfl) (KS.out _ ((h.out.there (boxOb kb #[.int .u8 i.op, .int .i64 i.a, .int .i64 i.b, .int .i64 i.c, .int .u64 i.i]) (.head _)).gr g0)) (fun hHeld => ?_)
  refine wpAnyH_take (i := 0) (oi := { dst := some 9, op := Op.move (Operand.tmp 1), type := 23, pos := "touch.go:25", after := #[], guard := none }) (v := ?_) rfl (by kernel_rfl) (by kernel_rfl) (by kernel_rfl) (fun _ _ _ h => h) (Or.inl ⟨by rfl, ?_⟩) (by assumption) ?_
  rotate_left
  · intro w hSw; (try dsimp only at hSw); go_simp; first | done | with_reducible rfl
  try simp only [Act.put, List.setIfInBounds_toArray, List.set_cons_zero, List.set_cons_succ]
  refine wpAnyH_take (i := 1) (oi := { dst := some 10, op := Op.load 104 (Operand.tmp 3), type := 104, pos := "touch.go:25", after := #[], guard := none }) (v := _) rfl (by kernel_rfl) (by kernel_rfl) (by kernel_rfl) (fun _ _ _ h => h) (yieldsIf_load_mid (by rfl) _ _ rfl _ _ rfl _ _ (fun _ h => h.1) Tryz.underlying104 rfl (by kernel_rfl)) (by assumption) ?_
  try simp only [Act.put, List.setIfInBounds_toArray, List.set_cons_zero, List.set_cons_succ]
  refine wpAnyH_take (i := 3) (oi := { dst := some 12, op := Op.fieldAddr 104 (Operand.tmp 3) 4, type := 0, pos := "touch.go:25", after := #[], guard := none }) (v := ?_) rfl (by kernel_rfl) (by kernel_rfl) (by kernel_rfl) (fun _ _ _ h => h) (Or.inl ⟨by rfl, ?_⟩) (by assumption) ?_
  rotate_left
  · intro w hSw; (try dsimp only at hSw); go_simp; first | done | with_reducible rfl
  try simp only [Act.put, List.setIfInBounds_toArray, List.set_cons_zero, List.set_cons_succ]
  refine wpAnyH_take (i := 4) (oi := { dst := some 13, op := Op.load 25 (Operand.tmp 12), type := 25, pos := "touch.go:25", after := #[{ on := 3, ground := Ground.data }], guard := none }) (v := ?_) rfl (by kernel_rfl) (by kernel_rfl) (by kernel_rfl) (fun _ _ _ h => h) (Or.inl ⟨by rfl, ?_⟩) (by assumption) ?_
  rotate_left
  · intro w hSw; (try dsimp only at hSw); go_simp; first | done | with_reducible rfl
  try simp only [Act.put, List.setIfInBounds_toArray, List.set_cons_zero, List.set_cons_succ]
  refine wpAnyH_ready (rs := [2]) (by kernel_rfl) (by simp) ?_
  refine AllReadyH.cons (o := { dst := some 11, op := Op.call { callee := Callee.value (Operand.func 97), args := #[Operand.tmp 9, Operand.tmp 10], argTypes := #[23, 104] }, type := 25, pos := "touch.go:25", after := #[{ on := 0, ground := Ground.data }, { on := 1, ground := Ground.data }], guard := none }) rfl (fun K hK => ?_) AllReadyH.nil
  go_simp
  go_wp2_with (refine (b_any a (bxOf P s q) i _ (hq.out.gr g0) hb).mono ?_; rintro r V1 ⟨rfl, gg⟩; have g1 := g0.trans gg; clear gg g0 hHeld)
  refine hK.out _ _ (KS.out _ ((h.out.there (boxOb kb #[.int .u8 i.op, .int .i64 i.a, .int .i64 i.b, .int .i64 i.c, .int .u64 i.i]) (.head _)).gr g1)) (fun hHeld => ?_)
  clear hK K
  try simp only [Act.put, List.setIfInBounds_toArray, List.set_cons_zero, List.set_cons_succ]
  refine wpAnyH_take (i := 5) (oi := { dst := some 14, op := Op.binOp BinOp.add 25 (Operand.tmp 11) (Operand.tmp 13) 25, type := 25, pos := "touch.go:25", after := #[{ on := 2, ground := Ground.data }, { on := 4, ground := Ground.data }], guard := none }) (v := ?_) rfl (by kernel_rfl) (by kernel_rfl) (by kernel_rfl) (fun _ _ _ h => h) (Or.inl ⟨by rfl, ?_⟩) (by assumption) ?_
  rotate_left
  · intro w hSw; (try dsimp only at hSw); go_simp; first | done | with_reducible rfl
  try simp only [Act.put, List.setIfInBounds_toArray, List.set_cons_zero, List.set_cons_succ]
  refine wpAnyH_take (i := 6) (oi := { dst := some 6, op := Op.assign (Operand.tmp 14), type := 25, pos := "touch.go:25", after := #[{ on := 5, ground := Ground.data }, { on := 2, ground := Ground.chain }, { on := 0, ground := Ground.phase }, { on := 1, ground := Ground.phase }, { on := 2, ground := Ground.phase }, { on := 3, ground := Ground.phase }, { on := 4, ground := Ground.phase }, { on := 5, ground := Ground.phase }], guard := none }) (v := ?_) rfl (by kernel_rfl) (by kernel_rfl) (by kernel_rfl) (fun _ _ _ h => h) (Or.inl ⟨by rfl, ?_⟩) (by assumption) ?_
  rotate_left
  · intro w hSw; (try dsimp only at hSw); go_simp; first | done | with_reducible rfl
  try simp only [Act.put, List.setIfInBounds_toArray, List.set_cons_zero, List.set_cons_succ]
  refine wpAnyH_done (by kernel_rfl) ?_ _
  clear hHeld hq
  rw [show (bxOf P s q).r = s.r from rfl]
  clear q
  replace h := Hz.mk (h.out.gro g1)
  replace hB : Hz (Below B W0 V1) := Hz.mk (hB.out.trans (g1.below.mono hleW))
  clear g1
  rw [hAD]
  clear hAD
  have ht := Hz.mk (touch_ok B V1 a P s _ false (N : Int) 16 h.out (by omega) hq9.out hl)
  go_wp2_with fail
  refine (ht.out).mono ?_
  rintro r V2 ⟨rfl, h2, hB2⟩
  replace hB : Hz (Below B W0 V2) := Hz.mk (hB.out.trans hB2)
  clear hB2
  clear h
  have h := Hz.mk h2
  clear h2
  clear ht
  obtain ⟨km, c3, FF, hF, _⟩ := h.out.onMem
  have hld := Hz.mk (T.flLoad_any FF km N 8 s.m V2 hF e7 (by decide))
  rw [hLV.out] at hld
  clear hF
  have hleW := h.out.le
  go_wp2_with fail
  refine hld.out.mono ?_
  rintro r V3 ⟨rfl, hB2⟩
  clear c3 hld
  replace h := Hz.mk (h.out.gr hB2)
  replace hB2 := hB2.mono hleW
  replace hB : Hz (Below B W0 V3) := Hz.mk (hB.out.trans hB2)
  clear hB2
  have q1 : V3.cell? ⟨kb, 1, none⟩ = some (.int .i64 i.a) := (h.out.there (boxOb kb #[.int .u8 i.op, .int .i64 i.a, .int .i64 i.b, .int .i64 i.c, .int .u64 i.i]) (.head _)).2.1 1
  have hly := Hz.mk (h.out.onBox (s' := { s with tc := s.tc ++ [⟨false, (N : Int), 16⟩], r := updR s.r i.a (LV : Nat), p := s.p + 1 }) ⟨rfl, rfl, rfl, rfl, rfl⟩ (fun q hb => lay_any a _ i.a (LV : Nat) V3 hb ha hp))
  go_wp2_with fail
  refine (hly.out).mono ?_
  rintro r V4 ⟨rfl, h2, hB2⟩
  replace hB : Hz (Below B W0 V4) := Hz.mk (hB.out.trans hB2)
  clear hB2
  clear h
  have h := Hz.mk h2
  clear h2
  go_wp2_with fail
  first | go_end0 | ((try simp only [Exit.inBlock, Exit.then]); refine bodyPost_ret (results_none rfl _ _ _) rfl ?_)
  exact ⟨rfl, h.out.drop, hB.out⟩
set_option maxRecDepth 100000 in
set_option maxHeartbeats 4000000 in
theorem loadByte_bad (B : Nat) (W0 : World) (a : Nat) (P : Pr) (s : Fm) (l : List Ob) (i : Fi) (h : MIn B W0 a P s l) (hb : i.b < 16) (hq9 : 65536 - 1 < IntKind.u64.wrap (s.r i.b + i.i)) :
    Calls Tryz.prog 85 #[.agg #[.int .u8 i.op, .int .i64 i.a, .int .i64 i.b, .int .i64 i.c, .int .u64 i.i], .pointer (some ⟨a, 0, none⟩)] W0 fun x w' => x = .returned (.tuple #[]) ∧ MIn B w' a P { s with e := 7, v := 0, f := 5 } l ∧ Below B W0 w' := by
  have hc := Hz.mk (fun W (g : MIn B W a P s (boxOb W0.heap.size #[.int .u8 i.op, .int .i64 i.a, .int .i64 i.b, .int .i64 i.c, .int .u64 i.i] :: l)) => load1_bad B W a P s _ i g hb hq9)
  have h2 := Hz.mk (h.new #[.int .u8 i.op, .int .i64 i.a, .int .i64 i.b, .int .i64 i.c, .int .u64 i.i] 104)
  clear h
  go_enter Tryz.func85, Tryz.ntmps85
  go_upto_region 1 with fail
  refine wp_world (fun W => MIn B W a P s (boxOb W0.heap.size #[.int .u8 i.op, .int .i64 i.a, .int .i64 i.b, .int .i64 i.c, .int .u64 i.i] :: l) ∧ Below B W0 W) h2.out ?_
  rintro W ⟨h, hB⟩
  replace h := Hz.mk h
  replace hB := Hz.mk hB
  clear h2
  generalize W0.heap.size = kb at *
  have KS : Hz (∀ V, At V kb #[.int .u8 i.op, .int .i64 i.a, .int .i64 i.b, .int .i64 i.c, .int .u64 i.i] → V.rangeAt kb 0 (Fi.vals i) ∧ V.cell? ⟨kb, 1, none⟩ = some (.int .i64 i.a) ∧ V.cell? ⟨kb, 3, none⟩ = some (.int .i64 i.c) ∧ V.cell? ⟨kb, 4, none⟩ = some (.int .u64 i.i)) := Hz.mk (fun V q => ⟨fun j v e => by rw [Nat.zero_add]; exact (q.2.1 j).trans (by simpa [Fi.vals] using e), q.2.1 1, q.2.1 3, q.2.1 4⟩)
  have q0 : W.cell? ⟨kb, 0, none⟩ = some (.int .u8 i.op) := (h.out.there (boxOb kb #[.int .u8 i.op, .int .i64 i.a, .int .i64 i.b, .int .i64 i.c, .int .u64 i.i]) (.head _)).2.1 0
  have q1 : W.cell? ⟨kb, 1, none⟩ = some (.int .i64 i.a) := (h.out.there (boxOb kb #[.int .u8 i.op, .int .i64 i.a, .int .i64 i.b, .int .i64 i.c, .int .u64 i.i]) (.head _)).2.1 1
  have q2 : W.cell? ⟨kb, 2, none⟩ = some (.int .i64 i.b) := (h.out.there (boxOb kb #[.int .u8 i.op, .int .i64 i.a, .int .i64 i.b, .int .i64 i.c, .int .u64 i.i]) (.head _)).2.1 2
  have q3 : W.cell? ⟨kb, 3, none⟩ = some (.int .i64 i.c) := (h.out.there (boxOb kb #[.int .u8 i.op, .int .i64 i.a, .int .i64 i.b, .int .i64 i.c, .int .u64 i.i]) (.head _)).2.1 3
  have q4 : W.cell? ⟨kb, 4, none⟩ = some (.int .u64 i.i) := (h.out.there (boxOb kb #[.int .u8 i.op, .int .i64 i.a, .int .i64 i.b, .int .i64 i.c, .int .u64 i.i]) (.head _)).2.1 4
  go_wp2_with fail
  refine (hc.out _ h.out).mono ?_
  rintro r V2 ⟨rfl, h2, hB2⟩
  replace hB : Hz (Below B W0 V2) := Hz.mk (hB.out.trans hB2)
  clear hB2
  replace h2 := Hz.mk h2
  clear h hc
  go_wp2_with fail
  first | go_end0 | ((try simp only [Exit.inBlock, Exit.then]); refine bodyPost_ret (results_none rfl _ _ _) rfl ?_)
  exact ⟨rfl, h2.out.drop, hB.out⟩
set_option maxRecDepth 100000 in
set_option maxHeartbeats 4000000 in
theorem loadByte_ok (B : Nat) (W0 : World) (a : Nat) (P : Pr) (s : Fm) (l : List Ob) (i : Fi) (h : MIn B W0 a P s l) (ha : i.a < 16) (hb : i.b < 16) (hq9 : IntKind.u64.wrap (s.r i.b + i.i) ≤ 65536 - 1) (hl : s.tc.length ≤ 1000000) (hp : s.p ≤ 1000000) :
    Calls Tryz.prog 85 #[.agg #[.int .u8 i.op, .int .i64 i.a, .int .i64 i.b, .int .i64 i.c, .int .u64 i.i], .pointer (some ⟨a, 0, none⟩)] W0 fun x w' => x = .returned (.tuple #[]) ∧ MIn B w' a P { s with tc := s.tc ++ [⟨false, IntKind.u64.wrap (s.r i.b + i.i), 1⟩], r := updR s.r i.a (T.ldV s.m (IntKind.u64.wrap (s.r i.b + i.i)).toNat 1 : Nat), p := s.p + 1 } l ∧ Below B W0 w' := by
  have hc := Hz.mk (fun W (g : MIn B W a P s (boxOb W0.heap.size #[.int .u8 i.op, .int .i64 i.a, .int .i64 i.b, .int .i64 i.c, .int .u64 i.i] :: l)) => load1_ok B W a P s _ i g ha hb hq9 hl hp)
  have h2 := Hz.mk (h.new #[.int .u8 i.op, .int .i64 i.a, .int .i64 i.b, .int .i64 i.c, .int .u64 i.i] 104)
  clear h
  go_enter Tryz.func85, Tryz.ntmps85
  go_upto_region 1 with fail
  refine wp_world (fun W => MIn B W a P s (boxOb W0.heap.size #[.int .u8 i.op, .int .i64 i.a, .int .i64 i.b, .int .i64 i.c, .int .u64 i.i] :: l) ∧ Below B W0 W) h2.out ?_
  rintro W ⟨h, hB⟩
  replace h := Hz.mk h
  replace hB := Hz.mk hB
  clear h2
  generalize W0.heap.size = kb at *
  have KS : Hz (∀ V, At V kb #[.int .u8 i.op, .int .i64 i.a, .int .i64 i.b, .int .i64 i.c, .int .u64 i.i] → V.rangeAt kb 0 (Fi.vals i) ∧ V.cell? ⟨kb, 1, none⟩ = some (.int .i64 i.a) ∧ V.cell? ⟨kb, 3, none⟩ = some (.int .i64 i.c) ∧ V.cell? ⟨kb, 4, none⟩ = some (.int .u64 i.i)) := Hz.mk (fun V q => ⟨fun j v e => by rw [Nat.zero_add]; exact (q.2.1 j).trans (by simpa [Fi.vals] using e), q.2.1 1, q.2.1 3, q.2.1 4⟩)
  have q0 : W.cell? ⟨kb, 0, none⟩ = some (.int .u8 i.op) := (h.out.there (boxOb kb #[.int .u8 i.op, .int .i64 i.a, .int .i64 i.b, .int .i64 i.c, .int .u64 i.i]) (.head _)).2.1 0
  have q1 : W.cell? ⟨kb, 1, none⟩ = some (.int .i64 i.a) := (h.out.there (boxOb kb #[.int .u8 i.op, .int .i64 i.a, .int .i64 i.b, .int .i64 i.c, .int .u64 i.i]) (.head _)).2.1 1
  have q2 : W.cell? ⟨kb, 2, none⟩ = some (.int .i64 i.b) := (h.out.there (boxOb kb #[.int .u8 i.op, .int .i64 i.a, .int .i64 i.b, .int .i64 i.c, .int .u64 i.i]) (.head _)).2.1 2
  have q3 : W.cell? ⟨kb, 3, none⟩ = some (.int .i64 i.c) := (h.out.there (boxOb kb #[.int .u8 i.op, .int .i64 i.a, .int .i64 i.b, .int .i64 i.c, .int .u64 i.i]) (.head _)).2.1 3
  have q4 : W.cell? ⟨kb, 4, none⟩ = some (.int .u64 i.i) := (h.out.there (boxOb kb #[.int .u8 i.op, .int .i64 i.a, .int .i64 i.b, .int .i64 i.c, .int .u64 i.i]) (.head _)).2.1 4
  go_wp2_with fail
  refine (hc.out _ h.out).mono ?_
  rintro r V2 ⟨rfl, h2, hB2⟩
  replace hB : Hz (Below B W0 V2) := Hz.mk (hB.out.trans hB2)
  clear hB2
  replace h2 := Hz.mk h2
  clear h hc
  go_wp2_with fail
  first | go_end0 | ((try simp only [Exit.inBlock, Exit.then]); refine bodyPost_ret (results_none rfl _ _ _) rfl ?_)
  exact ⟨rfl, h2.out.drop, hB.out⟩
set_option maxRecDepth 100000 in
set_option maxHeartbeats 4000000 in
theorem loadWord_bad (B : Nat) (W0 : World) (a : Nat) (P : Pr) (s : Fm) (l : List Ob) (i : Fi) (h : MIn B W0 a P s l) (hb : i.b < 16) (hq9 : 65536 - 8 < IntKind.u64.wrap (s.r i.b + i.i)) :
    Calls Tryz.prog 86 #[.agg #[.int .u8 i.op, .int .i64 i.a, .int .i64 i.b, .int .i64 i.c, .int .u64 i.i], .pointer (some ⟨a, 0, none⟩)] W0 fun x w' => x = .returned (.tuple #[]) ∧ MIn B w' a P { s with e := 7, v := 0, f := 5 } l ∧ Below B W0 w' := by
  have hc := Hz.mk (fun W (g : MIn B W a P s (boxOb W0.heap.size #[.int .u8 i.op, .int .i64 i.a, .int .i64 i.b, .int .i64 i.c, .int .u64 i.i] :: l)) => load8_bad B W a P s _ i g hb hq9)
  have h2 := Hz.mk (h.new #[.int .u8 i.op, .int .i64 i.a, .int .i64 i.b, .int .i64 i.c, .int .u64 i.i] 104)
  clear h
  go_enter Tryz.func86, Tryz.ntmps86
  go_upto_region 1 with fail
  refine wp_world (fun W => MIn B W a P s (boxOb W0.heap.size #[.int .u8 i.op, .int .i64 i.a, .int .i64 i.b, .int .i64 i.c, .int .u64 i.i] :: l) ∧ Below B W0 W) h2.out ?_
  rintro W ⟨h, hB⟩
  replace h := Hz.mk h
  replace hB := Hz.mk hB
  clear h2
  generalize W0.heap.size = kb at *
  have KS : Hz (∀ V, At V kb #[.int .u8 i.op, .int .i64 i.a, .int .i64 i.b, .int .i64 i.c, .int .u64 i.i] → V.rangeAt kb 0 (Fi.vals i) ∧ V.cell? ⟨kb, 1, none⟩ = some (.int .i64 i.a) ∧ V.cell? ⟨kb, 3, none⟩ = some (.int .i64 i.c) ∧ V.cell? ⟨kb, 4, none⟩ = some (.int .u64 i.i)) := Hz.mk (fun V q => ⟨fun j v e => by rw [Nat.zero_add]; exact (q.2.1 j).trans (by simpa [Fi.vals] using e), q.2.1 1, q.2.1 3, q.2.1 4⟩)
  have q0 : W.cell? ⟨kb, 0, none⟩ = some (.int .u8 i.op) := (h.out.there (boxOb kb #[.int .u8 i.op, .int .i64 i.a, .int .i64 i.b, .int .i64 i.c, .int .u64 i.i]) (.head _)).2.1 0
  have q1 : W.cell? ⟨kb, 1, none⟩ = some (.int .i64 i.a) := (h.out.there (boxOb kb #[.int .u8 i.op, .int .i64 i.a, .int .i64 i.b, .int .i64 i.c, .int .u64 i.i]) (.head _)).2.1 1
  have q2 : W.cell? ⟨kb, 2, none⟩ = some (.int .i64 i.b) := (h.out.there (boxOb kb #[.int .u8 i.op, .int .i64 i.a, .int .i64 i.b, .int .i64 i.c, .int .u64 i.i]) (.head _)).2.1 2
  have q3 : W.cell? ⟨kb, 3, none⟩ = some (.int .i64 i.c) := (h.out.there (boxOb kb #[.int .u8 i.op, .int .i64 i.a, .int .i64 i.b, .int .i64 i.c, .int .u64 i.i]) (.head _)).2.1 3
  have q4 : W.cell? ⟨kb, 4, none⟩ = some (.int .u64 i.i) := (h.out.there (boxOb kb #[.int .u8 i.op, .int .i64 i.a, .int .i64 i.b, .int .i64 i.c, .int .u64 i.i]) (.head _)).2.1 4
  go_wp2_with fail
  refine (hc.out _ h.out).mono ?_
  rintro r V2 ⟨rfl, h2, hB2⟩
  replace hB : Hz (Below B W0 V2) := Hz.mk (hB.out.trans hB2)
  clear hB2
  replace h2 := Hz.mk h2
  clear h hc
  go_wp2_with fail
  first | go_end0 | ((try simp only [Exit.inBlock, Exit.then]); refine bodyPost_ret (results_none rfl _ _ _) rfl ?_)
  exact ⟨rfl, h2.out.drop, hB.out⟩
set_option maxRecDepth 100000 in
set_option maxHeartbeats 4000000 in
theorem loadWord_ok (B : Nat) (W0 : World) (a : Nat) (P : Pr) (s : Fm) (l : List Ob) (i : Fi) (h : MIn B W0 a P s l) (ha : i.a < 16) (hb : i.b < 16) (hq9 : IntKind.u64.wrap (s.r i.b + i.i) ≤ 65536 - 8) (hl : s.tc.length ≤ 1000000) (hp : s.p ≤ 1000000) :
    Calls Tryz.prog 86 #[.agg #[.int .u8 i.op, .int .i64 i.a, .int .i64 i.b, .int .i64 i.c, .int .u64 i.i], .pointer (some ⟨a, 0, none⟩)] W0 fun x w' => x = .returned (.tuple #[]) ∧ MIn B w' a P { s with tc := s.tc ++ [⟨false, IntKind.u64.wrap (s.r i.b + i.i), 8⟩], r := updR s.r i.a (T.ldV s.m (IntKind.u64.wrap (s.r i.b + i.i)).toNat 8 : Nat), p := s.p + 1 } l ∧ Below B W0 w' := by
  have hc := Hz.mk (fun W (g : MIn B W a P s (boxOb W0.heap.size #[.int .u8 i.op, .int .i64 i.a, .int .i64 i.b, .int .i64 i.c, .int .u64 i.i] :: l)) => load8_ok B W a P s _ i g ha hb hq9 hl hp)
  have h2 := Hz.mk (h.new #[.int .u8 i.op, .int .i64 i.a, .int .i64 i.b, .int .i64 i.c, .int .u64 i.i] 104)
  clear h
  go_enter Tryz.func86, Tryz.ntmps86
  go_upto_region 1 with fail
  refine wp_world (fun W => MIn B W a P s (boxOb W0.heap.size #[.int .u8 i.op, .int .i64 i.a, .int .i64 i.b, .int .i64 i.c, .int .u64 i.i] :: l) ∧ Below B W0 W) h2.out ?_
  rintro W ⟨h, hB⟩
  replace h := Hz.mk h
  replace hB := Hz.mk hB
  clear h2
  generalize W0.heap.size = kb at *
  have KS : Hz (∀ V, At V kb #[.int .u8 i.op, .int .i64 i.a, .int .i64 i.b, .int .i64 i.c, .int .u64 i.i] → V.rangeAt kb 0 (Fi.vals i) ∧ V.cell? ⟨kb, 1, none⟩ = some (.int .i64 i.a) ∧ V.cell? ⟨kb, 3, none⟩ = some (.int .i64 i.c) ∧ V.cell? ⟨kb, 4, none⟩ = some (.int .u64 i.i)) := Hz.mk (fun V q => ⟨fun j v e => by rw [Nat.zero_add]; exact (q.2.1 j).trans (by simpa [Fi.vals] using e), q.2.1 1, q.2.1 3, q.2.1 4⟩)
  have q0 : W.cell? ⟨kb, 0, none⟩ = some (.int .u8 i.op) := (h.out.there (boxOb kb #[.int .u8 i.op, .int .i64 i.a, .int .i64 i.b, .int .i64 i.c, .int .u64 i.i]) (.head _)).2.1 0
  have q1 : W.cell? ⟨kb, 1, none⟩ = some (.int .i64 i.a) := (h.out.there (boxOb kb #[.int .u8 i.op, .int .i64 i.a, .int .i64 i.b, .int .i64 i.c, .int .u64 i.i]) (.head _)).2.1 1
  have q2 : W.cell? ⟨kb, 2, none⟩ = some (.int .i64 i.b) := (h.out.there (boxOb kb #[.int .u8 i.op, .int .i64 i.a, .int .i64 i.b, .int .i64 i.c, .int .u64 i.i]) (.head _)).2.1 2
  have q3 : W.cell? ⟨kb, 3, none⟩ = some (.int .i64 i.c) := (h.out.there (boxOb kb #[.int .u8 i.op, .int .i64 i.a, .int .i64 i.b, .int .i64 i.c, .int .u64 i.i]) (.head _)).2.1 3
  have q4 : W.cell? ⟨kb, 4, none⟩ = some (.int .u64 i.i) := (h.out.there (boxOb kb #[.int .u8 i.op, .int .i64 i.a, .int .i64 i.b, .int .i64 i.c, .int .u64 i.i]) (.head _)).2.1 4
  go_wp2_with fail
  refine (hc.out _ h.out).mono ?_
  rintro r V2 ⟨rfl, h2, hB2⟩
  replace hB : Hz (Below B W0 V2) := Hz.mk (hB.out.trans hB2)
  clear hB2
  replace h2 := Hz.mk h2
  clear h hc
  go_wp2_with fail
  first | go_end0 | ((try simp only [Exit.inBlock, Exit.then]); refine bodyPost_ret (results_none rfl _ _ _) rfl ?_)
  exact ⟨rfl, h2.out.drop, hB.out⟩
set_option maxRecDepth 100000 in
set_option maxHeartbeats 4000000 in
theorem loadGranule_bad (B : Nat) (W0 : World) (a : Nat) (P : Pr) (s : Fm) (l : List Ob) (i : Fi) (h : MIn B W0 a P s l) (hb : i.b < 16) (hq9 : 65536 - 16 < IntKind.u64.wrap (s.r i.b + i.i)) :
    Calls Tryz.prog 89 #[.agg #[.int .u8 i.op, .int .i64 i.a, .int .i64 i.b, .int .i64 i.c, .int .u64 i.i], .pointer (some ⟨a, 0, none⟩)] W0 fun x w' => x = .returned (.tuple #[]) ∧ MIn B w' a P { s with e := 7, v := 0, f := 5 } l ∧ Below B W0 w' := by
  have hc := Hz.mk (fun W (g : MIn B W a P s (boxOb W0.heap.size #[.int .u8 i.op, .int .i64 i.a, .int .i64 i.b, .int .i64 i.c, .int .u64 i.i] :: l)) => load16_bad B W a P s _ i g hb hq9)
  have h2 := Hz.mk (h.new #[.int .u8 i.op, .int .i64 i.a, .int .i64 i.b, .int .i64 i.c, .int .u64 i.i] 104)
  clear h
  go_enter Tryz.func89, Tryz.ntmps89
  go_upto_region 1 with fail
  refine wp_world (fun W => MIn B W a P s (boxOb W0.heap.size #[.int .u8 i.op, .int .i64 i.a, .int .i64 i.b, .int .i64 i.c, .int .u64 i.i] :: l) ∧ Below B W0 W) h2.out ?_
  rintro W ⟨h, hB⟩
  replace h := Hz.mk h
  replace hB := Hz.mk hB
  clear h2
  generalize W0.heap.size = kb at *
  have KS : Hz (∀ V, At V kb #[.int .u8 i.op, .int .i64 i.a, .int .i64 i.b, .int .i64 i.c, .int .u64 i.i] → V.rangeAt kb 0 (Fi.vals i) ∧ V.cell? ⟨kb, 1, none⟩ = some (.int .i64 i.a) ∧ V.cell? ⟨kb, 3, none⟩ = some (.int .i64 i.c) ∧ V.cell? ⟨kb, 4, none⟩ = some (.int .u64 i.i)) := Hz.mk (fun V q => ⟨fun j v e => by rw [Nat.zero_add]; exact (q.2.1 j).trans (by simpa [Fi.vals] using e), q.2.1 1, q.2.1 3, q.2.1 4⟩)
  have q0 : W.cell? ⟨kb, 0, none⟩ = some (.int .u8 i.op) := (h.out.there (boxOb kb #[.int .u8 i.op, .int .i64 i.a, .int .i64 i.b, .int .i64 i.c, .int .u64 i.i]) (.head _)).2.1 0
  have q1 : W.cell? ⟨kb, 1, none⟩ = some (.int .i64 i.a) := (h.out.there (boxOb kb #[.int .u8 i.op, .int .i64 i.a, .int .i64 i.b, .int .i64 i.c, .int .u64 i.i]) (.head _)).2.1 1
  have q2 : W.cell? ⟨kb, 2, none⟩ = some (.int .i64 i.b) := (h.out.there (boxOb kb #[.int .u8 i.op, .int .i64 i.a, .int .i64 i.b, .int .i64 i.c, .int .u64 i.i]) (.head _)).2.1 2
  have q3 : W.cell? ⟨kb, 3, none⟩ = some (.int .i64 i.c) := (h.out.there (boxOb kb #[.int .u8 i.op, .int .i64 i.a, .int .i64 i.b, .int .i64 i.c, .int .u64 i.i]) (.head _)).2.1 3
  have q4 : W.cell? ⟨kb, 4, none⟩ = some (.int .u64 i.i) := (h.out.there (boxOb kb #[.int .u8 i.op, .int .i64 i.a, .int .i64 i.b, .int .i64 i.c, .int .u64 i.i]) (.head _)).2.1 4
  go_wp2_with fail
  refine (hc.out _ h.out).mono ?_
  rintro r V2 ⟨rfl, h2, hB2⟩
  replace hB : Hz (Below B W0 V2) := Hz.mk (hB.out.trans hB2)
  clear hB2
  replace h2 := Hz.mk h2
  clear h hc
  go_wp2_with fail
  first | go_end0 | ((try simp only [Exit.inBlock, Exit.then]); refine bodyPost_ret (results_none rfl _ _ _) rfl ?_)
  exact ⟨rfl, h2.out.drop, hB.out⟩
set_option maxRecDepth 100000 in
set_option maxHeartbeats 4000000 in
theorem loadGranule_ok (B : Nat) (W0 : World) (a : Nat) (P : Pr) (s : Fm) (l : List Ob) (i : Fi) (h : MIn B W0 a P s l) (ha : i.a < 16) (hb : i.b < 16) (hq9 : IntKind.u64.wrap (s.r i.b + i.i) ≤ 65536 - 16) (hl : s.tc.length ≤ 1000000) (hp : s.p ≤ 1000000) :
    Calls Tryz.prog 89 #[.agg #[.int .u8 i.op, .int .i64 i.a, .int .i64 i.b, .int .i64 i.c, .int .u64 i.i], .pointer (some ⟨a, 0, none⟩)] W0 fun x w' => x = .returned (.tuple #[]) ∧ MIn B w' a P { s with tc := s.tc ++ [⟨false, IntKind.u64.wrap (s.r i.b + i.i), 16⟩], r := updR s.r i.a (T.ldV s.m (IntKind.u64.wrap (s.r i.b + i.i)).toNat 8 : Nat), p := s.p + 1 } l ∧ Below B W0 w' := by
  have hc := Hz.mk (fun W (g : MIn B W a P s (boxOb W0.heap.size #[.int .u8 i.op, .int .i64 i.a, .int .i64 i.b, .int .i64 i.c, .int .u64 i.i] :: l)) => load16_ok B W a P s _ i g ha hb hq9 hl hp)
  have h2 := Hz.mk (h.new #[.int .u8 i.op, .int .i64 i.a, .int .i64 i.b, .int .i64 i.c, .int .u64 i.i] 104)
  clear h
  go_enter Tryz.func89, Tryz.ntmps89
  go_upto_region 1 with fail
  refine wp_world (fun W => MIn B W a P s (boxOb W0.heap.size #[.int .u8 i.op, .int .i64 i.a, .int .i64 i.b, .int .i64 i.c, .int .u64 i.i] :: l) ∧ Below B W0 W) h2.out ?_
  rintro W ⟨h, hB⟩
  replace h := Hz.mk h
  replace hB := Hz.mk hB
  clear h2
  generalize W0.heap.size = kb at *
  have KS : Hz (∀ V, At V kb #[.int .u8 i.op, .int .i64 i.a, .int .i64 i.b, .int .i64 i.c, .int .u64 i.i] → V.rangeAt kb 0 (Fi.vals i) ∧ V.cell? ⟨kb, 1, none⟩ = some (.int .i64 i.a) ∧ V.cell? ⟨kb, 3, none⟩ = some (.int .i64 i.c) ∧ V.cell? ⟨kb, 4, none⟩ = some (.int .u64 i.i)) := Hz.mk (fun V q => ⟨fun j v e => by rw [Nat.zero_add]; exact (q.2.1 j).trans (by simpa [Fi.vals] using e), q.2.1 1, q.2.1 3, q.2.1 4⟩)
  have q0 : W.cell? ⟨kb, 0, none⟩ = some (.int .u8 i.op) := (h.out.there (boxOb kb #[.int .u8 i.op, .int .i64 i.a, .int .i64 i.b, .int .i64 i.c, .int .u64 i.i]) (.head _)).2.1 0
  have q1 : W.cell? ⟨kb, 1, none⟩ = some (.int .i64 i.a) := (h.out.there (boxOb kb #[.int .u8 i.op, .int .i64 i.a, .int .i64 i.b, .int .i64 i.c, .int .u64 i.i]) (.head _)).2.1 1
  have q2 : W.cell? ⟨kb, 2, none⟩ = some (.int .i64 i.b) := (h.out.there (boxOb kb #[.int .u8 i.op, .int .i64 i.a, .int .i64 i.b, .int .i64 i.c, .int .u64 i.i]) (.head _)).2.1 2
  have q3 : W.cell? ⟨kb, 3, none⟩ = some (.int .i64 i.c) := (h.out.there (boxOb kb #[.int .u8 i.op, .int .i64 i.a, .int .i64 i.b, .int .i64 i.c, .int .u64 i.i]) (.head _)).2.1 3
  have q4 : W.cell? ⟨kb, 4, none⟩ = some (.int .u64 i.i) := (h.out.there (boxOb kb #[.int .u8 i.op, .int .i64 i.a, .int .i64 i.b, .int .i64 i.c, .int .u64 i.i]) (.head _)).2.1 4
  go_wp2_with fail
  refine (hc.out _ h.out).mono ?_
  rintro r V2 ⟨rfl, h2, hB2⟩
  replace hB : Hz (Below B W0 V2) := Hz.mk (hB.out.trans hB2)
  clear hB2
  replace h2 := Hz.mk h2
  clear h hc
  go_wp2_with fail
  first | go_end0 | ((try simp only [Exit.inBlock, Exit.then]); refine bodyPost_ret (results_none rfl _ _ _) rfl ?_)
  exact ⟨rfl, h2.out.drop, hB.out⟩
end Z
end Go.Proofs.YtijmjmefdedojaaGreat
