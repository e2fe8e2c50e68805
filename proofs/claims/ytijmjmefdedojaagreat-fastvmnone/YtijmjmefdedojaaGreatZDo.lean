/-
  Stage 13, fastvm: one instruction is done.
-/
import Derived.Test.YtijmjmefdedojaaGreatZIO
import Derived.Test.YtijmjmefdedojaaGreatZLoad
import Derived.Test.YtijmjmefdedojaaGreatZStor
namespace Go.Proofs.YtijmjmefdedojaaGreat
namespace Z
open Go.RowKit
open T (Sep Ob Kp Mf FlIn boxOb)

theorem MIn.codeAt {B : Nat} {W : World} {a : Nat} {P : Pr} {s : Fm} {l : List Ob} (h : MIn B W a P s l) (hg : s.g < P.code.length) : ∃ g0 gk c0 ck, W.cell? ⟨a, 0, none⟩ = some (.slice (some ⟨g0, 0, none⟩) P.code.length c0) ∧ W.cell? ⟨a, 4, none⟩ = some (.int .i64 s.g) ∧ W.cell? ⟨a, 5, none⟩ = some (.int .i64 s.p) ∧ W.cell? ⟨g0, s.g, none⟩ = some (.slice (some ⟨gk, 0, none⟩) P.code[s.g].length ck) ∧ ∀ j (hj : j < P.code[s.g].length), W.cell? ⟨gk, j, none⟩ = some (methV P.code[s.g][j]) := by
  obtain ⟨⟨q, h1⟩, le⟩ := h
  have hb := h1.ins (bxOb a (bxOf P s q)) (by simp [obs])
  obtain ⟨g0, gk, c0, ck, e1, _, e3, _, e5⟩ := (h1.ins (pgOb q.SP q.cv q.gv P) (by simp [obs])).code s.g hg
  exact ⟨g0, gk, c0, ck, by rw [← e1]; exact hb.at_ 0 (by omega), hb.at_ 4 (by omega), hb.at_ 5 (by omega), e3, e5⟩
set_option maxRecDepth 100000 in
set_option maxHeartbeats 4000000 in
theorem do_out (B : Nat) (W : World) (a : Nat) (P : Pr) (s : Fm) (l : List Ob) (h : MIn B W a P s l) (hg : s.g < P.code.length) (hp : P.code[s.g].length ≤ s.p) :
    Calls Tryz.prog 37 #[.pointer (some ⟨a, 0, none⟩)] W fun x w' => x = .returned (.tuple #[]) ∧ MIn B w' a P { s with e := 7, v := 0, f := 8 } l ∧ Below B W w' := by
  have hpi : (P.code[s.g].length : Int) ≤ (s.p : Int) := Int.ofNat_le.2 hp
  have hle := h.le
  replace h := h.gro (Gr.refl W).drew
  obtain ⟨g0, gk, c0, ck, k0, k4, k5, kr, km⟩ := h.codeAt hg
  have hgi : (s.g : Int) < (P.code.length : Int) := Int.ofNat_lt.2 hg
  have hB : Hz (Below B W W.drew) := Hz.mk ((Below.refl B W).drew)
  go_enter Tryz.func37, Tryz.ntmps37
  go_upto_region 0 with fail
  refine wp_region_held_drew (S := (fun W => W.cell? ⟨a, 0, none⟩ = some (.slice (some ⟨g0, 0, none⟩) P.code.length c0) ∧ W.cell? ⟨a, 4, none⟩ = some (.int .i64 s.g) ∧ W.cell? ⟨g0, s.g, none⟩ = some (.slice (some ⟨gk, 0, none⟩) P.code[s.g].length ck))) (by kernel_rfl) (⟨k0, k4, kr⟩) (fun hHeld => ?_)
  refine wpAnyH_take (i := 0) (oi := { dst := some 3, op := Op.move (Operand.tmp 0), type := 23, pos := "step.go:28", after := #[], guard := none }) (v := ?_) rfl (by kernel_rfl) (by kernel_rfl) (by kernel_rfl) (fun _ _ _ h => h) (Or.inl ⟨by rfl, ?_⟩) (by assumption) ?_
  rotate_left
  · intro w hSw; (try dsimp only at hSw); go_simp; first | done | with_reducible rfl
  try simp only [Act.put, List.setIfInBounds_toArray, List.set_cons_zero, List.set_cons_succ]
  refine wpAnyH_take (i := 1) (oi := { dst := some 4, op := Op.nilCheck (Operand.tmp 3), type := 0, pos := "step.go:28", after := #[{ on := 0, ground := Ground.data }], guard := none }) (v := ?_) rfl (by kernel_rfl) (by kernel_rfl) (by kernel_rfl) (fun _ _ _ h => h) (Or.inl ⟨by rfl, ?_⟩) (by assumption) ?_
  rotate_left
  · intro w hSw; (try dsimp only at hSw); go_simp; first | done | with_reducible rfl
  try simp only [Act.put, List.setIfInBounds_toArray, List.set_cons_zero, List.set_cons_succ]
  refine wpAnyH_take (i := 2) (oi := { dst := some 5, op := Op.fieldAddr 73 (Operand.tmp 4) 0, type := 0, pos := "step.go:28", after := #[{ on := 1, ground := Ground.data }], guard := none }) (v := ?_) rfl (by kernel_rfl) (by kernel_rfl) (by kernel_rfl) (fun _ _ _ h => h) (Or.inl ⟨by rfl, ?_⟩) (by assumption) ?_
  rotate_left
  · intro w hSw; (try dsimp only at hSw); go_simp; first | done | with_reducible rfl
  try simp only [Act.put, List.setIfInBounds_toArray, List.set_cons_zero, List.set_cons_succ]
  refine wpAnyH_take (i := 3) (oi := { dst := some 6, op := Op.load 67 (Operand.tmp 5), type := 67, pos := "step.go:28", after := #[{ on := 2, ground := Ground.data }], guard := none }) (v := ?_) rfl (by kernel_rfl) (by kernel_rfl) (by kernel_rfl) (fun _ _ _ h => h) (Or.inl ⟨by rfl, ?_⟩) (by assumption) ?_
  rotate_left
  · intro w hSw; (try dsimp only at hSw); go_simp; first | done | with_reducible rfl
  try simp only [Act.put, List.setIfInBounds_toArray, List.set_cons_zero, List.set_cons_succ]
  refine wpAnyH_take (i := 4) (oi := { dst := some 7, op := Op.move (Operand.tmp 0), type := 23, pos := "step.go:28", after := #[], guard := none }) (v := ?_) rfl (by kernel_rfl) (by kernel_rfl) (by kernel_rfl) (fun _ _ _ h => h) (Or.inl ⟨by rfl, ?_⟩) (by assumption) ?_
  rotate_left
  · intro w hSw; (try dsimp only at hSw); go_simp; first | done | with_reducible rfl
  try simp only [Act.put, List.setIfInBounds_toArray, List.set_cons_zero, List.set_cons_succ]
  refine wpAnyH_take (i := 5) (oi := { dst := some 8, op := Op.nilCheck (Operand.tmp 7), type := 0, pos := "step.go:28", after := #[{ on := 4, ground := Ground.data }], guard := none }) (v := ?_) rfl (by kernel_rfl) (by kernel_rfl) (by kernel_rfl) (fun _ _ _ h => h) (Or.inl ⟨by rfl, ?_⟩) (by assumption) ?_
  rotate_left
  · intro w hSw; (try dsimp only at hSw); go_simp; first | done | with_reducible rfl
  try simp only [Act.put, List.setIfInBounds_toArray, List.set_cons_zero, List.set_cons_succ]
  refine wpAnyH_take (i := 6) (oi := { dst := some 9, op := Op.fieldAddr 73 (Operand.tmp 8) 4, type := 0, pos := "step.go:28", after := #[{ on := 5, ground := Ground.data }], guard := none }) (v := ?_) rfl (by kernel_rfl) (by kernel_rfl) (by kernel_rfl) (fun _ _ _ h => h) (Or.inl ⟨by rfl, ?_⟩) (by assumption) ?_
  rotate_left
  · intro w hSw; (try dsimp only at hSw); go_simp; first | done | with_reducible rfl
  try simp only [Act.put, List.setIfInBounds_toArray, List.set_cons_zero, List.set_cons_succ]
  refine wpAnyH_take (i := 7) (oi := { dst := some 10, op := Op.fieldAddr 70 (Operand.tmp 9) 0, type := 0, pos := "step.go:28", after := #[{ on := 6, ground := Ground.data }], guard := none }) (v := ?_) rfl (by kernel_rfl) (by kernel_rfl) (by kernel_rfl) (fun _ _ _ h => h) (Or.inl ⟨by rfl, ?_⟩) (by assumption) ?_
  rotate_left
  · intro w hSw; (try dsimp only at hSw); go_simp; first | done | with_reducible rfl
  try simp only [Act.put, List.setIfInBounds_toArray, List.set_cons_zero, List.set_cons_succ]
  refine wpAnyH_take (i := 8) (oi := { dst := some 11, op := Op.load 3 (Operand.tmp 10), type := 3, pos := "step.go:28", after := #[{ on := 7, ground := Ground.data }], guard := none }) (v := ?_) rfl (by kernel_rfl) (by kernel_rfl) (by kernel_rfl) (fun _ _ _ h => h) (Or.inl ⟨by rfl, ?_⟩) (by assumption) ?_
  rotate_left
  · intro w hSw; (try dsimp only at hSw); go_simp; first | done | with_reducible rfl
  try simp only [Act.put, List.setIfInBounds_toArray, List.set_cons_zero, List.set_cons_succ]
  refine wpAnyH_take (i := 9) (oi := { dst := some 12, op := Op.indexAddr 67 (Operand.tmp 6) (Operand.tmp 11), type := 0, pos := "step.go:28", after := #[{ on := 3, ground := Ground.data }, { on := 8, ground := Ground.data }], guard := none }) (v := ?_) rfl (by kernel_rfl) (by kernel_rfl) (by kernel_rfl) (fun _ _ _ h => h) (Or.inl ⟨by rfl, ?_⟩) (by assumption) ?_
  rotate_left
  · intro w hSw; (try dsimp only at hSw); go_simp; first | done | with_reducible rfl
  try simp only [Act.put, List.setIfInBounds_toArray, List.set_cons_zero, List.set_cons_succ]
  refine wpAnyH_take (i := 10) (oi := { dst := some 13, op := Op.load 96 (Operand.tmp 12), type := 96, pos := "step.go:28", after := #[{ on := 9, ground := Ground.data }], guard := none }) (v := ?_) rfl (by kernel_rfl) (by kernel_rfl) (by kernel_rfl) (fun _ _ _ h => h) (Or.inl ⟨by rfl, ?_⟩) (by assumption) ?_
  rotate_left
  · intro w hSw; (try dsimp only at hSw); go_simp; first | done | with_reducible rfl
  try simp only [Act.put, List.setIfInBounds_toArray, List.set_cons_zero, List.set_cons_succ]
  refine wpAnyH_take (i := 11) (oi := { dst := some 2, op := Op.assign (Operand.tmp 13), type := 96, pos := "step.go:28", after := #[{ on := 10, ground := Ground.data }, { on := 0, ground := Ground.phase }, { on := 1, ground := Ground.phase }, { on := 2, ground := Ground.phase }, { on := 3, ground := Ground.phase }, { on := 4, ground := Ground.phase }, { on := 5, ground := Ground.phase }, { on := 6, ground := Ground.phase }, { on := 7, ground := Ground.phase }, { on := 8, ground := Ground.phase }, { on := 9, ground := Ground.phase }, { on := 10, ground := Ground.phase }], guard := none }) (v := ?_) rfl (by kernel_rfl) (by kernel_rfl) (by kernel_rfl) (fun _ _ _ h => h) (Or.inl ⟨by rfl, ?_⟩) (by assumption) ?_
  rotate_left
  · intro w hSw; (try dsimp only at hSw); go_simp; first | done | with_reducible rfl
  try simp only [Act.put, List.setIfInBounds_toArray, List.set_cons_zero, List.set_cons_succ]
  refine wpAnyH_done (by kernel_rfl) ?_ _
  clear hHeld
  generalize W.drew = V at *
  clear k0 k4 kr
  have hf := Hz.mk (h.onBox (s' := { s with e := 7, v := 0, f := 8 }) ⟨rfl, rfl, rfl, rfl, rfl⟩ (fun q hb => fail_any a _ 8 _ hb))
  replace h := Hz.mk h
  replace km := Hz.mk km
  go_wp2_with fail
  refine hf.out.mono ?_
  rintro r V2 ⟨rfl, h2, hB2⟩
  replace h2 := Hz.mk h2
  go_wp2_with fail
  first | go_end0 | ((try simp only [Exit.inBlock, Exit.then]); refine bodyPost_ret (results_none rfl _ _ _) rfl ?_)
  exact ⟨rfl, h2.out, hB.out.trans hB2⟩
set_option maxRecDepth 100000 in
set_option maxHeartbeats 4000000 in
theorem do_ok (B : Nat) (W : World) (a : Nat) (P : Pr) (s : Fm) (l : List Ob) (s' : Fm) (h : MIn B W a P s l) (hg : s.g < P.code.length) (hp : s.p < P.code[s.g].length) (hE : ∀ args w, (callFunc (methF P.code[s.g][s.p].op) args).run Tryz.prog w = .ok (.enter (methF P.code[s.g][s.p].op) args) w) (hI : ∀ V, MIn B V a P s l → Calls Tryz.prog (methF P.code[s.g][s.p].op) #[.agg #[.int .u8 P.code[s.g][s.p].op, .int .i64 P.code[s.g][s.p].a, .int .i64 P.code[s.g][s.p].b, .int .i64 P.code[s.g][s.p].c, .int .u64 P.code[s.g][s.p].i], .pointer (some ⟨a, 0, none⟩)] V fun x w' => x = .returned (.tuple #[]) ∧ MIn B w' a P s' l ∧ Below B V w') :
    Calls Tryz.prog 37 #[.pointer (some ⟨a, 0, none⟩)] W fun x w' => x = .returned (.tuple #[]) ∧ MIn B w' a P s' l ∧ Below B W w' := by
  have hpi : (s.p : Int) < (P.code[s.g].length : Int) := Int.ofNat_lt.2 hp
  have hpj : ¬ (P.code[s.g].length : Int) ≤ (s.p : Int) := by omega
  have hle := h.le
  replace h := h.gro (Gr.refl W).drew
  obtain ⟨g0, gk, c0, ck, k0, k4, k5, kr, km⟩ := h.codeAt hg
  have hgi : (s.g : Int) < (P.code.length : Int) := Int.ofNat_lt.2 hg
  have hB : Hz (Below B W W.drew) := Hz.mk ((Below.refl B W).drew)
  go_enter Tryz.func37, Tryz.ntmps37
  go_upto_region 0 with fail
  refine wp_region_held_drew (S := (fun W => W.cell? ⟨a, 0, none⟩ = some (.slice (some ⟨g0, 0, none⟩) P.code.length c0) ∧ W.cell? ⟨a, 4, none⟩ = some (.int .i64 s.g) ∧ W.cell? ⟨g0, s.g, none⟩ = some (.slice (some ⟨gk, 0, none⟩) P.code[s.g].length ck))) (by kernel_rfl) (⟨k0, k4, kr⟩) (fun hHeld => ?_)
  refine wpAnyH_take (i := 0) (oi := { dst := some 3, op := Op.move (Operand.tmp 0), type := 23, pos := "step.go:28", after := #[], guard := none }) (v := ?_) rfl (by kernel_rfl) (by kernel_rfl) (by kernel_rfl) (fun _ _ _ h => h) (Or.inl ⟨by rfl, ?_⟩) (by assumption) ?_
  rotate_left
  · intro w hSw; (try dsimp only at hSw); go_simp; first | done | with_reducible rfl
  try simp only [Act.put, List.setIfInBounds_toArray, List.set_cons_zero, List.set_cons_succ]
  refine wpAnyH_take (i := 1) (oi := { dst := some 4, op := Op.nilCheck (Operand.tmp 3), type := 0, pos := "step.go:28", after := #[{ on := 0, ground := Ground.data }], guard := none }) (v := ?_) rfl (by kernel_rfl) (by kernel_rfl) (by kernel_rfl) (fun _ _ _ h => h) (Or.inl ⟨by rfl, ?_⟩) (by assumption) ?_
  rotate_left
  · intro w hSw; (try dsimp only at hSw); go_simp; first | done | with_reducible rfl
  try simp only [Act.put, List.setIfInBounds_toArray, List.set_cons_zero, List.set_cons_succ]
  refine wpAnyH_take (i := 2) (oi := { dst := some 5, op := Op.fieldAddr 73 (Operand.tmp 4) 0, type := 0, pos := "step.go:28", after := #[{ on := 1, ground := Ground.data }], guard := none }) (v := ?_) rfl (by kernel_rfl) (by kernel_rfl) (by kernel_rfl) (fun _ _ _ h => h) (Or.inl ⟨by rfl, ?_⟩) (by assumption) ?_
  rotate_left
  · intro w hSw; (try dsimp only at hSw); go_simp; first | done | with_reducible rfl
  try simp only [Act.put, List.setIfInBounds_toArray, List.set_cons_zero, List.set_cons_succ]
  refine wpAnyH_take (i := 3) (oi := { dst := some 6, op := Op.load 67 (Operand.tmp 5), type := 67, pos := "step.go:28", after := #[{ on := 2, ground := Ground.data }], guard := none }) (v := ?_) rfl (by kernel_rfl) (by kernel_rfl) (by kernel_rfl) (fun _ _ _ h => h) (Or.inl ⟨by rfl, ?_⟩) (by assumption) ?_
  rotate_left
  · intro w hSw; (try dsimp only at hSw); go_simp; first | done | with_reducible rfl
  try simp only [Act.put, List.setIfInBounds_toArray, List.set_cons_zero, List.set_cons_succ]
  refine wpAnyH_take (i := 4) (oi := { dst := some 7, op := Op.move (Operand.tmp 0), type := 23, pos := "step.go:28", after := #[], guard := none }) (v := ?_) rfl (by kernel_rfl) (by kernel_rfl) (by kernel_rfl) (fun _ _ _ h => h) (Or.inl ⟨by rfl, ?_⟩) (by assumption) ?_
  rotate_left
  · intro w hSw; (try dsimp only at hSw); go_simp; first | done | with_reducible rfl
  try simp only [Act.put, List.setIfInBounds_toArray, List.set_cons_zero, List.set_cons_succ]
  refine wpAnyH_take (i := 5) (oi := { dst := some 8, op := Op.nilCheck (Operand.tmp 7), type := 0, pos := "step.go:28", after := #[{ on := 4, ground := Ground.data }], guard := none }) (v := ?_) rfl (by kernel_rfl) (by kernel_rfl) (by kernel_rfl) (fun _ _ _ h => h) (Or.inl ⟨by rfl, ?_⟩) (by assumption) ?_
  rotate_left
  · intro w hSw; (try dsimp only at hSw); go_simp; first | done | with_reducible rfl
  try simp only [Act.put, List.setIfInBounds_toArray, List.set_cons_zero, List.set_cons_succ]
  refine wpAnyH_take (i := 6) (oi := { dst := some 9, op := Op.fieldAddr 73 (Operand.tmp 8) 4, type := 0, pos := "step.go:28", after := #[{ on := 5, ground := Ground.data }], guard := none }) (v := ?_) rfl (by kernel_rfl) (by kernel_rfl) (by kernel_rfl) (fun _ _ _ h => h) (Or.inl ⟨by rfl, ?_⟩) (by assumption) ?_
  rotate_left
  · intro w hSw; (try dsimp only at hSw); go_simp; first | done | with_reducible rfl
  try simp only [Act.put, List.setIfInBounds_toArray, List.set_cons_zero, List.set_cons_succ]
  refine wpAnyH_take (i := 7) (oi := { dst := some 10, op := Op.fieldAddr 70 (Operand.tmp 9) 0, type := 0, pos := "step.go:28", after := #[{ on := 6, ground := Ground.data }], guard := none }) (v := ?_) rfl (by kernel_rfl) (by kernel_rfl) (by kernel_rfl) (fun _ _ _ h => h) (Or.inl ⟨by rfl, ?_⟩) (by assumption) ?_
  rotate_left
  · intro w hSw; (try dsimp only at hSw); go_simp; first | done | with_reducible rfl
  try simp only [Act.put, List.setIfInBounds_toArray, List.set_cons_zero, List.set_cons_succ]
  refine wpAnyH_take (i := 8) (oi := { dst := some 11, op := Op.load 3 (Operand.tmp 10), type := 3, pos := "step.go:28", after := #[{ on := 7, ground := Ground.data }], guard := none }) (v := ?_) rfl (by kernel_rfl) (by kernel_rfl) (by kernel_rfl) (fun _ _ _ h => h) (Or.inl ⟨by rfl, ?_⟩) (by assumption) ?_
  rotate_left
  · intro w hSw; (try dsimp only at hSw); go_simp; first | done | with_reducible rfl
  try simp only [Act.put, List.setIfInBounds_toArray, List.set_cons_zero, List.set_cons_succ]
  refine wpAnyH_take (i := 9) (oi := { dst := some 12, op := Op.indexAddr 67 (Operand.tmp 6) (Operand.tmp 11), type := 0, pos := "step.go:28", after := #[{ on := 3, ground := Ground.data }, { on := 8, ground := Ground.data }], guard := none }) (v := ?_) rfl (by kernel_rfl) (by kernel_rfl) (by kernel_rfl) (fun _ _ _ h => h) (Or.inl ⟨by rfl, ?_⟩) (by assumption) ?_
  rotate_left
  · intro w hSw; (try dsimp only at hSw); go_simp; first | done | with_reducible rfl
  try simp only [Act.put, List.setIfInBounds_toArray, List.set_cons_zero, List.set_cons_succ]
  refine wpAnyH_take (i := 10) (oi := { dst := some 13, op := Op.load 96 (Operand.tmp 12), type := 96, pos := "step.go:28", after := #[{ on := 9, ground := Ground.data }], guard := none }) (v := ?_) rfl (by kernel_rfl) (by kernel_rfl) (by kernel_rfl) (fun _ _ _ h => h) (Or.inl ⟨by rfl, ?_⟩) (by assumption) ?_
  rotate_left
  · intro w hSw; (try dsimp only at hSw); go_simp; first | done | with_reducible rfl
  try simp only [Act.put, List.setIfInBounds_toArray, List.set_cons_zero, List.set_cons_succ]
  refine wpAnyH_take (i := 11) (oi := { dst := some 2, op := Op.assign (Operand.tmp 13), type := 96, pos := "step.go:28", after := #[{ on := 10, ground := Ground.data }, { on := 0, ground := Ground.phase }, { on := 1, ground := Ground.phase }, { on := 2, ground := Ground.phase }, { on := 3, ground := Ground.phase }, { on := 4, ground := Ground.phase }, { on := 5, ground := Ground.phase }, { on := 6, ground := Ground.phase }, { on := 7, ground := Ground.phase }, { on := 8, ground := Ground.phase }, { on := 9, ground := Ground.phase }, { on := 10, ground := Ground.phase }], guard := none }) (v := ?_) rfl (by kernel_rfl) (by kernel_rfl) (by kernel_rfl) (fun _ _ _ h => h) (Or.inl ⟨by rfl, ?_⟩) (by assumption) ?_
  rotate_left
  · intro w hSw; (try dsimp only at hSw); go_simp; first | done | with_reducible rfl
  try simp only [Act.put, List.setIfInBounds_toArray, List.set_cons_zero, List.set_cons_succ]
  refine wpAnyH_done (by kernel_rfl) ?_ _
  clear hHeld
  generalize W.drew = V at *
  clear k0 k4 kr
  have km2 := km s.p hp
  clear km
  have hI2 := Hz.mk (hI V h)
  clear hI
  replace h := Hz.mk h
  unfold methV at km2
  generalize P.code[s.g][s.p] = i at *
  generalize methF i.op = mf at *
  go_wp2_with fail
  refine hI2.out.mono ?_
  rintro r V2 ⟨rfl, h2, hB2⟩
  replace h2 := Hz.mk h2
  go_wp2_with fail
  first | go_end0 | ((try simp only [Exit.inBlock, Exit.then]); refine bodyPost_ret (results_none rfl _ _ _) rfl ?_)
  exact ⟨rfl, h2.out, hB.out.trans hB2⟩
end Z
end Go.Proofs.YtijmjmefdedojaaGreat
