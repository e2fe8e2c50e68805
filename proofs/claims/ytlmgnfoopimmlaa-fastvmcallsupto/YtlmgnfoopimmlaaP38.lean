import Derived.Test.YtlmgnfoopimmlaaP37
import Derived.Test.YtlmgnfoopimmlaaP23
/-
  Stage 13, fastvm: Step and Memory.
-/
namespace Go.Proofs.Ytlmgnfoopimmlaa
namespace Z
open Go.RowKit
open T (Sep Ob Kp Mf FlIn boxOb)

set_option maxRecDepth 100000 in
set_option maxHeartbeats 4000000 in
theorem step_fn (B : Nat) (W : World) (a : Nat) (P : Pr) (l : List Ob) (m : Nat) (f : Nat → Fm) (h : MIn B W a P (f 0) l) (hm : m ≤ 1) (h0 : ∀ k, k < m → (f k).e = 0) (hG : ∀ k, k < m → Goes P (f k) (f (k + 1))) (hE : m = 1 ∨ (f m).e ≠ 0) :
    Calls Try.prog 7 #[.pointer (some ⟨a, 0, none⟩)] W fun x w' => x = .returned (.agg #[.int .i64 (f m).e, .int .u64 (f m).v, .int .i64 (f m).f, .int .i64 (f m).g, .int .i64 (f m).p]) ∧ MIn B w' a P (f m) l ∧ Below B W w' := by
  have h2 := Hz.mk (h.new #[.int .i64 0, .int .u64 0, .int .i64 0, .int .i64 0, .int .i64 0] 39)
  clear h
  go_enter Try.func7, Try.ntmps7
  go_upto_region 1 with fail
  refine wp_world (fun V => MIn B V a P (f 0) (boxOb W.heap.size #[.int .i64 0, .int .u64 0, .int .i64 0, .int .i64 0, .int .i64 0] :: l) ∧ Below B W V) h2.out ?_
  rintro V ⟨h, hB⟩
  replace h := Hz.mk h
  replace hB := Hz.mk hB
  clear h2
  generalize hkr : W.heap.size = kr at *
  clear hkr
  have hst : Hz (Calls Try.prog 15 #[.pointer (some ⟨a, 0, none⟩), .int .i64 1] V fun x w' => x = .returned (.tuple #[]) ∧ MIn B w' a P (f m) (boxOb kr #[.int .i64 0, .int .u64 0, .int .i64 0, .int .i64 0, .int .i64 0] :: l) ∧ Below B V w') := Hz.mk (steps_any B V a P _ 1 m f h.out hm h0 hG hE (by omega))
  replace h0 := Hz.mk h0
  replace hG := Hz.mk hG
  replace hE := Hz.mk hE
  go_wp2_with fail
  refine hst.out.mono ?_
  rintro r V8 ⟨rfl, h8, hB8⟩
  replace hB := Hz.mk (hB.out.trans hB8)
  replace h8 := Hz.mk h8
  clear h hst hB8
  have hsd := Hz.mk (stands_any B V8 a P (f m) _ h8.out)
  go_upto_region 4 with fail
  have hle8 := h8.out.le
  refine wp_region_lit ?_
  refine wpList_plain rfl (fun K hK => ?_)
  go_simp
  with_reducible refine hK _ _ ?_
  clear hK K
  try simp only [Act.put, List.setIfInBounds_toArray, List.set_cons_zero, List.set_cons_succ]
  refine wpList_plain rfl (fun K hK => ?_)
  go_simp
  (refine hsd.out.mono ?_; rintro r V9 ⟨rfl, g9⟩)
  with_reducible refine hK _ _ ?_
  clear hK K
  try simp only [Act.put, List.setIfInBounds_toArray, List.set_cons_zero, List.set_cons_succ]
  replace h8 := Hz.mk (h8.out.gro g9)
  replace hB : Hz (Below B W V9) := Hz.mk (hB.out.trans (g9.below.mono hle8))
  have hA9 : At V9 kr #[.int .i64 0, .int .u64 0, .int .i64 0, .int .i64 0, .int .i64 0] := h8.out.there (boxOb kr #[.int .i64 0, .int .u64 0, .int .i64 0, .int .i64 0, .int .i64 0]) (.head _)
  have hth := Hz.mk (At.there (cs := [Value.int .i64 0, .int .u64 0, .int .i64 0, .int .i64 0, .int .i64 0]) hA9 0 5 (by decide))
  have hA10 := Hz.mk (At.setAll (cs := [Value.int .i64 0, .int .u64 0, .int .i64 0, .int .i64 0, .int .i64 0]) hA9 [Value.int .i64 (f m).e, .int .u64 (f m).v, .int .i64 (f m).f, .int .i64 (f m).g, .int .i64 (f m).p] rfl)
  have hk10 : Kp (fun k => k = kr) V9 (V9.setCells kr 0 [Value.int .i64 (f m).e, .int .u64 (f m).v, .int .i64 (f m).f, .int .i64 (f m).g, .int .i64 (f m).p]) := kp_setsZ V9 kr [Value.int .i64 (f m).e, .int .u64 (f m).v, .int .i64 (f m).f, .int .i64 (f m).g, .int .i64 (f m).p] 0
  have h10 := h8.out.side (o' := boxOb kr (List.toArray [Value.int .i64 (f m).e, .int .u64 (f m).v, .int .i64 (f m).f, .int .i64 (f m).g, .int .i64 (f m).p])) hA10.out hk10 (fun _ r => .inl r)
  replace hB := Hz.mk (hB.out.trans h10.2)
  replace h10 := Hz.mk h10.1
  clear h8 hA9 hk10 hsd g9
  refine wpList_plain rfl (fun K hK => ?_)
  refine wp_store_mid _ _ _ rfl _ _ (List.toArray [Value.int .i64 (f m).e, .int .u64 (f m).v, .int .i64 (f m).f, .int .i64 (f m).g, .int .i64 (f m).p]) rfl rfl hth.out (by kernel_rfl) (by simp [Value.oneCell']) (hK _ _ ?_)
  clear hK K
  try simp only [Act.put]
  generalize World.setCells _ _ _ _ = V11 at *
  have hrun := Hz.mk (run_loadVar_mid (P := Try.prog) V11 kr 0 39 [Value.int .i64 (f m).e, .int .u64 (f m).v, .int .i64 (f m).f, .int .i64 (f m).g, .int .i64 (f m).p] _ (fun j v q => by rw [Nat.zero_add]; exact (hA10.out.2.1 j).trans (by simpa using q)) Try.underlying39 rfl (by kernel_rfl))
  go_wp2_with fail
  refine bodyPost_ret (v := .agg #[.int .i64 (f m).e, .int .u64 (f m).v, .int .i64 (f m).f, .int .i64 (f m).g, .int .i64 (f m).p]) ?_ rfl ⟨rfl, h10.out.drop, hB.out⟩
  exact results_rowZ Try.results7 _ _ rfl hrun.out
theorem step_op (P : Pr) (ok : P.Ok) (rr : P.Rr) (s : Fm) (c : Nat) (hs : s.Okn P c) (hn : c + 1 ≤ 1000000) (B : Nat) (W : World) (a : Nat) (l : List Ob) (h : MIn B W a P s l) :
    Calls Try.prog 7 #[.pointer (some ⟨a, 0, none⟩)] W fun x w' => x = .returned (stepsM P s 1).outc ∧ MIn B w' a P (stepsM P s 1) l ∧ Below B W w' := by
  obtain ⟨m, h1, h2, h3, h4⟩ := stops P s 1
  rw [← h4]
  exact step_fn B W a P l m (stepsM P s) h h1 h2 (steps_goes P ok rr s c 1 m hs hn h1 h2) h3
def snV (g p d : Int) (r : Nat → Int) : List Value := .int .i64 g :: .int .i64 p :: .int .i64 d :: regs r
theorem snV_len (g p d : Int) (r : Nat → Int) : (snV g p d r).length = 19 := by simp [snV, regs_len]
theorem snV_one (g p d : Int) (r : Nat → Int) : (snV g p d r).toArray.all (fun x => x.oneCell') = true := by
  rw [Array.all_eq_true_iff_forall_mem]
  intro u hu
  simp only [List.mem_toArray, snV, List.mem_cons] at hu
  rcases hu with rfl | rfl | rfl | hu
  · rfl
  · rfl
  · rfl
  · exact regs_one r u hu
theorem build_sn (g p d : Int) (r : Nat → Int) (W : World) : (Instr.build 34 #[(0, .int .i64 g), (1, .int .i64 p), (2, .int .i64 d), (3, .agg (regs r).toArray)]).run Try.prog W = .ok (.agg (snV g p d r).toArray) W := by kernel_rfl
theorem yields_sn {ops : Array Oper} {S : World → Prop} {op : Oper} {a : Act} (hw : Region.wanted op (yielded ops a.tmps) = true) (x0 x1 x2 x3 : Operand) (ho : op.op = .build 34 #[(0, x0), (1, x1), (2, x2), (3, x3)])
    (g p d : Int) (r : Nat → Int) (h0 : a.eval x0 = .int .i64 g) (h1 : a.eval x1 = .int .i64 p) (h2 : a.eval x2 = .int .i64 d) (h3 : a.eval x3 = .agg (regs r).toArray) :
    YieldsIf Try.prog ops S op (.agg (snV g p d r).toArray) a :=
  .inl ⟨hw, fun w _ => by
    unfold execOp
    simp only [ho, List.map_toArray, List.map_cons, List.map_nil, h0, h1, h2, h3, build_sn, Sem.run_bind, Sem.run_pure, Result.andThen_ok]⟩
theorem MIn.snap {B : Nat} {W : World} {a : Nat} {P : Pr} {s : Fm} {l : List Ob} (h : MIn B W a P s l) : ∃ sa sc, ∀ V, Gr W V → V.cell? ⟨a, 4, none⟩ = some (.int .i64 s.g) ∧ V.cell? ⟨a, 5, none⟩ = some (.int .i64 s.p) ∧ V.cell? ⟨a, 22, none⟩ = some (.slice sa s.st.length sc) ∧ V.rangeAt a 6 (regs s.r) := by
  obtain ⟨⟨q, h1⟩, le⟩ := h
  have hb := h1.ins (bxOb a (bxOf P s q)) (by simp [obs])
  have hO := h1.ins (stOb B q.sv s.st) (by simp [obs])
  obtain ⟨sa, sc, e⟩ : ∃ sa sc, q.sv = .slice sa s.st.length sc := by
    rcases hO.2 with ⟨e1, e2⟩ | ⟨g, cap, cur, e1, _⟩
    · exact ⟨none, 0, by rw [e1, e2]⟩
    · exact ⟨_, _, e1⟩
  refine ⟨sa, sc, fun V g => ?_⟩
  have hk := fun j => T.cell_of_block (g.below.block a hb.1) j
  refine ⟨(hk _).trans (hb.at_ 4 (by omega)), (hk _).trans (hb.at_ 5 (by omega)), ?_, fun j v qv => ?_⟩
  · rw [← e]
    exact (hk _).trans (hb.at_ 22 (by omega))
  · have hj : j < 16 := by have := (List.getElem?_eq_some_iff.1 qv).1; rwa [regs_len] at this
    rw [regs_at s.r j hj] at qv
    refine (hk _).trans ((hb.at_ (6 + j) (by omega)).trans ?_)
    rw [Fx.reg _ j hj]
    exact qv
set_option maxRecDepth 100000 in
set_option maxHeartbeats 4000000 in
theorem snap_any (B : Nat) (W : World) (a : Nat) (P : Pr) (s : Fm) (l : List Ob) (h : MIn B W a P s l) :
    Calls Try.prog 6 #[.pointer (some ⟨a, 0, none⟩)] W fun x w' => x = .returned (.agg (snV s.g s.p s.st.length s.r).toArray) ∧ Gr W w' := by
  obtain ⟨sa, sc, KS⟩ := h.snap
  replace KS := Hz.mk KS
  clear h
  go_enter Try.func6, Try.ntmps6
  go_upto_region 1 with fail
  refine wp_world (fun V => At V W.heap.size (List.toArray [Value.int .i64 0, .int .i64 0, .int .i64 0, .int .u64 0, .int .u64 0, .int .u64 0, .int .u64 0, .int .u64 0, .int .u64 0, .int .u64 0, .int .u64 0, .int .u64 0, .int .u64 0, .int .u64 0, .int .u64 0, .int .u64 0, .int .u64 0, .int .u64 0, .int .u64 0]) ∧ Gr W V) ⟨At.new W _ _, (Gr.refl _).alloc _⟩ ?_
  rintro V ⟨hA, G⟩
  have hkW : W.heap.size ≤ W.heap.size := Nat.le_refl _
  generalize hk : W.heap.size = kr at hA hkW ⊢
  go_upto_region 3 with fail
  have hAd : At V.drew kr (List.toArray [Value.int .i64 0, .int .i64 0, .int .i64 0, .int .u64 0, .int .u64 0, .int .u64 0, .int .u64 0, .int .u64 0, .int .u64 0, .int .u64 0, .int .u64 0, .int .u64 0, .int .u64 0, .int .u64 0, .int .u64 0, .int .u64 0, .int .u64 0, .int .u64 0, .int .u64 0]) := hA.gr (Gr.refl V).drew
  have Gd := G.drew
  have hth := Hz.mk (At.there (cs := [Value.int .i64 0, .int .i64 0, .int .i64 0, .int .u64 0, .int .u64 0, .int .u64 0, .int .u64 0, .int .u64 0, .int .u64 0, .int .u64 0, .int .u64 0, .int .u64 0, .int .u64 0, .int .u64 0, .int .u64 0, .int .u64 0, .int .u64 0, .int .u64 0, .int .u64 0]) hAd 0 19 (by decide))
  have hA2 := Hz.mk (At.setAll (cs := [Value.int .i64 0, .int .i64 0, .int .i64 0, .int .u64 0, .int .u64 0, .int .u64 0, .int .u64 0, .int .u64 0, .int .u64 0, .int .u64 0, .int .u64 0, .int .u64 0, .int .u64 0, .int .u64 0, .int .u64 0, .int .u64 0, .int .u64 0, .int .u64 0, .int .u64 0]) hAd (snV s.g s.p s.st.length s.r) (by rw [snV_len]; rfl))
  have G2 := Hz.mk (Gr.setCells Gd kr (by omega) (snV s.g s.p s.st.length s.r) 0)
  rw [← snV_len s.g s.p s.st.length s.r] at hth
  clear hA hAd G
  refine wp_region_held_drew (S := (fun W => W.cell? ⟨a, 4, none⟩ = some (.int .i64 s.g) ∧ W.cell? ⟨a, 5, none⟩ = some (.int .i64 s.p) ∧ W.cell? ⟨a, 22, none⟩ = some (.slice sa s.st.length sc) ∧ W.rangeAt a 6 (regs s.r))) (by kernel_rfl) (KS.out _ Gd) (fun hHeld => ?_)
  refine wpAnyH_take (i := 0) (oi := { dst := some 6, op := Op.move (Operand.tmp 0), type := 28, pos := "fastvm.go:69", after := #[], guard := none }) (v := ?_) rfl (by kernel_rfl) (by kernel_rfl) (by kernel_rfl) (fun _ _ _ h => h) (Or.inl ⟨by rfl, ?_⟩) (by assumption) ?_
  rotate_left
  · intro w hSw; (try dsimp only at hSw); go_simp; first | done | with_reducible rfl
  try simp only [Act.put, List.setIfInBounds_toArray, List.set_cons_zero, List.set_cons_succ]
  refine wpAnyH_take (i := 1) (oi := { dst := some 7, op := Op.nilCheck (Operand.tmp 6), type := 0, pos := "fastvm.go:69", after := #[{ on := 0, ground := Ground.data }], guard := none }) (v := ?_) rfl (by kernel_rfl) (by kernel_rfl) (by kernel_rfl) (fun _ _ _ h => h) (Or.inl ⟨by rfl, ?_⟩) (by assumption) ?_
  rotate_left
  · intro w hSw; (try dsimp only at hSw); go_simp; first | done | with_reducible rfl
  try simp only [Act.put, List.setIfInBounds_toArray, List.set_cons_zero, List.set_cons_succ]
  refine wpAnyH_take (i := 2) (oi := { dst := some 8, op := Op.fieldAddr 70 (Operand.tmp 7) 4, type := 0, pos := "fastvm.go:69", after := #[{ on := 1, ground := Ground.data }], guard := none }) (v := ?_) rfl (by kernel_rfl) (by kernel_rfl) (by kernel_rfl) (fun _ _ _ h => h) (Or.inl ⟨by rfl, ?_⟩) (by assumption) ?_
  rotate_left
  · intro w hSw; (try dsimp only at hSw); go_simp; first | done | with_reducible rfl
  try simp only [Act.put, List.setIfInBounds_toArray, List.set_cons_zero, List.set_cons_succ]
  refine wpAnyH_take (i := 3) (oi := { dst := some 9, op := Op.fieldAddr 63 (Operand.tmp 8) 0, type := 0, pos := "fastvm.go:69", after := #[{ on := 2, ground := Ground.data }], guard := none }) (v := ?_) rfl (by kernel_rfl) (by kernel_rfl) (by kernel_rfl) (fun _ _ _ h => h) (Or.inl ⟨by rfl, ?_⟩) (by assumption) ?_
  rotate_left
  · intro w hSw; (try dsimp only at hSw); go_simp; first | done | with_reducible rfl
  try simp only [Act.put, List.setIfInBounds_toArray, List.set_cons_zero, List.set_cons_succ]
  refine wpAnyH_take (i := 4) (oi := { dst := some 10, op := Op.load 3 (Operand.tmp 9), type := 3, pos := "fastvm.go:69", after := #[{ on := 3, ground := Ground.data }], guard := none }) (v := ?_) rfl (by kernel_rfl) (by kernel_rfl) (by kernel_rfl) (fun _ _ _ h => h) (Or.inl ⟨by rfl, ?_⟩) (by assumption) ?_
  rotate_left
  · intro w hSw; (try dsimp only at hSw); go_simp; first | done | with_reducible rfl
  try simp only [Act.put, List.setIfInBounds_toArray, List.set_cons_zero, List.set_cons_succ]
  refine wpAnyH_take (i := 5) (oi := { dst := some 11, op := Op.move (Operand.tmp 0), type := 28, pos := "fastvm.go:69", after := #[], guard := none }) (v := ?_) rfl (by kernel_rfl) (by kernel_rfl) (by kernel_rfl) (fun _ _ _ h => h) (Or.inl ⟨by rfl, ?_⟩) (by assumption) ?_
  rotate_left
  · intro w hSw; (try dsimp only at hSw); go_simp; first | done | with_reducible rfl
  try simp only [Act.put, List.setIfInBounds_toArray, List.set_cons_zero, List.set_cons_succ]
  refine wpAnyH_take (i := 6) (oi := { dst := some 12, op := Op.nilCheck (Operand.tmp 11), type := 0, pos := "fastvm.go:69", after := #[{ on := 5, ground := Ground.data }], guard := none }) (v := ?_) rfl (by kernel_rfl) (by kernel_rfl) (by kernel_rfl) (fun _ _ _ h => h) (Or.inl ⟨by rfl, ?_⟩) (by assumption) ?_
  rotate_left
  · intro w hSw; (try dsimp only at hSw); go_simp; first | done | with_reducible rfl
  try simp only [Act.put, List.setIfInBounds_toArray, List.set_cons_zero, List.set_cons_succ]
  refine wpAnyH_take (i := 7) (oi := { dst := some 13, op := Op.fieldAddr 70 (Operand.tmp 12) 4, type := 0, pos := "fastvm.go:69", after := #[{ on := 6, ground := Ground.data }], guard := none }) (v := ?_) rfl (by kernel_rfl) (by kernel_rfl) (by kernel_rfl) (fun _ _ _ h => h) (Or.inl ⟨by rfl, ?_⟩) (by assumption) ?_
  rotate_left
  · intro w hSw; (try dsimp only at hSw); go_simp; first | done | with_reducible rfl
  try simp only [Act.put, List.setIfInBounds_toArray, List.set_cons_zero, List.set_cons_succ]
  refine wpAnyH_take (i := 8) (oi := { dst := some 14, op := Op.fieldAddr 63 (Operand.tmp 13) 1, type := 0, pos := "fastvm.go:69", after := #[{ on := 7, ground := Ground.data }], guard := none }) (v := ?_) rfl (by kernel_rfl) (by kernel_rfl) (by kernel_rfl) (fun _ _ _ h => h) (Or.inl ⟨by rfl, ?_⟩) (by assumption) ?_
  rotate_left
  · intro w hSw; (try dsimp only at hSw); go_simp; first | done | with_reducible rfl
  try simp only [Act.put, List.setIfInBounds_toArray, List.set_cons_zero, List.set_cons_succ]
  refine wpAnyH_take (i := 9) (oi := { dst := some 15, op := Op.load 3 (Operand.tmp 14), type := 3, pos := "fastvm.go:69", after := #[{ on := 8, ground := Ground.data }], guard := none }) (v := ?_) rfl (by kernel_rfl) (by kernel_rfl) (by kernel_rfl) (fun _ _ _ h => h) (Or.inl ⟨by rfl, ?_⟩) (by assumption) ?_
  rotate_left
  · intro w hSw; (try dsimp only at hSw); go_simp; first | done | with_reducible rfl
  try simp only [Act.put, List.setIfInBounds_toArray, List.set_cons_zero, List.set_cons_succ]
  refine wpAnyH_take (i := 10) (oi := { dst := some 16, op := Op.move (Operand.tmp 0), type := 28, pos := "fastvm.go:69", after := #[], guard := none }) (v := ?_) rfl (by kernel_rfl) (by kernel_rfl) (by kernel_rfl) (fun _ _ _ h => h) (Or.inl ⟨by rfl, ?_⟩) (by assumption) ?_
  rotate_left
  · intro w hSw; (try dsimp only at hSw); go_simp; first | done | with_reducible rfl
  try simp only [Act.put, List.setIfInBounds_toArray, List.set_cons_zero, List.set_cons_succ]
  refine wpAnyH_take (i := 11) (oi := { dst := some 17, op := Op.nilCheck (Operand.tmp 16), type := 0, pos := "fastvm.go:69", after := #[{ on := 10, ground := Ground.data }], guard := none }) (v := ?_) rfl (by kernel_rfl) (by kernel_rfl) (by kernel_rfl) (fun _ _ _ h => h) (Or.inl ⟨by rfl, ?_⟩) (by assumption) ?_
  rotate_left
  · intro w hSw; (try dsimp only at hSw); go_simp; first | done | with_reducible rfl
  try simp only [Act.put, List.setIfInBounds_toArray, List.set_cons_zero, List.set_cons_succ]
  refine wpAnyH_take (i := 12) (oi := { dst := some 18, op := Op.fieldAddr 70 (Operand.tmp 17) 5, type := 0, pos := "fastvm.go:69", after := #[{ on := 11, ground := Ground.data }], guard := none }) (v := ?_) rfl (by kernel_rfl) (by kernel_rfl) (by kernel_rfl) (fun _ _ _ h => h) (Or.inl ⟨by rfl, ?_⟩) (by assumption) ?_
  rotate_left
  · intro w hSw; (try dsimp only at hSw); go_simp; first | done | with_reducible rfl
  try simp only [Act.put, List.setIfInBounds_toArray, List.set_cons_zero, List.set_cons_succ]
  refine wpAnyH_take (i := 13) (oi := { dst := some 19, op := Op.load 66 (Operand.tmp 18), type := 66, pos := "fastvm.go:69", after := #[{ on := 12, ground := Ground.data }], guard := none }) (v := ?_) rfl (by kernel_rfl) (by kernel_rfl) (by kernel_rfl) (fun _ _ _ h => h) (Or.inl ⟨by rfl, ?_⟩) (by assumption) ?_
  rotate_left
  · intro w hSw; (try dsimp only at hSw); go_simp; first | done | with_reducible rfl
  try simp only [Act.put, List.setIfInBounds_toArray, List.set_cons_zero, List.set_cons_succ]
  refine wpAnyH_take (i := 14) (oi := { dst := some 20, op := Op.call { callee := Callee.builtin Builtin.len, args := #[Operand.tmp 19], argTypes := #[66] }, type := 3, pos := "fastvm.go:69", after := #[{ on := 13, ground := Ground.data }], guard := none }) (v := ?_) rfl (by kernel_rfl) (by kernel_rfl) (by kernel_rfl) (fun _ _ _ h => h) (Or.inl ⟨by rfl, ?_⟩) (by assumption) ?_
  rotate_left
  · intro w hSw; (try dsimp only at hSw); go_simp; first | done | with_reducible rfl
  try simp only [Act.put, List.setIfInBounds_toArray, List.set_cons_zero, List.set_cons_succ]
  refine wpAnyH_take (i := 15) (oi := { dst := some 21, op := Op.move (Operand.tmp 0), type := 28, pos := "fastvm.go:69", after := #[], guard := none }) (v := ?_) rfl (by kernel_rfl) (by kernel_rfl) (by kernel_rfl) (fun _ _ _ h => h) (Or.inl ⟨by rfl, ?_⟩) (by assumption) ?_
  rotate_left
  · intro w hSw; (try dsimp only at hSw); go_simp; first | done | with_reducible rfl
  try simp only [Act.put, List.setIfInBounds_toArray, List.set_cons_zero, List.set_cons_succ]
  refine wpAnyH_take (i := 16) (oi := { dst := some 22, op := Op.nilCheck (Operand.tmp 21), type := 0, pos := "fastvm.go:69", after := #[{ on := 15, ground := Ground.data }], guard := none }) (v := ?_) rfl (by kernel_rfl) (by kernel_rfl) (by kernel_rfl) (fun _ _ _ h => h) (Or.inl ⟨by rfl, ?_⟩) (by assumption) ?_
  rotate_left
  · intro w hSw; (try dsimp only at hSw); go_simp; first | done | with_reducible rfl
  try simp only [Act.put, List.setIfInBounds_toArray, List.set_cons_zero, List.set_cons_succ]
  refine wpAnyH_take (i := 17) (oi := { dst := some 23, op := Op.fieldAddr 70 (Operand.tmp 22) 4, type := 0, pos := "fastvm.go:69", after := #[{ on := 16, ground := Ground.data }], guard := none }) (v := ?_) rfl (by kernel_rfl) (by kernel_rfl) (by kernel_rfl) (fun _ _ _ h => h) (Or.inl ⟨by rfl, ?_⟩) (by assumption) ?_
  rotate_left
  · intro w hSw; (try dsimp only at hSw); go_simp; first | done | with_reducible rfl
  try simp only [Act.put, List.setIfInBounds_toArray, List.set_cons_zero, List.set_cons_succ]
  refine wpAnyH_take (i := 18) (oi := { dst := some 24, op := Op.fieldAddr 63 (Operand.tmp 23) 2, type := 0, pos := "fastvm.go:69", after := #[{ on := 17, ground := Ground.data }], guard := none }) (v := ?_) rfl (by kernel_rfl) (by kernel_rfl) (by kernel_rfl) (fun _ _ _ h => h) (Or.inl ⟨by rfl, ?_⟩) (by assumption) ?_
  rotate_left
  · intro w hSw; (try dsimp only at hSw); go_simp; first | done | with_reducible rfl
  try simp only [Act.put, List.setIfInBounds_toArray, List.set_cons_zero, List.set_cons_succ]
  refine wpAnyH_take (i := 19) (oi := { dst := some 25, op := Op.load 32 (Operand.tmp 24), type := 32, pos := "fastvm.go:69", after := #[{ on := 18, ground := Ground.data }], guard := none }) (v := _) rfl (by kernel_rfl) (by kernel_rfl) (by kernel_rfl) (fun _ _ _ h => h) (yieldsIf_load_mid (by rfl) _ _ rfl _ _ rfl _ _ (fun _ h => h.2.2.2) Try.underlying32 rfl (by rw [regs_len]; kernel_rfl)) (by assumption) ?_
  try simp only [Act.put, List.setIfInBounds_toArray, List.set_cons_zero, List.set_cons_succ]
  refine wpAnyH_take (i := 20) (oi := { dst := some 26, op := Op.build 34 #[(0, Operand.tmp 10), (1, Operand.tmp 15), (2, Operand.tmp 20), (3, Operand.tmp 25)], type := 34, pos := "fastvm.go:69", after := #[{ on := 4, ground := Ground.data }, { on := 9, ground := Ground.data }, { on := 14, ground := Ground.data }, { on := 19, ground := Ground.data }], guard := none }) (v := _) rfl (by kernel_rfl) (by kernel_rfl) (by kernel_rfl) (fun _ _ _ h => h) (yields_sn (by rfl) _ _ _ _ rfl _ _ _ s.r (by rfl) (by rfl) (by rfl) (by rfl)) (by assumption) ?_
  try simp only [Act.put, List.setIfInBounds_toArray, List.set_cons_zero, List.set_cons_succ]
  refine wpAnyH_ready (rs := [21]) (by kernel_rfl) (by simp) ?_
  refine AllReadyH.cons (o := { dst := none, op := Op.store 34 (Operand.tmp 2) (Operand.tmp 26), type := 0, pos := "fastvm.go:69", after := #[{ on := 20, ground := Ground.data }, { on := 0, ground := Ground.phase }, { on := 1, ground := Ground.phase }, { on := 2, ground := Ground.phase }, { on := 3, ground := Ground.phase }, { on := 4, ground := Ground.phase }, { on := 5, ground := Ground.phase }, { on := 6, ground := Ground.phase }, { on := 7, ground := Ground.phase }, { on := 8, ground := Ground.phase }, { on := 9, ground := Ground.phase }, { on := 10, ground := Ground.phase }, { on := 11, ground := Ground.phase }, { on := 12, ground := Ground.phase }, { on := 13, ground := Ground.phase }, { on := 14, ground := Ground.phase }, { on := 15, ground := Ground.phase }, { on := 16, ground := Ground.phase }, { on := 17, ground := Ground.phase }, { on := 18, ground := Ground.phase }, { on := 19, ground := Ground.phase }, { on := 20, ground := Ground.phase }], guard := none }) rfl (fun K hK => ?_) AllReadyH.nil
  rw [if_pos (by rfl)]
  refine wp_store_mid _ _ _ rfl _ _ (List.toArray (snV s.g s.p s.st.length s.r)) rfl rfl (hth.out) (by rw [List.size_toArray, snV_len]; kernel_rfl) (snV_one _ _ _ _) ?_
  refine hK.out _ _ (KS.out _ G2.out) (fun hHeld => ?_)
  clear hK K
  try simp only [Act.put]
  refine wpAnyH_done (by kernel_rfl) ?_ _
  clear hHeld
  generalize World.setCells _ _ _ _ = Z at *
  have hrun := Hz.mk (run_loadVar_mid (P := Try.prog) Z kr 0 34 (snV s.g s.p s.st.length s.r) _ (fun j v q => by rw [Nat.zero_add]; exact (hA2.out.2.1 j).trans (by simpa using q)) Try.underlying34 rfl (by rw [snV_len]; kernel_rfl))
  go_wp2_with fail
  refine bodyPost_ret (v := .agg (snV s.g s.p s.st.length s.r).toArray) ?_ rfl ⟨rfl, G2.out⟩
  exact results_rowZ Try.results6 _ _ rfl hrun.out
end Z
end Go.Proofs.Ytlmgnfoopimmlaa


/-
  Stage 13, fastvm: raw instructions and gates.
-/
namespace Go.Proofs.Ytlmgnfoopimmlaa
namespace Z
open Go.RowKit
open T (Sep Ob Kp Mf FlIn boxOb)

/-- An instruction as it comes in. -/
structure Ri where
  op : Int
  a : Int
  b : Int
  c : Int
  i : Int
def Ri.vals (i : Ri) : List Value := [.int .u8 i.op, .int .i64 i.a, .int .i64 i.b, .int .i64 i.c, .int .u64 i.i]
/-- What a value of its type is. -/
structure Ri.Is (i : Ri) : Prop where
  op : 0 ≤ i.op ∧ i.op < 256
  im : 0 ≤ i.i ∧ i.i < 18446744073709551616
def Ri.Fl (i : Ri) : Prop := (0 ≤ i.a ∧ i.a ≤ 15) ∧ (0 ≤ i.b ∧ i.b ≤ 15) ∧ 0 ≤ i.c ∧ i.c ≤ if 70 ≤ i.op then 255 else 15
def Ri.Th (i : Ri) (n k : Nat) : Prop := (20 ≤ i.op ∧ i.op ≤ 24 → i.i < n) ∧ (i.op = 31 → i.i < k)
structure Ri.Ok (i : Ri) (n k : Nat) : Prop where
  op : Named i.op
  fl : i.Fl
  th : i.Th n k
/-- An answer tells whether something is so. -/
def Says (p : Prop) (x : Ending) : Prop := ∃ b : Bool, x = .returned (.bool b) ∧ (b = true ↔ p)
def Ri.fi (i : Ri) : Fi := ⟨i.op, i.a.toNat, i.b.toNat, i.c.toNat, i.i⟩
theorem Ri.Ok.fi {i : Ri} {n k : Nat} (h : i.Ok n k) (hi : i.Is) : i.fi.Ok n k ∧ i.fi.vals = i.vals := by
  obtain ⟨h1, h2, h3⟩ := h
  obtain ⟨ha, hb, hc0, hc⟩ := h2
  refine ⟨⟨h1, ?_, ?_, ?_, hi.im, h3.1, h3.2⟩, ?_⟩
  · show i.a.toNat < 16
    omega
  · show i.b.toNat < 16
    omega
  · show i.c.toNat < 16 ∨ 70 ≤ i.op ∧ i.c.toNat ≤ 255
    split at hc <;> omega
  · show [Value.int .u8 i.op, .int .i64 (i.a.toNat : Int), .int .i64 (i.b.toNat : Int), .int .i64 (i.c.toNat : Int), .int .u64 i.i] = _
    rw [Int.toNat_of_nonneg ha.1, Int.toNat_of_nonneg hb.1, Int.toNat_of_nonneg hc0]
    rfl
set_option maxRecDepth 100000 in
set_option maxHeartbeats 4000000 in
theorem isWithin_no (n lo hi : Int) (w : World) (h : ¬ (lo ≤ n ∧ n ≤ hi)) :
    Calls Try.prog 26 #[.int .i64 n, .int .i64 lo, .int .i64 hi] w fun x w' => x = .returned (.bool false) ∧ w' = w := by
  by_cases h1 : lo ≤ n
  · have h2 : ¬ n ≤ hi := fun q => h ⟨h1, q⟩
    clear h
    go_enter Try.func26, Try.ntmps26
    go_wp2_with fail
    go_ret
    exact ⟨rfl, rfl⟩
  · clear h
    go_enter Try.func26, Try.ntmps26
    go_wp2_with fail
    go_ret
    exact ⟨rfl, rfl⟩
set_option maxRecDepth 100000 in
set_option maxHeartbeats 4000000 in
theorem isNamed_no (op : Int) (w : World) (h : 0 ≤ op ∧ op < 256) (hn : ¬ Named op) :
    Calls Try.prog 33 #[.int .u8 op] w fun x w' => x = .returned (.bool false) ∧ w' = w := by
  have hc : (14 ≤ op ∧ op ≤ 19) ∨ (25 ≤ op ∧ op ≤ 26) ∨ (33 ≤ op ∧ op ≤ 59) ∨ (66 ≤ op ∧ op ≤ 69) ∨ (73 ≤ op ∧ op ≤ 255) := by unfold Named at hn; omega
  clear hn h
  rcases hc with hc | hc | hc | hc | hc
  · skip
    have n13 : ¬ op ≤ 13 := by omega
    have y24 : op ≤ 24 := by omega
    have l20 : ¬ 20 ≤ op := by omega
    clear hc
    go_enter Try.func33, Try.ntmps33
    go_wp2_with fail
    go_ret
    exact ⟨rfl, rfl⟩
  · skip
    have n13 : ¬ op ≤ 13 := by omega
    have n24 : ¬ op ≤ 24 := by omega
    have y32 : op ≤ 32 := by omega
    have l27 : ¬ 27 ≤ op := by omega
    clear hc
    go_enter Try.func33, Try.ntmps33
    go_wp2_with fail
    go_ret
    exact ⟨rfl, rfl⟩
  · skip
    have n13 : ¬ op ≤ 13 := by omega
    have n24 : ¬ op ≤ 24 := by omega
    have n32 : ¬ op ≤ 32 := by omega
    have y65 : op ≤ 65 := by omega
    have l60 : ¬ 60 ≤ op := by omega
    clear hc
    go_enter Try.func33, Try.ntmps33
    go_wp2_with fail
    go_ret
    exact ⟨rfl, rfl⟩
  · skip
    have n13 : ¬ op ≤ 13 := by omega
    have n24 : ¬ op ≤ 24 := by omega
    have n32 : ¬ op ≤ 32 := by omega
    have n65 : ¬ op ≤ 65 := by omega
    have l70 : ¬ 70 ≤ op := by omega
    clear hc
    go_enter Try.func33, Try.ntmps33
    go_wp2_with fail
    go_ret
    exact ⟨rfl, rfl⟩
  · skip
    have n13 : ¬ op ≤ 13 := by omega
    have n24 : ¬ op ≤ 24 := by omega
    have n32 : ¬ op ≤ 32 := by omega
    have n65 : ¬ op ≤ 65 := by omega
    have y70 : 70 ≤ op := by omega
    have n72 : ¬ op ≤ 72 := by omega
    clear hc
    go_enter Try.func33, Try.ntmps33
    go_wp2_with fail
    go_ret
    exact ⟨rfl, rfl⟩
set_option maxRecDepth 100000 in
set_option maxHeartbeats 4000000 in
theorem fields_any (i : Ri) (w : World) :
    Calls Try.prog 34 #[.agg #[.int .u8 i.op, .int .i64 i.a, .int .i64 i.b, .int .i64 i.c, .int .u64 i.i]] w fun x w' => Says i.Fl x ∧ Gr w w' := by
  by_cases h70 : 70 ≤ i.op
  · skip
    by_cases ha : 0 ≤ i.a ∧ i.a ≤ 15
    · by_cases hb : 0 ≤ i.b ∧ i.b ≤ 15
      · by_cases hc : 0 ≤ i.c ∧ i.c ≤ 255
        · skip
          go_enter Try.func34, Try.ntmps34
          go_wp2_with fail
          refine (isWithin_ok _ _ _ _ (by omega) (by omega)).mono ?_
          rintro r w1 ⟨rfl, e1⟩
          subst e1
          go_wp2_with fail
          refine (isWithin_ok _ _ _ _ (by omega) (by omega)).mono ?_
          rintro r w1 ⟨rfl, e1⟩
          subst e1
          go_wp2_with fail
          refine (isWithin_ok _ _ _ _ (by omega) (by omega)).mono ?_
          rintro r w1 ⟨rfl, e1⟩
          subst e1
          go_wp2_with fail
          go_ret
          refine ⟨⟨true, rfl, ?_⟩, (Gr.refl w).alloc _⟩
          unfold Ri.Fl
          rw [if_pos h70]
          exact iff_of_true rfl ⟨ha, hb, hc⟩
        · skip
          go_enter Try.func34, Try.ntmps34
          go_wp2_with fail
          refine (isWithin_ok _ _ _ _ (by omega) (by omega)).mono ?_
          rintro r w1 ⟨rfl, e1⟩
          subst e1
          go_wp2_with fail
          refine (isWithin_ok _ _ _ _ (by omega) (by omega)).mono ?_
          rintro r w1 ⟨rfl, e1⟩
          subst e1
          go_wp2_with fail
          refine (isWithin_no _ _ _ _ (by omega)).mono ?_
          rintro r w1 ⟨rfl, e1⟩
          subst e1
          go_wp2_with fail
          go_ret
          refine ⟨⟨false, rfl, ?_⟩, (Gr.refl w).alloc _⟩
          unfold Ri.Fl
          rw [if_pos h70]
          refine iff_of_false (by decide) (fun q => ?_)
          exact absurd q.2.2 hc
      · skip
        go_enter Try.func34, Try.ntmps34
        go_wp2_with fail
        refine (isWithin_ok _ _ _ _ (by omega) (by omega)).mono ?_
        rintro r w1 ⟨rfl, e1⟩
        subst e1
        go_wp2_with fail
        refine (isWithin_no _ _ _ _ (by omega)).mono ?_
        rintro r w1 ⟨rfl, e1⟩
        subst e1
        go_wp2_with fail
        go_ret
        refine ⟨⟨false, rfl, ?_⟩, (Gr.refl w).alloc _⟩
        unfold Ri.Fl
        rw [if_pos h70]
        refine iff_of_false (by decide) (fun q => ?_)
        exact absurd q.2.1 hb
    · skip
      go_enter Try.func34, Try.ntmps34
      go_wp2_with fail
      refine (isWithin_no _ _ _ _ (by omega)).mono ?_
      rintro r w1 ⟨rfl, e1⟩
      subst e1
      go_wp2_with fail
      go_ret
      refine ⟨⟨false, rfl, ?_⟩, (Gr.refl w).alloc _⟩
      unfold Ri.Fl
      rw [if_pos h70]
      refine iff_of_false (by decide) (fun q => ?_)
      exact absurd q.1 ha
  · skip
    by_cases ha : 0 ≤ i.a ∧ i.a ≤ 15
    · by_cases hb : 0 ≤ i.b ∧ i.b ≤ 15
      · by_cases hc : 0 ≤ i.c ∧ i.c ≤ 15
        · skip
          go_enter Try.func34, Try.ntmps34
          go_wp2_with fail
          refine (isWithin_ok _ _ _ _ (by omega) (by omega)).mono ?_
          rintro r w1 ⟨rfl, e1⟩
          subst e1
          go_wp2_with fail
          refine (isWithin_ok _ _ _ _ (by omega) (by omega)).mono ?_
          rintro r w1 ⟨rfl, e1⟩
          subst e1
          go_wp2_with fail
          refine (isWithin_ok _ _ _ _ (by omega) (by omega)).mono ?_
          rintro r w1 ⟨rfl, e1⟩
          subst e1
          go_wp2_with fail
          go_ret
          refine ⟨⟨true, rfl, ?_⟩, (Gr.refl w).alloc _⟩
          unfold Ri.Fl
          rw [if_neg (show ¬ 70 ≤ i.op by omega)]
          exact iff_of_true rfl ⟨ha, hb, hc⟩
        · skip
          go_enter Try.func34, Try.ntmps34
          go_wp2_with fail
          refine (isWithin_ok _ _ _ _ (by omega) (by omega)).mono ?_
          rintro r w1 ⟨rfl, e1⟩
          subst e1
          go_wp2_with fail
          refine (isWithin_ok _ _ _ _ (by omega) (by omega)).mono ?_
          rintro r w1 ⟨rfl, e1⟩
          subst e1
          go_wp2_with fail
          refine (isWithin_no _ _ _ _ (by omega)).mono ?_
          rintro r w1 ⟨rfl, e1⟩
          subst e1
          go_wp2_with fail
          go_ret
          refine ⟨⟨false, rfl, ?_⟩, (Gr.refl w).alloc _⟩
          unfold Ri.Fl
          rw [if_neg (show ¬ 70 ≤ i.op by omega)]
          refine iff_of_false (by decide) (fun q => ?_)
          exact absurd q.2.2 hc
      · skip
        go_enter Try.func34, Try.ntmps34
        go_wp2_with fail
        refine (isWithin_ok _ _ _ _ (by omega) (by omega)).mono ?_
        rintro r w1 ⟨rfl, e1⟩
        subst e1
        go_wp2_with fail
        refine (isWithin_no _ _ _ _ (by omega)).mono ?_
        rintro r w1 ⟨rfl, e1⟩
        subst e1
        go_wp2_with fail
        go_ret
        refine ⟨⟨false, rfl, ?_⟩, (Gr.refl w).alloc _⟩
        unfold Ri.Fl
        rw [if_neg (show ¬ 70 ≤ i.op by omega)]
        refine iff_of_false (by decide) (fun q => ?_)
        exact absurd q.2.1 hb
    · skip
      go_enter Try.func34, Try.ntmps34
      go_wp2_with fail
      refine (isWithin_no _ _ _ _ (by omega)).mono ?_
      rintro r w1 ⟨rfl, e1⟩
      subst e1
      go_wp2_with fail
      go_ret
      refine ⟨⟨false, rfl, ?_⟩, (Gr.refl w).alloc _⟩
      unfold Ri.Fl
      rw [if_neg (show ¬ 70 ≤ i.op by omega)]
      refine iff_of_false (by decide) (fun q => ?_)
      exact absurd q.1 ha
set_option maxRecDepth 100000 in
set_option maxHeartbeats 4000000 in
theorem there_any (i : Ri) (n k : Nat) (w : World) (hl : n ≤ 1000 ∧ k ≤ 1000) :
    Calls Try.prog 35 #[.agg #[.int .u8 i.op, .int .i64 i.a, .int .i64 i.b, .int .i64 i.c, .int .u64 i.i], .int .i64 n, .int .i64 k] w fun x w' => Says (i.Th n k) x ∧ Gr w w' := by
  obtain ⟨op, ia, ib, ic, im⟩ := i
  dsimp only at *
  have hn : IntKind.u64.wrap (n : Int) = (n : Int) := by simp [IntKind.wrap, IntKind.bits, IntKind.signed]; omega
  have hk : IntKind.u64.wrap (k : Int) = (k : Int) := by simp [IntKind.wrap, IntKind.bits, IntKind.signed]; omega
  replace hl := Hz.mk hl
  by_cases e20 : op = 20
  · subst e20
    by_cases y : im < (n : Int)
    · have z : Hz (Says (Ri.Th ⟨20, ia, ib, ic, im⟩ n k) (.returned (.bool true))) := Hz.mk ⟨true, rfl, iff_of_true rfl (by unfold Ri.Th; dsimp only; omega)⟩
      go_enter Try.func35, Try.ntmps35
      go_wp2_with fail
      go_ret
      exact ⟨z.out, (Gr.refl w).alloc _⟩
    · have z : Hz (Says (Ri.Th ⟨20, ia, ib, ic, im⟩ n k) (.returned (.bool false))) := Hz.mk ⟨false, rfl, iff_of_false (by decide) (by unfold Ri.Th; dsimp only; omega)⟩
      go_enter Try.func35, Try.ntmps35
      go_wp2_with fail
      go_ret
      exact ⟨z.out, (Gr.refl w).alloc _⟩
  by_cases e21 : op = 21
  · subst e21
    by_cases y : im < (n : Int)
    · have z : Hz (Says (Ri.Th ⟨21, ia, ib, ic, im⟩ n k) (.returned (.bool true))) := Hz.mk ⟨true, rfl, iff_of_true rfl (by unfold Ri.Th; dsimp only; omega)⟩
      go_enter Try.func35, Try.ntmps35
      go_wp2_with fail
      go_ret
      exact ⟨z.out, (Gr.refl w).alloc _⟩
    · have z : Hz (Says (Ri.Th ⟨21, ia, ib, ic, im⟩ n k) (.returned (.bool false))) := Hz.mk ⟨false, rfl, iff_of_false (by decide) (by unfold Ri.Th; dsimp only; omega)⟩
      go_enter Try.func35, Try.ntmps35
      go_wp2_with fail
      go_ret
      exact ⟨z.out, (Gr.refl w).alloc _⟩
  by_cases e22 : op = 22
  · subst e22
    by_cases y : im < (n : Int)
    · have z : Hz (Says (Ri.Th ⟨22, ia, ib, ic, im⟩ n k) (.returned (.bool true))) := Hz.mk ⟨true, rfl, iff_of_true rfl (by unfold Ri.Th; dsimp only; omega)⟩
      go_enter Try.func35, Try.ntmps35
      go_wp2_with fail
      go_ret
      exact ⟨z.out, (Gr.refl w).alloc _⟩
    · have z : Hz (Says (Ri.Th ⟨22, ia, ib, ic, im⟩ n k) (.returned (.bool false))) := Hz.mk ⟨false, rfl, iff_of_false (by decide) (by unfold Ri.Th; dsimp only; omega)⟩
      go_enter Try.func35, Try.ntmps35
      go_wp2_with fail
      go_ret
      exact ⟨z.out, (Gr.refl w).alloc _⟩
  by_cases e23 : op = 23
  · subst e23
    by_cases y : im < (n : Int)
    · have z : Hz (Says (Ri.Th ⟨23, ia, ib, ic, im⟩ n k) (.returned (.bool true))) := Hz.mk ⟨true, rfl, iff_of_true rfl (by unfold Ri.Th; dsimp only; omega)⟩
      go_enter Try.func35, Try.ntmps35
      go_wp2_with fail
      go_ret
      exact ⟨z.out, (Gr.refl w).alloc _⟩
    · have z : Hz (Says (Ri.Th ⟨23, ia, ib, ic, im⟩ n k) (.returned (.bool false))) := Hz.mk ⟨false, rfl, iff_of_false (by decide) (by unfold Ri.Th; dsimp only; omega)⟩
      go_enter Try.func35, Try.ntmps35
      go_wp2_with fail
      go_ret
      exact ⟨z.out, (Gr.refl w).alloc _⟩
  by_cases e24 : op = 24
  · subst e24
    by_cases y : im < (n : Int)
    · have z : Hz (Says (Ri.Th ⟨24, ia, ib, ic, im⟩ n k) (.returned (.bool true))) := Hz.mk ⟨true, rfl, iff_of_true rfl (by unfold Ri.Th; dsimp only; omega)⟩
      go_enter Try.func35, Try.ntmps35
      go_wp2_with fail
      go_ret
      exact ⟨z.out, (Gr.refl w).alloc _⟩
    · have z : Hz (Says (Ri.Th ⟨24, ia, ib, ic, im⟩ n k) (.returned (.bool false))) := Hz.mk ⟨false, rfl, iff_of_false (by decide) (by unfold Ri.Th; dsimp only; omega)⟩
      go_enter Try.func35, Try.ntmps35
      go_wp2_with fail
      go_ret
      exact ⟨z.out, (Gr.refl w).alloc _⟩
  by_cases e31 : op = 31
  · subst e31
    by_cases y : im < (k : Int)
    · have z : Hz (Says (Ri.Th ⟨31, ia, ib, ic, im⟩ n k) (.returned (.bool true))) := Hz.mk ⟨true, rfl, iff_of_true rfl (by unfold Ri.Th; dsimp only; omega)⟩
      go_enter Try.func35, Try.ntmps35
      go_wp2_with fail
      go_ret
      exact ⟨z.out, (Gr.refl w).alloc _⟩
    · have z : Hz (Says (Ri.Th ⟨31, ia, ib, ic, im⟩ n k) (.returned (.bool false))) := Hz.mk ⟨false, rfl, iff_of_false (by decide) (by unfold Ri.Th; dsimp only; omega)⟩
      go_enter Try.func35, Try.ntmps35
      go_wp2_with fail
      go_ret
      exact ⟨z.out, (Gr.refl w).alloc _⟩
  have z : Hz (Says (Ri.Th ⟨op, ia, ib, ic, im⟩ n k) (.returned (.bool true))) := Hz.mk ⟨true, rfl, iff_of_true rfl (by unfold Ri.Th; dsimp only; omega)⟩
  have f20 : (op == 20) = false := by simpa using e20
  have f21 : (op == 21) = false := by simpa using e21
  have f22 : (op == 22) = false := by simpa using e22
  have f23 : (op == 23) = false := by simpa using e23
  have f24 : (op == 24) = false := by simpa using e24
  have f31 : (op == 31) = false := by simpa using e31
  clear e20 e21 e22 e23 e24 e31
  go_enter Try.func35, Try.ntmps35
  go_wp2_with fail
  go_ret
  exact ⟨z.out, (Gr.refl w).alloc _⟩
end Z
end Go.Proofs.Ytlmgnfoopimmlaa
