/-
  Stage 13, fastvm: a nil machine.
-/
import Derived.Test.YtijmjmefdedojaaGreatZEx
namespace Go.Proofs.YtijmjmefdedojaaGreat
namespace Z
open Go.RowKit
open T (Sep Ob Kp Mf FlIn boxOb)

set_option maxRecDepth 100000 in
set_option maxHeartbeats 4000000 in
theorem Step_nil (w : World) : Calls Tryz.prog 7 #[.pointer none] w fun x w' => x = .returned (.agg (List.toArray [Value.int .i64 0, .int .u64 0, .int .i64 0, .int .i64 0, .int .i64 0])) ∧ Gr w w' := by
  have hA : At (w.alloc (.cells (List.toArray [Value.int .i64 0, .int .u64 0, .int .i64 0, .int .i64 0, .int .i64 0]) 28)) w.heap.size (List.toArray [Value.int .i64 0, .int .u64 0, .int .i64 0, .int .i64 0, .int .i64 0]) := At.new w _ _
  have hrun := Hz.mk (run_loadVar_mid (P := Tryz.prog) (w.alloc (.cells (List.toArray [Value.int .i64 0, .int .u64 0, .int .i64 0, .int .i64 0, .int .i64 0]) 28)) w.heap.size 0 28 [Value.int .i64 0, .int .u64 0, .int .i64 0, .int .i64 0, .int .i64 0] _ hA.range Tryz.underlying28 rfl (by kernel_rfl))
  clear hA
  go_enter Tryz.func7, Tryz.ntmps7
  go_wp2_with fail
  refine bodyPost_ret (v := .agg (List.toArray [Value.int .i64 0, .int .u64 0, .int .i64 0, .int .i64 0, .int .i64 0])) ?_ rfl ⟨rfl, (Gr.refl w).alloc _⟩
  exact results_rowZ Tryz.results7 _ _ rfl hrun.out
set_option maxRecDepth 100000 in
set_option maxHeartbeats 4000000 in
theorem Run_nil (fuel : Int) (w : World) : Calls Tryz.prog 8 #[.pointer none, .int .i64 fuel] w fun x w' => x = .returned (.agg (List.toArray [Value.int .i64 0, .int .u64 0, .int .i64 0, .int .i64 0, .int .i64 0])) ∧ Gr w w' := by
  have hA : At (w.alloc (.cells (List.toArray [Value.int .i64 0, .int .u64 0, .int .i64 0, .int .i64 0, .int .i64 0]) 28)) w.heap.size (List.toArray [Value.int .i64 0, .int .u64 0, .int .i64 0, .int .i64 0, .int .i64 0]) := At.new w _ _
  have hrun := Hz.mk (run_loadVar_mid (P := Tryz.prog) (w.alloc (.cells (List.toArray [Value.int .i64 0, .int .u64 0, .int .i64 0, .int .i64 0, .int .i64 0]) 28)) w.heap.size 0 28 [Value.int .i64 0, .int .u64 0, .int .i64 0, .int .i64 0, .int .i64 0] _ hA.range Tryz.underlying28 rfl (by kernel_rfl))
  clear hA
  go_enter Tryz.func8, Tryz.ntmps8
  go_wp2_with fail
  refine bodyPost_ret (v := .agg (List.toArray [Value.int .i64 0, .int .u64 0, .int .i64 0, .int .i64 0, .int .i64 0])) ?_ rfl ⟨rfl, (Gr.refl w).alloc _⟩
  exact results_rowZ Tryz.results8 _ _ rfl hrun.out
set_option maxRecDepth 100000 in
set_option maxHeartbeats 4000000 in
theorem Out_nil (w : World) : Calls Tryz.prog 10 #[.pointer none] w fun x w' => x = .returned (.slice none 0 0) ∧ w' = w := by
  go_enter Tryz.func10, Tryz.ntmps10
  go_wp2_with fail
  go_ret
  exact ⟨rfl, rfl⟩
set_option maxRecDepth 100000 in
set_option maxHeartbeats 4000000 in
theorem Touches_nil (w : World) : Calls Tryz.prog 11 #[.pointer none] w fun x w' => x = .returned (.slice none 0 0) ∧ w' = w := by
  go_enter Tryz.func11, Tryz.ntmps11
  go_wp2_with fail
  go_ret
  exact ⟨rfl, rfl⟩
set_option maxRecDepth 100000 in
set_option maxHeartbeats 4000000 in
theorem Memory_nil (w : World) : Calls Tryz.prog 13 #[.pointer none] w fun x w' => x = .returned (.string ⟨#[]⟩) ∧ w' = w := by
  go_enter Tryz.func13, Tryz.ntmps13
  go_wp2_with fail
  go_ret
  exact ⟨rfl, rfl⟩
set_option maxRecDepth 100000 in
set_option maxHeartbeats 4000000 in
theorem Copy_nil (w : World) : Calls Tryz.prog 14 #[.pointer none] w fun x w' => x = .returned (.pointer none) ∧ w' = w := by
  go_enter Tryz.func14, Tryz.ntmps14
  go_wp2_with fail
  go_ret
  exact ⟨rfl, rfl⟩
set_option maxRecDepth 100000 in
set_option maxHeartbeats 4000000 in
theorem Give_nil (v : Value) (w : World) : Calls Tryz.prog 12 #[.pointer none, v] w fun x w' => x = .returned (.tuple #[]) ∧ w' = w := by
  go_enter Tryz.func12, Tryz.ntmps12
  go_wp2_with fail
  first | go_end0 | ((try simp only [Exit.inBlock, Exit.then]); refine bodyPost_ret (results_none rfl _ _ _) rfl ?_)
  exact ⟨rfl, rfl⟩
theorem build_sn (W : World) : (Instr.build 33 #[]).run Tryz.prog W = .ok (.agg (List.toArray [Value.int .i64 0, .int .i64 0, .int .i64 0, .int .u64 0, .int .u64 0, .int .u64 0, .int .u64 0, .int .u64 0, .int .u64 0, .int .u64 0, .int .u64 0, .int .u64 0, .int .u64 0, .int .u64 0, .int .u64 0, .int .u64 0, .int .u64 0, .int .u64 0, .int .u64 0])) W := by kernel_rfl
theorem wp_build_sn {o : Oper} {a : Act} {K : Act → World → Prop} {Q : Exit → Act → World → Prop} {w : World} (ho : o.op = .build 33 #[])
    (h : K (a.put o.dst (.agg (List.toArray [Value.int .i64 0, .int .i64 0, .int .i64 0, .int .u64 0, .int .u64 0, .int .u64 0, .int .u64 0, .int .u64 0, .int .u64 0, .int .u64 0, .int .u64 0, .int .u64 0, .int .u64 0, .int .u64 0, .int .u64 0, .int .u64 0, .int .u64 0, .int .u64 0, .int .u64 0]))) w) : o.wp Tryz.prog a w K Q := by
  unfold Oper.wp execOp
  simp only [ho, List.map_toArray, List.map_nil, build_sn, Sem.run_bind, Sem.run_pure, Result.andThen_ok]
  exact h
theorem one19 : (List.toArray [Value.int .i64 0, .int .i64 0, .int .i64 0, .int .u64 0, .int .u64 0, .int .u64 0, .int .u64 0, .int .u64 0, .int .u64 0, .int .u64 0, .int .u64 0, .int .u64 0, .int .u64 0, .int .u64 0, .int .u64 0, .int .u64 0, .int .u64 0, .int .u64 0, .int .u64 0]).all (fun x => x.oneCell') = true := Fg.one xg
set_option maxRecDepth 100000 in
set_option maxHeartbeats 4000000 in
theorem Snap_nil (w : World) : Calls Tryz.prog 9 #[.pointer none] w fun x w' => x = .returned (.agg (List.toArray [Value.int .i64 0, .int .i64 0, .int .i64 0, .int .u64 0, .int .u64 0, .int .u64 0, .int .u64 0, .int .u64 0, .int .u64 0, .int .u64 0, .int .u64 0, .int .u64 0, .int .u64 0, .int .u64 0, .int .u64 0, .int .u64 0, .int .u64 0, .int .u64 0, .int .u64 0])) ∧ Gr w w' := by
  go_enter Tryz.func9, Tryz.ntmps9
  go_upto_region 1 with fail
  refine wp_world (fun X => At X w.heap.size (List.toArray [Value.int .i64 0, .int .i64 0, .int .i64 0, .int .u64 0, .int .u64 0, .int .u64 0, .int .u64 0, .int .u64 0, .int .u64 0, .int .u64 0, .int .u64 0, .int .u64 0, .int .u64 0, .int .u64 0, .int .u64 0, .int .u64 0, .int .u64 0, .int .u64 0, .int .u64 0]) ∧ Gr w X) ⟨At.new w _ _, (Gr.refl _).alloc _⟩ ?_
  rintro W ⟨hA, G⟩
  have hk : w.heap.size ≤ w.heap.size := Nat.le_refl _
  generalize hkr : w.heap.size = kr at hA ⊢
  have hth := Hz.mk (At.there hA 0 19 (by decide))
  have hA2 := Hz.mk (At.setAll hA [Value.int .i64 0, .int .i64 0, .int .i64 0, .int .u64 0, .int .u64 0, .int .u64 0, .int .u64 0, .int .u64 0, .int .u64 0, .int .u64 0, .int .u64 0, .int .u64 0, .int .u64 0, .int .u64 0, .int .u64 0, .int .u64 0, .int .u64 0, .int .u64 0, .int .u64 0] rfl)
  have G2 := Hz.mk (Gr.setCells G kr (by omega) [Value.int .i64 0, .int .i64 0, .int .i64 0, .int .u64 0, .int .u64 0, .int .u64 0, .int .u64 0, .int .u64 0, .int .u64 0, .int .u64 0, .int .u64 0, .int .u64 0, .int .u64 0, .int .u64 0, .int .u64 0, .int .u64 0, .int .u64 0, .int .u64 0, .int .u64 0] 0)
  clear hA
  go_upto_region 2 with fail
  refine wp_region_lit ?_
  refine wpList_plain rfl (fun K hK => ?_)
  refine wp_build_sn rfl ?_
  with_reducible refine hK _ _ ?_
  clear hK K
  try simp only [Act.put, List.setIfInBounds_toArray, List.set_cons_zero, List.set_cons_succ]
  refine wpList_plain rfl (fun K hK => ?_)
  refine wp_store_mid _ _ _ rfl _ _ (List.toArray [Value.int .i64 0, .int .i64 0, .int .i64 0, .int .u64 0, .int .u64 0, .int .u64 0, .int .u64 0, .int .u64 0, .int .u64 0, .int .u64 0, .int .u64 0, .int .u64 0, .int .u64 0, .int .u64 0, .int .u64 0, .int .u64 0, .int .u64 0, .int .u64 0, .int .u64 0]) rfl rfl hth.out (by kernel_rfl) one19 (hK _ _ ?_)
  clear hK K
  try simp only [Act.put]
  generalize World.setCells _ _ _ _ = W4 at *
  have hrun := Hz.mk (run_loadVar_mid (P := Tryz.prog) W4 kr 0 33 [Value.int .i64 0, .int .i64 0, .int .i64 0, .int .u64 0, .int .u64 0, .int .u64 0, .int .u64 0, .int .u64 0, .int .u64 0, .int .u64 0, .int .u64 0, .int .u64 0, .int .u64 0, .int .u64 0, .int .u64 0, .int .u64 0, .int .u64 0, .int .u64 0, .int .u64 0] _ hA2.out.range Tryz.underlying33 rfl (by kernel_rfl))
  go_wp2_with fail
  refine bodyPost_ret (v := .agg (List.toArray [Value.int .i64 0, .int .i64 0, .int .i64 0, .int .u64 0, .int .u64 0, .int .u64 0, .int .u64 0, .int .u64 0, .int .u64 0, .int .u64 0, .int .u64 0, .int .u64 0, .int .u64 0, .int .u64 0, .int .u64 0, .int .u64 0, .int .u64 0, .int .u64 0, .int .u64 0])) ?_ rfl ⟨rfl, G2.out⟩
  exact results_rowZ Tryz.results9 _ _ rfl hrun.out
end Z
end Go.Proofs.YtijmjmefdedojaaGreat
