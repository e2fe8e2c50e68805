/-
  Stage 13, fastvm: Run and Step.
-/
import Derived.Test.YtijmjmefdedojaaGreatZRun
namespace Go.Proofs.YtijmjmefdedojaaGreat
namespace Z
open Go.RowKit
open T (Sep Ob Kp Mf FlIn boxOb)

theorem kp_setsZ (w : World) (b : Nat) (vs : List Value) (o : Nat) : Kp (fun k => k = b) w (w.setCells b o vs) := by
  induction vs generalizing w o with
  | nil => exact Kp.refl _ w
  | cons v r ih => exact (Kp.set (S := fun k => k = b) w ⟨b, o, none⟩ v rfl).trans (ih (w.setCell ⟨b, o, none⟩ v) (o + 1)) (fun _ q => .inl q)
set_option maxRecDepth 100000 in
set_option maxHeartbeats 4000000 in
theorem run_end (B : Nat) (W : World) (a : Nat) (P : Pr) (l : List Ob) (n m : Nat) (f : Nat → Fm) (h : MIn B W a P (f 0) l) (hm : m ≤ n) (h0 : ∀ k, k < m → (f k).e = 0) (hG : ∀ k, k < m → Goes P (f k) (f (k + 1))) (hE : m = n ∨ (f m).e ≠ 0) (hn : n ≤ 100000) (he : (f m).e ≠ 0) :
    Calls Tryz.prog 8 #[.pointer (some ⟨a, 0, none⟩), .int .i64 n] W fun x w' => x = .returned (.agg #[.int .i64 (f m).e, .int .u64 (f m).v, .int .i64 (f m).f, .int .i64 (f m).g, .int .i64 (f m).p]) ∧ MIn B w' a P (f m) l ∧ Below B W w' := by
  have e2 : ((f m).e == 0) = false := by simpa using he
  replace he := Hz.mk he
  have hni : (n : Int) ≤ 100000 := by omega
  have h2 := Hz.mk (h.new #[.int .i64 0, .int .u64 0, .int .i64 0, .int .i64 0, .int .i64 0] 28)
  clear h
  go_enter Tryz.func8, Tryz.ntmps8
  go_upto_region 1 with fail
  refine wp_world (fun V => MIn B V a P (f 0) (boxOb W.heap.size #[.int .i64 0, .int .u64 0, .int .i64 0, .int .i64 0, .int .i64 0] :: l) ∧ Below B W V) h2.out ?_
  rintro V ⟨h, hB⟩
  replace h := Hz.mk h
  replace hB := Hz.mk hB
  clear h2
  generalize hkr : W.heap.size = kr at *
  clear hkr
  have hst := Hz.mk (steps_any B V a P _ n m f h.out hm h0 hG hE (by omega))
  replace h0 := Hz.mk h0
  replace hG := Hz.mk hG
  replace hE := Hz.mk hE
  go_wp2_with fail
  rw [show min (n : Int) 100000 = (n : Int) from Int.min_eq_left hni]
  refine hst.out.mono ?_
  rintro r V8 ⟨rfl, h8, hB8⟩
  replace hB := Hz.mk (hB.out.trans hB8)
  replace h8 := Hz.mk h8
  clear h hst hB8
  have c26 := h8.out.e26
  have hsd := Hz.mk (stands_any B V8 a P (f m) _ h8.out)
  go_upto_region 6 with fail
  have hle8 := h8.out.le
  refine wp_region_lit ?_
  refine wpList_plain rfl (fun K hK => ?_)
  go_simp
  with_reducible refine hK _ _ ?_
  clear hK K
  try simp only [Act.put, List.setIfInBounds_toArray, List.set_cons_zero, List.set_cons_succ]
  refine wpList_plain rfl (fun K hK => ?_)
  go_simp
  (refine hsd.out.mono ?_; rintro r V9 ⟨rfl, g9⟩)
  with_reducible refine hK _ _ ?_
  clear hK K
  try simp only [Act.put, List.setIfInBounds_toArray, List.set_cons_zero, List.set_cons_succ]
  replace h8 := Hz.mk (h8.out.gro g9)
  replace hB : Hz (Below B W V9) := Hz.mk (hB.out.trans (g9.below.mono hle8))
  have hA9 : At V9 kr #[.int .i64 0, .int .u64 0, .int .i64 0, .int .i64 0, .int .i64 0] := h8.out.there (boxOb kr #[.int .i64 0, .int .u64 0, .int .i64 0, .int .i64 0, .int .i64 0]) (.head _)
  have hth := Hz.mk (At.there (cs := [Value.int .i64 0, .int .u64 0, .int .i64 0, .int .i64 0, .int .i64 0]) hA9 0 5 (by decide))
  have hA10 := Hz.mk (At.setAll (cs := [Value.int .i64 0, .int .u64 0, .int .i64 0, .int .i64 0, .int .i64 0]) hA9 [Value.int .i64 (f m).e, .int .u64 (f m).v, .int .i64 (f m).f, .int .i64 (f m).g, .int .i64 (f m).p] rfl)
  have hk10 : Kp (fun k => k = kr) V9 (V9.setCells kr 0 [Value.int .i64 (f m).e, .int .u64 (f m).v, .int .i64 (f m).f, .int .i64 (f m).g, .int .i64 (f m).p]) := kp_setsZ V9 kr [Value.int .i64 (f m).e, .int .u64 (f m).v, .int .i64 (f m).f, .int .i64 (f m).g, .int .i64 (f m).p] 0
  have h10 := h8.out.side (o' := boxOb kr (List.toArray [Value.int .i64 (f m).e, .int .u64 (f m).v, .int .i64 (f m).f, .int .i64 (f m).g, .int .i64 (f m).p])) hA10.out hk10 (fun _ r => .inl r)
  replace hB := Hz.mk (hB.out.trans h10.2)
  replace h10 := Hz.mk h10.1
  clear h8 hA9 hk10 hsd g9
  refine wpList_plain rfl (fun K hK => ?_)
  refine wp_store_mid _ _ _ rfl _ _ (List.toArray [Value.int .i64 (f m).e, .int .u64 (f m).v, .int .i64 (f m).f, .int .i64 (f m).g, .int .i64 (f m).p]) rfl rfl hth.out (by kernel_rfl) (by simp [Value.oneCell']) (hK _ _ ?_)
  clear hK K
  try simp only [Act.put]
  generalize World.setCells _ _ _ _ = V11 at *
  have hrun := Hz.mk (run_loadVar_mid (P := Tryz.prog) V11 kr 0 28 [Value.int .i64 (f m).e, .int .u64 (f m).v, .int .i64 (f m).f, .int .i64 (f m).g, .int .i64 (f m).p] _ (fun j v q => by rw [Nat.zero_add]; exact (hA10.out.2.1 j).trans (by simpa using q)) Tryz.underlying28 rfl (by kernel_rfl))
  go_wp2_with fail
  refine bodyPost_ret (v := .agg #[.int .i64 (f m).e, .int .u64 (f m).v, .int .i64 (f m).f, .int .i64 (f m).g, .int .i64 (f m).p]) ?_ rfl ⟨rfl, h10.out.drop, hB.out⟩
  exact results_rowZ Tryz.results8 _ _ rfl hrun.out
def sp (s : Fm) : Fm := { s with e := 4, v := 0, f := 0 }
set_option maxRecDepth 100000 in
set_option maxHeartbeats 4000000 in
theorem run_spent (B : Nat) (W : World) (a : Nat) (P : Pr) (l : List Ob) (n m : Nat) (f : Nat → Fm) (h : MIn B W a P (f 0) l) (hm : m ≤ n) (h0 : ∀ k, k < m → (f k).e = 0) (hG : ∀ k, k < m → Goes P (f k) (f (k + 1))) (hE : m = n ∨ (f m).e ≠ 0) (hn : n ≤ 100000) (he : (f m).e = 0) :
    Calls Tryz.prog 8 #[.pointer (some ⟨a, 0, none⟩), .int .i64 n] W fun x w' => x = .returned (.agg #[.int .i64 (sp (f m)).e, .int .u64 (sp (f m)).v, .int .i64 (sp (f m)).f, .int .i64 (sp (f m)).g, .int .i64 (sp (f m)).p]) ∧ MIn B w' a P (sp (f m)) l ∧ Below B W w' := by
  have hni : (n : Int) ≤ 100000 := by omega
  have h2 := Hz.mk (h.new #[.int .i64 0, .int .u64 0, .int .i64 0, .int .i64 0, .int .i64 0] 28)
  clear h
  go_enter Tryz.func8, Tryz.ntmps8
  go_upto_region 1 with fail
  refine wp_world (fun V => MIn B V a P (f 0) (boxOb W.heap.size #[.int .i64 0, .int .u64 0, .int .i64 0, .int .i64 0, .int .i64 0] :: l) ∧ Below B W V) h2.out ?_
  rintro V ⟨h, hB⟩
  replace h := Hz.mk h
  replace hB := Hz.mk hB
  clear h2
  generalize hkr : W.heap.size = kr at *
  clear hkr
  have hst := Hz.mk (steps_any B V a P _ n m f h.out hm h0 hG hE (by omega))
  replace h0 := Hz.mk h0
  replace hG := Hz.mk hG
  replace hE := Hz.mk hE
  go_wp2_with fail
  rw [show min (n : Int) 100000 = (n : Int) from Int.min_eq_left hni]
  refine hst.out.mono ?_
  rintro r V7 ⟨rfl, h7, hB8⟩
  replace hB := Hz.mk (hB.out.trans hB8)
  replace h7 := Hz.mk h7
  clear h hst hB8
  have c26 := h7.out.e26
  rw [he] at c26
  have hfi := Hz.mk (h7.out.onBox (s' := sp (f m)) ⟨rfl, rfl, rfl, rfl, rfl⟩ (fun q hb => finish_any a _ 4 0 _ hb))
  go_wp2_with fail
  refine hfi.out.mono ?_
  rintro r V8 ⟨rfl, h8, hB8⟩
  replace hB := Hz.mk (hB.out.trans hB8)
  replace h8 := Hz.mk h8
  clear h7 hfi hB8 c26 he
  have hsd := Hz.mk (stands_any B V8 a P (sp (f m)) _ h8.out)
  go_upto_region 6 with fail
  have hle8 := h8.out.le
  refine wp_region_lit ?_
  refine wpList_plain rfl (fun K hK => ?_)
  go_simp
  with_reducible refine hK _ _ ?_
  clear hK K
  try simp only [Act.put, List.setIfInBounds_toArray, List.set_cons_zero, List.set_cons_succ]
  refine wpList_plain rfl (fun K hK => ?_)
  go_simp
  (refine hsd.out.mono ?_; rintro r V9 ⟨rfl, g9⟩)
  with_reducible refine hK _ _ ?_
  clear hK K
  try simp only [Act.put, List.setIfInBounds_toArray, List.set_cons_zero, List.set_cons_succ]
  replace h8 := Hz.mk (h8.out.gro g9)
  replace hB : Hz (Below B W V9) := Hz.mk (hB.out.trans (g9.below.mono hle8))
  have hA9 : At V9 kr #[.int .i64 0, .int .u64 0, .int .i64 0, .int .i64 0, .int .i64 0] := h8.out.there (boxOb kr #[.int .i64 0, .int .u64 0, .int .i64 0, .int .i64 0, .int .i64 0]) (.head _)
  have hth := Hz.mk (At.there (cs := [Value.int .i64 0, .int .u64 0, .int .i64 0, .int .i64 0, .int .i64 0]) hA9 0 5 (by decide))
  have hA10 := Hz.mk (At.setAll (cs := [Value.int .i64 0, .int .u64 0, .int .i64 0, .int .i64 0, .int .i64 0]) hA9 [Value.int .i64 (sp (f m)).e, .int .u64 (sp (f m)).v, .int .i64 (sp (f m)).f, .int .i64 (sp (f m)).g, .int .i64 (sp (f m)).p] rfl)
  have hk10 : Kp (fun k => k = kr) V9 (V9.setCells kr 0 [Value.int .i64 (sp (f m)).e, .int .u64 (sp (f m)).v, .int .i64 (sp (f m)).f, .int .i64 (sp (f m)).g, .int .i64 (sp (f m)).p]) := kp_setsZ V9 kr [Value.int .i64 (sp (f m)).e, .int .u64 (sp (f m)).v, .int .i64 (sp (f m)).f, .int .i64 (sp (f m)).g, .int .i64 (sp (f m)).p] 0
  have h10 := h8.out.side (o' := boxOb kr (List.toArray [Value.int .i64 (sp (f m)).e, .int .u64 (sp (f m)).v, .int .i64 (sp (f m)).f, .int .i64 (sp (f m)).g, .int .i64 (sp (f m)).p])) hA10.out hk10 (fun _ r => .inl r)
  replace hB := Hz.mk (hB.out.trans h10.2)
  replace h10 := Hz.mk h10.1
  clear h8 hA9 hk10 hsd g9
  refine wpList_plain rfl (fun K hK => ?_)
  refine wp_store_mid _ _ _ rfl _ _ (List.toArray [Value.int .i64 (sp (f m)).e, .int .u64 (sp (f m)).v, .int .i64 (sp (f m)).f, .int .i64 (sp (f m)).g, .int .i64 (sp (f m)).p]) rfl rfl hth.out (by kernel_rfl) (by simp [Value.oneCell']) (hK _ _ ?_)
  clear hK K
  try simp only [Act.put]
  generalize World.setCells _ _ _ _ = V11 at *
  have hrun := Hz.mk (run_loadVar_mid (P := Tryz.prog) V11 kr 0 28 [Value.int .i64 (sp (f m)).e, .int .u64 (sp (f m)).v, .int .i64 (sp (f m)).f, .int .i64 (sp (f m)).g, .int .i64 (sp (f m)).p] _ (fun j v q => by rw [Nat.zero_add]; exact (hA10.out.2.1 j).trans (by simpa using q)) Tryz.underlying28 rfl (by kernel_rfl))
  go_wp2_with fail
  refine bodyPost_ret (v := .agg #[.int .i64 (sp (f m)).e, .int .u64 (sp (f m)).v, .int .i64 (sp (f m)).f, .int .i64 (sp (f m)).g, .int .i64 (sp (f m)).p]) ?_ rfl ⟨rfl, h10.out.drop, hB.out⟩
  exact results_rowZ Tryz.results8 _ _ rfl hrun.out
end Z
end Go.Proofs.YtijmjmefdedojaaGreat
