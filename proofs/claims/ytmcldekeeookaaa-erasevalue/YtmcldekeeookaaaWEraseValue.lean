/-
  Stage 12, erase: the walk of the statement on Value and Snap.
-/
import Derived.Test.YtmcldekeeookaaaEVal
import Derived.DeepKeys
import Derived.Deep.RegionHeld3
namespace Go.Proofs.Ytmcldekeeookaaa
namespace E
open Go.RowKit

theorem list16 {α : Type} {cs : List α} (h : cs.length = 16) : ∃ a b c d e f g h i j k l m n o p, cs = [a, b, c, d, e, f, g, h, i, j, k, l, m, n, o, p] := by
  match cs, h with
  | [a, b, c, d, e, f, g, h, i, j, k, l, m, n, o, p], _ => exact ⟨a, b, c, d, e, f, g, h, i, j, k, l, m, n, o, p, rfl⟩
theorem part_u (L : List Int) (i : Nat) (hi : i < L.length) (W : World) : (part 22 (rowV [] uV L).toArray (i * 1)).run Try.prog W = .ok (.int .u64 L[i]) W := by
  have h := row_at (pre := []) u_len L i hi 0 (by omega)
  simp only [List.length_nil, Nat.zero_add, Nat.add_zero, Nat.mul_one] at h
  replace h : (rowV [] uV L)[i]? = some (.int .u64 L[i]) := h
  unfold part
  simp [go_sem, h]
theorem items_u (d : Nat) (L : List Int) (W : World) : ∀ is : List Nat, (∀ i ∈ is, i < L.length) → (Op.eqItems (d + 4) 22 1 (rowV [] uV L).toArray (rowV [] uV L).toArray is).run Try.prog W = .ok true W
  | [], _ => by simp [Op.eqItems]
  | i :: is, h => by
    have hi := h i (List.mem_cons_self ..)
    have e : (Op.equalIn (d + 4) 22 (.int .u64 L[i]) (.int .u64 L[i])).run Try.prog W = .ok true W := by simp [go_sem]
    simp only [Op.eqItems, Sem.run_bind, part_u L i hi, Result.andThen_ok, e]
    simpa using items_u d L W is (fun j hj => h j (List.mem_cons_of_mem _ hj))
set_option maxHeartbeats 2000000 in
theorem eqF_in (dd : Nat) (g p d : Int) (L : List Int) (hL : L.length = 16) (W : World) : (Op.equalIn (dd + 6) 34 (.agg (rowV [.int .i64 g, .int .i64 p, .int .i64 d] uV L).toArray) (.agg (rowV [.int .i64 g, .int .i64 p, .int .i64 d] uV L).toArray)).run Try.prog W = .ok true W := by
  have hi := items_u dd L W (List.range 16) (fun i hi => by rw [hL]; simpa using hi)
  have ha := run_equalIn_array (P := Try.prog) W (dd + 4) (rowV [] uV L).toArray (rowV [] uV L).toArray Try.underlying32 (e := 22) rfl
  rw [show Try.prog.cellsOf 22 = 1 by kernel_rfl, hi] at ha
  obtain ⟨x0, x1, x2, x3, x4, x5, x6, x7, x8, x9, x10, x11, x12, x13, x14, x15, rfl⟩ := list16 hL
  simp only [rowV, uV, List.flatMap_cons, List.flatMap_nil, List.cons_append, List.nil_append] at ha ⊢
  simp [go_sem, ha]
theorem eqF (g p d : Int) (L : List Int) (hL : L.length = 16) (W : World) : (binOp .eql 34 (.agg (rowV [.int .i64 g, .int .i64 p, .int .i64 d] uV L).toArray) (.agg (rowV [.int .i64 g, .int .i64 p, .int .i64 d] uV L).toArray)).run Try.prog W = .ok (.bool true) W := by
  rw [run_eql_struct, eqF_in 9994 g p d L hL W]
  rfl
set_option maxRecDepth 100000 in
set_option maxHeartbeats 8000000 in
theorem walk_EraseValue (v : Vv) (g p d : Int) (V : List Vv) (w : World) (hV : V.length = 16) : Calls Try.prog 3 #[.agg (Vv.vals v).toArray, .agg (rowV [.int .i64 g, .int .i64 p, .int .i64 d] Vv.vals V).toArray] w fun x w' => x = .returned (.bool true) ∧ Gr w w' := by
  have hinf := T.Hid.mk (show (Try.prog.info? 30).map (·.size) = some (rowV [.int .i64 g, .int .i64 p, .int .i64 d] Vv.vals V).length by rw [row_len vv_len, hV]; kernel_rfl)
  go_enter Try.func3, Try.ntmps3
  go_upto_region 1 with fail
  refine wp_world (fun W => T.Hid (At W w.heap.size (Vv.vals v).toArray) ∧ T.Hid (At W (w.heap.size + 1) (rowV [.int .i64 g, .int .i64 p, .int .i64 d] Vv.vals V).toArray) ∧ T.Hid (Gr w W)) ⟨T.Hid.mk ((At.new w _ _).alloc _), T.Hid.mk (At.at_ _ _ _ (by simp)), T.Hid.mk (((Gr.refl w).alloc _).alloc _)⟩ ?_
  rintro W0 ⟨B0, B1, G⟩
  go_wp2_with fail
  refine (show Calls Try.prog 4 #[.agg (Vv.vals ⟨false, 5, ⟨0, 0, 0, 0, 0⟩⟩).toArray] W0 _ from pValue_any ⟨false, 5, ⟨0, 0, 0, 0, 0⟩⟩ W0).mono ?_
  rintro x w1 ⟨rfl, G1⟩
  replace B0 := T.Hid.mk (B0.out.gr G1)
  replace B1 := T.Hid.mk (B1.out.gr G1)
  replace G := T.Hid.mk (G.out.trans G1)
  clear G1
  rw [show (Vv.left ⟨false, 5, ⟨0, 0, 0, 0, 0⟩⟩) = 5 from rfl]
  go_upto_region 2 with fail
  have KS : T.Hid (∀ W, Gr w1 W → W.rangeAt w.heap.size 0 (Vv.vals v) ∧ W.rangeAt (w.heap.size + 1) 0 (rowV [.int .i64 g, .int .i64 p, .int .i64 d] Vv.vals V)) := T.Hid.mk (fun W q => ⟨(B0.out.gr q).range, (B1.out.gr q).range⟩)
  have h1 := T.Hid.mk (fun W => pValue_any v W)
  have h2 := T.Hid.mk (fun W => rValue_any v W)
  have h3 := T.Hid.mk (fun W => pSnap_any g p d V W hV)
  have h4 := T.Hid.mk (fun W => rSnap_any g p d V W hV)
  have heq := eqF g p d (V.map Vv.left) (by rw [List.length_map]; exact hV)
  generalize (rowV [.int .i64 g, .int .i64 p, .int .i64 d] uV (V.map Vv.left)) = out at *
  generalize Vv.left v = u at *
  have d1 : Gr w1 w1.drew := (Gr.refl _).drew
  refine wp_region_held_drew (S := (fun W => W.rangeAt w.heap.size 0 (Vv.vals v) ∧ W.rangeAt (w.heap.size + 1) 0 (rowV [.int .i64 g, .int .i64 p, .int .i64 d] Vv.vals V))) (by kernel_rfl) (KS.out _ d1) (fun hHeld => ?_)
  refine wpAnyH_take (i := 0) (oi := { dst := some 8, op := Op.move (Operand.tmp 5), type := 22, pos := "law.go:15", after := #[], guard := none }) (v := ?_) rfl (by kernel_rfl) (by kernel_rfl) (by kernel_rfl) (fun _ _ _ h => h) (Or.inl ⟨by rfl, ?_⟩) (by assumption) ?_
  rotate_left
  · intro w hSw; (try dsimp only at hSw); go_simp; first | done | with_reducible rfl
  try simp only [Act.put, List.setIfInBounds_toArray, List.set_cons_zero, List.set_cons_succ]
  refine wpAnyH_take (i := 1) (oi := { dst := some 9, op := Op.binOp BinOp.eql 22 (Operand.tmp 8) (Operand.const (Value.int IntKind.u64 5)) 22, type := 4, pos := "law.go:15", after := #[{ on := 0, ground := Ground.data }], guard := none }) (v := ?_) rfl (by kernel_rfl) (by kernel_rfl) (by kernel_rfl) (fun _ _ _ h => h) (Or.inl ⟨by rfl, ?_⟩) (by assumption) ?_
  rotate_left
  · intro w hSw; (try dsimp only at hSw); go_simp; first | done | with_reducible rfl
  try simp only [Act.put, List.setIfInBounds_toArray, List.set_cons_zero, List.set_cons_succ]
  refine wpAnyH_take (i := 2) (oi := { dst := some 10, op := Op.move (Operand.tmp 9), type := 4, pos := "law.go:15", after := #[{ on := 1, ground := Ground.data }], guard := none }) (v := ?_) rfl (by kernel_rfl) (by kernel_rfl) (by kernel_rfl) (fun _ _ _ h => h) (Or.inl ⟨by rfl, ?_⟩) (by assumption) ?_
  rotate_left
  · intro w hSw; (try dsimp only at hSw); go_simp; first | done | with_reducible rfl
  try simp only [Act.put, List.setIfInBounds_toArray, List.set_cons_zero, List.set_cons_succ]
  refine wpAnyH_take (i := 3) (oi := { dst := some 11, op := Op.load 27 (Operand.tmp 2), type := 27, pos := "law.go:15", after := #[{ on := 2, ground := Ground.guard }], guard := some (2, true) }) (v := _) rfl (by kernel_rfl) (by kernel_rfl) (by kernel_rfl) (fun _ _ _ h => h) (yieldsIf_load_mid (by rfl) _ _ rfl _ _ rfl _ _ (fun _ h => h.1) Try.underlying27 rfl (by kernel_rfl)) (by assumption) ?_
  try simp only [Act.put, List.setIfInBounds_toArray, List.set_cons_zero, List.set_cons_succ]
  refine wpAnyH_take (i := 5) (oi := { dst := some 13, op := Op.load 27 (Operand.tmp 2), type := 27, pos := "law.go:15", after := #[{ on := 2, ground := Ground.guard }], guard := some (2, true) }) (v := _) rfl (by kernel_rfl) (by kernel_rfl) (by kernel_rfl) (fun _ _ _ h => h) (yieldsIf_load_mid (by rfl) _ _ rfl _ _ rfl _ _ (fun _ h => h.1) Try.underlying27 rfl (by kernel_rfl)) (by assumption) ?_
  try simp only [Act.put, List.setIfInBounds_toArray, List.set_cons_zero, List.set_cons_succ]
  refine wpAnyH_ready (rs := [4]) (by kernel_rfl) (by simp) ?_
  refine AllReadyH.cons (o := { dst := some 12, op := Op.call { callee := Callee.value (Operand.func 4), args := #[Operand.tmp 11], argTypes := #[27] }, type := 22, pos := "law.go:15", after := #[{ on := 3, ground := Ground.data }, { on := 2, ground := Ground.chain }, { on := 2, ground := Ground.guard }], guard := some (2, true) }) rfl (fun K hK => ?_) AllReadyH.nil
  go_simp
  go_wp2_with ((go_at_call 4; refine (h1.out _).mono ?_; rintro x wq1 ⟨rfl, q9⟩; replace d1 : Gr w1 wq1 := Gr.trans (by (with_reducible repeat (first | assumption | exact Gr.refl _ | refine Gr.alloc ?_ _ | refine Gr.grow ?_ _ | refine Gr.drew ?_ | refine Gr.setCell ?_ _ _ _ (gr_size ?_)))) q9; clear q9))
  refine hK.out _ _ (KS.out _ d1) (fun hHeld => ?_)
  clear hK K
  try simp only [Act.put, List.setIfInBounds_toArray, List.set_cons_zero, List.set_cons_succ]
  refine wpAnyH_ready (rs := [6]) (by kernel_rfl) (by simp) ?_
  refine AllReadyH.cons (o := { dst := some 14, op := Op.call { callee := Callee.value (Operand.func 5), args := #[Operand.tmp 13], argTypes := #[27] }, type := 22, pos := "law.go:15", after := #[{ on := 5, ground := Ground.data }, { on := 4, ground := Ground.chain }, { on := 2, ground := Ground.guard }], guard := some (2, true) }) rfl (fun K hK => ?_) AllReadyH.nil
  go_simp
  go_wp2_with ((go_at_call 5; refine (h2.out _).mono ?_; rintro x wq2 ⟨rfl, q9⟩; replace d1 : Gr w1 wq2 := Gr.trans (by (with_reducible repeat (first | assumption | exact Gr.refl _ | refine Gr.alloc ?_ _ | refine Gr.grow ?_ _ | refine Gr.drew ?_ | refine Gr.setCell ?_ _ _ _ (gr_size ?_)))) q9; clear q9))
  refine hK.out _ _ (KS.out _ d1) (fun hHeld => ?_)
  clear hK K
  try simp only [Act.put, List.setIfInBounds_toArray, List.set_cons_zero, List.set_cons_succ]
  refine wpAnyH_take (i := 7) (oi := { dst := some 15, op := Op.binOp BinOp.eql 22 (Operand.tmp 12) (Operand.tmp 14) 22, type := 4, pos := "law.go:15", after := #[{ on := 4, ground := Ground.data }, { on := 6, ground := Ground.data }, { on := 2, ground := Ground.guard }], guard := some (2, true) }) (v := ?_) rfl (by kernel_rfl) (by kernel_rfl) (by kernel_rfl) (fun _ _ _ h => h) (Or.inl ⟨by rfl, ?_⟩) (by assumption) ?_
  rotate_left
  · intro w hSw; (try dsimp only at hSw); go_simp; first | done | with_reducible rfl
  try simp only [Act.put, List.setIfInBounds_toArray, List.set_cons_zero, List.set_cons_succ]
  refine wpAnyH_take (i := 8) (oi := { dst := some 16, op := Op.pick (Operand.tmp 10) (Operand.tmp 15) (Operand.const (Value.bool false)), type := 4, pos := "law.go:15", after := #[{ on := 2, ground := Ground.data }, { on := 7, ground := Ground.data }], guard := none }) (v := ?_) rfl (by kernel_rfl) (by kernel_rfl) (by kernel_rfl) (fun _ _ _ h => h) (Or.inl ⟨by rfl, ?_⟩) (by assumption) ?_
  rotate_left
  · intro w hSw; (try dsimp only at hSw); go_simp; first | done | with_reducible rfl
  try simp only [Act.put, List.setIfInBounds_toArray, List.set_cons_zero, List.set_cons_succ]
  refine wpAnyH_take (i := 9) (oi := { dst := some 17, op := Op.move (Operand.tmp 16), type := 4, pos := "law.go:15", after := #[{ on := 8, ground := Ground.data }, { on := 6, ground := Ground.chain }], guard := none }) (v := ?_) rfl (by kernel_rfl) (by kernel_rfl) (by kernel_rfl) (fun _ _ _ h => h) (Or.inl ⟨by rfl, ?_⟩) (by assumption) ?_
  rotate_left
  · intro w hSw; (try dsimp only at hSw); go_simp; first | done | with_reducible rfl
  try simp only [Act.put, List.setIfInBounds_toArray, List.set_cons_zero, List.set_cons_succ]
  refine wpAnyH_take (i := 10) (oi := { dst := some 18, op := Op.load 30 (Operand.tmp 3), type := 30, pos := "law.go:15", after := #[{ on := 9, ground := Ground.guard }], guard := some (9, true) }) (v := _) rfl (by kernel_rfl) (by kernel_rfl) (by kernel_rfl) (fun _ _ _ h => h) (yieldsIf_load_mid (by rfl) _ _ rfl _ _ rfl _ _ (fun _ h => h.2) Try.underlying30 rfl hinf.out) (by assumption) ?_
  try simp only [Act.put, List.setIfInBounds_toArray, List.set_cons_zero, List.set_cons_succ]
  refine wpAnyH_take (i := 12) (oi := { dst := some 20, op := Op.load 30 (Operand.tmp 3), type := 30, pos := "law.go:15", after := #[{ on := 9, ground := Ground.guard }], guard := some (9, true) }) (v := _) rfl (by kernel_rfl) (by kernel_rfl) (by kernel_rfl) (fun _ _ _ h => h) (yieldsIf_load_mid (by rfl) _ _ rfl _ _ rfl _ _ (fun _ h => h.2) Try.underlying30 rfl hinf.out) (by assumption) ?_
  try simp only [Act.put, List.setIfInBounds_toArray, List.set_cons_zero, List.set_cons_succ]
  refine wpAnyH_ready (rs := [11]) (by kernel_rfl) (by simp) ?_
  refine AllReadyH.cons (o := { dst := some 19, op := Op.call { callee := Callee.value (Operand.func 6), args := #[Operand.tmp 18], argTypes := #[30] }, type := 34, pos := "law.go:15", after := #[{ on := 10, ground := Ground.data }, { on := 9, ground := Ground.chain }, { on := 9, ground := Ground.guard }], guard := some (9, true) }) rfl (fun K hK => ?_) AllReadyH.nil
  go_simp
  go_wp2_with ((go_at_call 6; refine (h3.out _).mono ?_; rintro x wq3 ⟨rfl, q9⟩; replace d1 : Gr w1 wq3 := Gr.trans (by (with_reducible repeat (first | assumption | exact Gr.refl _ | refine Gr.alloc ?_ _ | refine Gr.grow ?_ _ | refine Gr.drew ?_ | refine Gr.setCell ?_ _ _ _ (gr_size ?_)))) q9; clear q9))
  refine hK.out _ _ (KS.out _ d1) (fun hHeld => ?_)
  clear hK K
  try simp only [Act.put, List.setIfInBounds_toArray, List.set_cons_zero, List.set_cons_succ]
  refine wpAnyH_ready (rs := [13]) (by kernel_rfl) (by simp) ?_
  refine AllReadyH.cons (o := { dst := some 21, op := Op.call { callee := Callee.value (Operand.func 7), args := #[Operand.tmp 20], argTypes := #[30] }, type := 34, pos := "law.go:15", after := #[{ on := 12, ground := Ground.data }, { on := 11, ground := Ground.chain }, { on := 9, ground := Ground.guard }], guard := some (9, true) }) rfl (fun K hK => ?_) AllReadyH.nil
  go_simp
  go_wp2_with ((go_at_call 7; refine (h4.out _).mono ?_; rintro x wq4 ⟨rfl, q9⟩; replace d1 : Gr w1 wq4 := Gr.trans (by (with_reducible repeat (first | assumption | exact Gr.refl _ | refine Gr.alloc ?_ _ | refine Gr.grow ?_ _ | refine Gr.drew ?_ | refine Gr.setCell ?_ _ _ _ (gr_size ?_)))) q9; clear q9))
  refine hK.out _ _ (KS.out _ d1) (fun hHeld => ?_)
  clear hK K
  try simp only [Act.put, List.setIfInBounds_toArray, List.set_cons_zero, List.set_cons_succ]
  refine wpAnyH_take (i := 14) (oi := { dst := some 22, op := Op.binOp BinOp.eql 34 (Operand.tmp 19) (Operand.tmp 21) 34, type := 4, pos := "law.go:15", after := #[{ on := 11, ground := Ground.data }, { on := 13, ground := Ground.data }, { on := 9, ground := Ground.guard }], guard := some (9, true) }) (v := ?_) rfl (by kernel_rfl) (by kernel_rfl) (by kernel_rfl) (fun _ _ _ h => h) (Or.inl ⟨by rfl, ?_⟩) (by assumption) ?_
  rotate_left
  · intro w hSw; (try dsimp only at hSw); go_simp; first | done | with_reducible rfl
  try simp only [Act.put, List.setIfInBounds_toArray, List.set_cons_zero, List.set_cons_succ]
  refine wpAnyH_take (i := 15) (oi := { dst := some 23, op := Op.pick (Operand.tmp 17) (Operand.tmp 22) (Operand.const (Value.bool false)), type := 4, pos := "law.go:15", after := #[{ on := 9, ground := Ground.data }, { on := 14, ground := Ground.data }], guard := none }) (v := ?_) rfl (by kernel_rfl) (by kernel_rfl) (by kernel_rfl) (fun _ _ _ h => h) (Or.inl ⟨by rfl, ?_⟩) (by assumption) ?_
  rotate_left
  · intro w hSw; (try dsimp only at hSw); go_simp; first | done | with_reducible rfl
  try simp only [Act.put, List.setIfInBounds_toArray, List.set_cons_zero, List.set_cons_succ]
  refine wpAnyH_take (i := 16) (oi := { dst := some 4, op := Op.assign (Operand.tmp 23), type := 4, pos := "law.go:15", after := #[{ on := 15, ground := Ground.data }, { on := 13, ground := Ground.chain }, { on := 0, ground := Ground.phase }, { on := 1, ground := Ground.phase }, { on := 2, ground := Ground.phase }, { on := 3, ground := Ground.phase }, { on := 4, ground := Ground.phase }, { on := 5, ground := Ground.phase }, { on := 6, ground := Ground.phase }, { on := 7, ground := Ground.phase }, { on := 8, ground := Ground.phase }, { on := 9, ground := Ground.phase }, { on := 10, ground := Ground.phase }, { on := 11, ground := Ground.phase }, { on := 12, ground := Ground.phase }, { on := 13, ground := Ground.phase }, { on := 14, ground := Ground.phase }, { on := 15, ground := Ground.phase }], guard := none }) (v := ?_) rfl (by kernel_rfl) (by kernel_rfl) (by kernel_rfl) (fun _ _ _ h => h) (Or.inl ⟨by rfl, ?_⟩) (by assumption) ?_
  rotate_left
  · intro w hSw; (try dsimp only at hSw); go_simp; first | done | with_reducible rfl
  try simp only [Act.put, List.setIfInBounds_toArray, List.set_cons_zero, List.set_cons_succ]
  refine wpAnyH_done (by kernel_rfl) ?_ _
  clear hHeld KS
  replace G := T.Hid.mk (G.out.trans d1)
  go_wp2_with fail
  go_ret
  exact ⟨by simp, G.out⟩
end E
end Go.Proofs.Ytmcldekeeookaaa
