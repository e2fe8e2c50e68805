/-
  Stage 12, erase: values, and what is left of them.
-/
import Derived.Test.YtmcldekeeookaaaRRow0
import Derived.Test.YtmcldekeeookaaaTEin
namespace Go.Proofs.Ytmcldekeeookaaa
namespace E
open Go.RowKit
theorem results_row {fn : Func} {p : Tmp} {ty : TypeId} {v : Value} {a : Addr} (h : fn.results = #[.cell p ty]) (tmps : Array Value) (w : World) (ht : tmps.getD p undef = .pointer (some a)) (hl : (loadVar ty a).run Try.prog w = .ok v w) :
    (results fn tmps).run Try.prog w = .ok v w := by
  have ht' : tmps[p]?.getD undef = .pointer (some a) := by simpa using ht
  simp [results, h, ht', asAddr, hl]

structure Kc where
  b : Int
  e : Int
  c : Int
  pm : Int
  s : Int
structure Vv where
  tag : Bool
  n : Int
  c : Kc
def Kc.vals (c : Kc) : List Value := [.int .u64 c.b, .int .u64 c.e, .int .u64 c.c, .int .u8 c.pm, .int .i64 c.s]
def Vv.vals (v : Vv) : List Value := .bool v.tag :: .int .u64 v.n :: v.c.vals
def Vv.left (v : Vv) : Int := match v.tag with
  | true => v.c.c
  | false => v.n
def uV (n : Int) : List Value := [.int .u64 n]
theorem vv_len (v : Vv) : v.vals.length = 7 := rfl
theorem u_len (n : Int) : (uV n).length = 1 := rfl
def zF : List Value := [.int .i64 0, .int .i64 0, .int .i64 0, .int .u64 0, .int .u64 0, .int .u64 0, .int .u64 0, .int .u64 0, .int .u64 0, .int .u64 0, .int .u64 0, .int .u64 0, .int .u64 0, .int .u64 0, .int .u64 0, .int .u64 0, .int .u64 0, .int .u64 0, .int .u64 0]
def zV : List Value := [.bool false, .int .u64 0, .int .u64 0, .int .u64 0, .int .u64 0, .int .u8 0, .int .i64 0]
theorem At.suffix {α : Type} {pre : List Value} {f : α → List Value} {w : World} {b : Nat} {L : List α} (h : At w b (rowV pre f L).toArray) : w.rangeAt b pre.length (rowV [] f L) := fun j v q => by
  rw [h.2.1, List.getElem?_toArray]
  unfold rowV at q ⊢
  rw [List.getElem?_append_right (by omega), show pre.length + j - pre.length = j by omega]
  exact q
theorem store_at {w : World} {b : Nat} {cs : List Value} (h : At w b cs.toArray) (o : Nat) (vs : List Value) (hl : o + vs.length ≤ cs.length) (h1 : ∀ v ∈ vs, v.oneCell' = true) : (storeCells ⟨b, o, none⟩ vs).run Try.prog w = .ok () (w.setCells b o vs) :=
  run_storeCells_cells (P := Try.prog) b o vs 0 w (fun j hj => (h.there o vs.length hl j hj).1) (fun j hj => (h.there o vs.length hl j hj).2) h1
theorem one_vv (v : Vv) : ∀ x ∈ v.vals, x.oneCell' = true := by
  intro x hx
  simp only [Vv.vals, Kc.vals, List.mem_cons, List.not_mem_nil, or_false] at hx
  rcases hx with rfl | rfl | rfl | rfl | rfl | rfl | rfl <;> rfl
theorem one_left (pre : List Value) (hp : ∀ x ∈ pre, x.oneCell' = true) (L : List Int) : ∀ x ∈ rowV pre uV L, x.oneCell' = true := by
  intro x hx
  unfold rowV at hx
  rcases List.mem_append.1 hx with h | h
  · exact hp x h
  · obtain ⟨n, _, hn⟩ := List.mem_flatMap.1 h
    simp only [uV, List.mem_cons, List.not_mem_nil, or_false] at hn
    subst hn
    rfl
theorem row_take {α : Type} {f : α → List Value} {k : Nat} (hf : ∀ x, (f x).length = k) (L : List α) (i : Nat) (h : i < L.length) : List.take k (List.drop (i * k) (rowV [] f L)) = f L[i] := by
  apply List.ext_getElem?
  intro j
  have hk : (i + 1) * k ≤ L.length * k := Nat.mul_le_mul_right k h
  rw [Nat.add_mul] at hk
  by_cases hj : j < k
  · have := row_at (pre := []) hf L i h j hj
    simp only [List.length_nil, Nat.zero_add] at this
    rw [List.getElem?_take_of_lt hj, List.getElem?_drop, this]
  · rw [List.getElem?_eq_none (by rw [List.length_take]; omega), List.getElem?_eq_none (by rw [hf]; omega)]
set_option maxRecDepth 10000 in
theorem index_row (A : List Vv) (k : Nat) (hk : k < A.length) (hA : A.length = 16) (W : World) : (Instr.index 28 (.agg (rowV [] Vv.vals A).toArray) (.int .i64 k)).run Try.prog W = .ok (.agg (Vv.vals A[k]).toArray) W := by
  have h0 : (0 : Int) ≤ k := by omega
  unfold Instr.index
  simp [go_sem, h0]
  rw [if_pos (by omega), row_take vv_len A k hk]

set_option maxHeartbeats 1000000 in
theorem pValue_any (v : Vv) (w : World) : Calls Try.prog 4 #[.agg v.vals.toArray] w fun x w' => x = .returned (.int .u64 v.left) ∧ Gr w w' := by
  obtain ⟨t, n, ⟨b, e, c, p, s⟩⟩ := v
  unfold Vv.left Vv.vals Kc.vals
  cases t
  · go_enter Try.func4, Try.ntmps4
    go_wp2_with fail
    go_ret
    exact ⟨rfl, by (with_reducible repeat (first | exact Gr.refl _ | refine Gr.alloc ?_ _ | refine Gr.grow ?_ _ | refine Gr.drew ?_ | refine Gr.setCell ?_ _ _ _ (gr_size ?_)))⟩
  · go_enter Try.func4, Try.ntmps4
    go_wp2_with fail
    go_ret
    exact ⟨rfl, by (with_reducible repeat (first | exact Gr.refl _ | refine Gr.alloc ?_ _ | refine Gr.grow ?_ _ | refine Gr.drew ?_ | refine Gr.setCell ?_ _ _ _ (gr_size ?_)))⟩
set_option maxHeartbeats 1000000 in
theorem rValue_any (v : Vv) (w : World) : Calls Try.prog 5 #[.agg v.vals.toArray] w fun x w' => x = .returned (.int .u64 v.left) ∧ Gr w w' := by
  obtain ⟨t, n, ⟨b, e, c, p, s⟩⟩ := v
  unfold Vv.left Vv.vals Kc.vals
  cases t
  · go_enter Try.func5, Try.ntmps5
    go_wp2_with fail
    go_ret
    exact ⟨rfl, by (with_reducible repeat (first | exact Gr.refl _ | refine Gr.alloc ?_ _ | refine Gr.grow ?_ _ | refine Gr.drew ?_ | refine Gr.setCell ?_ _ _ _ (gr_size ?_)))⟩
  · go_enter Try.func5, Try.ntmps5
    go_wp2_with fail
    go_ret
    exact ⟨rfl, by (with_reducible repeat (first | exact Gr.refl _ | refine Gr.alloc ?_ _ | refine Gr.grow ?_ _ | refine Gr.drew ?_ | refine Gr.setCell ?_ _ _ _ (gr_size ?_)))⟩
set_option maxRecDepth 100000 in
set_option maxHeartbeats 4000000 in
theorem pSnap_any (g p d : Int) (V : List Vv) (w : World) (hV : V.length = 16) : Calls Try.prog 6 #[.agg (rowV [.int .i64 g, .int .i64 p, .int .i64 d] Vv.vals V).toArray] w fun x w' => x = .returned (.agg (rowV [.int .i64 g, .int .i64 p, .int .i64 d] uV (V.map Vv.left)).toArray) ∧ Gr w w' := by
  go_enter Try.func6, Try.ntmps6
  go_upto_region 1 with fail
  have B0 : T.Hid (At ((w.alloc (.cells (rowV [.int .i64 g, .int .i64 p, .int .i64 d] Vv.vals V).toArray 30)).alloc (.cells #[Value.int .i64 0, .int .i64 0, .int .i64 0, .int .u64 0, .int .u64 0, .int .u64 0, .int .u64 0, .int .u64 0, .int .u64 0, .int .u64 0, .int .u64 0, .int .u64 0, .int .u64 0, .int .u64 0, .int .u64 0, .int .u64 0, .int .u64 0, .int .u64 0, .int .u64 0] 34)) w.heap.size (rowV [.int .i64 g, .int .i64 p, .int .i64 d] Vv.vals V).toArray) := T.Hid.mk ((At.at_ w _ _ rfl).alloc _)
  have B1 : T.Hid (At ((w.alloc (.cells (rowV [.int .i64 g, .int .i64 p, .int .i64 d] Vv.vals V).toArray 30)).alloc (.cells #[Value.int .i64 0, .int .i64 0, .int .i64 0, .int .u64 0, .int .u64 0, .int .u64 0, .int .u64 0, .int .u64 0, .int .u64 0, .int .u64 0, .int .u64 0, .int .u64 0, .int .u64 0, .int .u64 0, .int .u64 0, .int .u64 0, .int .u64 0, .int .u64 0, .int .u64 0] 34)) (w.heap.size + 1) zF.toArray) := T.Hid.mk (show At ((w.alloc (.cells (rowV [.int .i64 g, .int .i64 p, .int .i64 d] Vv.vals V).toArray 30)).alloc (.cells #[Value.int .i64 0, .int .i64 0, .int .i64 0, .int .u64 0, .int .u64 0, .int .u64 0, .int .u64 0, .int .u64 0, .int .u64 0, .int .u64 0, .int .u64 0, .int .u64 0, .int .u64 0, .int .u64 0, .int .u64 0, .int .u64 0, .int .u64 0, .int .u64 0, .int .u64 0] 34)) (w.heap.size + 1) #[Value.int .i64 0, .int .i64 0, .int .i64 0, .int .u64 0, .int .u64 0, .int .u64 0, .int .u64 0, .int .u64 0, .int .u64 0, .int .u64 0, .int .u64 0, .int .u64 0, .int .u64 0, .int .u64 0, .int .u64 0, .int .u64 0, .int .u64 0, .int .u64 0, .int .u64 0] from At.at_ _ _ _ (by simp))
  have G : T.Hid (Gr w ((w.alloc (.cells (rowV [.int .i64 g, .int .i64 p, .int .i64 d] Vv.vals V).toArray 30)).alloc (.cells #[Value.int .i64 0, .int .i64 0, .int .i64 0, .int .u64 0, .int .u64 0, .int .u64 0, .int .u64 0, .int .u64 0, .int .u64 0, .int .u64 0, .int .u64 0, .int .u64 0, .int .u64 0, .int .u64 0, .int .u64 0, .int .u64 0, .int .u64 0, .int .u64 0, .int .u64 0] 34))) := T.Hid.mk (((Gr.refl w).alloc _).alloc _)
  refine wp_world (fun W => T.Hid (At W w.heap.size (rowV [.int .i64 g, .int .i64 p, .int .i64 d] Vv.vals V).toArray) ∧ T.Hid (At W (w.heap.size + 1) zF.toArray) ∧ T.Hid (Gr w W)) ⟨B0, B1, G⟩ ?_
  clear B0 B1 G
  rintro W0 ⟨B0, B1, G⟩
  have c0 : W0.cell? ⟨w.heap.size, 0, none⟩ = some (.int .i64 g) := B0.out.2.1 0
  have c1 : W0.cell? ⟨w.heap.size, 1, none⟩ = some (.int .i64 p) := B0.out.2.1 1
  have c2 : W0.cell? ⟨w.heap.size, 2, none⟩ = some (.int .i64 d) := B0.out.2.1 2
  refine wp_region_lit ?_
  refine wpList_plain rfl (fun K hK => ?_)
  go_simp
  with_reducible refine hK _ _ ?_
  clear hK K
  try simp only [Act.put, List.setIfInBounds_toArray, List.set_cons_zero, List.set_cons_succ]
  refine wpList_plain rfl (fun K hK => ?_)
  go_simp
  with_reducible refine hK _ _ ?_
  clear hK K
  try simp only [Act.put, List.setIfInBounds_toArray, List.set_cons_zero, List.set_cons_succ]
  refine wpList_plain rfl (fun K hK => ?_)
  go_simp
  with_reducible refine hK _ _ ?_
  clear hK K
  try simp only [Act.put, List.setIfInBounds_toArray, List.set_cons_zero, List.set_cons_succ]
  refine wpList_plain rfl (fun K hK => ?_)
  go_simp
  with_reducible refine hK _ _ ?_
  clear hK K
  try simp only [Act.put, List.setIfInBounds_toArray, List.set_cons_zero, List.set_cons_succ]
  refine wpList_plain rfl (fun K hK => ?_)
  go_simp
  with_reducible refine hK _ _ ?_
  clear hK K
  try simp only [Act.put, List.setIfInBounds_toArray, List.set_cons_zero, List.set_cons_succ]
  refine wpList_plain rfl (fun K hK => ?_)
  go_simp
  with_reducible refine hK _ _ ?_
  clear hK K
  try simp only [Act.put, List.setIfInBounds_toArray, List.set_cons_zero, List.set_cons_succ]
  refine wpList_plain rfl (fun K hK => ?_)
  go_simp
  with_reducible refine hK _ _ ?_
  clear hK K
  try simp only [Act.put, List.setIfInBounds_toArray, List.set_cons_zero, List.set_cons_succ]
  refine wpList_plain rfl (fun K hK => ?_)
  go_simp
  with_reducible refine hK _ _ ?_
  clear hK K
  try simp only [Act.put, List.setIfInBounds_toArray, List.set_cons_zero, List.set_cons_succ]
  have A0 := T.Hid.mk ((B0.out.alloc (.cells #[Value.int .i64 0, .int .i64 0, .int .i64 0, .int .u64 0, .int .u64 0, .int .u64 0, .int .u64 0, .int .u64 0, .int .u64 0, .int .u64 0, .int .u64 0, .int .u64 0, .int .u64 0, .int .u64 0, .int .u64 0, .int .u64 0, .int .u64 0, .int .u64 0, .int .u64 0] 34)).other (b' := W0.heap.size) (Nat.ne_of_lt B0.out.1) 0 (rowV [.int .i64 g, .int .i64 p, .int .i64 d] uV (List.replicate 16 0)))
  have A1 := T.Hid.mk ((B1.out.alloc (.cells #[Value.int .i64 0, .int .i64 0, .int .i64 0, .int .u64 0, .int .u64 0, .int .u64 0, .int .u64 0, .int .u64 0, .int .u64 0, .int .u64 0, .int .u64 0, .int .u64 0, .int .u64 0, .int .u64 0, .int .u64 0, .int .u64 0, .int .u64 0, .int .u64 0, .int .u64 0] 34)).other (b' := W0.heap.size) (Nat.ne_of_lt B1.out.1) 0 (rowV [.int .i64 g, .int .i64 p, .int .i64 d] uV (List.replicate 16 0)))
  have A2 := T.Hid.mk (At.setAll (cs := zF) (At.new W0 #[Value.int .i64 0, .int .i64 0, .int .i64 0, .int .u64 0, .int .u64 0, .int .u64 0, .int .u64 0, .int .u64 0, .int .u64 0, .int .u64 0, .int .u64 0, .int .u64 0, .int .u64 0, .int .u64 0, .int .u64 0, .int .u64 0, .int .u64 0, .int .u64 0, .int .u64 0] 34) (rowV [.int .i64 g, .int .i64 p, .int .i64 d] uV (List.replicate 16 0)) rfl)
  have hG := T.Hid.mk ((G.out.alloc (.cells #[Value.int .i64 0, .int .i64 0, .int .i64 0, .int .u64 0, .int .u64 0, .int .u64 0, .int .u64 0, .int .u64 0, .int .u64 0, .int .u64 0, .int .u64 0, .int .u64 0, .int .u64 0, .int .u64 0, .int .u64 0, .int .u64 0, .int .u64 0, .int .u64 0, .int .u64 0] 34)).setCells W0.heap.size G.out.below.size (rowV [.int .i64 g, .int .i64 p, .int .i64 d] uV (List.replicate 16 0)) 0)
  have th := T.Hid.mk (At.there (cs := zF) (At.new W0 #[Value.int .i64 0, .int .i64 0, .int .i64 0, .int .u64 0, .int .u64 0, .int .u64 0, .int .u64 0, .int .u64 0, .int .u64 0, .int .u64 0, .int .u64 0, .int .u64 0, .int .u64 0, .int .u64 0, .int .u64 0, .int .u64 0, .int .u64 0, .int .u64 0, .int .u64 0] 34) 0 19 (by simp [zF]))
  refine wpList_plain rfl (fun K hK => ?_)
  refine wp_store_mid _ _ _ rfl _ _ (List.toArray (rowV [.int .i64 g, .int .i64 p, .int .i64 d] uV (List.replicate 16 0))) rfl rfl th.out (by kernel_rfl) (all_oneCell_toArray (one_left [.int .i64 g, .int .i64 p, .int .i64 d] (by simp [Value.oneCell']) _)) (hK _ _ ?_)
  clear hK K th
  try simp only [Act.put]
  go_upto_region 2 with fail
  have hs := T.Hid.mk G.out.below.size
  have h1 := T.Hid.mk B1.out.1
  refine wp_world (fun W => T.Hid (At W w.heap.size (rowV [.int .i64 g, .int .i64 p, .int .i64 d] Vv.vals V).toArray) ∧ T.Hid (At W (w.heap.size + 1) zF.toArray) ∧ T.Hid (At W W0.heap.size (rowV [.int .i64 g, .int .i64 p, .int .i64 d] uV (List.replicate 16 0)).toArray) ∧ T.Hid (Gr w W)) ⟨A0, A1, A2, hG⟩ ?_
  clear A0 A1 A2 hG B0 B1 G c0 c1 c2
  generalize W0.heap.size = kr at *
  clear W0
  rintro W0 ⟨B0, B1, B2, G⟩
  refine wp_region_lit ?_
  refine wpList_plain rfl (fun K hK => ?_)
  go_simp
  with_reducible refine hK _ _ ?_
  clear hK K
  try simp only [Act.put, List.setIfInBounds_toArray, List.set_cons_zero, List.set_cons_succ]
  refine wpList_plain rfl (fun K hK => ?_)
  refine wp_load_mid _ _ rfl _ 3 rfl (rowV [] Vv.vals V) _ (At.suffix B0.out) Try.underlying28 rfl (by rw [row_len vv_len, hV]; kernel_rfl) (hK _ _ ?_)
  clear hK K
  try simp only [Act.put, List.setIfInBounds_toArray, List.set_cons_zero, List.set_cons_succ]
  refine wpList_plain rfl (fun K hK => ?_)
  go_simp
  with_reducible refine hK _ _ ?_
  clear hK K
  try simp only [Act.put, List.setIfInBounds_toArray, List.set_cons_zero, List.set_cons_succ]
  go_upto_region 3 with fail
  go_loopw [15] (fun i wr => ∃ (k : Nat) (L : List Int), i = .int .i64 k ∧ k ≤ 16 ∧ L.length = 16 ∧ T.Hid (∀ i, i < k → L[i]? = (V.map Vv.left)[i]?) ∧ T.Hid (At wr w.heap.size (rowV [.int .i64 g, .int .i64 p, .int .i64 d] Vv.vals V).toArray) ∧ T.Hid (At wr (w.heap.size + 1) zF.toArray) ∧ T.Hid (At wr kr (rowV [.int .i64 g, .int .i64 p, .int .i64 d] uV L).toArray) ∧ T.Hid (Gr w wr)) (fun i _ => 16 - (intOf i).toNat)
  case atStart => exact ⟨0, List.replicate 16 0, rfl, by omega, by simp, T.Hid.mk (fun i h => by omega), B0, B1, B2, G⟩
  case round =>
    clear B0 B1 B2 G
    obtain ⟨k, L, rfl, hk, hL, hall, B0, B1, B2, G⟩ := hrel
    by_cases hlt : k < 16
    · have ha : k < V.length := by omega
      have k1 : (k : Int) < 16 := by omega
      have hs2 : T.Hid (∀ i, i < k + 1 → (L.set k V[k].left)[i]? = (V.map Vv.left)[i]?) := T.Hid.mk (fun i hi => by
        by_cases q : i = k
        · subst q
          rw [List.getElem?_set_self (by omega), List.getElem?_map, List.getElem?_eq_getElem ha]
          rfl
        · rw [List.getElem?_set_ne (by omega)]
          exact hall.out i (by omega))
      have hix := fun W => index_row V k ha hV W
      generalize V[k] = x0 at *
      have a0 := T.Hid.mk (At.new wr #[Value.bool false, .int .u64 0, .int .u64 0, .int .u64 0, .int .u64 0, .int .u8 0, .int .i64 0] 27)
      have hst := store_at (cs := zV) a0.out 0 (Vv.vals x0) (by simp [zV, vv_len]) (one_vv x0)
      have b5 := T.Hid.mk (At.setAll (cs := zV) a0.out (Vv.vals x0) rfl)
      have b0 := T.Hid.mk ((B0.out.alloc (.cells #[Value.bool false, .int .u64 0, .int .u64 0, .int .u64 0, .int .u64 0, .int .u8 0, .int .i64 0] 27)).other (b' := wr.heap.size) (Nat.ne_of_lt B0.out.1) 0 (Vv.vals x0))
      have b1 := T.Hid.mk ((B1.out.alloc (.cells #[Value.bool false, .int .u64 0, .int .u64 0, .int .u64 0, .int .u64 0, .int .u8 0, .int .i64 0] 27)).other (b' := wr.heap.size) (Nat.ne_of_lt B1.out.1) 0 (Vv.vals x0))
      have b2 := T.Hid.mk ((B2.out.alloc (.cells #[Value.bool false, .int .u64 0, .int .u64 0, .int .u64 0, .int .u64 0, .int .u8 0, .int .i64 0] 27)).other (b' := wr.heap.size) (Nat.ne_of_lt B2.out.1) 0 (Vv.vals x0))
      have g5 := T.Hid.mk ((G.out.alloc (.cells #[Value.bool false, .int .u64 0, .int .u64 0, .int .u64 0, .int .u64 0, .int .u8 0, .int .i64 0] 27)).setCells wr.heap.size G.out.below.size (Vv.vals x0) 0)
      clear B0 B1 B2 G a0
      go_upto_region 5 with fail
      clear hst
      refine wp_world (fun W => T.Hid (At W w.heap.size (rowV [.int .i64 g, .int .i64 p, .int .i64 d] Vv.vals V).toArray) ∧ T.Hid (At W (w.heap.size + 1) zF.toArray) ∧ T.Hid (At W kr (rowV [.int .i64 g, .int .i64 p, .int .i64 d] uV L).toArray) ∧ T.Hid (At W wr.heap.size (Vv.vals x0).toArray) ∧ T.Hid (Gr w W)) ⟨b0, b1, b2, b5, g5⟩ ?_
      clear b0 b1 b2 b5 g5 hix
      generalize wr.heap.size = k5 at *
      clear wr
      rintro W5 ⟨b0, b1, b2, b5, g5⟩
      refine wp_region_lit ?_
      refine wpList_plain rfl (fun K hK => ?_)
      go_simp
      with_reducible refine hK _ _ ?_
      clear hK K
      try simp only [Act.put, List.setIfInBounds_toArray, List.set_cons_zero, List.set_cons_succ]
      refine wpList_plain rfl (fun K hK => ?_)
      refine wp_load_mid _ _ rfl _ 0 rfl (Vv.vals x0) _ b5.out.range Try.underlying27 rfl (by kernel_rfl) (hK _ _ ?_)
      clear hK K
      try simp only [Act.put, List.setIfInBounds_toArray, List.set_cons_zero, List.set_cons_succ]
      refine wpList_plain rfl (fun K hK => ?_)
      go_simp
      (go_at_call 4; refine (pValue_any x0 _).mono ?_; rintro x wq ⟨rfl, q9⟩; replace q9 := T.Hid.mk q9)
      with_reducible refine hK _ _ ?_
      clear hK K
      try simp only [Act.put, List.setIfInBounds_toArray, List.set_cons_zero, List.set_cons_succ]
      refine wpList_plain rfl (fun K hK => ?_)
      go_simp
      with_reducible refine hK _ _ ?_
      clear hK K
      try simp only [Act.put, List.setIfInBounds_toArray, List.set_cons_zero, List.set_cons_succ]
      refine wpList_plain rfl (fun K hK => ?_)
      go_simp
      with_reducible refine hK _ _ ?_
      clear hK K
      try simp only [Act.put, List.setIfInBounds_toArray, List.set_cons_zero, List.set_cons_succ]
      have hkr := h1.out
      have c0 := T.Hid.mk ((b0.out.gr q9.out).other (b' := kr) (by omega) (3 + k) (uV x0.left))
      have c1 := T.Hid.mk ((b1.out.gr q9.out).other (b' := kr) (by omega) (3 + k) (uV x0.left))
      have c2 := T.Hid.mk ((b2.out.gr q9.out).setElem u_len k (by omega) x0.left (3 + k) (by simp))
      have g := T.Hid.mk ((g5.out.trans q9.out).setCells kr (by omega) (uV x0.left) (3 + k))
      refine wpList_plain rfl (fun K hK => ?_)
      have tc := (b2.out.gr q9.out).there (3 + k) 1 (by rw [row_len u_len, hL]; simp; omega) 0 (by omega)
      have tc1 := tc.2
      obtain ⟨y0, tc0⟩ := Option.isSome_iff_exists.1 tc.1
      rw [Nat.add_zero] at tc0 tc1
      clear tc
      go_simp
      with_reducible refine hK _ _ ?_
      clear hK K tc0 tc1
      try simp only [Act.put]
      clear q9 b0 b1 b2 b5 g5
      go_wp2_with fail
      exact ⟨⟨k + 1, L.set k x0.left, by go_num, by omega, by simp [hL], hs2, c0, c1, c2, g⟩, by simp [intOf]; omega⟩
    · have k1 : ¬ (k : Int) < 16 := by omega
      have e : L = V.map Vv.left := List.ext_getElem? (fun i => by
        by_cases q : i < 16
        · exact hall.out i (by omega)
        · rw [List.getElem?_eq_none (by omega), List.getElem?_eq_none (by simp; omega)])
      subst e
      clear hall hlt hk
      go_upto_region 7 with fail
      have hone := T.Hid.mk (one_left [.int .i64 g, .int .i64 p, .int .i64 d] (by simp [Value.oneCell']) (V.map Vv.left))
      have hl0 : T.Hid ((rowV [.int .i64 g, .int .i64 p, .int .i64 d] uV (V.map Vv.left)).length = 19) := T.Hid.mk (by rw [row_len u_len, hL]; rfl)
      have hinf := T.Hid.mk ((show (Try.prog.info? 34).map (·.size) = some (rowV [.int .i64 g, .int .i64 p, .int .i64 d] uV (V.map Vv.left)).length by rw [hl0.out]; kernel_rfl))
      have a3 := T.Hid.mk (B2.out.range)
      have th := T.Hid.mk (show World.there _ (w.heap.size + 1) 0 (List.toArray (rowV [.int .i64 g, .int .i64 p, .int .i64 d] uV (V.map Vv.left))).size from B1.out.there 0 _ (by rw [List.size_toArray, hl0.out]; simp [zF]))
      have s2 := T.Hid.mk (B1.out.setAll (rowV [.int .i64 g, .int .i64 p, .int .i64 d] uV (V.map Vv.left)) (by rw [hl0.out]; rfl))
      have hres := T.Hid.mk (G.out.setCells (w.heap.size + 1) (by omega) (rowV [.int .i64 g, .int .i64 p, .int .i64 d] uV (V.map Vv.left)) 0)
      clear B2 B1 B0 G hl0
      generalize hrow : (rowV [.int .i64 g, .int .i64 p, .int .i64 d] uV (V.map Vv.left)) = row at *
      replace hrow := T.Hid.mk hrow
      refine wp_region_lit ?_
      refine wpList_load_mid rfl _ _ rfl _ 0 rfl row _ a3.out Try.underlying34 rfl hinf.out ?_
      simp only [Act.put, List.setIfInBounds_toArray, List.set_cons_zero, List.set_cons_succ]
      refine wpList_store_mid rfl _ _ _ rfl _ _ (List.toArray row) rfl rfl th.out hinf.out (all_oneCell_toArray hone.out) ?_
      simp only [Act.put]
      have s5 := T.Hid.mk (s2.out.range)
      clear s2 th a3
      generalize World.setCells _ _ _ _ = W5 at *
      have hrun := T.Hid.mk (run_loadVar_mid (P := Try.prog) W5 (w.heap.size + 1) 0 34 row _ s5.out Try.underlying34 rfl hinf.out)
      clear s5 hinf hone
      go_wp2_with fail
      refine bodyPost_ret (v := .agg row.toArray) ?_ rfl ⟨by rw [hrow.out], hres.out⟩
      exact results_row Try.results6 _ _ rfl hrun.out
set_option maxRecDepth 100000 in
set_option maxHeartbeats 4000000 in
theorem rSnap_any (g p d : Int) (V : List Vv) (w : World) (hV : V.length = 16) : Calls Try.prog 7 #[.agg (rowV [.int .i64 g, .int .i64 p, .int .i64 d] Vv.vals V).toArray] w fun x w' => x = .returned (.agg (rowV [.int .i64 g, .int .i64 p, .int .i64 d] uV (V.map Vv.left)).toArray) ∧ Gr w w' := by
  go_enter Try.func7, Try.ntmps7
  go_upto_region 1 with fail
  have B0 : T.Hid (At ((w.alloc (.cells (rowV [.int .i64 g, .int .i64 p, .int .i64 d] Vv.vals V).toArray 30)).alloc (.cells #[Value.int .i64 0, .int .i64 0, .int .i64 0, .int .u64 0, .int .u64 0, .int .u64 0, .int .u64 0, .int .u64 0, .int .u64 0, .int .u64 0, .int .u64 0, .int .u64 0, .int .u64 0, .int .u64 0, .int .u64 0, .int .u64 0, .int .u64 0, .int .u64 0, .int .u64 0] 34)) w.heap.size (rowV [.int .i64 g, .int .i64 p, .int .i64 d] Vv.vals V).toArray) := T.Hid.mk ((At.at_ w _ _ rfl).alloc _)
  have B1 : T.Hid (At ((w.alloc (.cells (rowV [.int .i64 g, .int .i64 p, .int .i64 d] Vv.vals V).toArray 30)).alloc (.cells #[Value.int .i64 0, .int .i64 0, .int .i64 0, .int .u64 0, .int .u64 0, .int .u64 0, .int .u64 0, .int .u64 0, .int .u64 0, .int .u64 0, .int .u64 0, .int .u64 0, .int .u64 0, .int .u64 0, .int .u64 0, .int .u64 0, .int .u64 0, .int .u64 0, .int .u64 0] 34)) (w.heap.size + 1) zF.toArray) := T.Hid.mk (show At ((w.alloc (.cells (rowV [.int .i64 g, .int .i64 p, .int .i64 d] Vv.vals V).toArray 30)).alloc (.cells #[Value.int .i64 0, .int .i64 0, .int .i64 0, .int .u64 0, .int .u64 0, .int .u64 0, .int .u64 0, .int .u64 0, .int .u64 0, .int .u64 0, .int .u64 0, .int .u64 0, .int .u64 0, .int .u64 0, .int .u64 0, .int .u64 0, .int .u64 0, .int .u64 0, .int .u64 0] 34)) (w.heap.size + 1) #[Value.int .i64 0, .int .i64 0, .int .i64 0, .int .u64 0, .int .u64 0, .int .u64 0, .int .u64 0, .int .u64 0, .int .u64 0, .int .u64 0, .int .u64 0, .int .u64 0, .int .u64 0, .int .u64 0, .int .u64 0, .int .u64 0, .int .u64 0, .int .u64 0, .int .u64 0] from At.at_ _ _ _ (by simp))
  have G : T.Hid (Gr w ((w.alloc (.cells (rowV [.int .i64 g, .int .i64 p, .int .i64 d] Vv.vals V).toArray 30)).alloc (.cells #[Value.int .i64 0, .int .i64 0, .int .i64 0, .int .u64 0, .int .u64 0, .int .u64 0, .int .u64 0, .int .u64 0, .int .u64 0, .int .u64 0, .int .u64 0, .int .u64 0, .int .u64 0, .int .u64 0, .int .u64 0, .int .u64 0, .int .u64 0, .int .u64 0, .int .u64 0] 34))) := T.Hid.mk (((Gr.refl w).alloc _).alloc _)
  refine wp_world (fun W => T.Hid (At W w.heap.size (rowV [.int .i64 g, .int .i64 p, .int .i64 d] Vv.vals V).toArray) ∧ T.Hid (At W (w.heap.size + 1) zF.toArray) ∧ T.Hid (Gr w W)) ⟨B0, B1, G⟩ ?_
  clear B0 B1 G
  rintro W0 ⟨B0, B1, G⟩
  have c0 : W0.cell? ⟨w.heap.size, 0, none⟩ = some (.int .i64 g) := B0.out.2.1 0
  have c1 : W0.cell? ⟨w.heap.size, 1, none⟩ = some (.int .i64 p) := B0.out.2.1 1
  have c2 : W0.cell? ⟨w.heap.size, 2, none⟩ = some (.int .i64 d) := B0.out.2.1 2
  refine wp_region_lit ?_
  refine wpList_plain rfl (fun K hK => ?_)
  go_simp
  with_reducible refine hK _ _ ?_
  clear hK K
  try simp only [Act.put, List.setIfInBounds_toArray, List.set_cons_zero, List.set_cons_succ]
  refine wpList_plain rfl (fun K hK => ?_)
  go_simp
  with_reducible refine hK _ _ ?_
  clear hK K
  try simp only [Act.put, List.setIfInBounds_toArray, List.set_cons_zero, List.set_cons_succ]
  refine wpList_plain rfl (fun K hK => ?_)
  go_simp
  with_reducible refine hK _ _ ?_
  clear hK K
  try simp only [Act.put, List.setIfInBounds_toArray, List.set_cons_zero, List.set_cons_succ]
  refine wpList_plain rfl (fun K hK => ?_)
  go_simp
  with_reducible refine hK _ _ ?_
  clear hK K
  try simp only [Act.put, List.setIfInBounds_toArray, List.set_cons_zero, List.set_cons_succ]
  refine wpList_plain rfl (fun K hK => ?_)
  go_simp
  with_reducible refine hK _ _ ?_
  clear hK K
  try simp only [Act.put, List.setIfInBounds_toArray, List.set_cons_zero, List.set_cons_succ]
  refine wpList_plain rfl (fun K hK => ?_)
  go_simp
  with_reducible refine hK _ _ ?_
  clear hK K
  try simp only [Act.put, List.setIfInBounds_toArray, List.set_cons_zero, List.set_cons_succ]
  refine wpList_plain rfl (fun K hK => ?_)
  go_simp
  with_reducible refine hK _ _ ?_
  clear hK K
  try simp only [Act.put, List.setIfInBounds_toArray, List.set_cons_zero, List.set_cons_succ]
  refine wpList_plain rfl (fun K hK => ?_)
  go_simp
  with_reducible refine hK _ _ ?_
  clear hK K
  try simp only [Act.put, List.setIfInBounds_toArray, List.set_cons_zero, List.set_cons_succ]
  have A0 := T.Hid.mk ((B0.out.alloc (.cells #[Value.int .i64 0, .int .i64 0, .int .i64 0, .int .u64 0, .int .u64 0, .int .u64 0, .int .u64 0, .int .u64 0, .int .u64 0, .int .u64 0, .int .u64 0, .int .u64 0, .int .u64 0, .int .u64 0, .int .u64 0, .int .u64 0, .int .u64 0, .int .u64 0, .int .u64 0] 34)).other (b' := W0.heap.size) (Nat.ne_of_lt B0.out.1) 0 (rowV [.int .i64 g, .int .i64 p, .int .i64 d] uV (List.replicate 16 0)))
  have A1 := T.Hid.mk ((B1.out.alloc (.cells #[Value.int .i64 0, .int .i64 0, .int .i64 0, .int .u64 0, .int .u64 0, .int .u64 0, .int .u64 0, .int .u64 0, .int .u64 0, .int .u64 0, .int .u64 0, .int .u64 0, .int .u64 0, .int .u64 0, .int .u64 0, .int .u64 0, .int .u64 0, .int .u64 0, .int .u64 0] 34)).other (b' := W0.heap.size) (Nat.ne_of_lt B1.out.1) 0 (rowV [.int .i64 g, .int .i64 p, .int .i64 d] uV (List.replicate 16 0)))
  have A2 := T.Hid.mk (At.setAll (cs := zF) (At.new W0 #[Value.int .i64 0, .int .i64 0, .int .i64 0, .int .u64 0, .int .u64 0, .int .u64 0, .int .u64 0, .int .u64 0, .int .u64 0, .int .u64 0, .int .u64 0, .int .u64 0, .int .u64 0, .int .u64 0, .int .u64 0, .int .u64 0, .int .u64 0, .int .u64 0, .int .u64 0] 34) (rowV [.int .i64 g, .int .i64 p, .int .i64 d] uV (List.replicate 16 0)) rfl)
  have hG := T.Hid.mk ((G.out.alloc (.cells #[Value.int .i64 0, .int .i64 0, .int .i64 0, .int .u64 0, .int .u64 0, .int .u64 0, .int .u64 0, .int .u64 0, .int .u64 0, .int .u64 0, .int .u64 0, .int .u64 0, .int .u64 0, .int .u64 0, .int .u64 0, .int .u64 0, .int .u64 0, .int .u64 0, .int .u64 0] 34)).setCells W0.heap.size G.out.below.size (rowV [.int .i64 g, .int .i64 p, .int .i64 d] uV (List.replicate 16 0)) 0)
  have th := T.Hid.mk (At.there (cs := zF) (At.new W0 #[Value.int .i64 0, .int .i64 0, .int .i64 0, .int .u64 0, .int .u64 0, .int .u64 0, .int .u64 0, .int .u64 0, .int .u64 0, .int .u64 0, .int .u64 0, .int .u64 0, .int .u64 0, .int .u64 0, .int .u64 0, .int .u64 0, .int .u64 0, .int .u64 0, .int .u64 0] 34) 0 19 (by simp [zF]))
  refine wpList_plain rfl (fun K hK => ?_)
  refine wp_store_mid _ _ _ rfl _ _ (List.toArray (rowV [.int .i64 g, .int .i64 p, .int .i64 d] uV (List.replicate 16 0))) rfl rfl th.out (by kernel_rfl) (all_oneCell_toArray (one_left [.int .i64 g, .int .i64 p, .int .i64 d] (by simp [Value.oneCell']) _)) (hK _ _ ?_)
  clear hK K th
  try simp only [Act.put]
  go_upto_region 2 with fail
  have hs := T.Hid.mk G.out.below.size
  have h1 := T.Hid.mk B1.out.1
  refine wp_world (fun W => T.Hid (At W w.heap.size (rowV [.int .i64 g, .int .i64 p, .int .i64 d] Vv.vals V).toArray) ∧ T.Hid (At W (w.heap.size + 1) zF.toArray) ∧ T.Hid (At W W0.heap.size (rowV [.int .i64 g, .int .i64 p, .int .i64 d] uV (List.replicate 16 0)).toArray) ∧ T.Hid (Gr w W)) ⟨A0, A1, A2, hG⟩ ?_
  clear A0 A1 A2 hG B0 B1 G c0 c1 c2
  generalize W0.heap.size = kr at *
  clear W0
  rintro W0 ⟨B0, B1, B2, G⟩
  go_upto_region 3 with fail
  go_loopw [4] (fun i wr => ∃ (k : Nat) (L : List Int), i = .int .i64 k ∧ k ≤ 16 ∧ L.length = 16 ∧ T.Hid (∀ i, i < k → L[i]? = (V.map Vv.left)[i]?) ∧ T.Hid (At wr w.heap.size (rowV [.int .i64 g, .int .i64 p, .int .i64 d] Vv.vals V).toArray) ∧ T.Hid (At wr (w.heap.size + 1) zF.toArray) ∧ T.Hid (At wr kr (rowV [.int .i64 g, .int .i64 p, .int .i64 d] uV L).toArray) ∧ T.Hid (Gr w wr)) (fun i _ => 16 - (intOf i).toNat)
  case atStart => exact ⟨0, List.replicate 16 0, rfl, by omega, by simp, T.Hid.mk (fun i h => by omega), B0, B1, B2, G⟩
  case round =>
    clear B0 B1 B2 G
    obtain ⟨k, L, rfl, hk, hL, hall, B0, B1, B2, G⟩ := hrel
    by_cases hlt : k < 16
    · have ha : k < V.length := by omega
      have k1 : (k : Int) < 16 := by omega
      have hs2 : T.Hid (∀ i, i < k + 1 → (L.set k V[k].left)[i]? = (V.map Vv.left)[i]?) := T.Hid.mk (fun i hi => by
        by_cases q : i = k
        · subst q
          rw [List.getElem?_set_self (by omega), List.getElem?_map, List.getElem?_eq_getElem ha]
          rfl
        · rw [List.getElem?_set_ne (by omega)]
          exact hall.out i (by omega))
      have b0 := B0
      have b1 := B1
      have b2 := B2
      have g5 := G
      have hr := T.Hid.mk (b0.out.elem vv_len k ha (3 + k * 7) rfl)
      generalize V[k] = x0 at *
      clear B0 B1 B2 G
      have b5 := T.Hid.mk True.intro
      go_upto_region 5 with fail
      refine wp_region_lit ?_
      refine wpList_plain rfl (fun K hK => ?_)
      go_simp
      with_reducible refine hK _ _ ?_
      clear hK K
      try simp only [Act.put, List.setIfInBounds_toArray, List.set_cons_zero, List.set_cons_succ]
      refine wpList_plain rfl (fun K hK => ?_)
      go_simp
      with_reducible refine hK _ _ ?_
      clear hK K
      try simp only [Act.put, List.setIfInBounds_toArray, List.set_cons_zero, List.set_cons_succ]
      refine wpList_plain rfl (fun K hK => ?_)
      go_simp
      with_reducible refine hK _ _ ?_
      clear hK K
      try simp only [Act.put, List.setIfInBounds_toArray, List.set_cons_zero, List.set_cons_succ]
      refine wpList_plain rfl (fun K hK => ?_)
      go_simp
      with_reducible refine hK _ _ ?_
      clear hK K
      try simp only [Act.put, List.setIfInBounds_toArray, List.set_cons_zero, List.set_cons_succ]
      refine wpList_plain rfl (fun K hK => ?_)
      refine wp_load_mid _ _ rfl _ (3 + k * 7) rfl (Vv.vals x0) _ hr.out Try.underlying27 rfl (by kernel_rfl) (hK _ _ ?_)
      clear hK K
      try simp only [Act.put, List.setIfInBounds_toArray, List.set_cons_zero, List.set_cons_succ]
      refine wpList_plain rfl (fun K hK => ?_)
      go_simp
      (go_at_call 5; refine (rValue_any x0 _).mono ?_; rintro x wq ⟨rfl, q9⟩; replace q9 := T.Hid.mk q9)
      with_reducible refine hK _ _ ?_
      clear hK K
      try simp only [Act.put, List.setIfInBounds_toArray, List.set_cons_zero, List.set_cons_succ]
      refine wpList_plain rfl (fun K hK => ?_)
      go_simp
      with_reducible refine hK _ _ ?_
      clear hK K
      try simp only [Act.put, List.setIfInBounds_toArray, List.set_cons_zero, List.set_cons_succ]
      refine wpList_plain rfl (fun K hK => ?_)
      go_simp
      with_reducible refine hK _ _ ?_
      clear hK K
      try simp only [Act.put, List.setIfInBounds_toArray, List.set_cons_zero, List.set_cons_succ]
      have hkr := h1.out
      have c0 := T.Hid.mk ((b0.out.gr q9.out).other (b' := kr) (by omega) (3 + k) (uV x0.left))
      have c1 := T.Hid.mk ((b1.out.gr q9.out).other (b' := kr) (by omega) (3 + k) (uV x0.left))
      have c2 := T.Hid.mk ((b2.out.gr q9.out).setElem u_len k (by omega) x0.left (3 + k) (by simp))
      have g := T.Hid.mk ((g5.out.trans q9.out).setCells kr (by omega) (uV x0.left) (3 + k))
      refine wpList_plain rfl (fun K hK => ?_)
      have tc := (b2.out.gr q9.out).there (3 + k) 1 (by rw [row_len u_len, hL]; simp; omega) 0 (by omega)
      have tc1 := tc.2
      obtain ⟨y0, tc0⟩ := Option.isSome_iff_exists.1 tc.1
      rw [Nat.add_zero] at tc0 tc1
      clear tc
      go_simp
      with_reducible refine hK _ _ ?_
      clear hK K tc0 tc1
      try simp only [Act.put]
      clear q9 b0 b1 b2 b5 g5
      go_wp2_with fail
      exact ⟨⟨k + 1, L.set k x0.left, by go_num, by omega, by simp [hL], hs2, c0, c1, c2, g⟩, by simp [intOf]; omega⟩
    · have k1 : ¬ (k : Int) < 16 := by omega
      have e : L = V.map Vv.left := List.ext_getElem? (fun i => by
        by_cases q : i < 16
        · exact hall.out i (by omega)
        · rw [List.getElem?_eq_none (by omega), List.getElem?_eq_none (by simp; omega)])
      subst e
      clear hall hlt hk
      go_upto_region 6 with fail
      have hone := T.Hid.mk (one_left [.int .i64 g, .int .i64 p, .int .i64 d] (by simp [Value.oneCell']) (V.map Vv.left))
      have hl0 : T.Hid ((rowV [.int .i64 g, .int .i64 p, .int .i64 d] uV (V.map Vv.left)).length = 19) := T.Hid.mk (by rw [row_len u_len, hL]; rfl)
      have hinf := T.Hid.mk ((show (Try.prog.info? 34).map (·.size) = some (rowV [.int .i64 g, .int .i64 p, .int .i64 d] uV (V.map Vv.left)).length by rw [hl0.out]; kernel_rfl))
      have a3 := T.Hid.mk (B2.out.range)
      have th := T.Hid.mk (show World.there _ (w.heap.size + 1) 0 (List.toArray (rowV [.int .i64 g, .int .i64 p, .int .i64 d] uV (V.map Vv.left))).size from B1.out.there 0 _ (by rw [List.size_toArray, hl0.out]; simp [zF]))
      have s2 := T.Hid.mk (B1.out.setAll (rowV [.int .i64 g, .int .i64 p, .int .i64 d] uV (V.map Vv.left)) (by rw [hl0.out]; rfl))
      have hres := T.Hid.mk (G.out.setCells (w.heap.size + 1) (by omega) (rowV [.int .i64 g, .int .i64 p, .int .i64 d] uV (V.map Vv.left)) 0)
      clear B2 B1 B0 G hl0
      generalize hrow : (rowV [.int .i64 g, .int .i64 p, .int .i64 d] uV (V.map Vv.left)) = row at *
      replace hrow := T.Hid.mk hrow
      refine wp_region_lit ?_
      refine wpList_load_mid rfl _ _ rfl _ 0 rfl row _ a3.out Try.underlying34 rfl hinf.out ?_
      simp only [Act.put, List.setIfInBounds_toArray, List.set_cons_zero, List.set_cons_succ]
      refine wpList_store_mid rfl _ _ _ rfl _ _ (List.toArray row) rfl rfl th.out hinf.out (all_oneCell_toArray hone.out) ?_
      simp only [Act.put]
      have s5 := T.Hid.mk (s2.out.range)
      clear s2 th a3
      generalize World.setCells _ _ _ _ = W5 at *
      have hrun := T.Hid.mk (run_loadVar_mid (P := Try.prog) W5 (w.heap.size + 1) 0 34 row _ s5.out Try.underlying34 rfl hinf.out)
      clear s5 hinf hone
      go_wp2_with fail
      refine bodyPost_ret (v := .agg row.toArray) ?_ rfl ⟨by rw [hrow.out], hres.out⟩
      exact results_row Try.results7 _ _ rfl hrun.out
end E
end Go.Proofs.Ytmcldekeeookaaa
