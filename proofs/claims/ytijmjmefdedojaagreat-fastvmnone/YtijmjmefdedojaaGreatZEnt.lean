/-
  Stage 13, fastvm: how a gate's code begins.
-/
import Derived.Test.YtijmjmefdedojaaGreatZReady
import Derived.Test.YtijmjmefdedojaaGreatZApp
namespace Go.Proofs.YtijmjmefdedojaaGreat
namespace Z
open Go.RowKit
open T (Sep Ob Kp Mf FlIn boxOb)

theorem wp_copy_z {o : Oper} {a : Act} {K : Act → World → Prop} {Q : Exit → Act → World → Prop} {w : World} (d s : Operand) (ho : o.op = .call { callee := .builtin .copy, args := #[d, s], argTypes := #[35, 35] })
    (b off dl dc : Nat) (hd : a.eval d = .slice (some ⟨b, off, none⟩) dl dc) (sa : Option Addr) (n c : Nat) (hs : a.eval s = .slice sa n c) (hn : n ≤ dl) (A : Nat → Int)
    (hsrc : n = 0 ∨ ∃ sb so, sa = some ⟨sb, so, none⟩ ∧ ∀ j, j < n → w.cell? ⟨sb, so + j, none⟩ = some (.int .u64 (A j))) (hth : w.there b off n)
    (h : K (a.put o.dst (goInt n)) (w.setCells b off ((List.range n).map fun j => Value.int .u64 (A j)))) : o.wp Tryz.prog a w K Q := by
  have hl : ((List.range n).map fun j => Value.int .u64 (A j)).length = n := by simp
  have hr : (Builtin.copy_ #[35, 35] o.type #[.slice (some ⟨b, off, none⟩) dl dc, .slice sa n c]).run Tryz.prog w = .ok (goInt n) (w.setCells b off ((List.range n).map fun j => Value.int .u64 (A j))) := by
    rcases hsrc with h0 | ⟨sb, so, rfl, hc⟩
    · subst h0
      have := run_copy_none (P := Tryz.prog) w 35 35 o.type 25 (some ⟨b, off, none⟩) sa dl dc 0 c Tryz.underlying35 (by kernel_rfl) (by simp)
      rw [show ((List.range 0).map fun j => Value.int .u64 (A j)) = [] from rfl]
      exact this
    · have := run_copy_cells (P := Tryz.prog) w 35 35 o.type 25 b off dl dc ⟨sb, so, none⟩ n c ((List.range n).map fun j => Value.int .u64 (A j)) Tryz.underlying35 (by kernel_rfl) (by rw [hl]; exact (Nat.min_eq_left hn).symm) (fun j v q => ?_) (fun j hj => (hth j (by rwa [hl] at hj)).1) (fun j hj => (hth j (by rwa [hl] at hj)).2) (fun v hv => by obtain ⟨j, _, rfl⟩ := List.mem_map.1 hv; rfl)
      · rw [hl] at this
        exact this
      · have hj : j < n := by have := (List.getElem?_eq_some_iff.1 q).1; rwa [hl] at this
        rw [addr_addZ, hc j hj, ← q]
        simp [hj]
  unfold Oper.wp execOp
  simp only [ho, resolve, invoke, builtin, Sem.run_bind, Sem.run_pure, Result.andThen_ok, List.map_toArray, List.map_cons, List.map_nil, hd, hs, hr]
  exact h
/-- Registers behind a gate's entry. -/
def entR (g : Fg) (n : Nat) (A : Nat → Int) : Nat → Int := fun k => if 1 ≤ k ∧ k ≤ n then A (k - 1) else g.r k
theorem Fr.len (f : Fr) : f.vals.length = 18 := by simp [Fr.vals, regs_len]
theorem Fr.reg (f : Fr) (k : Nat) (h : k < 16) : f.vals[2 + k]? = some (.int .u64 (f.r k)) := by
  rw [show 2 + k = k + 1 + 1 by omega]
  exact regs_at f.r k h
theorem at_ent {w : World} {b gate n : Nat} {g : Fg} (A : Nat → Int) (h : At w b (Fr.vals ⟨gate, g.e, g.r⟩).toArray) (hn : n ≤ 15) : At (w.setCells b 3 ((List.range n).map fun j => Value.int .u64 (A j))) b (Fr.vals ⟨gate, g.e, entR g n A⟩).toArray := by
  have hl : ((List.range n).map fun j => Value.int .u64 (A j)).length = n := by simp
  refine At.setRange h 3 _ (by rw [Fr.len, Fr.len]) (by rw [hl, Fr.len]; omega) (fun j hj => ?_) (fun i hi => ?_)
  · rw [hl] at hj
    rw [show 3 + j = 2 + (j + 1) by omega, Fr.reg _ (j + 1) (by omega)]
    show some (Value.int .u64 (entR g n A (j + 1))) = _
    unfold entR
    rw [if_pos ⟨by omega, by omega⟩]
    simp [hj]
  · rw [hl] at hi
    by_cases h18 : i < 18
    · by_cases h2 : i < 2
      · match i, h2 with
        | 0, _ => rfl
        | 1, _ => rfl
      · rw [show i = 2 + (i - 2) by omega, Fr.reg _ (i - 2) (by omega), Fr.reg _ (i - 2) (by omega)]
        show some (Value.int .u64 (entR g n A (i - 2))) = some (.int .u64 (g.r (i - 2)))
        unfold entR
        rw [if_neg (by omega)]
    · rw [List.getElem?_eq_none (by rw [Fr.len]; omega), List.getElem?_eq_none (by rw [Fr.len]; omega)]
theorem Fr.one (f : Fr) : f.vals.toArray.all (fun x => x.oneCell') = true := by
  rw [Array.all_eq_true_iff_forall_mem]
  intro u hu
  simp only [List.mem_toArray, Fr.vals, List.mem_cons] at hu
  rcases hu with rfl | rfl | hu
  · rfl
  · rfl
  · exact regs_one f.r u hu
theorem results_rowY {fn : Func} {p : Tmp} {ty : TypeId} {v : Value} {a : Addr} (h : fn.results = #[.cell p ty]) (tmps : Array Value) (w : World) (ht : tmps.getD p undef = .pointer (some a)) (hl : (loadVar ty a).run Tryz.prog w = .ok v w) :
    (results fn tmps).run Tryz.prog w = .ok v w := by
  have ht' : tmps[p]?.getD undef = .pointer (some a) := by simpa using ht
  simp [results, h, ht', asAddr, hl]
theorem build_fr (x y : Int) (r : Nat → Int) (W : World) : (Instr.build 70 #[(0, .int .i64 x), (1, .int .i64 y), (2, .agg (regs r).toArray)]).run Tryz.prog W = .ok (.agg (Value.int .i64 x :: .int .i64 y :: regs r).toArray) W := by kernel_rfl
theorem wp_build_fr {o : Oper} {a : Act} {K : Act → World → Prop} {Q : Exit → Act → World → Prop} {w : World} (i j k : Operand) (ho : o.op = .build 70 #[(0, i), (1, j), (2, k)]) (x y : Int) (r : Nat → Int) (hi : a.eval i = .int .i64 x) (hj : a.eval j = .int .i64 y) (hk : a.eval k = .agg (regs r).toArray)
    (h : K (a.put o.dst (.agg (Value.int .i64 x :: .int .i64 y :: regs r).toArray)) w) : o.wp Tryz.prog a w K Q := by
  unfold Oper.wp execOp
  simp only [ho, List.map_toArray, List.map_cons, List.map_nil, hi, hj, hk, build_fr, Sem.run_bind, Sem.run_pure, Result.andThen_ok]
  exact h
set_option maxRecDepth 100000 in
set_option maxHeartbeats 4000000 in
theorem entered_any (g : Fg) (gb goff gn gc gate : Nat) (sa : Option Addr) (n c : Nat) (A : Nat → Int) (w : World) (hlt : gate < gn) (hgb : gb < w.heap.size) (hgr : w.rangeAt gb (goff + gate * 19) g.vals) (hn : n ≤ 15) (hsrc : n = 0 ∨ ∃ sb so, sa = some ⟨sb, so, none⟩ ∧ sb < w.heap.size ∧ ∀ j, j < n → w.cell? ⟨sb, so + j, none⟩ = some (.int .u64 (A j))) :
    Calls Tryz.prog 36 #[.slice (some ⟨gb, goff, none⟩) gn gc, .int .i64 gate, .slice sa n c] w fun x w' => x = .returned (.agg (Fr.vals ⟨gate, g.e, entR g n A⟩).toArray) ∧ Gr w w' := by
  have hi : (gate : Int) < (gn : Int) := Int.ofNat_lt.2 hlt
  have hsr2 : Hz (∀ X, Gr w X → n = 0 ∨ ∃ sb so, sa = some ⟨sb, so, none⟩ ∧ ∀ j, j < n → X.cell? ⟨sb, so + j, none⟩ = some (.int .u64 (A j))) := Hz.mk (fun X q => by
    rcases hsrc with h0 | ⟨sb, so, e1, e2, e3⟩
    · exact .inl h0
    · exact .inr ⟨sb, so, e1, fun j hj => (T.cell_of_block (q.below.block sb e2) _).trans (e3 j hj)⟩)
  clear hsrc
  go_enter Tryz.func36, Tryz.ntmps36
  go_upto_region 1 with fail
  refine wp_world (fun X => At X w.heap.size (List.toArray [Value.int .i64 0, .int .i64 0, .int .u64 0, .int .u64 0, .int .u64 0, .int .u64 0, .int .u64 0, .int .u64 0, .int .u64 0, .int .u64 0, .int .u64 0, .int .u64 0, .int .u64 0, .int .u64 0, .int .u64 0, .int .u64 0, .int .u64 0, .int .u64 0]) ∧ Gr w X) ⟨At.new w _ _, (Gr.refl _).alloc _⟩ ?_
  rintro W0 ⟨hAr, G⟩
  have hgr1 : Hz (W0.rangeAt gb (goff + gate * 19) g.vals) := Hz.mk (fun j v q => (T.cell_of_block (G.below.block gb hgb) _).trans (hgr j v q))
  have hnr : w.heap.size ≤ w.heap.size := Nat.le_refl _
  generalize hkr : w.heap.size = kr at hAr hnr ⊢
  replace hAr := Hz.mk hAr
  replace hgr := Hz.mk hgr
  refine wp_region_lit ?_
  refine wpList_plain rfl (fun K hK => ?_)
  go_simp
  with_reducible refine hK _ _ ?_
  clear hK K
  try simp only [Act.put, List.setIfInBounds_toArray, List.set_cons_zero, List.set_cons_succ]
  refine wpList_plain rfl (fun K hK => ?_)
  go_simp
  with_reducible refine hK _ _ ?_
  clear hK K
  try simp only [Act.put, List.setIfInBounds_toArray, List.set_cons_zero, List.set_cons_succ]
  refine wpList_plain rfl (fun K hK => ?_)
  go_simp
  with_reducible refine hK _ _ ?_
  clear hK K
  try simp only [Act.put, List.setIfInBounds_toArray, List.set_cons_zero, List.set_cons_succ]
  refine wpList_plain rfl (fun K hK => ?_)
  refine wp_load_mid _ _ rfl _ (goff + gate * 19) rfl g.vals _ hgr1.out Tryz.underlying80 rfl (by rw [Fg.len]; kernel_rfl) (hK _ _ ?_)
  clear hK K
  try simp only [Act.put, List.setIfInBounds_toArray, List.set_cons_zero, List.set_cons_succ]
  refine wpList_plain rfl (fun K hK => ?_)
  go_simp
  with_reducible refine hK _ _ ?_
  clear hK K
  try simp only [Act.put, List.setIfInBounds_toArray, List.set_cons_zero, List.set_cons_succ]
  have hA7 : At (W0.alloc (.cells (List.toArray [Value.int .i64 0, .int .i64 0, .int .i64 0, .int .u64 0, .int .u64 0, .int .u64 0, .int .u64 0, .int .u64 0, .int .u64 0, .int .u64 0, .int .u64 0, .int .u64 0, .int .u64 0, .int .u64 0, .int .u64 0, .int .u64 0, .int .u64 0, .int .u64 0, .int .u64 0]) 80)) W0.heap.size (List.toArray [Value.int .i64 0, .int .i64 0, .int .i64 0, .int .u64 0, .int .u64 0, .int .u64 0, .int .u64 0, .int .u64 0, .int .u64 0, .int .u64 0, .int .u64 0, .int .u64 0, .int .u64 0, .int .u64 0, .int .u64 0, .int .u64 0, .int .u64 0, .int .u64 0, .int .u64 0]) := At.new W0 _ _
  have hth := Hz.mk (At.there hA7 0 19 (by decide))
  have hA8 := Hz.mk (At.setAll hA7 g.vals (by rw [Fg.len]; rfl))
  have g8 := Hz.mk (Gr.setCells ((Gr.refl W0).alloc (.cells (List.toArray [Value.int .i64 0, .int .i64 0, .int .i64 0, .int .u64 0, .int .u64 0, .int .u64 0, .int .u64 0, .int .u64 0, .int .u64 0, .int .u64 0, .int .u64 0, .int .u64 0, .int .u64 0, .int .u64 0, .int .u64 0, .int .u64 0, .int .u64 0, .int .u64 0, .int .u64 0]) 80)) W0.heap.size (Nat.le_refl _) g.vals 0)
  clear hA7
  refine wpList_plain rfl (fun K hK => ?_)
  refine wp_store_mid _ _ _ rfl _ _ (List.toArray g.vals) rfl rfl (show World.there _ _ _ _ by simpa [Fg.len] using hth.out) (by rw [List.size_toArray, Fg.len]; kernel_rfl) (Fg.one _) (hK _ _ ?_)
  clear hK K
  try simp only [Act.put]
  generalize World.setCells _ _ _ _ = W1 at *
  clear hth
  have hs8 : W0.heap.size < W1.heap.size := hA8.out.1
  generalize hk9 : W0.heap.size = kg at *
  have hAg := hA8
  replace hAr := Hz.mk (hAr.out.gr g8.out)
  replace G := G.trans g8.out
  clear hA8 g8 hgr1 hs8 hk9
  have hkr1 : kr < W1.heap.size := hAr.out.1
  have c0 : W1.cell? ⟨kg, 0, none⟩ = some (.int .i64 g.e) := hAg.out.2.1 0
  have hrg : Hz (W1.rangeAt kg 3 (regs g.r)) := Hz.mk (fun j v q => by
    have := hAg.out.range (3 + j) v (by rw [show 3 + j = j + 1 + 1 + 1 by omega]; exact q)
    rwa [Nat.zero_add] at this)
  go_upto_region 2 with fail
  refine wp_region_lit ?_
  refine wpList_plain rfl (fun K hK => ?_)
  go_simp
  with_reducible refine hK _ _ ?_
  clear hK K
  try simp only [Act.put, List.setIfInBounds_toArray, List.set_cons_zero, List.set_cons_succ]
  refine wpList_plain rfl (fun K hK => ?_)
  go_simp
  with_reducible refine hK _ _ ?_
  clear hK K
  try simp only [Act.put, List.setIfInBounds_toArray, List.set_cons_zero, List.set_cons_succ]
  refine wpList_plain rfl (fun K hK => ?_)
  go_simp
  with_reducible refine hK _ _ ?_
  clear hK K
  try simp only [Act.put, List.setIfInBounds_toArray, List.set_cons_zero, List.set_cons_succ]
  refine wpList_plain rfl (fun K hK => ?_)
  go_simp
  with_reducible refine hK _ _ ?_
  clear hK K
  try simp only [Act.put, List.setIfInBounds_toArray, List.set_cons_zero, List.set_cons_succ]
  refine wpList_plain rfl (fun K hK => ?_)
  refine wp_load_mid _ _ rfl _ 3 rfl (regs g.r) _ hrg.out Tryz.underlying31 rfl (by rw [regs_len]; kernel_rfl) (hK _ _ ?_)
  clear hK K
  try simp only [Act.put, List.setIfInBounds_toArray, List.set_cons_zero, List.set_cons_succ]
  refine wpList_plain rfl (fun K hK => ?_)
  refine wp_build_fr _ _ _ rfl gate g.e g.r (by rfl) (by rfl) (by rfl) ?_
  with_reducible refine hK _ _ ?_
  clear hK K
  try simp only [Act.put, List.setIfInBounds_toArray, List.set_cons_zero, List.set_cons_succ]
  refine wpList_plain rfl (fun K hK => ?_)
  go_simp
  with_reducible refine hK _ _ ?_
  clear hK K
  try simp only [Act.put, List.setIfInBounds_toArray, List.set_cons_zero, List.set_cons_succ]
  have hA7 : At (W1.alloc (.cells (List.toArray [Value.int .i64 0, .int .i64 0, .int .u64 0, .int .u64 0, .int .u64 0, .int .u64 0, .int .u64 0, .int .u64 0, .int .u64 0, .int .u64 0, .int .u64 0, .int .u64 0, .int .u64 0, .int .u64 0, .int .u64 0, .int .u64 0, .int .u64 0, .int .u64 0]) 70)) W1.heap.size (List.toArray [Value.int .i64 0, .int .i64 0, .int .u64 0, .int .u64 0, .int .u64 0, .int .u64 0, .int .u64 0, .int .u64 0, .int .u64 0, .int .u64 0, .int .u64 0, .int .u64 0, .int .u64 0, .int .u64 0, .int .u64 0, .int .u64 0, .int .u64 0, .int .u64 0]) := At.new W1 _ _
  have hth := Hz.mk (At.there hA7 0 18 (by decide))
  have hA8 := Hz.mk (At.setAll hA7 (Fr.vals ⟨gate, g.e, g.r⟩) (by rw [Fr.len]; rfl))
  have g8 := Hz.mk (Gr.setCells ((Gr.refl W1).alloc (.cells (List.toArray [Value.int .i64 0, .int .i64 0, .int .u64 0, .int .u64 0, .int .u64 0, .int .u64 0, .int .u64 0, .int .u64 0, .int .u64 0, .int .u64 0, .int .u64 0, .int .u64 0, .int .u64 0, .int .u64 0, .int .u64 0, .int .u64 0, .int .u64 0, .int .u64 0]) 70)) W1.heap.size (Nat.le_refl _) (Fr.vals ⟨gate, g.e, g.r⟩) 0)
  clear hA7
  refine wpList_plain rfl (fun K hK => ?_)
  refine wp_store_mid _ _ _ rfl _ _ (List.toArray (Fr.vals ⟨gate, g.e, g.r⟩)) rfl rfl (show World.there _ _ _ _ by simpa [Fr.len] using hth.out) (by rw [List.size_toArray, Fr.len]; kernel_rfl) (Fr.one _) (hK _ _ ?_)
  clear hK K
  try simp only [Act.put]
  generalize World.setCells _ _ _ _ = W2 at *
  clear hth
  have hs8 : W1.heap.size < W2.heap.size := hA8.out.1
  generalize hk9 : W1.heap.size = kf at *
  have hAf := hA8
  replace hAr := Hz.mk (hAr.out.gr g8.out)
  have G1 := G
  replace G := G.trans g8.out
  have hsr3 := Hz.mk (hsr2.out W2 G)
  have hthf := Hz.mk (At.there hAf.out 3 n (by rw [Fr.len]; omega))
  have hA9 := Hz.mk (at_ent A hAf.out hn)
  have hkf : w.heap.size ≤ kf := by rw [← hk9]; exact G1.below.size
  have hkfr : kr ≠ kf := by omega
  have G3 := Hz.mk (Gr.setCells G kf hkf ((List.range n).map fun j => Value.int .u64 (A j)) 3)
  have hAr3 := Hz.mk (At.other hAr.out hkfr 3 ((List.range n).map fun j => Value.int .u64 (A j)))
  clear hA8 g8 hrg c0 hAg hk9 G1
  go_upto_region 3 with fail
  refine wp_region_lit ?_
  refine wpList_plain rfl (fun K hK => ?_)
  go_simp
  with_reducible refine hK _ _ ?_
  clear hK K
  try simp only [Act.put, List.setIfInBounds_toArray, List.set_cons_zero, List.set_cons_succ]
  refine wpList_plain rfl (fun K hK => ?_)
  go_simp
  with_reducible refine hK _ _ ?_
  clear hK K
  try simp only [Act.put, List.setIfInBounds_toArray, List.set_cons_zero, List.set_cons_succ]
  refine wpList_plain rfl (fun K hK => ?_)
  go_simp
  with_reducible refine hK _ _ ?_
  clear hK K
  try simp only [Act.put, List.setIfInBounds_toArray, List.set_cons_zero, List.set_cons_succ]
  refine wpList_plain rfl (fun K hK => ?_)
  refine wp_copy_z _ _ rfl kf 3 15 15 (by rfl) sa n c (by rfl) hn A hsr3.out hthf.out ?_
  with_reducible refine hK _ _ ?_
  clear hK K
  try simp only [Act.put, List.setIfInBounds_toArray, List.set_cons_zero, List.set_cons_succ]
  clear hAf hAr hsr3 hthf G hsr2
  generalize World.setCells _ _ _ _ = W3 at *
  have hAf := hA9
  have hth2 := Hz.mk (At.there hAr3.out 0 18 (by decide))
  have hA10 := Hz.mk (At.setAll hAr3.out (Fr.vals ⟨gate, g.e, entR g n A⟩) (by rw [Fr.len]; rfl))
  have G4 := Hz.mk (Gr.setCells G3.out kr (by omega) (Fr.vals ⟨gate, g.e, entR g n A⟩) 0)
  go_upto_region 4 with fail
  refine wp_region_lit ?_
  refine wpList_plain rfl (fun K hK => ?_)
  refine wp_load_mid _ _ rfl _ 0 rfl (Fr.vals ⟨gate, g.e, entR g n A⟩) _ hAf.out.range Tryz.underlying70 rfl (by rw [Fr.len]; kernel_rfl) (hK _ _ ?_)
  clear hK K
  try simp only [Act.put, List.setIfInBounds_toArray, List.set_cons_zero, List.set_cons_succ]
  refine wpList_plain rfl (fun K hK => ?_)
  refine wp_store_mid _ _ _ rfl _ _ (List.toArray (Fr.vals ⟨gate, g.e, entR g n A⟩)) rfl rfl (show World.there _ _ _ _ by simpa [Fr.len] using hth2.out) (by rw [List.size_toArray, Fr.len]; kernel_rfl) (Fr.one _) (hK _ _ ?_)
  clear hK K
  try simp only [Act.put]
  generalize World.setCells _ _ _ _ = W4 at *
  have hrun := Hz.mk (run_loadVar_mid (P := Tryz.prog) W4 kr 0 70 (Fr.vals ⟨gate, g.e, entR g n A⟩) _ hA10.out.range Tryz.underlying70 rfl (by rw [Fr.len]; kernel_rfl))
  go_wp2_with fail
  refine bodyPost_ret (v := .agg (List.toArray (Fr.vals ⟨gate, g.e, entR g n A⟩))) ?_ rfl ⟨rfl, G4.out⟩
  exact results_rowY Tryz.results36 _ _ rfl hrun.out
end Z
end Go.Proofs.YtijmjmefdedojaaGreat
