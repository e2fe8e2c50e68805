import Derived.Test.YtimiofkiadlnbaaP47
import Derived.Test.YtimiofkiadlnbaaP42
/-
  Stage 13, fastvm: what the sort statement asks, but for its walk.
-/
namespace Go.Proofs.Ytimiofkiadlnbaa
namespace Z
open Go.RowKit
open T (Sep Ob Kp Mf FlIn boxOb)

/-- How often a number is among the first ones. -/
def cE (V : List Int) (y : Int) (k : Nat) : Nat := (V.take k).count y
theorem cE_zero (V : List Int) (y : Int) : cE V y 0 = 0 := by simp [cE]
theorem cE_le (V : List Int) (y : Int) (k : Nat) : cE V y k ≤ k := by
  unfold cE
  exact Nat.le_trans List.count_le_length (by simp; omega)
theorem cE_yes (V : List Int) (y : Int) (k : Nat) (h : k < V.length) (e : V[k] = y) : cE V y (k + 1) = cE V y k + 1 := by
  unfold cE
  rw [List.take_succ_eq_append_getElem h, List.count_append, e]
  simp
theorem cE_no (V : List Int) (y : Int) (k : Nat) (h : k < V.length) (e : V[k] ≠ y) : cE V y (k + 1) = cE V y k := by
  unfold cE
  rw [List.take_succ_eq_append_getElem h, List.count_append, List.count_singleton]
  simp [e]
theorem cE_all {V M : List Int} (h : V.Perm M) (y : Int) : cE V y V.length = cE M y V.length := by
  unfold cE
  rw [List.take_length, h.length_eq, List.take_length]
  exact h.count_eq y
theorem cw_yes (V : List Int) (y : Int) (k : Nat) (h : k < V.length) (hk : k ≤ 100) (e : V[k] = y) : Value.int .i64 (wrap64 ((cE V y k : Nat) + 1)) = Value.int .i64 ((cE V y (k + 1) : Nat) : Int) := by
  rw [cE_yes V y k h e]
  have := cE_le V y k
  rw [show wrap64 (((cE V y k : Nat) : Int) + 1) = ((cE V y k + 1 : Nat) : Int) by unfold wrap64; omega]
theorem cw_no (V : List Int) (y : Int) (k : Nat) (h : k < V.length) (e : V[k] ≠ y) : Value.int .i64 ((cE V y k : Nat) : Int) = Value.int .i64 ((cE V y (k + 1) : Nat) : Int) := by rw [cE_no V y k h e]
theorem kw_next (k : Nat) : Value.int .i64 ((k : Int) + 1) = Value.int .i64 ((k + 1 : Nat) : Int) := rfl
theorem kw_meas (N k : Nat) (h : k < N) : N - (intOf (Value.int .i64 ((k : Int) + 1))).toNat < N - (intOf (Value.int .i64 (k : Int))).toNat := by
  simp [intOf]
  omega
theorem kw_pred (i p : Nat) (h : i = p + 1) (hp : p ≤ 100) : IntKind.i64.wrap ((i : Int) - 1) = (p : Int) := by
  rw [IntKind.wrap_i64]
  omega
def WAt (w : World) (b o : Nat) (L : List Int) : Prop := ∀ k (h : k < L.length), b < w.heap.size ∧ w.cell? ⟨b, o + k, none⟩ = some (.int .u64 L[k])
theorem WIn.at {w : World} {b o : Nat} {L : List Int} (h : WIn w (some ⟨b, o, none⟩) L) : WAt w b o L := fun k hk => by
  obtain ⟨b2, o2, e, h1, h2⟩ := h k hk
  cases e
  exact ⟨h1, h2⟩
theorem WAt.gr {w W : World} {b o : Nat} {L : List Int} (h : WAt w b o L) (g : Gr w W) : WAt W b o L := fun k hk => by
  obtain ⟨h1, h2⟩ := h k hk
  exact ⟨Nat.lt_of_lt_of_le h1 g.below.size, (T.cell_of_block (g.below.block b h1) _).trans h2⟩
def srtS (L : List Int) : Fm := start ⟨0, 0, 0, fun _ => 0⟩ 0 0 (fun _ => 0) L []
theorem srtS_okn (n : Int) (L : List Int) (hw : ∀ x ∈ L, Wd x) (hl : L.length ≤ 10) : (srtS L).Okn (srtP n) 0 := by
  refine ⟨show (0 : Nat) < 1 by decide, show (0 : Nat) ≤ 400 by decide, fun j => ?_, show ((0 : Nat) : Int) ≤ 1 by decide, fun f hf => ?_, hw, Nat.le_trans hl (by decide), fun x hx => ?_, Nat.le_refl _, Nat.le_refl _, wd0⟩
  · show Wd (entR ⟨0, 0, 0, fun _ => 0⟩ 0 (fun _ => 0) j)
    unfold entR
    split <;> exact wd0
  · cases hf
  · cases hx
/-- What its run comes to. -/
theorem srt_done (n : Int) (L : List Int) (hn : n = (L.length : Int)) (hw : ∀ x ∈ L, Wd x) (hl : L.length ≤ 10) : ∃ V t, V.Perm L ∧ Srt8 V ∧ runM (srtP n) (srtS L) 20000 = t ∧ t.e = 1 ∧ t.v = n ∧ t.f = 0 ∧ t.g = 0 ∧ t.p = 27 ∧ t.out = V := by
  subst hn
  obtain ⟨V, h1, h2, h3⟩ := srt_run L hl hw (srtS L) rfl rfl rfl rfl rfl rfl
  exact ⟨V, _, h1, h2, rfl, h3.e, by rw [h3.v, h1.length_eq], h3.f, h3.g, h3.p, h3.out⟩
theorem srtRw {n : Int} {W : World} {kr kc kg : Nat} (h1 : At W kr ((srtL n).flatMap Fi.vals).toArray) (h2 : W.cell? ⟨kc, 0, none⟩ = some (.slice (some ⟨kr, 0, none⟩) 30 30)) (h3 : kc < W.heap.size) (h4 : W.rangeAt kg 0 xg.vals) (h5 : kg < W.heap.size) : RwIn W (some ⟨kc, 0, none⟩) (some ⟨kg, 0, none⟩) (srtP n) := by
  refine ⟨fun k hk => ?_, fun k hk => ?_⟩
  · obtain rfl : k = 0 := by have : k < 1 := hk; omega
    refine ⟨kc, 0, some ⟨kr, 0, none⟩, 30, rfl, h3, h2, fun i hi => ⟨kr, 0, rfl, h1.1, fun j v q => ?_⟩⟩
    have hv : ∀ x : Fi, x.vals.length = 5 := fun _ => rfl
    have hj : j < 5 := by have := (List.getElem?_eq_some_iff.1 q).1; rwa [hv] at this
    rw [h1.2.1, List.getElem?_toArray, Nat.zero_add]
    exact (flat_at' hv (srtL n) i hi j hj).trans q
  · obtain rfl : k = 0 := by have : k < 1 := hk; omega
    exact ⟨kg, 0, rfl, h5, h4⟩
/-- The literal of thirty instructions. -/
def srtQ (n : Int) : Array (Nat × Value) := (((srtL n).map fun i => Value.agg (Fi.vals i).toArray).zipIdx.map fun p => (p.2, p.1)).toArray
set_option maxRecDepth 100000 in
theorem build30 (n : Int) (W : World) : (Instr.buildSlice 33 30 (srtQ n)).run Try.prog W = .ok (.slice (some ⟨W.heap.size, 0, none⟩) 30 30) (W.alloc (.cells ((srtL n).flatMap Fi.vals).toArray 32)) := by kernel_rfl
theorem wp_build30 {o : Oper} {a : Act} {K : Act → World → Prop} {Q : Exit → Act → World → Prop} {w : World} (n : Int) (parts : Array (Nat × Operand)) (ho : o.op = .buildSlice 33 30 parts) (hx : (parts.map fun (i, x) => (i, a.eval x)) = srtQ n)
    (h : K (a.put o.dst (.slice (some ⟨w.heap.size, 0, none⟩) 30 30)) (w.alloc (.cells ((srtL n).flatMap Fi.vals).toArray 32))) : o.wp Try.prog a w K Q := by
  unfold Oper.wp execOp
  simp only [ho, hx, build30, Sem.run_bind, Sem.run_pure, Result.andThen_ok]
  exact h
set_option maxRecDepth 100000 in
set_option maxHeartbeats 4000000 in
theorem one30 (b : Nat) (w : World) : Calls Try.prog 5 #[.slice (some ⟨b, 0, none⟩) 30 30] w fun x w' => x = .returned (.agg (List.toArray [Value.slice (some ⟨w.heap.size + 1, 0, none⟩) 1 1, .slice (some ⟨w.heap.size + 1 + 1, 0, none⟩) 1 1, .string ⟨#[]⟩, .int .i64 1])) ∧ Gr w w' ∧ w.heap.size + 1 + 1 < w'.heap.size ∧ w'.cell? ⟨w.heap.size + 1, 0, none⟩ = some (.slice (some ⟨b, 0, none⟩) 30 30) ∧ w'.rangeAt (w.heap.size + 1 + 1) 0 xg.vals := by
  have g3 : Gr w (((w.alloc (.cells (List.toArray [Value.slice (some ⟨w.heap.size + 1, 0, none⟩) 1 1, .slice (some ⟨w.heap.size + 1 + 1, 0, none⟩) 1 1, .string ⟨#[]⟩, .int .i64 1]) 28)).alloc (.cells #[.slice (some ⟨b, 0, none⟩) 30 30] 33)).alloc (.cells (List.toArray [Value.int .i64 0, .int .i64 0, .int .i64 0, .int .u64 0, .int .u64 0, .int .u64 0, .int .u64 0, .int .u64 0, .int .u64 0, .int .u64 0, .int .u64 0, .int .u64 0, .int .u64 0, .int .u64 0, .int .u64 0, .int .u64 0, .int .u64 0, .int .u64 0, .int .u64 0]) 52)) := (((Gr.refl w).alloc _).alloc _).alloc _
  have hA : At (((w.alloc (.cells (List.toArray [Value.slice (some ⟨w.heap.size + 1, 0, none⟩) 1 1, .slice (some ⟨w.heap.size + 1 + 1, 0, none⟩) 1 1, .string ⟨#[]⟩, .int .i64 1]) 28)).alloc (.cells #[.slice (some ⟨b, 0, none⟩) 30 30] 33)).alloc (.cells (List.toArray [Value.int .i64 0, .int .i64 0, .int .i64 0, .int .u64 0, .int .u64 0, .int .u64 0, .int .u64 0, .int .u64 0, .int .u64 0, .int .u64 0, .int .u64 0, .int .u64 0, .int .u64 0, .int .u64 0, .int .u64 0, .int .u64 0, .int .u64 0, .int .u64 0, .int .u64 0]) 52)) w.heap.size (List.toArray [Value.slice (some ⟨w.heap.size + 1, 0, none⟩) 1 1, .slice (some ⟨w.heap.size + 1 + 1, 0, none⟩) 1 1, .string ⟨#[]⟩, .int .i64 1]) := ((At.new w _ _).alloc _).alloc _
  have e1 : (w.alloc (.cells (List.toArray [Value.slice (some ⟨w.heap.size + 1, 0, none⟩) 1 1, .slice (some ⟨w.heap.size + 1 + 1, 0, none⟩) 1 1, .string ⟨#[]⟩, .int .i64 1]) 28)).heap.size = w.heap.size + 1 := by simp
  have e2 : ((w.alloc (.cells (List.toArray [Value.slice (some ⟨w.heap.size + 1, 0, none⟩) 1 1, .slice (some ⟨w.heap.size + 1 + 1, 0, none⟩) 1 1, .string ⟨#[]⟩, .int .i64 1]) 28)).alloc (.cells #[.slice (some ⟨b, 0, none⟩) 30 30] 33)).heap.size = w.heap.size + 1 + 1 := by simp
  have hB := (At.new (w.alloc (.cells (List.toArray [Value.slice (some ⟨w.heap.size + 1, 0, none⟩) 1 1, .slice (some ⟨w.heap.size + 1 + 1, 0, none⟩) 1 1, .string ⟨#[]⟩, .int .i64 1]) 28)) #[.slice (some ⟨b, 0, none⟩) 30 30] 33).alloc (.cells (List.toArray [Value.int .i64 0, .int .i64 0, .int .i64 0, .int .u64 0, .int .u64 0, .int .u64 0, .int .u64 0, .int .u64 0, .int .u64 0, .int .u64 0, .int .u64 0, .int .u64 0, .int .u64 0, .int .u64 0, .int .u64 0, .int .u64 0, .int .u64 0, .int .u64 0, .int .u64 0]) 52)
  have hC := At.new ((w.alloc (.cells (List.toArray [Value.slice (some ⟨w.heap.size + 1, 0, none⟩) 1 1, .slice (some ⟨w.heap.size + 1 + 1, 0, none⟩) 1 1, .string ⟨#[]⟩, .int .i64 1]) 28)).alloc (.cells #[.slice (some ⟨b, 0, none⟩) 30 30] 33)) (List.toArray [Value.int .i64 0, .int .i64 0, .int .i64 0, .int .u64 0, .int .u64 0, .int .u64 0, .int .u64 0, .int .u64 0, .int .u64 0, .int .u64 0, .int .u64 0, .int .u64 0, .int .u64 0, .int .u64 0, .int .u64 0, .int .u64 0, .int .u64 0, .int .u64 0, .int .u64 0]) 52
  rw [e1] at hB
  rw [e2] at hC
  have hB0 := hB.2.1 0
  have hC0 := hC.range
  have hC1 := hC.1
  have hrun := Hz.mk (run_loadVar_mid (P := Try.prog) (((w.alloc (.cells (List.toArray [Value.slice (some ⟨w.heap.size + 1, 0, none⟩) 1 1, .slice (some ⟨w.heap.size + 1 + 1, 0, none⟩) 1 1, .string ⟨#[]⟩, .int .i64 1]) 28)).alloc (.cells #[.slice (some ⟨b, 0, none⟩) 30 30] 33)).alloc (.cells (List.toArray [Value.int .i64 0, .int .i64 0, .int .i64 0, .int .u64 0, .int .u64 0, .int .u64 0, .int .u64 0, .int .u64 0, .int .u64 0, .int .u64 0, .int .u64 0, .int .u64 0, .int .u64 0, .int .u64 0, .int .u64 0, .int .u64 0, .int .u64 0, .int .u64 0, .int .u64 0]) 52)) w.heap.size 0 28 [Value.slice (some ⟨w.heap.size + 1, 0, none⟩) 1 1, .slice (some ⟨w.heap.size + 1 + 1, 0, none⟩) 1 1, .string ⟨#[]⟩, .int .i64 1] _ hA.range Try.underlying28 rfl (by kernel_rfl))
  replace g3 := Hz.mk g3
  replace hB0 := Hz.mk hB0
  replace hC0 := Hz.mk hC0
  replace hC1 := Hz.mk hC1
  clear hA hB hC e1 e2
  go_enter Try.func5, Try.ntmps5
  go_wp2_with fail
  refine bodyPost_ret (v := .agg (List.toArray [Value.slice (some ⟨w.heap.size + 1, 0, none⟩) 1 1, .slice (some ⟨w.heap.size + 1 + 1, 0, none⟩) 1 1, .string ⟨#[]⟩, .int .i64 1])) ?_ rfl ⟨rfl, g3.out, hC1.out, hB0.out, hC0.out⟩
  exact results_rowZ Try.results5 _ _ rfl hrun.out
end Z
end Go.Proofs.Ytimiofkiadlnbaa
