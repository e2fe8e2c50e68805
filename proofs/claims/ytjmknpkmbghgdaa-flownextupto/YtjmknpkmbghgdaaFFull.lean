/-
  Stage 8, flow: lists of truths that are their owner's.
-/
import Derived.Test.YtjmknpkmbghgdaaFBack
import Derived.Maps.AppendAt
namespace Go.Proofs.Ytjmknpkmbghgdaa
namespace F
open Go.RowKit
open T

def XO (base : Nat) (w : World) (v : Value) (m : Nat) (b : Bool) : Prop := w.ownsRow base 4 1 v m (List.replicate m (.bool b))
theorem run_append_b (w : World) (ty : TypeId) (base g n : Nat) (b : Bool) (X : Nat) (h : At w g (boolA n fun _ => b)) (hX : At w X #[.bool b]) (hn : n ≤ 2000000) (hb : base ≤ w.heap.size) :
    ∃ c w', (Builtin.append_ #[25, 25] ty #[.slice (some ⟨g, 0, none⟩) n n, .slice (some ⟨X, 0, none⟩) 1 1]).run Try.prog w = .ok (.slice (some ⟨w.heap.size, 0, none⟩) (n + 1) c) w' ∧ XO base w' (.slice (some ⟨w.heap.size, 0, none⟩) (n + 1) c) (n + 1) b ∧ Below w.heap.size w w' := by
  obtain ⟨i0, hi, hz0, hz1, hz2⟩ := info_parts' (t := 4) (z := .bool false) (s := 1) (b := 1) (by kernel_rfl)
  have holds : ∀ j u, (List.replicate n (Value.bool b))[j]? = some u → w.cell? ((⟨g, 0, none⟩ : Addr).add j) = some u := fun j u hj => by
    have hjn : j < n := by have := (List.getElem?_eq_some_iff.1 hj).1; simpa using this
    rw [addr_add, Nat.zero_add, boolA_at h j hjn, ← hj]
    simp [hjn]
  have hnews : ∀ j u, [Value.bool b][j]? = some u → w.cell? ((⟨X, 0, none⟩ : Addr).add j) = some u := fun j u hj => by
    rw [addr_add, hX.2.1]
    simpa using hj
  have hr := run_append_grow (P := Try.prog) w 25 ty 4 i0 (.bool false) Try.underlying25 hi hz0 ⟨g, 0, none⟩ n n (List.replicate n (.bool b)) (by rw [hz1]; simp) holds ⟨X, 0, none⟩ 1 1 [.bool b] (by rw [hz1]; rfl) hnews (by omega) (by omega) (by rw [hz2]; exact growslice_fits (by omega) (by omega))
  refine ⟨_, _, hr, ⟨by simp, .inr ⟨w.heap.size, _, _, rfl, hb, heap_alloc_new w.drew _, grownCap_ge w (n + 1) n 4, grownCap_le_maxLen w (n + 1) n 4 (by unfold maxLen; omega), ?_, ?_⟩⟩, ((Below.refl _ w).drew).alloc (Nat.le_refl _) _⟩
  · have hge := grownCap_ge w (n + 1) n 4
    simp only [Array.size_append, List.size_toArray, size_zeroCells, List.length_replicate, List.length_singleton]
    show n + 1 + (grownCap w (n + 1) n 4 - (n + 1)) * 1 = _
    omega
  · simp only [Array.toList_append, List.append_assoc]
    rw [← List.append_assoc]
    have e : List.replicate n (Value.bool b) ++ [Value.bool b] = List.replicate (n + 1) (Value.bool b) := by rw [List.replicate_succ']
    rw [e]
    have e2 : (n + 1) * 1 = (List.replicate (n + 1) (Value.bool b)).length := by simp
    rw [e2]
    exact List.take_left
/-- One more truth behind them. -/
theorem wpList_append_b {ops : Array Oper} {rest : List Oper} {o : Oper} {a : Act} {Q : Exit → Act → World → Prop} {w : World} (hgd : o.guard = none) (s x : Operand)
    (ho : o.op = .call { callee := .builtin .append, args := #[s, x], argTypes := #[25, 25] })
    (base : Nat) (v : Value) (g n j : Nat) (b : Bool) (hs : a.eval s = v) (hv : (j = 0 ∧ v = .slice (some ⟨g, 0, none⟩) n n) ∨ XO base w v (n + j) b) (h0 : At w g (boolA n fun _ => b))
    (X : Nat) (hx : a.eval x = .slice (some ⟨X, 0, none⟩) 1 1) (hX : At w X #[.bool b]) (hn : n + j ≤ 2000000) (hbase : base ≤ w.heap.size)
    (h : ∀ g' c w', XO base w' (.slice (some ⟨g', 0, none⟩) (n + (j + 1)) c) (n + (j + 1)) b → Below base w w' → wpList Try.prog ops Q rest (a.put o.dst (.slice (some ⟨g', 0, none⟩) (n + (j + 1)) c)) w') :
    wpList Try.prog ops Q (o :: rest) a w := by
  rcases hv with ⟨rfl, rfl⟩ | hv
  · refine wpList_plain hgd fun K hK => ?_
    obtain ⟨c, w', hr, h1, h2⟩ := run_append_b w o.type base g n b X h0 hX (by omega) hbase
    unfold Oper.wp execOp
    simp only [ho, resolve, invoke, builtin, Sem.run_bind, Sem.run_pure, Result.andThen_ok, List.map_toArray, List.map_cons, List.map_nil, hs, hx, hr]
    exact hK _ _ (h _ c w' h1 (h2.mono hbase))
  · obtain ⟨i0, hi, hz0, hz1, hz2⟩ := info_parts' (t := 4) (z := .bool false) (s := 1) (b := 1) (by kernel_rfl)
    have hnews : ∀ j u, [Value.bool b][j]? = some u → w.cell? ((⟨X, 0, none⟩ : Addr).add j) = some u := fun j u hj => by
      rw [addr_add, hX.2.1]
      simpa using hj
    refine wpList_append_lies _ hgd s x 25 ho base 4 i0 (.bool false) 1 1 Try.underlying25 hi hz0 hz1 hz2 rfl (by decide) v (n + j) (List.replicate (n + j) (.bool b)) hs hv ⟨X, 0, none⟩ 1 1 [.bool b] hx rfl hnews (fun u hu => by rw [List.mem_singleton] at hu; rw [hu]; rfl) (by decide) (by unfold maxLen; omega) (by omega) hbase _ rfl ?_
    intro g' c w' h1 h2 h3 h4
    refine h g' c w' ?_ (Below.of_grown h2 hbase (fun k r => (World.ownsRow.lt hv k r).1))
    have e : List.replicate (n + j) (Value.bool b) ++ [Value.bool b] = List.replicate (n + j + 1) (Value.bool b) := by rw [List.replicate_succ']
    rw [e] at h1
    exact h1
theorem XO.cell {base : Nat} {w : World} {g m c : Nat} {b : Bool} (h : XO base w (.slice (some ⟨g, 0, none⟩) m c) m b) (k : Nat) (hk : k < m) : w.cell? ⟨g, k, none⟩ = some (.bool b) := by
  have hc := World.ownsRow.cells h (g := g) rfl k (.bool b) (by simp [hk])
  rwa [addr_add, Nat.zero_add] at hc
end F
end Go.Proofs.Ytjmknpkmbghgdaa
