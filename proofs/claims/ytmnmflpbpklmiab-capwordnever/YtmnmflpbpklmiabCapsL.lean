/-
  Stage 1, capword: one capability appended to a list that the call owns.
-/
import Derived.Test.YtmnmflpbpklmiabCaps
import Derived.Test.YtmnmflpbpklmiabPlainM
namespace Go.Proofs.Ytmnmflpbpklmiab
open Go.RowKit

theorem infoCap : (Try.prog.info? 25).map (fun i => (i.zero, i.size, i.bytes)) = some (some (.agg #[.int .u64 0, .int .u64 0, .int .u64 0, .int .u8 0, .int .i64 0]), 5, 40) := by kernel_rfl

theorem vals_news {w : World} {X : Nat} {k : Kap} (h : At w X k.vals.toArray) : ∀ j u, k.vals[j]? = some u → w.cell? ((⟨X, 0, none⟩ : Addr).add j) = some u := by
  intro j u hj
  have ea : (⟨X, 0, none⟩ : Addr).add j = ⟨X, j, none⟩ := by by_cases h0 : j = 0 <;> simp [Addr.add, h0]
  rw [ea, h.2.1]
  simpa using hj
theorem vals_one (k : Kap) : ∀ u ∈ k.vals, u.oneCell' = true := by
  intro u hu
  simp [Kap.vals] at hu
  rcases hu with rfl | rfl | rfl | rfl | rfl <;> rfl

theorem wpList_append_kap {ops : Array Oper} {rest : List Oper} {o : Oper} {a : Act} {Q : Exit → Act → World → Prop} {w : World} (hgd : o.guard = none) (s x : Operand)
    (ho : o.op = .call { callee := .builtin .append, args := #[s, x], argTypes := #[42, 42] })
    (base g cap : Nat) (L : List Kap) (k : Kap) (n : Nat) (hn : L.length = n) (hs : a.eval s = .slice (some ⟨g, 0, none⟩) n cap) (hL : LAt w base g cap L)
    (X : Nat) (hx : a.eval x = .slice (some ⟨X, 0, none⟩) 1 1) (hX : At w X k.vals.toArray) (hlen : n ≤ 1000) (hbase : base ≤ w.heap.size)
    (h : ∀ g' cap' w', LAt w' base g' cap' (L ++ [k]) → w.grownBy w' (some g) → (g' = g ∨ g' = w.heap.size) → wpList Try.prog ops Q rest (a.put o.dst (.slice (some ⟨g', 0, none⟩) (n + 1) cap')) w') :
    wpList Try.prog ops Q (o :: rest) a w := by
  subst hn
  obtain ⟨i0, hi, hz0, hz1, hz2⟩ := info_parts infoCap
  refine wpList_append_lies _ hgd s x 42 ho base 25 i0 (.agg #[.int .u64 0, .int .u64 0, .int .u64 0, .int .u8 0, .int .i64 0]) 5 40 Try.underlying42 hi hz0 hz1 hz2 rfl (by decide)
    (.slice (some ⟨g, 0, none⟩) L.length cap) L.length (flat L) hs hL ⟨X, 0, none⟩ 1 1 k.vals hx (by simp [Kap.vals]) (vals_news hX) (vals_one k) (by decide) (by simp [maxLen]; omega) (by omega) hbase _ rfl ?_
  intro g' cap' w' h1 h2 h3 _
  refine h g' cap' w' (LAt.snoc rfl h1) h2 ?_
  rcases h3 with h3 | h3
  · left; simpa [Value.ownBlock] using h3.symm
  · exact .inr h3
end Go.Proofs.Ytmnmflpbpklmiab
