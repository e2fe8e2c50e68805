import Derived.Test.YtbichnngepjpnaaGreatTMemC
import Derived.Deep.AppendLies
/-
  Stage 6, tagmem: the addresses of all granules with a tag.
-/
namespace Go.Proofs.YtbichnngepjpnaaGreat
namespace T
open Go.RowKit

/-- The addresses of granules with a tag, of so many. -/
def tagsL (t : Nat → Option Cp) : Nat → List Nat
  | 0 => []
  | n + 1 => tagsL t n ++ if plTag (t n) then [n * 16] else []
theorem tagsL_len (t : Nat → Option Cp) (n : Nat) : (tagsL t n).length ≤ n := by
  induction n with
  | zero => simp [tagsL]
  | succ n ih =>
    rw [tagsL, List.length_append]
    split <;> simp <;> omega
def u64V (n : Nat) : Value := .int .u64 n
/-- A row of numbers that the call owns. -/
def UOwn (w : World) (base : Nat) (v : Value) (L : List Nat) : Prop := w.ownsRow base 31 1 v L.length (L.map u64V)
theorem UOwn.below {w w1 : World} {base : Nat} {v : Value} {L : List Nat} (h : UOwn w base v L) (hb : Below w.heap.size w w1) : UOwn w1 base v L := by
  refine ⟨h.1, ?_⟩
  rcases h.2 with h2 | ⟨g, cap, cur, hv, hbg, hg, rest⟩
  · exact .inl h2
  · have hlt : g < w.heap.size := (Array.getElem?_eq_some_iff.1 hg).1
    exact .inr ⟨g, cap, cur, hv, hbg, (hb.block g hlt).trans hg, rest⟩
theorem UOwn.nil (w : World) (base : Nat) : UOwn w base (.slice none 0 0) [] := ⟨rfl, .inl ⟨rfl, rfl⟩⟩
theorem UOwn.block {w : World} {base : Nat} {v : Value} {L : List Nat} (h : UOwn w base v L) : ∀ g, v.ownBlock = some g → base ≤ g ∧ g < w.heap.size := by
  intro g hg
  rcases h.2 with ⟨rfl, _⟩ | ⟨g', cap, cur, rfl, hbg, hh, rest⟩
  · cases hg
  · have : g' = g := by simpa [Value.ownBlock] using hg
    subst this
    exact ⟨hbg, (Array.getElem?_eq_some_iff.1 hh).1⟩
theorem UOwn.form {w : World} {base : Nat} {v : Value} {L : List Nat} (h : UOwn w base v L) : ∃ a cap, v = .slice a L.length cap ∧ ∀ i (hi : i < L.length), ∃ g, a = some ⟨g, 0, none⟩ ∧ g < w.heap.size ∧ w.cell? ⟨g, i, none⟩ = some (u64V L[i]) := by
  rcases h.2 with ⟨rfl, h0⟩ | ⟨g, cap, cur, rfl, hbg, hh, rest⟩
  · refine ⟨none, 0, by rw [h0], fun i hi => ?_⟩
    omega
  · refine ⟨_, cap, rfl, fun i hi => ⟨g, rfl, (Array.getElem?_eq_some_iff.1 hh).1, ?_⟩⟩
    have hc := World.ownsRow.cells h (g := g) rfl i (u64V L[i]) (by simp [hi])
    rwa [addr_add] at hc
theorem infoU64 : (Tryz.prog.info? 31).map (fun i => (i.zero, i.size, i.bytes)) = some (some (.int .u64 0), 1, 8) := by kernel_rfl
theorem info_parts' {t : TypeId} {z : Value} {s b : Nat} (h : (Tryz.prog.info? t).map (fun i => (i.zero, i.size, i.bytes)) = some (some z, s, b)) :
    ∃ i, Tryz.prog.info? t = some i ∧ i.zero = some z ∧ i.size = s ∧ i.bytes = b := by
  obtain ⟨i, hi, he⟩ := Option.map_eq_some_iff.1 h
  simp only [Prod.mk.injEq] at he
  exact ⟨i, hi, he.1, he.2.1, he.2.2⟩
/-- One number appended, which lies in a new block. -/
theorem wpList_append_num {ops : Array Oper} {rest : List Oper} {o : Oper} {a : Act} {Q : Exit → Act → World → Prop} {w : World} (hgd : o.guard = none) (s x : Operand)
    (ho : o.op = .call { callee := .builtin .append, args := #[s, x], argTypes := #[26, 26] })
    (base : Nat) (v : Value) (L : List Nat) (y : Nat) (hs : a.eval s = v) (hL : UOwn w base v L)
    (X : Nat) (hx : a.eval x = .slice (some ⟨X, 0, none⟩) 1 1) (hX : At w X #[.int .u64 y]) (hlen : L.length ≤ 1000000) (hbase : base ≤ w.heap.size)
    (h : ∀ g cap w', UOwn w' base (.slice (some ⟨g, 0, none⟩) (L.length + 1) cap) (L ++ [y]) → w.grownBy w' v.ownBlock → wpList Tryz.prog ops Q rest (a.put o.dst (.slice (some ⟨g, 0, none⟩) (L.length + 1) cap)) w') :
    wpList Tryz.prog ops Q (o :: rest) a w := by
  obtain ⟨i0, hi, hz0, hz1, hz2⟩ := info_parts' infoU64
  have hn : ∀ j u, [Value.int .u64 y][j]? = some u → w.cell? ((⟨X, 0, none⟩ : Addr).add j) = some u := by
    intro j u hj
    rw [addr_add, hX.2.1]
    simpa using hj
  refine wpList_append_lies _ hgd s x 26 ho base 31 i0 (.int .u64 0) 1 8 Tryz.underlying26 hi hz0 hz1 hz2 rfl (by decide)
    v L.length (L.map u64V) hs hL ⟨X, 0, none⟩ 1 1 [.int .u64 y] hx rfl hn (by simp [Value.oneCell']) (by decide) (by unfold maxLen; omega) (by omega) hbase _ rfl ?_
  intro g cap w' h1 h2 _ _
  refine h g cap w' ?_ h2
  unfold UOwn
  rw [List.length_append, List.map_append]
  exact h1
theorem Below.of_grown {B : Nat} {w w1 : World} {row : Option Nat} (h : w.grownBy w1 row) (hB : B ≤ w.heap.size) (hr : ∀ g, row = some g → B ≤ g) : Below B w w1 :=
  ⟨h.os, h.tape, h.output, h.size, fun k hk => h.block k (Nat.lt_of_lt_of_le hk hB) (fun e => by have := hr k e.symm; omega)⟩
theorem drewN_below (w : World) (n : Nat) : Below w.heap.size w (w.drewN n) := by
  induction n with
  | zero => exact Below.refl _ _
  | succ n ih => exact Below.drew ih
theorem tagsL_none (t : Nat → Option Cp) (n m : Nat) (h : ∀ j, j < m → t (n + j) = none) : tagsL t (n + m) = tagsL t n := by
  induction m with
  | zero => rfl
  | succ m ih =>
    rw [← Nat.add_assoc, tagsL, ih (fun j hj => h j (by omega)), h m (by omega)]
    simp [plTag]
end T
end Go.Proofs.YtbichnngepjpnaaGreat
