/-
  Stage 9, regtype: a list of truth values that is owned; states as elements of a row. No Go in sight but append.
-/
import Derived.Test.YtbbpbfbifgfjdaaRFill
import Derived.Deep.AppendLies
namespace Go.Proofs.Ytbbpbfbifgfjdaa
namespace R
open Go.RowKit

theorem At.grownBy {w w' : World} {row : Option Nat} {k : Nat} {cs : Array Value} (h : At w k cs) (g : w.grownBy w' row) (hn : some k ≠ row) : At w' k cs :=
  ⟨Nat.lt_of_lt_of_le h.1 g.size, fun i => by rw [World.cell?_of_block (a := ⟨k, i, none⟩) (g.block k h.1 hn)]; exact h.2.1 i, fun i => by rw [World.frozen?_of_block (a := ⟨k, i, none⟩) (g.block k h.1 hn)]; exact h.2.2 i⟩
theorem own_far {w : World} {base e size n k : Nat} {v : Value} {xs : List Value} (h : w.ownsRow base e size v n xs) (hk : k < base) : some k ≠ v.ownBlock := by
  rcases h.2 with ⟨rfl, _⟩ | ⟨g, cap, cur, rfl, hb, _⟩
  · simp [Value.ownBlock]
  · simp [Value.ownBlock]; omega
theorem own_base {w : World} {base e size n : Nat} {v : Value} {xs : List Value} (h : w.ownsRow base e size v n xs) : ∀ g, v.ownBlock = some g → base ≤ g := by
  rcases h.2 with ⟨rfl, _⟩ | ⟨g, cap, cur, rfl, hb, _⟩
  · simp [Value.ownBlock]
  · intro g' h'
    simp [Value.ownBlock] at h'
    omega
theorem below_grown {B : Nat} {w w1 : World} {row : Option Nat} (h : w.grownBy w1 row) (hB : B ≤ w.heap.size) (hr : ∀ g, row = some g → B ≤ g) : Below B w w1 :=
  ⟨h.os, h.tape, h.output, h.size, fun k hk => h.block k (by omega) (fun e => by have := hr k e.symm; omega)⟩
theorem own_gr {w w1 : World} {base e size n : Nat} {v : Value} {xs : List Value} (h : w.ownsRow base e size v n xs) (g : Gr w w1) : w1.ownsRow base e size v n xs := by
  refine ⟨h.1, ?_⟩
  rcases h.2 with q | ⟨g', cap, cur, rfl, hb, hc, q⟩
  · exact .inl q
  · refine .inr ⟨g', cap, cur, rfl, hb, ?_, q⟩
    rw [g.below.block g' ?_]
    · exact hc
    · rcases Nat.lt_or_ge g' w.heap.size with hl | hl
      · exact hl
      · rw [Array.getElem?_eq_none hl] at hc; cases hc
theorem Below.gr {B : Nat} {w w1 w2 : World} (h : Below B w w1) (hB : B ≤ w1.heap.size) (g : Gr w1 w2) : Below B w w2 :=
  h.trans ⟨g.below.os, g.below.tape, g.below.output, g.below.size, fun k hk => g.below.block k (by omega)⟩
/-- The truth values of a list that is owned, where they lie. -/
def MayIn (w : World) (g : Nat) (m : List Bool) : Prop := g < w.heap.size ∧ ∀ i (h : i < m.length), w.cell? ⟨g, i, none⟩ = some (.bool m[i])
theorem MayIn.gr {w w1 : World} {g : Nat} {m : List Bool} (h : MayIn w g m) (k : Gr w w1) : MayIn w1 g m :=
  ⟨Nat.lt_of_lt_of_le h.1 k.below.size, fun i hi => by rw [World.cell?_of_block (a := ⟨g, i, none⟩) (k.below.block g h.1)]; exact h.2 i hi⟩
theorem may_of {w : World} {base e : Nat} {v : Value} {m : List Bool} (h : w.ownsRow base e 1 v m.length (m.map Value.bool)) (hm : 0 < m.length) : ∃ g cap, v = .slice (some ⟨g, 0, none⟩) m.length cap ∧ MayIn w g m := by
  rcases h.2 with ⟨_, h0⟩ | ⟨g, cap, cur, rfl, hb, hc, h1, h2, h3, h4⟩
  · omega
  · refine ⟨g, cap, rfl, ?_, fun i hi => ?_⟩
    · rcases Nat.lt_or_ge g w.heap.size with hl | hl
      · exact hl
      · rw [Array.getElem?_eq_none hl] at hc; cases hc
    · rw [cell_of_row w g i cur e (0, 0) hc]
      have : (cur.toList.take (m.length * 1))[i]? = (m.map Value.bool)[i]? := by rw [h4]
      rw [List.getElem?_take_of_lt (by omega)] at this
      simp only [Array.getElem?_toList] at this
      rw [this, List.getElem?_map, List.getElem?_eq_getElem hi]
      rfl
theorem info_parts9 {t : TypeId} {z : Value} {s b : Nat} (h : (Try.prog.info? t).map (fun i => (i.zero, i.size, i.bytes)) = some (some z, s, b)) :
    ∃ i, Try.prog.info? t = some i ∧ i.zero = some z ∧ i.size = s ∧ i.bytes = b := by
  obtain ⟨i, hi, he⟩ := Option.map_eq_some_iff.1 h
  simp only [Prod.mk.injEq] at he
  exact ⟨i, hi, he.1, he.2.1, he.2.2⟩
/-- One truth value appended to a list that is owned. -/
theorem wpList_append_b {ops : Array Oper} {rest : List Oper} {o : Oper} {a : Act} {Q : Exit → Act → World → Prop} {w : World} (hgd : o.guard = none) (s x : Operand)
    (ho : o.op = .call { callee := .builtin .append, args := #[s, x], argTypes := #[52, 52] })
    (base : Nat) (v : Value) (n : Nat) (xs : List Value) (hs : a.eval s = v) (hown : w.ownsRow base 4 1 v n xs) (X : Nat) (hx : a.eval x = .slice (some ⟨X, 0, none⟩) 1 1) (b : Bool) (hX : w.cell? ⟨X, 0, none⟩ = some (.bool b))
    (hlen : n ≤ 1000000) (hbase : base ≤ w.heap.size)
    (h : ∀ g cap w', w'.ownsRow base 4 1 (.slice (some ⟨g, 0, none⟩) (n + 1) cap) (n + 1) (xs ++ [.bool b]) → w.grownBy w' v.ownBlock → wpList Try.prog ops Q rest (a.put o.dst (.slice (some ⟨g, 0, none⟩) (n + 1) cap)) w') :
    wpList Try.prog ops Q (o :: rest) a w := by
  obtain ⟨i0, hi0, hz0, hz1, hz2⟩ := info_parts9 (t := 4) (z := .bool false) (s := 1) (b := 1) (by kernel_rfl)
  have hn : ∀ j u, [Value.bool b][j]? = some u → w.cell? ((⟨X, 0, none⟩ : Addr).add j) = some u := by
    intro j u hj
    match j with
    | 0 => simp at hj; subst hj; exact hX
    | j + 1 => simp at hj
  refine wpList_append_lies _ hgd s x 52 ho base 4 i0 (.bool false) 1 1 Try.underlying52 hi0 hz0 hz1 hz2 rfl (by omega) v n xs hs hown ⟨X, 0, none⟩ 1 1 [.bool b] hx (by simp) hn (by intro u hu; simp at hu; subst hu; rfl) (by decide) (by unfold maxLen; omega) (by omega) hbase _ rfl (fun g cap w' h1 h2 _ _ => h g cap w' h1 h2)
/-- States of sixteen registers. -/
def St16 : Type := { p : Bool × List RT // p.2.length = 16 }
def stV (p : St16) : List Value := stC p.1.1 p.1.2
theorem stV_len (p : St16) : (stV p).length = 193 := stC_len p.2
theorem info_sv (p : St16) : (Try.prog.info? 47).map (·.size) = some (stV p).length := by rw [stV_len]; exact info47
theorem one_sv (p : St16) : ∀ v ∈ stV p, v.oneCell' = true := one_stC _ _
theorem rows_sv (a b c d : St16) : (stV a ++ stV b ++ stV c ++ stV d) = rowV [] stV [a, b, c, d] := by simp [rowV]
theorem built_sv (a b c d : St16) : Try.prog.builtSlice 47 4 [(0, .agg (stV a).toArray), (1, .agg (stV b).toArray), (2, .agg (stV c).toArray), (3, .agg (stV d).toArray)] = some (rowV [] stV [a, b, c, d]).toArray := by
  rw [← rows_sv]
  exact built4 _ _ _ _ _ _ _ _ a.2 b.2 c.2 d.2
theorem bld1 (cs : Array Value) (hs : cs.size = 193) (v : Value) (h0 : cs[0]? = some v) (row : List Value) (h : row.length = 192) : List.foldl (fun cs x => cs.setIfInBounds (1 + x.snd) x.fst) cs row.zipIdx = (v :: row).toArray := by
  have e : cs = cs.setIfInBounds 0 v := by
    apply Array.ext_getElem?
    intro i
    by_cases q : i = 0
    · subst q
      rw [Array.getElem?_setIfInBounds_self_of_lt (by omega), h0]
    · rw [Array.getElem?_setIfInBounds_ne (by omega)]
  rw [e]
  exact bld cs hs v row h
theorem J9_rng (a b : RT) (ha : a.Rng) (hb : b.Rng) : (J9 a b).Rng := RV.rt_rng (RV.jn_ok (RT.nm_ok ha) (RT.nm_ok hb))
theorem W9_rng (a b : RT) (ha : a.Rng) (hb : b.Rng) : (W9 a b).Rng := RV.rt_rng (RV.wd_ok (RT.nm_ok ha) (RT.nm_ok hb))
theorem F9_rng (a : RT) (ha : a.Rng) : (F9 a).Rng := RV.rt_rng (RT.nm_ok ha)
theorem zero_rng : RT.zero.Rng := RV.rt_rng (a := .any) True.intro
theorem map_R16 {A : List RT} (hA : R16 A) : R16 (A.map F9) := by
  refine ⟨by rw [List.length_map, hA.1], fun a ha => ?_⟩
  rw [List.mem_map] at ha
  obtain ⟨b, hb, rfl⟩ := ha
  exact F9_rng b (hA.2 b hb)
theorem zip_R16 {G : RT → RT → RT} (hG : ∀ a b, a.Rng → b.Rng → (G a b).Rng) {A B : List RT} (hA : R16 A) (hB : R16 B) : R16 (List.zipWith G A B) := by
  refine ⟨by rw [List.length_zipWith, hA.1, hB.1]; rfl, fun a ha => ?_⟩
  obtain ⟨i, hi, rfl⟩ := List.getElem_of_mem ha
  rw [List.getElem_zipWith]
  rw [List.length_zipWith] at hi
  exact hG _ _ (hA.2 _ (List.getElem_mem (by omega))) (hB.2 _ (List.getElem_mem (by omega)))
theorem z_R16 : R16 Z16 := ⟨rfl, fun a ha => by
  have : a = RT.zero := by unfold Z16 at ha; exact (List.mem_replicate.1 ha).2
  rw [this]
  exact zero_rng⟩
theorem kR_R16 {l : Bool} {A : List RT} (hA : R16 A) : R16 (kR F9 l A) := by
  cases l
  · exact z_R16
  · exact map_R16 hA
theorem mR_R16 {G : RT → RT → RT} (hG : ∀ a b, a.Rng → b.Rng → (G a b).Rng) {la lb : Bool} {A B : List RT} (hA : R16 A) (hB : R16 B) : R16 (mR F9 G la A lb B) := by
  cases la
  · exact kR_R16 hB
  · cases lb
    · exact map_R16 hA
    · exact zip_R16 hG hA hB
end R
end Go.Proofs.Ytbbpbfbifgfjdaa
