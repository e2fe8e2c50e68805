import Derived.Test.YtimiofkiadlnbaaP45
import Derived.Test.YtimiofkiadlnbaaP41
import Derived.Test.YtimiofkiadlnbaaZTwM
import Derived.Test.YtimiofkiadlnbaaP36
/-
  Stage 13, fastvm: lists made and copied.
-/
namespace Go.Proofs.Ytimiofkiadlnbaa
namespace Z
open Go.RowKit
open T (Sep Ob Kp Mf FlIn boxOb)

/-- One element appended to a list that is owned. -/
theorem wp_append_zz {o : Oper} {a : Act} {K : Act → World → Prop} {Q : Exit → Act → World → Prop} {w : World} (s x : Operand) (t e : TypeId) (z : Value) (size bytes : Nat)
    (ho : o.op = .call { callee := .builtin .append, args := #[s, x], argTypes := #[t, t] }) (ht : Try.prog.underlying t = some (.slice e))
    (hi : (Try.prog.info? e).map (fun i => (i.zero, i.size, i.bytes)) = some (some z, size, bytes)) (hz : z.cells.size = size) (hsz : 0 < size) (hby : bytes ≤ 2048)
    (base : Nat) (v : Value) (n : Nat) (xs cs : List Value) (hs : a.eval s = v) (hown : w.ownsRow base e size v n xs) (X : Nat) (hx : a.eval x = .slice (some ⟨X, 0, none⟩) 1 1) (hX : At w X cs.toArray) (hc : cs.length = size) (h1 : ∀ u ∈ cs, u.oneCell' = true)
    (hlen : n ≤ 2000000) (hbase : base ≤ w.heap.size)
    (h : ∀ g cap w', w'.ownsRow base e size (.slice (some ⟨g, 0, none⟩) (n + 1) cap) (n + 1) (xs ++ cs) → w.grownBy w' v.ownBlock → (v.ownBlock = some g ∨ g = w.heap.size) → K (a.put o.dst (.slice (some ⟨g, 0, none⟩) (n + 1) cap)) w') : o.wp Try.prog a w K Q := by
  obtain ⟨i0, hi0, hz0, hz1, hz2⟩ := T.info_parts' hi
  have hb : (n + 1) * bytes ≤ 140737488355328 := Nat.le_trans (Nat.mul_le_mul_left _ hby) (by omega)
  have hn : ∀ j u, cs[j]? = some u → w.cell? ((⟨X, 0, none⟩ : Addr).add j) = some u := by
    intro j u hj
    rw [addr_addZ, Nat.zero_add, hX.2.1]
    simpa using hj
  refine wp_append_lies _ s x t ho base e i0 z size bytes ht hi0 hz0 hz1 hz2 hz hsz v n xs hs hown ⟨X, 0, none⟩ 1 1 cs hx (by omega) hn h1 (by decide) (by unfold maxLen; omega) hb hbase _ rfl ?_
  intro g cap w' k1 k2 k3 _
  exact h g cap w' k1 k2 k3
theorem elem_atZ {α : Type} {f : α → List Value} {k : Nat} (hf : ∀ x, (f x).length = k) {w : World} {b : Nat} {L : List α} (h : At w b (rowV [] f L).toArray) (i : Nat) (v : α) (hv : L[i]? = some v) : w.rangeAt b (i * k) (f v) := by
  obtain ⟨hi, rfl⟩ := List.getElem?_eq_some_iff.1 hv
  exact h.elem (pre := []) hf i hi (i * k) (by simp)
theorem ein_fin {α : Type} {k : Nat} {vals : α → List Value} (hv : ∀ x, (vals x).length = k) {w w1 : World} {a : Option Addr} {L : List α} (h : T.EIn k vals w a L) (hb : Below w.heap.size w w1) : FInZ k vals w1 a L := fun i hi => by
  obtain ⟨b, off, e1, e2, e3⟩ := h i hi
  refine ⟨b, off, e1, fun j hj => ?_⟩
  have hj2 : j < (vals L[i]).length := by rw [hv]; exact hj
  rw [List.getElem?_eq_getElem hj2, T.cell_of_block (hb.block b e2)]
  exact e3 j _ (List.getElem?_eq_getElem hj2)
theorem made_copyZ {α : Type} {vals : α → List Value} {k b : Nat} {Z : α} (hk : 0 < k) (hv : ∀ x, (vals x).length = k) (h1 : ∀ x, ∀ v ∈ vals x, v.oneCell' = true) {t e : TypeId} (ty : TypeId) (ht : Try.prog.underlying t = some (.slice e)) (hi : (Try.prog.info? e).map (fun i => (i.zero, i.size, i.bytes)) = some (some (.agg (vals Z).toArray), k, b)) (hs : (Try.prog.info? e).map (·.size) = some k)
    (L : List α) (a : Option Addr) (c : Nat) (w : World) (hL : T.EIn k vals w a L) (hb : b ≤ 256) (hn : L.length ≤ 2000000) :
    ∃ V9 V2, (Instr.makeSlice t (.int .i64 ((L.length : Int) + 8)) (.int .i64 ((L.length : Int) + 8))).run Try.prog w = .ok (.slice (some ⟨w.heap.size, 0, none⟩) (L.length + 8) (L.length + 8)) V9 ∧
    (Builtin.copy_ #[t, t] ty #[.slice (some ⟨w.heap.size, 0, none⟩) (L.length + 8) (L.length + 8), .slice a L.length c]).run Try.prog V9 = .ok (goInt L.length) V2 ∧
    T.EIn k vals V2 (some ⟨w.heap.size, 0, none⟩) L ∧ Gr w V9 ∧ Gr w V2 ∧ w.heap.size < V2.heap.size ∧ w.heap.size < V9.heap.size := by
  have hb2 : b * (L.length + 8) ≤ 281474976710656 := Nat.le_trans (Nat.mul_le_mul_right _ hb) (by omega)
  have hm := make_k (vals := vals) (Z := Z) (t := t) (e := e) (k := k) (b := b) hk hv ht hi (L.length + 8) (by omega) hb2 w
  rw [show ((L.length + 8 : Nat) : Int) = (L.length : Int) + 8 by omega] at hm
  have g1 : Gr w (w.alloc (.cells (rowV [] vals (List.replicate (L.length + 8) Z)).toArray e)) := (Gr.refl w).alloc _
  have q := copy_rows (c := c) (k := k) hk hv h1 ty ht hs (At.new w (rowV [] vals (List.replicate (L.length + 8) Z)).toArray e) (L := L) (a := a) (ein_fin hv hL g1.below) (by simp)
  rw [List.length_replicate] at q
  refine ⟨_, _, hm, q.1, fun i hi2 => ?_, g1, g1.setCells _ (Nat.le_refl _) _ _, q.2.1, (At.new w (rowV [] vals (List.replicate (L.length + 8) Z)).toArray e).1⟩
  refine ⟨w.heap.size, 0, rfl, q.2.1, fun j v hj => ?_⟩
  have hL2 : (L ++ (List.replicate (L.length + 8) Z).drop L.length)[i]? = some L[i] := by rw [List.getElem?_append_left hi2, List.getElem?_eq_getElem hi2]
  rw [Nat.zero_add]
  exact elem_atZ hv q.2 i L[i] hL2 j v hj
theorem ri_len (i : Ri) : i.vals.length = 5 := rfl
theorem ri_one (i : Ri) : ∀ v ∈ i.vals, v.oneCell' = true := fun v hv => by
  simp only [Ri.vals, List.mem_cons, List.not_mem_nil, or_false] at hv
  rcases hv with rfl | rfl | rfl | rfl | rfl <;> rfl
theorem rg_one (g : Rg) : ∀ v ∈ g.vals, v.oneCell' = true := fun v hv => by
  simp only [Rg.vals, List.mem_cons] at hv
  rcases hv with rfl | rfl | rfl | hv
  · rfl
  · rfl
  · rfl
  · exact regs_one g.r v hv
def riZ : Ri := ⟨0, 0, 0, 0, 0⟩
def rgZ : Rg := ⟨0, 0, 0, fun _ => 0⟩
theorem w8Z (n : Nat) (h : n ≤ 2000000) : wrap64 ((n : Int) + 8) = (n : Int) + 8 := by unfold wrap64; omega
theorem x8Z (n : Nat) (h : n ≤ 2000000) : IntKind.i64.wrap ((n : Int) + 8) = (n : Int) + 8 := by rw [IntKind.wrap_i64]; omega
theorem results_row2 {fn : Func} {p t : Tmp} {ty : TypeId} {v u : Value} {a : Addr} (h : fn.results = #[.cell p ty, .tmp t]) (tmps : Array Value) (w : World) (ht : tmps.getD p undef = .pointer (some a)) (hu : tmps.getD t undef = u) (hl : (loadVar ty a).run Try.prog w = .ok v w) :
    (results fn tmps).run Try.prog w = .ok (.tuple #[v, u]) w := by
  have ht' : tmps[p]?.getD undef = .pointer (some a) := by simpa using ht
  have hu' : tmps[t]?.getD undef = u := by simpa using hu
  simp [results, h, ht', hu', asAddr, hl]
/-- The list of rows lies in no row. -/
def Aprt (v : Value) (g k : Nat) (C : List (List Ri)) (V : Nat → Value) : Prop := ∀ b, v.ownBlock = some b → b ≠ g ∧ ∀ j (_ : j < k) (h2 : j < C.length), ∀ gk, V j = .slice (some ⟨gk, 0, none⟩) C[j].length (C[j].length + 8) → gk ≠ b
theorem Lnt.gr {W1 wr W : World} {g k : Nat} {C : List (List Ri)} {V : Nat → Value} (h : Lnt W1 wr g C k V) (q : Gr wr W) : Lnt W1 W g C k V :=
  h.keep (S := fun _ => False) (Kp.of_below q.below) (fun r => r) (fun _ r => r.elim) (fun _ _ _ _ _ r => r)
/-- What follows a row: it is laid in, and appended to the list of rows. -/
theorem Aprt.lay {v : Value} {g k gk : Nat} {C : List (List Ri)} {V : Nat → Value} (h : Aprt v g k C V) (hk : k < C.length) (hb : ∀ b, v.ownBlock = some b → b ≠ gk) : Aprt v g (k + 1) C (updF V k (.slice (some ⟨gk, 0, none⟩) C[k].length (C[k].length + 8))) := fun b hv => by
  obtain ⟨h1, h2⟩ := h b hv
  refine ⟨h1, fun j hj q2 gj e => ?_⟩
  unfold updF at e
  by_cases ej : j = k
  · subst ej
    rw [if_pos rfl] at e
    injection e with e
    injection e with e
    injection e with e
    exact e ▸ fun q => hb b hv q.symm
  · rw [if_neg ej] at e
    exact h2 j (by omega) q2 gj e
theorem Lnt.app {W1 wr W : World} {g k g9 c9 n9 : Nat} {C : List (List Ri)} {V : Nat → Value} {v : Value} (h : Lnt W1 wr g C k V) (ap : Aprt v g k C V) (q : wr.grownBy W v.ownBlock) (hv : ∀ b, v.ownBlock = some b → W1.heap.size ≤ b) (h9 : v.ownBlock = some g9 ∨ g9 = wr.heap.size) : Lnt W1 W g C k V ∧ Aprt (.slice (some ⟨g9, 0, none⟩) n9 c9) g k C V := by
  refine ⟨h.keep (kp_grown q) (fun r => (ap g r).1 rfl) hv (fun j hj h2 gk e r => (ap gk r).2 j hj h2 gk e rfl), fun b hb => ?_⟩
  have e9 : g9 = b := by simpa [Value.ownBlock] using hb
  subst e9
  rcases h9 with r | r
  · exact ap _ r
  · subst r
    refine ⟨fun e => ?_, fun j hj h2 gk e => ?_⟩
    · have := h.row.lt; omega
    · obtain ⟨gk', e1, _, _, e4, _⟩ := h.done j hj h2
      rw [e1] at e
      injection e with e
      injection e with e
      injection e with e
      omega
theorem own_grZ {w w1 : World} {lo e s n : Nat} {v : Value} {xs : List Value} (h : w.ownsRow lo e s v n xs) (q : Gr w w1) : w1.ownsRow lo e s v n xs := own_keep (S1 := fun _ => False) h (Kp.of_below q.below) (fun _ _ r => r)
theorem own_setZ {w : World} {lo e s n g j : Nat} {v : Value} {xs : List Value} (h : w.ownsRow lo e s v n xs) (u : Value) (hd : v.ownBlock ≠ some g) : (w.setCell ⟨g, j, none⟩ u).ownsRow lo e s v n xs := own_keep (S1 := fun b => b = g) h (Kp.set (S := fun b => b = g) w ⟨g, j, none⟩ u rfl) (fun _ r e => hd (e ▸ r))
theorem at_below {W W' : World} {B k : Nat} {cs : Array Value} (h : At W k cs) (q : Below B W W') (hk : k < B) : At W' k cs :=
  ⟨Nat.lt_of_lt_of_le h.1 q.size, fun j => (T.cell_of_block (q.block k hk) j).trans (h.2.1 j), fun j => (T.frozen_of_block (q.block k hk) j).trans (h.2.2 j)⟩
theorem RpIn.below_ {w W : World} {ca ga : Option Addr} {R : Rp} (h : RpIn w ca ga R) (g : Below w.heap.size w W) : RpIn W ca ga R := by
  refine ⟨fun k hk => ?_, fun k hk => ?_⟩
  · obtain ⟨b, off, ra, rc, e1, e2, e3, e4⟩ := h.code k hk
    exact ⟨b, off, ra, rc, e1, Nat.lt_of_lt_of_le e2 g.size, (T.cell_of_block (g.block b e2) _).trans e3, e4.below g⟩
  · obtain ⟨b, off, e1, e2, e3⟩ := h.gate k hk
    exact ⟨b, off, e1, Nat.lt_of_lt_of_le e2 g.size, fun i v q => (T.cell_of_block (g.block b e2) _).trans (e3 i v q)⟩
theorem gate_ein {w : World} {ca ga : Option Addr} {R : Rp} (h : RpIn w ca ga R) : T.EIn 19 Rg.vals w ga R.gates := fun i hi => by
  obtain ⟨b, off, e1, e2, e3⟩ := h.gate i hi
  exact ⟨b, off, e1, e2, e3⟩
theorem lent_fin {w W V2 V5 V6 : World} {g kg : Nat} {R : Rp} {V : Nat → Value} (h : Lnt W V2 g R.code R.code.length V) (hE : T.EIn 19 Rg.vals V2 (some ⟨kg, 0, none⟩) R.gates) (k1 : Kp (fun b => b = w.heap.size) V2 V5) (k2 : Kp (fun b => b = w.heap.size + 1) V5 V6) (G : Gr w W) (hl : kg < V2.heap.size) (hk : kg ≠ w.heap.size ∧ kg ≠ w.heap.size + 1) (hg : g ≠ w.heap.size ∧ g ≠ w.heap.size + 1) (hs : W.heap.size = w.heap.size + 1 + 1) : RpIn V6 (some ⟨g, 0, none⟩) (some ⟨kg, 0, none⟩) R ∧ Below w.heap.size w V6 := by
  have hb : ∀ b, b < V2.heap.size → b ≠ w.heap.size → b ≠ w.heap.size + 1 → V6.heap[b]? = V2.heap[b]? := fun b q1 q2 q3 => (k2.block b (Nat.lt_of_lt_of_le q1 k1.size) q3).trans (k1.block b q1 q2)
  have hz : V2.heap.size ≤ V6.heap.size := Nat.le_trans k1.size k2.size
  refine ⟨⟨fun k hk2 => ?_, fun k hk2 => ?_⟩, ?_⟩
  · obtain ⟨gk, e1, e2, _, e4, e5⟩ := h.done k hk2 hk2
    refine ⟨g, 0, some ⟨gk, 0, none⟩, R.code[k].length + 8, rfl, Nat.lt_of_lt_of_le h.row.lt hz, ?_, fun i hi => ?_⟩
    · rw [T.cell_of_block (hb g h.row.lt hg.1 hg.2), Nat.zero_add, ← e1]
      exact h.row.at_ k (by omega)
    · obtain ⟨b, off, f1, f2, f3⟩ := e5 i hi
      injection f1 with f1
      injection f1 with f1 f4
      subst f1 f4
      exact ⟨gk, 0, rfl, Nat.lt_of_lt_of_le f2 hz, fun m v r => (T.cell_of_block (hb gk e4 (by omega) (by omega)) _).trans (f3 m v r)⟩
  · obtain ⟨b, off, f1, f2, f3⟩ := hE k hk2
    injection f1 with f1
    injection f1 with f1 f4
    subst f1 f4
    exact ⟨kg, 0, rfl, Nat.lt_of_lt_of_le f2 hz, fun m v r => (T.cell_of_block (hb kg hl hk.1 hk.2) _).trans (f3 m v r)⟩
  · have b1 : Below w.heap.size w V2 := G.below.trans (h.bel.mono (by omega))
    refine b1.trans ⟨k2.os.trans k1.os, k2.tape.trans k1.tape, k2.output.trans k1.output, hz, fun b q => hb b (Nat.lt_of_lt_of_le q b1.size) (by omega) (by omega)⟩
end Z
end Go.Proofs.Ytimiofkiadlnbaa


/-
  Stage 13, fastvm: a program that is lent, walked.
-/
namespace Go.Proofs.Ytimiofkiadlnbaa
namespace Z
open Go.RowKit
open T (Sep Ob Kp Mf FlIn boxOb)

end Z
end Go.Proofs.Ytimiofkiadlnbaa
