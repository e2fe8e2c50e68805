import Derived.Test.YtbichnngepjpnaaGreatP39
import Derived.Test.YtbichnngepjpnaaGreatP36
import Derived.Test.YtbichnngepjpnaaGreatZTwM
import Derived.Test.YtbichnngepjpnaaGreatP33
/-
  Stage 13, fastvm: lists made and copied.
-/
namespace Go.Proofs.YtbichnngepjpnaaGreat
namespace Z
open Go.RowKit
open T (Sep Ob Kp Mf FlIn boxOb)

/-- One element appended to a list that is owned. -/
theorem wp_append_zz {o : Oper} {a : Act} {K : Act → World → Prop} {Q : Exit → Act → World → Prop} {w : World} (s x : Operand) (t e : TypeId) (z : Value) (size bytes : Nat)
    (ho : o.op = .call { callee := .builtin .append, args := #[s, x], argTypes := #[t, t] }) (ht : Tryz.prog.underlying t = some (.slice e))
    (hi : (Tryz.prog.info? e).map (fun i => (i.zero, i.size, i.bytes)) = some (some z, size, bytes)) (hz : z.cells.size = size) (hsz : 0 < size) (hby : bytes ≤ 2048)
    (base : Nat) (v : Value) (n : Nat) (xs cs : List Value) (hs : a.eval s = v) (hown : w.ownsRow base e size v n xs) (X : Nat) (hx : a.eval x = .slice (some ⟨X, 0, none⟩) 1 1) (hX : At w X cs.toArray) (hc : cs.length = size) (h1 : ∀ u ∈ cs, u.oneCell' = true)
    (hlen : n ≤ 2000000) (hbase : base ≤ w.heap.size)
    (h : ∀ g cap w', w'.ownsRow base e size (.slice (some ⟨g, 0, none⟩) (n + 1) cap) (n + 1) (xs ++ cs) → w.grownBy w' v.ownBlock → (v.ownBlock = some g ∨ g = w.heap.size) → K (a.put o.dst (.slice (some ⟨g, 0, none⟩) (n + 1) cap)) w') : o.wp Tryz.prog a w K Q := by
  obtain ⟨i0, hi0, hz0, hz1, hz2⟩ := T.info_parts' hi
  have hb : (n + 1) * bytes ≤ 140737488355328 := Nat.le_trans (Nat.mul_le_mul_left _ hby) (by omega)
  have hn : ∀ j u, cs[j]? = some u → w.cell? ((⟨X, 0, none⟩ : Addr).add j) = some u := by
    intro j u hj
    rw [addr_addZ, Nat.zero_add, hX.2.1]
    simpa using hj
  refine wp_append_lies _ s x t ho base e i0 z size bytes ht hi0 hz0 hz1 hz2 hz hsz v n xs hs hown ⟨X, 0, none⟩ 1 1 cs hx (by omega) hn h1 (by decide) (by unfold maxLen; omega) hb hbase _ rfl ?_
  intro g cap w' k1 k2 k3 _
  exact h g cap w' k1 k2 k3
theorem elem_atZ {α : Type} {f : α → List Value} {k : Nat} (hf : ∀ x, (f x).length = k) {w : World} {b : Nat} {L : List α} (h : At w b (rowV [] f L).toArray) (i : Nat) (v : α) (hv : L[i]? = some v) : w.rangeAt b (i * k) (f v) := by
  obtain ⟨hi, rfl⟩ := List.getElem?_eq_some_iff.1 hv
  exact h.elem (pre := []) hf i hi (i * k) (by simp)
theorem ein_fin {α : Type} {k : Nat} {vals : α → List Value} (hv : ∀ x, (vals x).length = k) {w w1 : World} {a : Option Addr} {L : List α} (h : T.EIn k vals w a L) (hb : Below w.heap.size w w1) : FInZ k vals w1 a L := fun i hi => by
  obtain ⟨b, off, e1, e2, e3⟩ := h i hi
  refine ⟨b, off, e1, fun j hj => ?_⟩
  have hj2 : j < (vals L[i]).length := by rw [hv]; exact hj
  rw [List.getElem?_eq_getElem hj2, T.cell_of_block (hb.block b e2)]
  exact e3 j _ (List.getElem?_eq_getElem hj2)
theorem made_copyZ {α : Type} {vals : α → List Value} {k b : Nat} {Z : α} (hk : 0 < k) (hv : ∀ x, (vals x).length = k) (h1 : ∀ x, ∀ v ∈ vals x, v.oneCell' = true) {t e : TypeId} (ty : TypeId) (ht : Tryz.prog.underlying t = some (.slice e)) (hi : (Tryz.prog.info? e).map (fun i => (i.zero, i.size, i.bytes)) = some (some (.agg (vals Z).toArray), k, b)) (hs : (Tryz.prog.info? e).map (·.size) = some k)
    (L : List α) (a : Option Addr) (c : Nat) (w : World) (hL : T.EIn k vals w a L) (hb : b ≤ 256) (hn : L.length ≤ 2000000) :
    ∃ V9 V2, (Instr.makeSlice t (.int .i64 ((L.length : Int) + 8)) (.int .i64 ((L.length : Int) + 8))).run Tryz.prog w = .ok (.slice (some ⟨w.heap.size, 0, none⟩) (L.length + 8) (L.length + 8)) V9 ∧
    (Builtin.copy_ #[t, t] ty #[.slice (some ⟨w.heap.size, 0, none⟩) (L.length + 8) (L.length + 8), .slice a L.length c]).run Tryz.prog V9 = .ok (goInt L.length) V2 ∧
    T.EIn k vals V2 (some ⟨w.heap.size, 0, none⟩) L ∧ Gr w V9 ∧ Gr w V2 ∧ w.heap.size < V2.heap.size ∧ w.heap.size < V9.heap.size := by
  have hb2 : b * (L.length + 8) ≤ 281474976710656 := Nat.le_trans (Nat.mul_le_mul_right _ hb) (by omega)
  have hm := make_k (vals := vals) (Z := Z) (t := t) (e := e) (k := k) (b := b) hk hv ht hi (L.length + 8) (by omega) hb2 w
  rw [show ((L.length + 8 : Nat) : Int) = (L.length : Int) + 8 by omega] at hm
  have g1 : Gr w (w.alloc (.cells (rowV [] vals (List.replicate (L.length + 8) Z)).toArray e)) := (Gr.refl w).alloc _
  have q := copy_rows (c := c) (k := k) hk hv h1 ty ht hs (At.new w (rowV [] vals (List.replicate (L.length + 8) Z)).toArray e) (L := L) (a := a) (ein_fin hv hL g1.below) (by simp)
  rw [List.length_replicate] at q
  refine ⟨_, _, hm, q.1, fun i hi2 => ?_, g1, g1.setCells _ (Nat.le_refl _) _ _, q.2.1, (At.new w (rowV [] vals (List.replicate (L.length + 8) Z)).toArray e).1⟩
  refine ⟨w.heap.size, 0, rfl, q.2.1, fun j v hj => ?_⟩
  have hL2 : (L ++ (List.replicate (L.length + 8) Z).drop L.length)[i]? = some L[i] := by rw [List.getElem?_append_left hi2, List.getElem?_eq_getElem hi2]
  rw [Nat.zero_add]
  exact elem_atZ hv q.2 i L[i] hL2 j v hj
theorem ri_len (i : Ri) : i.vals.length = 5 := rfl
theorem ri_one (i : Ri) : ∀ v ∈ i.vals, v.oneCell' = true := fun v hv => by
  simp only [Ri.vals, List.mem_cons, List.not_mem_nil, or_false] at hv
  rcases hv with rfl | rfl | rfl | rfl | rfl <;> rfl
theorem rg_one (g : Rg) : ∀ v ∈ g.vals, v.oneCell' = true := fun v hv => by
  simp only [Rg.vals, List.mem_cons] at hv
  rcases hv with rfl | rfl | rfl | hv
  · rfl
  · rfl
  · rfl
  · exact regs_one g.r v hv
def riZ : Ri := ⟨0, 0, 0, 0, 0⟩
def rgZ : Rg := ⟨0, 0, 0, fun _ => 0⟩
theorem w8Z (n : Nat) (h : n ≤ 2000000) : wrap64 ((n : Int) + 8) = (n : Int) + 8 := by unfold wrap64; omega
theorem x8Z (n : Nat) (h : n ≤ 2000000) : IntKind.i64.wrap ((n : Int) + 8) = (n : Int) + 8 := by rw [IntKind.wrap_i64]; omega
theorem results_row2 {fn : Func} {p t : Tmp} {ty : TypeId} {v u : Value} {a : Addr} (h : fn.results = #[.cell p ty, .tmp t]) (tmps : Array Value) (w : World) (ht : tmps.getD p undef = .pointer (some a)) (hu : tmps.getD t undef = u) (hl : (loadVar ty a).run Tryz.prog w = .ok v w) :
    (results fn tmps).run Tryz.prog w = .ok (.tuple #[v, u]) w := by
  have ht' : tmps[p]?.getD undef = .pointer (some a) := by simpa using ht
  have hu' : tmps[t]?.getD undef = u := by simpa using hu
  simp [results, h, ht', hu', asAddr, hl]
/-- The list of rows lies in no row. -/
def Aprt (v : Value) (g k : Nat) (C : List (List Ri)) (V : Nat → Value) : Prop := ∀ b, v.ownBlock = some b → b ≠ g ∧ ∀ j (_ : j < k) (h2 : j < C.length), ∀ gk, V j = .slice (some ⟨gk, 0, none⟩) C[j].length (C[j].length + 8) → gk ≠ b
theorem Lnt.gr {W1 wr W : World} {g k : Nat} {C : List (List Ri)} {V : Nat → Value} (h : Lnt W1 wr g C k V) (q : Gr wr W) : Lnt W1 W g C k V :=
  h.keep (S := fun _ => False) (Kp.of_below q.below) (fun r => r) (fun _ r => r.elim) (fun _ _ _ _ _ r => r)
/-- What follows a row: it is laid in, and appended to the list of rows. -/
theorem Aprt.lay {v : Value} {g k gk : Nat} {C : List (List Ri)} {V : Nat → Value} (h : Aprt v g k C V) (hk : k < C.length) (hb : ∀ b, v.ownBlock = some b → b ≠ gk) : Aprt v g (k + 1) C (updF V k (.slice (some ⟨gk, 0, none⟩) C[k].length (C[k].length + 8))) := fun b hv => by
  obtain ⟨h1, h2⟩ := h b hv
  refine ⟨h1, fun j hj q2 gj e => ?_⟩
  unfold updF at e
  by_cases ej : j = k
  · subst ej
    rw [if_pos rfl] at e
    injection e with e
    injection e with e
    injection e with e
    exact e ▸ fun q => hb b hv q.symm
  · rw [if_neg ej] at e
    exact h2 j (by omega) q2 gj e
theorem Lnt.app {W1 wr W : World} {g k g9 c9 n9 : Nat} {C : List (List Ri)} {V : Nat → Value} {v : Value} (h : Lnt W1 wr g C k V) (ap : Aprt v g k C V) (q : wr.grownBy W v.ownBlock) (hv : ∀ b, v.ownBlock = some b → W1.heap.size ≤ b) (h9 : v.ownBlock = some g9 ∨ g9 = wr.heap.size) : Lnt W1 W g C k V ∧ Aprt (.slice (some ⟨g9, 0, none⟩) n9 c9) g k C V := by
  refine ⟨h.keep (kp_grown q) (fun r => (ap g r).1 rfl) hv (fun j hj h2 gk e r => (ap gk r).2 j hj h2 gk e rfl), fun b hb => ?_⟩
  have e9 : g9 = b := by simpa [Value.ownBlock] using hb
  subst e9
  rcases h9 with r | r
  · exact ap _ r
  · subst r
    refine ⟨fun e => ?_, fun j hj h2 gk e => ?_⟩
    · have := h.row.lt; omega
    · obtain ⟨gk', e1, _, _, e4, _⟩ := h.done j hj h2
      rw [e1] at e
      injection e with e
      injection e with e
      injection e with e
      omega
theorem own_grZ {w w1 : World} {lo e s n : Nat} {v : Value} {xs : List Value} (h : w.ownsRow lo e s v n xs) (q : Gr w w1) : w1.ownsRow lo e s v n xs := own_keep (S1 := fun _ => False) h (Kp.of_below q.below) (fun _ _ r => r)
theorem own_setZ {w : World} {lo e s n g j : Nat} {v : Value} {xs : List Value} (h : w.ownsRow lo e s v n xs) (u : Value) (hd : v.ownBlock ≠ some g) : (w.setCell ⟨g, j, none⟩ u).ownsRow lo e s v n xs := own_keep (S1 := fun b => b = g) h (Kp.set (S := fun b => b = g) w ⟨g, j, none⟩ u rfl) (fun _ r e => hd (e ▸ r))
theorem at_below {W W' : World} {B k : Nat} {cs : Array Value} (h : At W k cs) (q : Below B W W') (hk : k < B) : At W' k cs :=
  ⟨Nat.lt_of_lt_of_le h.1 q.size, fun j => (T.cell_of_block (q.block k hk) j).trans (h.2.1 j), fun j => (T.frozen_of_block (q.block k hk) j).trans (h.2.2 j)⟩
theorem RpIn.below_ {w W : World} {ca ga : Option Addr} {R : Rp} (h : RpIn w ca ga R) (g : Below w.heap.size w W) : RpIn W ca ga R := by
  refine ⟨fun k hk => ?_, fun k hk => ?_⟩
  · obtain ⟨b, off, ra, rc, e1, e2, e3, e4⟩ := h.code k hk
    exact ⟨b, off, ra, rc, e1, Nat.lt_of_lt_of_le e2 g.size, (T.cell_of_block (g.block b e2) _).trans e3, e4.below g⟩
  · obtain ⟨b, off, e1, e2, e3⟩ := h.gate k hk
    exact ⟨b, off, e1, Nat.lt_of_lt_of_le e2 g.size, fun i v q => (T.cell_of_block (g.block b e2) _).trans (e3 i v q)⟩
theorem gate_ein {w : World} {ca ga : Option Addr} {R : Rp} (h : RpIn w ca ga R) : T.EIn 19 Rg.vals w ga R.gates := fun i hi => by
  obtain ⟨b, off, e1, e2, e3⟩ := h.gate i hi
  exact ⟨b, off, e1, e2, e3⟩
theorem lent_fin {w W V2 V5 V6 : World} {g kg : Nat} {R : Rp} {V : Nat → Value} (h : Lnt W V2 g R.code R.code.length V) (hE : T.EIn 19 Rg.vals V2 (some ⟨kg, 0, none⟩) R.gates) (k1 : Kp (fun b => b = w.heap.size) V2 V5) (k2 : Kp (fun b => b = w.heap.size + 1) V5 V6) (G : Gr w W) (hl : kg < V2.heap.size) (hk : kg ≠ w.heap.size ∧ kg ≠ w.heap.size + 1) (hg : g ≠ w.heap.size ∧ g ≠ w.heap.size + 1) (hs : W.heap.size = w.heap.size + 1 + 1) : RpIn V6 (some ⟨g, 0, none⟩) (some ⟨kg, 0, none⟩) R ∧ Below w.heap.size w V6 := by
  have hb : ∀ b, b < V2.heap.size → b ≠ w.heap.size → b ≠ w.heap.size + 1 → V6.heap[b]? = V2.heap[b]? := fun b q1 q2 q3 => (k2.block b (Nat.lt_of_lt_of_le q1 k1.size) q3).trans (k1.block b q1 q2)
  have hz : V2.heap.size ≤ V6.heap.size := Nat.le_trans k1.size k2.size
  refine ⟨⟨fun k hk2 => ?_, fun k hk2 => ?_⟩, ?_⟩
  · obtain ⟨gk, e1, e2, _, e4, e5⟩ := h.done k hk2 hk2
    refine ⟨g, 0, some ⟨gk, 0, none⟩, R.code[k].length + 8, rfl, Nat.lt_of_lt_of_le h.row.lt hz, ?_, fun i hi => ?_⟩
    · rw [T.cell_of_block (hb g h.row.lt hg.1 hg.2), Nat.zero_add, ← e1]
      exact h.row.at_ k (by omega)
    · obtain ⟨b, off, f1, f2, f3⟩ := e5 i hi
      injection f1 with f1
      injection f1 with f1 f4
      subst f1 f4
      exact ⟨gk, 0, rfl, Nat.lt_of_lt_of_le f2 hz, fun m v r => (T.cell_of_block (hb gk e4 (by omega) (by omega)) _).trans (f3 m v r)⟩
  · obtain ⟨b, off, f1, f2, f3⟩ := hE k hk2
    injection f1 with f1
    injection f1 with f1 f4
    subst f1 f4
    exact ⟨kg, 0, rfl, Nat.lt_of_lt_of_le f2 hz, fun m v r => (T.cell_of_block (hb kg hl hk.1 hk.2) _).trans (f3 m v r)⟩
  · have b1 : Below w.heap.size w V2 := G.below.trans (h.bel.mono (by omega))
    refine b1.trans ⟨k2.os.trans k1.os, k2.tape.trans k1.tape, k2.output.trans k1.output, hz, fun b q => hb b (Nat.lt_of_lt_of_le q b1.size) (by omega) (by omega)⟩
end Z
end Go.Proofs.YtbichnngepjpnaaGreat


/-
  Stage 13, fastvm: a program that is lent, walked.
-/
namespace Go.Proofs.YtbichnngepjpnaaGreat
namespace Z
open Go.RowKit
open T (Sep Ob Kp Mf FlIn boxOb)

set_option maxRecDepth 100000 in
set_option maxHeartbeats 4000000 in
theorem lent_any (R : Rp) (ca ga : Option Addr) (cc gc : Nat) (mem : ByteArray) (w : World) (hP : RpIn w ca ga R) (hc : R.code.length ≤ 1500000) (hr : ∀ r ∈ R.code, r.length ≤ 2000000) (hg : R.gates.length ≤ 2000000) :
    Calls Tryz.prog 20 #[.agg #[.slice ca R.code.length cc, .slice ga R.gates.length gc, .string mem, .int .i64 R.dep]] w fun x w' => ∃ kc kg v, x = .returned (.tuple #[.agg #[.slice (some ⟨kc, 0, none⟩) R.code.length (R.code.length + 8), .slice (some ⟨kg, 0, none⟩) R.gates.length (R.gates.length + 8), .string mem, .int .i64 R.dep], v]) ∧ RpIn w' (some ⟨kc, 0, none⟩) (some ⟨kg, 0, none⟩) R ∧ Below w.heap.size w w' := by
  have w1 : Hz (wrap64 ((R.code.length : Int) + 8) = (R.code.length : Int) + 8) := Hz.mk (w8Z _ (by omega))
  have w3 : Hz (wrap64 ((R.gates.length : Int) + 8) = (R.gates.length : Int) + 8) := Hz.mk (w8Z _ hg)
  replace hg := Hz.mk hg
  replace hr := Hz.mk hr
  go_enter Tryz.func20, Tryz.ntmps20
  go_upto_region 1 with fail
  refine wp_world (fun W => At W w.heap.size #[.slice ca R.code.length cc, .slice ga R.gates.length gc, .string mem, .int .i64 R.dep] ∧ At W (w.heap.size + 1) #[.slice none 0 0, .slice none 0 0, .string ⟨#[]⟩, .int .i64 0] ∧ Gr w W ∧ W.heap.size = w.heap.size + 1 + 1) ⟨(At.new w _ _).alloc _, At.at_ _ _ _ (by simp), ((Gr.refl _).alloc _).alloc _, by simp⟩ ?_
  rintro W ⟨hQ, hZ, G, hs⟩
  have hkp : Hz (w.heap.size < W.heap.size) := Hz.mk hQ.1
  have hkz : Hz (w.heap.size + 1 < W.heap.size) := Hz.mk hZ.1
  have d0 : W.cell? ⟨w.heap.size, 0, none⟩ = some (.slice ca R.code.length cc) := hQ.2.1 0
  have hPW := Hz.mk (hP.gr G)
  clear hP
  have mk1 := make_rowZ (t := 22) (e := 54) (z := .slice none 0 0) (b := 24) Tryz.underlying22 (by kernel_rfl) rfl (by decide) (R.code.length + 8) (by omega) W
  rw [show ((R.code.length + 8 : Nat) : Int) = (R.code.length : Int) + 8 by omega] at mk1
  have hL0 := Hz.mk (show Lnt W (W.alloc (.cells (Array.replicate (R.code.length + 8) (.slice none 0 0)) 54)) W.heap.size R.code 0 (fun _ => .slice none 0 0) from ⟨FRow.new W (R.code.length + 8) _ _, fun j hj => absurd hj (Nat.not_lt_zero j), (Below.refl _ W).alloc (Nat.le_refl _) _, Nat.le_refl _⟩)
  generalize hWW : W.alloc (.cells (Array.replicate (R.code.length + 8) (.slice none 0 0)) 54) = W3 at *
  clear hWW
  have hgW : Hz (W.heap.size ≤ W.heap.size) := Hz.mk (Nat.le_refl _)
  replace w1 := w1.out
  generalize hgg : W.heap.size = g at mk1 hL0
  replace hgg := Hz.mk hgg
  replace hQ := Hz.mk hQ
  replace hZ := Hz.mk hZ
  replace G := Hz.mk G
  replace hs := Hz.mk hs
  go_upto_region 4 with fail
  clear mk1 w1
  replace d0 := Hz.mk d0
  go_loopw [5, 6] (fun v x wr => ∃ (la : Option Addr) (lc k : Nat) (V : Nat → Value) (xs : List Value), v = .slice la k lc ∧ x = .int .i64 k ∧ k ≤ R.code.length ∧ Hz (Lnt W wr g R.code k V) ∧ Hz (wr.ownsRow W.heap.size 54 1 (.slice la k lc) k xs) ∧ Hz (Aprt (.slice la k lc) g k R.code V)) (fun _ x _ => R.code.length - (intOf x).toNat)
  case atStart => exact ⟨none, 0, 0, _, [], rfl, rfl, Nat.zero_le _, hL0, Hz.mk (World.ownsRow_nil _ _ _ _), Hz.mk (fun b r => by cases r)⟩
  case round =>
    clear hL0
    obtain ⟨la, lc, k, V, xs, rfl, rfl, hk, hL, hown, hap⟩ := hrel
    have e0 := (T.cell_of_block (hL.out.bel.block w.heap.size hkp.out) 0).trans d0.out
    by_cases hkl : k < R.code.length
    · have hk1 : (k : Int) < (R.code.length : Int) := Int.ofNat_lt.2 hkl
      obtain ⟨b, off, ra, rc, rfl, hb, hcc, hE⟩ := hPW.out.code k hkl
      have e1 : wr.cell? ⟨b, off + k, none⟩ = some (.slice ra R.code[k].length rc) := (T.cell_of_block (hL.out.bel.block b hb) _).trans hcc
      have hlr : R.code[k].length ≤ 2000000 := hr.out _ (List.getElem_mem hkl)
      have w2 : wrap64 ((R.code[k].length : Int) + 8) = (R.code[k].length : Int) + 8 := w8Z _ hlr
      have u2 : (R.code[k].length : Int) ≤ (R.code[k].length : Int) + 8 := by omega
      obtain ⟨V9, V2, hmk, hcp, hE3, q9, q2, hl2, hl9⟩ := made_copyZ (vals := Ri.vals) (Z := riZ) (k := 5) (b := 40) (by omega) ri_len ri_one 3 Tryz.underlying54 (by kernel_rfl) (by kernel_rfl) R.code[k] ra rc wr (hE.below hL.out.bel) (by omega) hlr
      replace hE3 := Hz.mk hE3
      replace q2 := Hz.mk q2
      replace q9 := Hz.mk q9
      replace hl2 := Hz.mk hl2
      replace hl9 := Hz.mk hl9
      replace hcc := Hz.mk hcc
      replace hE := Hz.mk hE
      have hlw := Hz.mk (hown.out.lt)
      have hkg := Hz.mk hL.out.row.lt
      have hbw : Hz (b < wr.heap.size) := Hz.mk (Nat.lt_of_lt_of_le hb hL.out.bel.size)
      have hpw : Hz (w.heap.size < wr.heap.size) := Hz.mk (Nat.lt_of_lt_of_le hkp.out hL.out.bel.size)
      have hWr : Hz (W.heap.size ≤ wr.heap.size) := Hz.mk hL.out.bel.size
      go_upto_region 7 with fail
      clear hmk w2
      have e2 := (T.cell_of_block (q9.out.below.block w.heap.size hpw.out) 0).trans e0
      have e3 := (T.cell_of_block (q9.out.below.block b hbw.out) _).trans e1
      go_upto_region 8 with fail
      clear hcp e2 e3
      have e2 := (T.cell_of_block (q2.out.below.block w.heap.size hpw.out) 0).trans e0
      have e3 := (T.cell_of_block (q2.out.below.block b hbw.out) _).trans e1
      clear e0 e1
      replace hL := Hz.mk (hL.out.gr q2.out)
      replace hown := Hz.mk (own_grZ hown.out q2.out)
      have hgk : Hz (∀ b, (Value.slice la k lc).ownBlock = some b → b ≠ wr.heap.size) := Hz.mk (fun b r => by have := (hlw.out b r).2; omega)
      have hgn : Hz (wr.heap.size ≠ g) := Hz.mk (by have := hkg.out; omega)
      have c2 := hL.out.row.at_ k (by omega)
      have f2 := hL.out.row.fr k
      have k2 : (k : Int) < (R.code.length : Int) + 8 := by omega
      generalize wr.heap.size = gk at *
      have hL3 := Hz.mk (hL.out.lay hkl hWr.out hgn.out hl2.out hE3.out)
      have hap3 := Hz.mk (hap.out.lay hkl hgk.out)
      have hown3 := Hz.mk (own_setZ (g := g) (j := k) hown.out (.slice (some ⟨gk, 0, none⟩) R.code[k].length (R.code[k].length + 8)) (fun r => (hap.out g r).1 rfl))
      go_upto_region 9 with fail
      clear c2 f2 e2 e3 k2 u2 hL hap hown
      have hL := hL3
      have hap := hap3
      have hown := hown3
      clear hL3 hap3 hown3 hE3 q2 q9 hl2 hl9
      generalize World.setCell _ _ _ = V3 at *
      refine wp_region_lit ?_
      refine wpList_plain rfl (fun K hK => ?_)
      go_simp
      with_reducible refine hK _ _ ?_
      clear hK K
      try simp only [Act.put, List.setIfInBounds_toArray, List.set_cons_zero, List.set_cons_succ]
      refine wpList_plain rfl (fun K hK => ?_)
      go_simp
      with_reducible refine hK _ _ ?_
      clear hK K
      try simp only [Act.put, List.setIfInBounds_toArray, List.set_cons_zero, List.set_cons_succ]
      refine wpList_plain rfl (fun K hK => ?_)
      go_simp
      with_reducible refine hK _ _ ?_
      clear hK K
      try simp only [Act.put, List.setIfInBounds_toArray, List.set_cons_zero, List.set_cons_succ]
      have hX : At (V3.alloc (.cells #[.slice (some ⟨gk, 0, none⟩) (R.code[k].length + 8) (R.code[k].length + 8)] 54)) V3.heap.size #[.slice (some ⟨gk, 0, none⟩) (R.code[k].length + 8) (R.code[k].length + 8)] := At.new V3 _ _
      have ho2 : (V3.alloc (.cells #[.slice (some ⟨gk, 0, none⟩) (R.code[k].length + 8) (R.code[k].length + 8)] 54)).ownsRow W.heap.size 54 1 (.slice la k lc) k xs := hown.out.alloc _
      have hL4 := Hz.mk (hL.out.gr ((Gr.refl V3).alloc (.cells #[.slice (some ⟨gk, 0, none⟩) (R.code[k].length + 8) (R.code[k].length + 8)] 54)))
      have hlt4 : V3.heap.size < (V3.alloc (.cells #[.slice (some ⟨gk, 0, none⟩) (R.code[k].length + 8) (R.code[k].length + 8)] 54)).heap.size := hX.1
      generalize hVV : V3.alloc (.cells #[.slice (some ⟨gk, 0, none⟩) (R.code[k].length + 8) (R.code[k].length + 8)] 54) = V4 at *
      clear hVV
      generalize V3.heap.size = kX at *
      have hv4 := Hz.mk (fun b (r : (Value.slice la k lc).ownBlock = some b) => (ho2.lt b r).1)
      have hbs : W.heap.size ≤ V4.heap.size := hL4.out.bel.size
      clear hL hown hlt4
      refine wpList_plain rfl (fun K hK => ?_)
      refine wp_append_zz _ _ 22 54 (.slice none 0 0) 1 24 rfl Tryz.underlying22 (by kernel_rfl) (by kernel_rfl) (by decide) (by decide) W.heap.size (.slice la k lc) k xs [.slice (some ⟨gk, 0, none⟩) (R.code[k].length + 8) (R.code[k].length + 8)] (by rfl) ho2 kX (by rfl) hX rfl (by simp [Value.oneCell']) (by omega) hbs ?_
      intro g9 cap w9 k1 k2 k3
      obtain ⟨hL5, ap5⟩ := hL4.out.app (n9 := k + 1) (c9 := cap) hap.out k2 hv4.out k3
      replace hL5 := Hz.mk hL5
      replace ap5 := Hz.mk ap5
      replace k1 := Hz.mk k1
      clear k2 k3 ho2 hX hv4 hL4 hap
      refine hK _ _ ?_
      clear hK K
      try simp only [Act.put, List.setIfInBounds_toArray, List.set_cons_zero, List.set_cons_succ]
      go_wp2_with fail
      refine ⟨⟨_, _, k + 1, _, _, rfl, ?_, hkl, hL5, k1, ap5⟩, ?_⟩
      · first | rfl | (rw [show wrap64 ((k : Int) + 1) = ((k + 1 : Nat) : Int) by unfold wrap64; omega]) | go_num
      · first | (simp [intOf]; omega) | (rw [show wrap64 ((k : Int) + 1) = ((k + 1 : Nat) : Int) by unfold wrap64; omega]; simp [intOf]; omega)
    · obtain rfl : k = R.code.length := by omega
      have hk1 : ¬ (R.code.length : Int) < (R.code.length : Int) := by omega
      have hPr := Hz.mk (show RpIn wr ca ga R from hPW.out.below_ hL.out.bel)
      have d1 : Hz (wr.cell? ⟨w.heap.size, 1, none⟩ = some (.slice ga R.gates.length gc)) := Hz.mk ((T.cell_of_block (hL.out.bel.block w.heap.size hkp.out) 1).trans (hQ.out.2.1 1))
      go_upto_region 10 with fail
      have hQr := Hz.mk (at_below hQ.out hL.out.bel hkp.out)
      have hZr := Hz.mk (at_below hZ.out hL.out.bel hkz.out)
      clear e0 hk1 hown hap
      replace d1 := d1.out
      replace w3 := w3.out
      have u3 : (R.gates.length : Int) ≤ (R.gates.length : Int) + 8 := by omega
      obtain ⟨V9, V2, hmk, hcp, hE3, q9, q2, hl2, hl9⟩ := made_copyZ (vals := Rg.vals) (Z := rgZ) (k := 19) (b := 152) (by omega) Rg.len rg_one 3 Tryz.underlying23 (by kernel_rfl) (by kernel_rfl) R.gates ga gc wr (gate_ein hPr.out) (by omega) hg.out
      replace hE3 := Hz.mk hE3
      replace q2 := Hz.mk q2
      replace q9 := Hz.mk q9
      replace hl2 := Hz.mk hl2
      replace hl9 := Hz.mk hl9
      go_upto_region 11 with fail
      clear hmk w3 d1
      have d1 : V9.cell? ⟨w.heap.size, 1, none⟩ = some (.slice ga R.gates.length gc) := (hQr.out.gr q9.out).2.1 1
      go_upto_region 12 with fail
      clear hcp d1
      have hL9 := Hz.mk (hL.out.gr q2.out)
      replace hQr := Hz.mk (hQr.out.gr q2.out)
      replace hZr := Hz.mk (hZr.out.gr q2.out)
      have hgk : Hz (wr.heap.size ≠ w.heap.size ∧ wr.heap.size ≠ w.heap.size + 1) := Hz.mk (by have := hs.out; have := hL.out.bel.size; omega)
      have hgg2 : Hz (g ≠ w.heap.size ∧ g ≠ w.heap.size + 1) := Hz.mk (by have := hs.out; have := hgg.out; omega)
      clear hL hPr q9 q2
      generalize wr.heap.size = kg at *
      have c0 : V2.cell? ⟨w.heap.size, 0, none⟩ = some (.slice ca R.code.length cc) := hQr.out.2.1 0
      have f0 : V2.frozen? ⟨w.heap.size, 0, none⟩ = false := hQr.out.2.2 0
      have u1 : (R.code.length : Int) ≤ (R.code.length : Int) + 8 := by omega
      have kp0 := Kp.set (S := fun b => b = w.heap.size) V2 ⟨w.heap.size, 0, none⟩ (.slice (some ⟨g, 0, none⟩) R.code.length (R.code.length + 8)) rfl
      have hQ1 := Hz.mk (hQr.out.set 0 (.slice (some ⟨g, 0, none⟩) R.code.length (R.code.length + 8)) (by simp))
      have hZ1 := Hz.mk (hZr.out.set_other (j := 0) (.slice (some ⟨g, 0, none⟩) R.code.length (R.code.length + 8)) (show w.heap.size ≠ w.heap.size + 1 by omega))
      replace kp0 := Hz.mk kp0
      go_upto_region 13 with fail
      clear c0 f0 u1 hQr hZr
      generalize World.setCell _ _ _ = V4 at *
      have c0 : V4.cell? ⟨w.heap.size, 1, none⟩ = some (.slice ga R.gates.length gc) := hQ1.out.2.1 1
      have f0 : V4.frozen? ⟨w.heap.size, 1, none⟩ = false := hQ1.out.2.2 1
      have kp1 := Hz.mk (kp0.out.trans (Kp.set (S := fun b => b = w.heap.size) V4 ⟨w.heap.size, 1, none⟩ (.slice (some ⟨kg, 0, none⟩) R.gates.length (R.gates.length + 8)) rfl) (fun _ r => .inl r))
      have hQ2 := Hz.mk (hQ1.out.set 1 (.slice (some ⟨kg, 0, none⟩) R.gates.length (R.gates.length + 8)) (by simp))
      have hZ2 := Hz.mk (hZ1.out.set_other (j := 1) (.slice (some ⟨kg, 0, none⟩) R.gates.length (R.gates.length + 8)) (show w.heap.size ≠ w.heap.size + 1 by omega))
      go_upto_region 14 with fail
      clear c0 f0 u3 hQ1 hZ1 kp0
      generalize World.setCell _ _ _ = V5 at *
      have hRng := Hz.mk (show V5.rangeAt w.heap.size 0 [Value.slice (some ⟨g, 0, none⟩) R.code.length (R.code.length + 8), .slice (some ⟨kg, 0, none⟩) R.gates.length (R.gates.length + 8), .string mem, .int .i64 R.dep] from fun j v q => by rw [Nat.zero_add]; exact (hQ2.out.2.1 j).trans (by simpa using q))
      have hTh := Hz.mk (hZ2.out.there 0 4 (by simp))
      have hZ3 := Hz.mk (At.setAll (cs := [.slice none 0 0, .slice none 0 0, .string ⟨#[]⟩, .int .i64 0]) hZ2.out [Value.slice (some ⟨g, 0, none⟩) R.code.length (R.code.length + 8), .slice (some ⟨kg, 0, none⟩) R.gates.length (R.gates.length + 8), .string mem, .int .i64 R.dep] rfl)
      have kp2 := Hz.mk (kp_setsZ V5 (w.heap.size + 1) [Value.slice (some ⟨g, 0, none⟩) R.code.length (R.code.length + 8), .slice (some ⟨kg, 0, none⟩) R.gates.length (R.gates.length + 8), .string mem, .int .i64 R.dep] 0)
      refine wp_region_lit ?_
      refine wpList_plain rfl (fun K hK => ?_)
      refine wp_load_mid _ _ rfl _ 0 rfl [Value.slice (some ⟨g, 0, none⟩) R.code.length (R.code.length + 8), .slice (some ⟨kg, 0, none⟩) R.gates.length (R.gates.length + 8), .string mem, .int .i64 R.dep] _ hRng.out Tryz.underlying25 rfl (by kernel_rfl) (hK _ _ ?_)
      clear hK K
      try simp only [Act.put, List.setIfInBounds_toArray, List.set_cons_zero, List.set_cons_succ]
      refine wpList_plain rfl (fun K hK => ?_)
      go_simp
      with_reducible refine hK _ _ ?_
      clear hK K
      try simp only [Act.put, List.setIfInBounds_toArray, List.set_cons_zero, List.set_cons_succ]
      refine wpList_plain rfl (fun K hK => ?_)
      refine wp_store_mid _ _ _ rfl _ _ (List.toArray [Value.slice (some ⟨g, 0, none⟩) R.code.length (R.code.length + 8), .slice (some ⟨kg, 0, none⟩) R.gates.length (R.gates.length + 8), .string mem, .int .i64 R.dep]) rfl rfl hTh.out (by kernel_rfl) (by simp [Value.oneCell']) (hK _ _ ?_)
      clear hK K
      try simp only [Act.put]
      refine wpList_plain rfl (fun K hK => ?_)
      go_simp
      with_reducible refine hK _ _ ?_
      clear hK K
      try simp only [Act.put, List.setIfInBounds_toArray, List.set_cons_zero, List.set_cons_succ]
      generalize World.setCells _ _ _ _ = V6 at *
      have hrun := Hz.mk (run_loadVar_mid (P := Tryz.prog) V6 (w.heap.size + 1) 0 25 [Value.slice (some ⟨g, 0, none⟩) R.code.length (R.code.length + 8), .slice (some ⟨kg, 0, none⟩) R.gates.length (R.gates.length + 8), .string mem, .int .i64 R.dep] _ (fun j v q => by rw [Nat.zero_add]; exact (hZ3.out.2.1 j).trans (by simpa using q)) Tryz.underlying25 rfl (by kernel_rfl))
      go_wp2_with fail
      have hfin : RpIn V6 (some ⟨g, 0, none⟩) (some ⟨kg, 0, none⟩) R ∧ Below w.heap.size w V6 := lent_fin hL9.out hE3.out kp1.out kp2.out G.out hl2.out hgk.out hgg2.out hs.out
      refine bodyPost_ret (v := .tuple #[.agg (List.toArray [Value.slice (some ⟨g, 0, none⟩) R.code.length (R.code.length + 8), .slice (some ⟨kg, 0, none⟩) R.gates.length (R.gates.length + 8), .string mem, .int .i64 R.dep]), .slice la R.code.length lc]) ?_ rfl ⟨g, kg, _, rfl, hfin⟩
      exact results_row2 Tryz.results20 _ _ rfl rfl hrun.out
end Z
end Go.Proofs.YtbichnngepjpnaaGreat


/-
  Stage 13, fastvm: the chapter's first example.
-/
namespace Go.Proofs.YtbichnngepjpnaaGreat
namespace Z
open Go.RowKit
open T (Sep Ob Kp Mf FlIn boxOb)

def xg : Fg := ⟨0, 0, 0, fun _ => 0⟩
def xL : List Fi := [⟨1, 1, 0, 0, 5⟩, ⟨62, 1, 8, 0, 3⟩, ⟨60, 2, 8, 0, 3⟩, ⟨27, 2, 0, 0, 0⟩]
def xP : Pr := ⟨[xL], [xg], 1⟩
def x0 : Fm := start xg 0 0 (fun _ => 0) [] []
def x1 : Fm := { x0 with r := updR x0.r 1 5, p := x0.p + 1 }
def x2 : Fm := { x1 with tc := x1.tc ++ [⟨true, IntKind.u64.wrap (x1.r 8 + 3), 1⟩], m := T.stB x1.m (IntKind.u64.wrap (x1.r 8 + 3)).toNat 1 (x1.r 1).toNat, p := x1.p + 1 }
def x3 : Fm := { x2 with tc := x2.tc ++ [⟨false, IntKind.u64.wrap (x2.r 8 + 3), 1⟩], r := updR x2.r 2 (T.ldV x2.m (IntKind.u64.wrap (x2.r 8 + 3)).toNat 1 : Nat), p := x2.p + 1 }
def x4 : Fm := { x3 with e := 1, v := x3.r 2, f := 0 }
def xf : Nat → Fm
  | 0 => x0
  | 1 => x1
  | 2 => x2
  | 3 => x3
  | _ => x4
theorem x01 : Goes xP x0 x1 := goes_of ⟨1, 1, 0, 0, 5⟩ (by decide) (by decide) rfl (.inl ⟨by decide, by decide⟩) (fun B V a l h => h.onBox (s' := x1) ⟨rfl, rfl, rfl, rfl, rfl⟩ (fun q hb => li_op a _ ⟨1, 1, 0, 0, 5⟩ V hb (by decide) (show x0.p ≤ 1000000 by decide)))
theorem x12 : Goes xP x1 x2 := goes_of ⟨62, 1, 8, 0, 3⟩ (by decide) (by decide) rfl (.inr (.inr (.inr (.inl ⟨by decide, by decide⟩)))) (fun B V a l h => storeByte_ok B V a xP x1 l ⟨62, 1, 8, 0, 3⟩ h (by decide) (by decide) (by decide) (by decide) (by decide) (by decide))
theorem x23 : Goes xP x2 x3 := goes_of ⟨60, 2, 8, 0, 3⟩ (by decide) (by decide) rfl (.inr (.inr (.inr (.inl ⟨by decide, by decide⟩)))) (fun B V a l h => loadByte_ok B V a xP x2 l ⟨60, 2, 8, 0, 3⟩ h (by decide) (by decide) (by decide) (by decide) (by decide))
theorem x34 : Goes xP x3 x4 := goes_of ⟨27, 2, 0, 0, 0⟩ (by decide) (by decide) rfl (.inr (.inr (.inl ⟨by decide, by decide⟩))) (fun B V a l h => h.onBox (s' := x4) ⟨rfl, rfl, rfl, rfl, rfl⟩ (fun q hb => halt_op a _ ⟨27, 2, 0, 0, 0⟩ V hb (by decide)))
theorem x4v : x4.v = 5 := by decide
theorem x4t : x4.tc = [⟨true, 3, 1⟩, ⟨false, 3, 1⟩] := by
  have e : IntKind.u64.wrap (x1.r 8 + 3) = 3 ∧ IntKind.u64.wrap (x2.r 8 + 3) = 3 := by decide
  show ([] ++ [(⟨true, IntKind.u64.wrap (x1.r 8 + 3), 1⟩ : Tc)]) ++ [⟨false, IntKind.u64.wrap (x2.r 8 + 3), 1⟩] = _
  rw [e.1, e.2]
  rfl
theorem xOk : xP.Ok := by
  refine ⟨⟨by decide, by decide⟩, rfl, ⟨by decide, by decide⟩, fun r hr => ?_, fun k h h2 => ?_⟩
  · obtain rfl : r = xL := by simpa [xP] using hr
    refine ⟨⟨by decide, by decide⟩, fun i hi => ?_⟩
    simp only [xL, List.mem_cons, List.not_mem_nil, or_false] at hi
    rcases hi with rfl | rfl | rfl | rfl
    · exact ⟨.inl ⟨by decide, by decide⟩, by decide, by decide, .inl (by decide), ⟨by decide, by decide⟩, fun h => by simp at h, fun h => by simp at h⟩
    · exact ⟨.inr (.inr (.inr (.inl ⟨by decide, by decide⟩))), by decide, by decide, .inl (by decide), ⟨by decide, by decide⟩, fun h => by simp at h, fun h => by simp at h⟩
    · exact ⟨.inr (.inr (.inr (.inl ⟨by decide, by decide⟩))), by decide, by decide, .inl (by decide), ⟨by decide, by decide⟩, fun h => by simp at h, fun h => by simp at h⟩
    · exact ⟨.inr (.inr (.inl ⟨by decide, by decide⟩)), by decide, by decide, .inl (by decide), ⟨by decide, by decide⟩, fun h => by simp at h, fun h => by simp at h⟩
  · obtain rfl : k = 0 := by have : k < 1 := h; omega
    exact ⟨show xg.e < xL.length by decide, show xg.a ≤ 7 by decide, show xg.s ≤ 7 by decide⟩
theorem run10 (B : Nat) (W : World) (a : Nat) (l : List Ob) (h : MIn B W a xP x0 l) : Calls Tryz.prog 10 #[.pointer (some ⟨a, 0, none⟩), .int .i64 10] W fun x w' => x = .returned (.agg #[.int .i64 1, .int .u64 5, .int .i64 0, .int .i64 0, .int .i64 3]) ∧ MIn B w' a xP x4 l ∧ Below B W w' := by
  have r := run_end B W a xP l 10 4 xf h (by decide) (fun k hk => by match k, hk with | 0, _ => rfl | 1, _ => rfl | 2, _ => rfl | 3, _ => rfl) (fun k hk => by match k, hk with | 0, _ => exact x01 | 1, _ => exact x12 | 2, _ => exact x23 | 3, _ => exact x34) (.inr (by decide)) (by decide) (by decide)
  simp only [show xf 4 = x4 from rfl, x4v, show x4.e = 1 from rfl, show x4.f = 0 from rfl, show x4.g = 0 from rfl, show x4.p = 3 from rfl, Int.cast_ofNat_Int] at r
  exact r
set_option maxRecDepth 100000 in
set_option maxHeartbeats 4000000 in
theorem one_any (b : Nat) (w : World) : Calls Tryz.prog 16 #[.slice (some ⟨b, 0, none⟩) 4 4] w fun x w' => x = .returned (.agg (List.toArray [Value.slice (some ⟨w.heap.size + 1, 0, none⟩) 1 1, .slice (some ⟨w.heap.size + 1 + 1, 0, none⟩) 1 1, .string ⟨#[]⟩, .int .i64 1])) ∧ Gr w w' ∧ w.heap.size + 1 + 1 < w'.heap.size ∧ w'.cell? ⟨w.heap.size + 1, 0, none⟩ = some (.slice (some ⟨b, 0, none⟩) 4 4) ∧ w'.rangeAt (w.heap.size + 1 + 1) 0 xg.vals := by
  have g3 : Gr w (((w.alloc (.cells (List.toArray [Value.slice (some ⟨w.heap.size + 1, 0, none⟩) 1 1, .slice (some ⟨w.heap.size + 1 + 1, 0, none⟩) 1 1, .string ⟨#[]⟩, .int .i64 1]) 25)).alloc (.cells #[.slice (some ⟨b, 0, none⟩) 4 4] 54)).alloc (.cells (List.toArray [Value.int .i64 0, .int .i64 0, .int .i64 0, .int .u64 0, .int .u64 0, .int .u64 0, .int .u64 0, .int .u64 0, .int .u64 0, .int .u64 0, .int .u64 0, .int .u64 0, .int .u64 0, .int .u64 0, .int .u64 0, .int .u64 0, .int .u64 0, .int .u64 0, .int .u64 0]) 78)) := (((Gr.refl w).alloc _).alloc _).alloc _
  have hA : At (((w.alloc (.cells (List.toArray [Value.slice (some ⟨w.heap.size + 1, 0, none⟩) 1 1, .slice (some ⟨w.heap.size + 1 + 1, 0, none⟩) 1 1, .string ⟨#[]⟩, .int .i64 1]) 25)).alloc (.cells #[.slice (some ⟨b, 0, none⟩) 4 4] 54)).alloc (.cells (List.toArray [Value.int .i64 0, .int .i64 0, .int .i64 0, .int .u64 0, .int .u64 0, .int .u64 0, .int .u64 0, .int .u64 0, .int .u64 0, .int .u64 0, .int .u64 0, .int .u64 0, .int .u64 0, .int .u64 0, .int .u64 0, .int .u64 0, .int .u64 0, .int .u64 0, .int .u64 0]) 78)) w.heap.size (List.toArray [Value.slice (some ⟨w.heap.size + 1, 0, none⟩) 1 1, .slice (some ⟨w.heap.size + 1 + 1, 0, none⟩) 1 1, .string ⟨#[]⟩, .int .i64 1]) := ((At.new w _ _).alloc _).alloc _
  have e1 : (w.alloc (.cells (List.toArray [Value.slice (some ⟨w.heap.size + 1, 0, none⟩) 1 1, .slice (some ⟨w.heap.size + 1 + 1, 0, none⟩) 1 1, .string ⟨#[]⟩, .int .i64 1]) 25)).heap.size = w.heap.size + 1 := by simp
  have e2 : ((w.alloc (.cells (List.toArray [Value.slice (some ⟨w.heap.size + 1, 0, none⟩) 1 1, .slice (some ⟨w.heap.size + 1 + 1, 0, none⟩) 1 1, .string ⟨#[]⟩, .int .i64 1]) 25)).alloc (.cells #[.slice (some ⟨b, 0, none⟩) 4 4] 54)).heap.size = w.heap.size + 1 + 1 := by simp
  have hB := (At.new (w.alloc (.cells (List.toArray [Value.slice (some ⟨w.heap.size + 1, 0, none⟩) 1 1, .slice (some ⟨w.heap.size + 1 + 1, 0, none⟩) 1 1, .string ⟨#[]⟩, .int .i64 1]) 25)) #[.slice (some ⟨b, 0, none⟩) 4 4] 54).alloc (.cells (List.toArray [Value.int .i64 0, .int .i64 0, .int .i64 0, .int .u64 0, .int .u64 0, .int .u64 0, .int .u64 0, .int .u64 0, .int .u64 0, .int .u64 0, .int .u64 0, .int .u64 0, .int .u64 0, .int .u64 0, .int .u64 0, .int .u64 0, .int .u64 0, .int .u64 0, .int .u64 0]) 78)
  have hC := At.new ((w.alloc (.cells (List.toArray [Value.slice (some ⟨w.heap.size + 1, 0, none⟩) 1 1, .slice (some ⟨w.heap.size + 1 + 1, 0, none⟩) 1 1, .string ⟨#[]⟩, .int .i64 1]) 25)).alloc (.cells #[.slice (some ⟨b, 0, none⟩) 4 4] 54)) (List.toArray [Value.int .i64 0, .int .i64 0, .int .i64 0, .int .u64 0, .int .u64 0, .int .u64 0, .int .u64 0, .int .u64 0, .int .u64 0, .int .u64 0, .int .u64 0, .int .u64 0, .int .u64 0, .int .u64 0, .int .u64 0, .int .u64 0, .int .u64 0, .int .u64 0, .int .u64 0]) 78
  rw [e1] at hB
  rw [e2] at hC
  have hB0 := hB.2.1 0
  have hC0 := hC.range
  have hC1 := hC.1
  have hrun := Hz.mk (run_loadVar_mid (P := Tryz.prog) (((w.alloc (.cells (List.toArray [Value.slice (some ⟨w.heap.size + 1, 0, none⟩) 1 1, .slice (some ⟨w.heap.size + 1 + 1, 0, none⟩) 1 1, .string ⟨#[]⟩, .int .i64 1]) 25)).alloc (.cells #[.slice (some ⟨b, 0, none⟩) 4 4] 54)).alloc (.cells (List.toArray [Value.int .i64 0, .int .i64 0, .int .i64 0, .int .u64 0, .int .u64 0, .int .u64 0, .int .u64 0, .int .u64 0, .int .u64 0, .int .u64 0, .int .u64 0, .int .u64 0, .int .u64 0, .int .u64 0, .int .u64 0, .int .u64 0, .int .u64 0, .int .u64 0, .int .u64 0]) 78)) w.heap.size 0 25 [Value.slice (some ⟨w.heap.size + 1, 0, none⟩) 1 1, .slice (some ⟨w.heap.size + 1 + 1, 0, none⟩) 1 1, .string ⟨#[]⟩, .int .i64 1] _ hA.range Tryz.underlying25 rfl (by kernel_rfl))
  replace g3 := Hz.mk g3
  replace hB0 := Hz.mk hB0
  replace hC0 := Hz.mk hC0
  replace hC1 := Hz.mk hC1
  clear hA hB hC e1 e2
  go_enter Tryz.func16, Tryz.ntmps16
  go_wp2_with fail
  refine bodyPost_ret (v := .agg (List.toArray [Value.slice (some ⟨w.heap.size + 1, 0, none⟩) 1 1, .slice (some ⟨w.heap.size + 1 + 1, 0, none⟩) 1 1, .string ⟨#[]⟩, .int .i64 1])) ?_ rfl ⟨rfl, g3.out, hC1.out, hB0.out, hC0.out⟩
  exact results_rowZ Tryz.results16 _ _ rfl hrun.out
theorem own_at {w : World} {lo e k n : Nat} {v : Value} {xs : List Value} (h : w.ownsRow lo e k v n xs) (h0 : 0 < n) : ∃ g cap, v = .slice (some ⟨g, 0, none⟩) n cap ∧ g < w.heap.size ∧ ∀ j u, xs[j]? = some u → w.cell? ⟨g, j, none⟩ = some u := by
  have hlt := h.lt
  rcases h.2 with ⟨_, h9⟩ | ⟨g, cap, cur, rfl, hb, hg, hc1, hc2, hc3, hc4⟩
  · omega
  · refine ⟨g, cap, rfl, (hlt g rfl).2, fun j u q => ?_⟩
    have hj : j < n * k := by have := (List.getElem?_eq_some_iff.1 q).1; rwa [h.1] at this
    rw [← hc4, List.getElem?_take_of_lt hj] at q
    have : w.cell? ⟨g, j, none⟩ = cur[j]? := by simp [World.cell?, hg]
    rw [this, ← q]
    simp
theorem num_any (n : Int) (w : World) : Calls Tryz.prog 18 #[.int .i64 n] w fun x w' => x = .returned (.int .i64 n) ∧ w' = w := by
  go_enter Tryz.func18, Tryz.ntmps18
  go_wp2_with fail
  go_ret
  exact ⟨rfl, rfl⟩
theorem xRw {W : World} {kr kc kg : Nat} (h1 : At W kr (xL.flatMap Fi.vals).toArray) (h2 : W.cell? ⟨kc, 0, none⟩ = some (.slice (some ⟨kr, 0, none⟩) 4 4)) (h3 : kc < W.heap.size) (h4 : W.rangeAt kg 0 xg.vals) (h5 : kg < W.heap.size) : RwIn W (some ⟨kc, 0, none⟩) (some ⟨kg, 0, none⟩) xP := by
  refine ⟨fun k hk => ?_, fun k hk => ?_⟩
  · obtain rfl : k = 0 := by have : k < 1 := hk; omega
    refine ⟨kc, 0, some ⟨kr, 0, none⟩, 4, rfl, h3, h2, fun i hi => ⟨kr, 0, rfl, h1.1, fun j v q => ?_⟩⟩
    have hv : ∀ x : Fi, x.vals.length = 5 := fun _ => rfl
    have hj : j < 5 := by have := (List.getElem?_eq_some_iff.1 q).1; rwa [hv] at this
    rw [h1.2.1, List.getElem?_toArray, Nat.zero_add, flat_at' hv xL i hi j hj]
    exact q
  · obtain rfl : k = 0 := by have : k < 1 := hk; omega
    exact ⟨kg, 0, rfl, h5, h4⟩
set_option maxRecDepth 100000 in
set_option maxHeartbeats 4000000 in
theorem examples_any (w : World) : Calls Tryz.prog 4 #[] w fun x w' => x = .returned (.bool true) ∧ Below w.heap.size w w' := by
  have hA0 := At.new w #[.int .u8 1, .int .i64 1, .int .i64 0, .int .i64 0, .int .u64 5, .int .u8 62, .int .i64 1, .int .i64 8, .int .i64 0, .int .u64 3, .int .u8 60, .int .i64 2, .int .i64 8, .int .i64 0, .int .u64 3, .int .u8 27, .int .i64 2, .int .i64 0, .int .i64 0, .int .u64 0] 53
  have gA : Gr w (w.alloc (.cells #[.int .u8 1, .int .i64 1, .int .i64 0, .int .i64 0, .int .u64 5, .int .u8 62, .int .i64 1, .int .i64 8, .int .i64 0, .int .u64 3, .int .u8 60, .int .i64 2, .int .i64 8, .int .i64 0, .int .u64 3, .int .u8 27, .int .i64 2, .int .i64 0, .int .i64 0, .int .u64 0] 53)) := (Gr.refl w).alloc _
  replace hA0 := Hz.mk hA0
  go_enter Tryz.func4, Tryz.ntmps4
  go_wp2_with fail
  generalize hW1 : w.alloc (.cells #[.int .u8 1, .int .i64 1, .int .i64 0, .int .i64 0, .int .u64 5, .int .u8 62, .int .i64 1, .int .i64 8, .int .i64 0, .int .u64 3, .int .u8 60, .int .i64 2, .int .i64 8, .int .i64 0, .int .u64 3, .int .u8 27, .int .i64 2, .int .i64 0, .int .i64 0, .int .u64 0] 53) = W1 at *
  clear hW1
  refine (one_any w.heap.size W1).mono ?_
  rintro r W2 ⟨rfl, g2, hs2, c2, r2⟩
  have hA2 := Hz.mk (hA0.out.gr g2)
  have hs1 : W1.heap.size + 1 < W2.heap.size := by omega
  have hR2 : Hz (RwIn W2 (some ⟨W1.heap.size + 1, 0, none⟩) (some ⟨W1.heap.size + 1 + 1, 0, none⟩) xP) := Hz.mk (xRw hA2.out c2 hs1 r2 hs2)
  have G2 := gA.trans g2
  clear hA0 gA g2 c2 r2 hA2
  generalize W1.heap.size + 1 + 1 = kg at *
  generalize W1.heap.size + 1 = kc at *
  clear W1 hs1 hs2
  go_upto_region 2 with fail
  refine wp_world (fun X => At X W2.heap.size #[.slice (some ⟨kc, 0, none⟩) 1 1, .slice (some ⟨kg, 0, none⟩) 1 1, .string ⟨#[]⟩, .int .i64 1] ∧ Gr W2 X) ⟨At.new W2 _ _, (Gr.refl _).alloc _⟩ ?_
  rintro W3 ⟨hA3, g3⟩
  replace hR2 := Hz.mk (hR2.out.gr g3)
  replace G2 := G2.trans g3
  have d0 : W3.cell? ⟨W2.heap.size, 0, none⟩ = some (.slice (some ⟨kc, 0, none⟩) 1 1) := hA3.2.1 0
  have d1 : W3.cell? ⟨W2.heap.size, 1, none⟩ = some (.slice (some ⟨kg, 0, none⟩) 1 1) := hA3.2.1 1
  have d2 : W3.cell? ⟨W2.heap.size, 2, none⟩ = some (.string ⟨#[]⟩) := hA3.2.1 2
  have d3 : W3.cell? ⟨W2.heap.size, 3, none⟩ = some (.int .i64 1) := hA3.2.1 3
  have hnw : Hz (Calls Tryz.prog 17 #[.agg #[.slice (some ⟨kc, 0, none⟩) 1 1, .slice (some ⟨kg, 0, none⟩) 1 1, .string ⟨#[]⟩, .int .i64 1], .int .i64 0, .slice none 0 0, .slice none 0 0] W3 fun x w' => ∃ a, x = .returned (.tuple #[.pointer (some ⟨a, 0, none⟩), .int .i64 0]) ∧ MIn W3.heap.size w' a xP x0 [] ∧ Below W3.heap.size W3 w') := Hz.mk (new_ok xP (some ⟨kc, 0, none⟩) (some ⟨kg, 0, none⟩) 1 1 [] 0 none 0 0 (fun _ => 0) none 0 [] W3 hR2.out xOk (by decide) (by decide) rfl (.inl rfl) (by decide) (.inl ⟨rfl, rfl, rfl⟩))
  replace hA3 := Hz.mk hA3
  go_wp2_with fail
  refine hnw.out.mono ?_
  rintro r W4 ⟨a, rfl, hM, hB4⟩
  clear d0 d1 d2 d3 hnw hR2 hA3
  have hB : Hz (Below w.heap.size w W4) := Hz.mk (G2.below.trans (hB4.mono G2.below.size))
  have hlo := hM.le
  have hn3 : w.heap.size ≤ W3.heap.size := G2.below.size
  replace hM := Hz.mk hM
  clear G2 hB4 g3
  go_wp2_with fail
  refine (num_any 0 W4).mono ?_
  rintro r W5 ⟨rfl, e1⟩
  subst e1
  have hrn := Hz.mk (run10 _ W5 a _ hM.out)
  go_wp2_with fail
  refine hrn.out.mono ?_
  rintro r W6 ⟨rfl, h6, hB6⟩
  replace h6 := Hz.mk h6
  clear hM hrn
  replace hB := Hz.mk (hB.out.trans (hB6.mono hn3))
  clear hB6
  go_upto_region 6 with fail
  refine wp_world (fun X => At X W6.heap.size #[.int .i64 1, .int .u64 5, .int .i64 0, .int .i64 0, .int .i64 3] ∧ Gr W6 X) ⟨At.new W6 _ _, (Gr.refl _).alloc _⟩ ?_
  rintro W7 ⟨hA7, g7⟩
  replace h6 := Hz.mk (h6.out.gro g7)
  replace hB := Hz.mk (hB.out.trans (g7.below.mono hB.out.size))
  generalize W6.heap.size = ko at *
  have ht := touches_any _ W7 a xP x4 _ h6.out (by rw [x4t]; decide)
  rw [x4t] at ht
  replace ht := Hz.mk ht
  replace hA7 := Hz.mk hA7
  clear g7
  go_wp2_with fail
  refine ht.out.mono ?_
  rintro r W8 ⟨v, rfl, hO, hB8⟩
  have hA8 := T.at_below hA7.out hB8 hA7.out.1
  obtain ⟨g, cap, e9, hg1, hc9⟩ := own_at hO (by decide)
  subst e9
  replace hB := Hz.mk (hB.out.trans (hB8.mono hB.out.size))
  have c0 : W8.cell? ⟨ko, 0, none⟩ = some (.int .i64 1) := hA8.2.1 0
  have c1 : W8.cell? ⟨ko, 1, none⟩ = some (.int .u64 5) := hA8.2.1 1
  have c2 : W8.cell? ⟨ko, 2, none⟩ = some (.int .i64 0) := hA8.2.1 2
  have c3 : W8.cell? ⟨ko, 3, none⟩ = some (.int .i64 0) := hA8.2.1 3
  have c4 : W8.cell? ⟨ko, 4, none⟩ = some (.int .i64 3) := hA8.2.1 4
  have t0 : W8.cell? ⟨g, 0, none⟩ = some (.bool true) := hc9 0 _ rfl
  have t1 : W8.cell? ⟨g, 1, none⟩ = some (.int .u64 3) := hc9 1 _ rfl
  have t2 : W8.cell? ⟨g, 2, none⟩ = some (.int .u64 1) := hc9 2 _ rfl
  have t3 : W8.cell? ⟨g, 3, none⟩ = some (.bool false) := hc9 3 _ rfl
  have t4 : W8.cell? ⟨g, 4, none⟩ = some (.int .u64 3) := hc9 4 _ rfl
  have t5 : W8.cell? ⟨g, 5, none⟩ = some (.int .u64 1) := hc9 5 _ rfl
  clear hA7 hA8 hO hc9 ht h6 hB8
  go_wp2_with fail
  go_ret
  exact ⟨rfl, hB.out⟩
end Z
end Go.Proofs.YtbichnngepjpnaaGreat
