import Derived.Test.YtoppcikacakjcaaP22
import Derived.Maps.AppendAt
/-
  Stage 8, flow: heads are the document's; code turned round.
-/
namespace Go.Proofs.Ytoppcikacakjcaa
namespace F
open Go.RowKit
open T

/-- Heads, from the last ones. -/
def HdK (L : List Ins) (k q : Nat) : Prop := (∃ p, ∃ h : p < L.length, k ≤ p ∧ q ≤ p ∧ tgtB (wayN L[p].op) = true ∧ (q : Int) = L[p].m) ∨ (k ≤ q ∧ ∃ p, ∃ h : p < L.length, q ≤ p ∧ wayN L[p].op = 3)
theorem hd_iff (L : List Ins) : ∀ j, j ≤ L.length → (∀ q, q < L.length → ((hdF L j).1 q = true ↔ HdK L (L.length - j) q)) ∧ ((hdF L j).2 = true ↔ ∃ p, ∃ h : p < L.length, L.length - j ≤ p ∧ wayN L[p].op = 3)
  | 0, _ => by
    refine ⟨fun q hq => ?_, ?_⟩
    · show false = true ↔ _
      constructor
      · intro h; cases h
      · rintro (⟨p, h, h1, _⟩ | ⟨h1, p, h, h2, _⟩) <;> omega
    · show false = true ↔ _
      constructor
      · intro h; cases h
      · rintro ⟨p, h, h1, _⟩; omega
  | j + 1, hj => by
    obtain ⟨ih1, ih2⟩ := hd_iff L j (by omega)
    obtain ⟨k, hk⟩ : ∃ k, L.length - 1 - j = k := ⟨_, rfl⟩
    have hkl : k < L.length := by omega
    have e1 : L.length - j = k + 1 := by omega
    have e2 : L.length - (j + 1) = k := by omega
    have es : hdF L (j + 1) = (hdB k L[k] (hdF L j).1 (hdF L j).2, hdO L[k] (hdF L j).2) := by
      rw [hdF, hk, List.getElem?_eq_getElem hkl]
    rw [es, e2]
    rw [e1] at ih1 ih2
    have h2 : hdO L[k] (hdF L j).2 = true ↔ ∃ p, ∃ h : p < L.length, k ≤ p ∧ wayN L[p].op = 3 := by
      unfold hdO
      rw [Bool.or_eq_true, decide_eq_true_iff, ih2]
      constructor
      · rintro (⟨p, h, g1, g2⟩ | g)
        · exact ⟨p, h, by omega, g2⟩
        · exact ⟨k, hkl, Nat.le_refl _, g⟩
      · rintro ⟨p, h, g1, g2⟩
        by_cases e : p = k
        · subst e; exact .inr g2
        · exact .inl ⟨p, h, by omega, g2⟩
    refine ⟨fun q hq => ?_, h2⟩
    have hA : hdA k L[k] (hdF L j).1 (hdF L j).2 q = true ↔ (HdK L (k + 1) q ∨ (q = k ∧ ∃ p, ∃ h : p < L.length, k ≤ p ∧ wayN L[p].op = 3)) := by
      unfold hdA
      by_cases ho : hdO L[k] (hdF L j).2 = true
      · rw [if_pos ho]
        simp only [adS, Bool.or_eq_true, decide_eq_true_eq, ih1 q hq]
        constructor
        · rintro (r | r)
          · exact .inl r
          · exact .inr ⟨by omega, h2.1 ho⟩
        · rintro (r | r)
          · exact .inl r
          · exact .inr (by omega)
      · rw [if_neg ho, ih1 q hq]
        constructor
        · exact .inl
        · rintro (r | r)
          · exact r
          · exact absurd (h2.2 r.2) ho
    have hB : hdB k L[k] (hdF L j).1 (hdF L j).2 q = true ↔ ((HdK L (k + 1) q ∨ (q = k ∧ ∃ p, ∃ h : p < L.length, k ≤ p ∧ wayN L[p].op = 3)) ∨ (q ≤ k ∧ tgtB (wayN L[k].op) = true ∧ (q : Int) = L[k].m)) := by
      unfold hdB
      by_cases ht : hdT k L[k] = true
      · rw [if_pos ht]
        simp only [adS, Bool.or_eq_true, decide_eq_true_eq, hA]
        simp only [hdT, Bool.and_eq_true, decide_eq_true_eq] at ht
        constructor
        · rintro (r | r)
          · exact .inl r
          · exact .inr ⟨by omega, ht.1, r⟩
        · rintro (r | r)
          · exact .inl r
          · exact .inr r.2.2
      · rw [if_neg ht, hA]
        constructor
        · exact .inl
        · rintro (r | ⟨r1, r2, r3⟩)
          · exact r
          · exact absurd (by simp only [hdT, Bool.and_eq_true, decide_eq_true_eq]; exact ⟨r2, by omega⟩) ht
    show hdB k L[k] (hdF L j).1 (hdF L j).2 q = true ↔ _
    rw [hB]
    unfold HdK
    constructor
    · rintro (g | ⟨g1, g2, g3⟩)
      · rcases g with g | ⟨g1, p, h, g2, g3⟩
        · rcases g with ⟨p, h, a1, a2, a3, a4⟩ | ⟨a1, p, h, a2, a3⟩
          · exact .inl ⟨p, h, by omega, a2, a3, a4⟩
          · exact .inr ⟨by omega, p, h, a2, a3⟩
        · exact .inr ⟨by omega, p, h, by omega, g3⟩
      · exact .inl ⟨k, hkl, Nat.le_refl _, g1, g2, g3⟩
    · rintro (⟨p, h, g1, g2, g3, g4⟩ | ⟨g1, p, h, g2, g3⟩)
      · by_cases e : p = k
        · subst e
          exact .inr ⟨g2, g3, g4⟩
        · exact .inl (.inl (.inl ⟨p, h, by omega, g2, g3, g4⟩))
      · by_cases e : q = k
        · exact .inl (.inr ⟨e, p, h, by omega, g3⟩)
        · exact .inl (.inl (.inr ⟨by omega, p, h, g2, g3⟩))
theorem hd_eq (L : List Ins) (q : Nat) (hq : q < L.length) : (hdF L L.length).1 q = hK L L.length q := by
  have h := (hd_iff L L.length (Nat.le_refl _)).1 q hq
  rw [Nat.sub_self] at h
  rw [Bool.eq_iff_iff, h]
  unfold HdK hK
  rw [List.any_eq_true]
  constructor
  · rintro (⟨p, hp, g1, g2, g3, g4⟩ | ⟨g1, p, hp, g2, g3⟩)
    · refine ⟨p, List.mem_range.2 hp, ?_⟩
      have : folB L p q = true := by
        simp only [tgtB, Bool.or_eq_true, decide_eq_true_eq] at g3
        rcases g3 with r | r
        · rw [fol_jump hp r]; simp [hq, g4]
        · rw [fol_branch hp r]; simp [hq, g4]
      simp [g2, this]
    · refine ⟨p, List.mem_range.2 hp, ?_⟩
      simp [g2, folB, hp, hq, wyF, g3]
  · rintro ⟨p, hp, g⟩
    have hp := List.mem_range.1 hp
    simp only [Bool.and_eq_true, decide_eq_true_eq] at g
    obtain ⟨g1, g2⟩ := g
    rcases way_cases L[p].op with hy | hy | hy | hy | hy
    · simp [folB, hp, wyF, hy] at g2
    · exact .inr ⟨Nat.zero_le _, p, hp, g1, hy⟩
    · rw [fol_jump hp hy] at g2
      simp at g2
      exact .inl ⟨p, hp, Nat.zero_le _, g1, by rw [hy]; rfl, g2.2⟩
    · rw [fol_branch hp hy] at g2
      simp at g2
      rcases g2.2 with r | r
      · exact .inl ⟨p, hp, Nat.zero_le _, g1, by rw [hy]; rfl, r⟩
      · omega
    · rw [fol_next hp hy] at g2
      simp at g2
      omega
theorem wpList_append_insF {ops : Array Oper} {rest : List Oper} {o : Oper} {a : Act} {Q : Exit → Act → World → Prop} {w : World} (hgd : o.guard = none) (s x : Operand)
    (ho : o.op = .call { callee := .builtin .append, args := #[s, x], argTypes := #[22, 22] })
    (base : Nat) (v : Value) (L : List Ins) (k : Ins) (hs : a.eval s = v) (hL : LOwn w base v L)
    (X : Nat) (hx : a.eval x = .slice (some ⟨X, 0, none⟩) 1 1) (hX : At w X k.vals.toArray) (hlen : L.length ≤ 2000000) (hbase : base ≤ w.heap.size)
    (h : ∀ g cap w', LOwn w' base (.slice (some ⟨g, 0, none⟩) (L.length + 1) cap) (L ++ [k]) → w.grownBy w' v.ownBlock → wpList Try.prog ops Q rest (a.put o.dst (.slice (some ⟨g, 0, none⟩) (L.length + 1) cap)) w') :
    wpList Try.prog ops Q (o :: rest) a w := by
  obtain ⟨i0, hi, hz0, hz1, hz2⟩ := info_parts' (t := 49) (z := .agg #[.int .u8 0, .int .i64 0, .int .i64 0, .int .i64 0, .int .i64 0]) (s := 5) (b := 40) (by kernel_rfl)
  have hn : ∀ j u, k.vals[j]? = some u → w.cell? ((⟨X, 0, none⟩ : Addr).add j) = some u := by
    intro j u hj
    rw [addr_add, hX.2.1]
    simpa using hj
  refine wpList_append_lies _ hgd s x 22 ho base 49 i0 (.agg #[.int .u8 0, .int .i64 0, .int .i64 0, .int .i64 0, .int .i64 0]) 5 40 Try.underlying22 hi hz0 hz1 hz2 rfl (by decide) v L.length (flat L) hs hL ⟨X, 0, none⟩ 1 1 k.vals hx rfl hn (fun u hu => by simp only [Ins.vals, List.mem_cons, List.not_mem_nil, or_false] at hu; rcases hu with rfl | rfl | rfl | rfl | rfl <;> rfl) (by decide) (by unfold maxLen; omega) (by omega) hbase _ rfl ?_
  intro g cap w' h1 h2 h3 h4
  refine h g cap w' ?_ h2
  unfold LOwn
  rw [List.length_append, flat_snoc]
  exact h1
set_option maxRecDepth 100000 in
set_option maxHeartbeats 2000000 in
theorem backwards_any (L : List Ins) (ca : Option Addr) (cc : Nat) (w : World) (hL : LIn w.heap.size w ca L) (hn : L.length ≤ 1900000) :
    Calls Try.prog 15 #[.slice ca L.length cc] w fun e w' => ∃ v, e = .returned v ∧ LOwn w' w.heap.size v L.reverse ∧ Below w.heap.size w w' := by
  replace hL := Hid.mk hL
  go_enter Try.func15, Try.ntmps15
  go_wp2_with fail
  go_loopw [3, 4] (fun v x wr => ∃ k : Nat, x = .int .i64 ((k : Int) - 1) ∧ k ≤ L.length ∧ Hid (LOwn wr w.heap.size v (L.drop k).reverse ∧ Below w.heap.size w wr)) (fun _ x _ => (intOf x + 1).toNat)
  case atStart => exact ⟨L.length, by simp, Nat.le_refl _, Hid.mk ⟨by rw [List.drop_length]; exact LOwn.nil w w.heap.size, Below.refl _ _⟩⟩
  case round =>
    obtain ⟨k, rfl, hk, ⟨h1, h2⟩⟩ := hrel
    cases k with
    | zero =>
      rw [List.drop_zero] at h1
      replace h1 := Hid.mk h1
      replace h2 := Hid.mk h2
      go_wp2_with fail
      go_ret
      exact ⟨_, rfl, h1.out, h2.out⟩
    | succ k =>
      have ek : ((k + 1 : Nat) : Int) - 1 = k := by omega
      rw [ek]
      have hkl : k < L.length := by omega
      obtain ⟨b, off, rfl, hb0, hb, five⟩ := hL.out k hkl
      obtain ⟨c0, c1, c2, c3, c4⟩ := five.below h2 hb0
      have hsz := h2.size
      have hbl := Nat.lt_of_lt_of_le hb hsz
      have hi1 : (k : Int) < L.length := by omega
      have hi2 : ¬ (L.length : Int) ≤ k := by omega
      have hi3 : (0 : Int) ≤ k := by omega
      have hrev : (L.drop k).reverse = (L.drop (k + 1)).reverse ++ [L[k]] := by rw [List.drop_eq_getElem_cons hkl, List.reverse_cons]
      have hll : (L.drop (k + 1)).reverse.length ≤ 2000000 := by simp; omega
      have hw1 : (intOf (Value.int .i64 ((k : Int) - 1)) + 1).toNat < (intOf (Value.int .i64 (k : Int)) + 1).toNat := by simp only [intOf]; omega
      obtain ⟨va, vc, rfl, _⟩ := h1.form
      generalize (L.drop (k + 1)).reverse = M at *
      have hrow : LOwn (wr.alloc (.cells #[.int .u8 L[k].op, .int .i64 L[k].a, .int .i64 L[k].b, .int .i64 L[k].c, .int .i64 L[k].m] 49)) w.heap.size (.slice va M.length vc) M := own_below h1 (by (repeat (first | assumption | with_reducible exact Below.refl _ _ | with_reducible refine Below.alloc ?_ (by simp <;> omega) _ | with_reducible refine Below.setCell ?_ (by simp <;> omega) _ | with_reducible refine Below.drew ?_)))
      have hlk := fun q r => (World.ownsRow.lt h1 q r).1
      replace h1 := Hid.mk h1
      replace h2 := Hid.mk h2
      replace hrow := Hid.mk hrow
      replace hrev := Hid.mk hrev
      replace hlk := Hid.mk hlk
      replace hw1 := Hid.mk hw1
      replace five := Hid.mk five
      clear ek
      go_wp2_with (at_builtin; refine wpList_append_insF rfl (.tmp 12) (.tmp 17) rfl w.heap.size (.slice va M.length vc) M L[k] rfl hrow.out wr.heap.size rfl (At.new wr _ _) hll (by simp; omega) ?_)
      intro g cap w2 g1 g2
      have hnw : Hid (LOwn w2 w.heap.size (.slice (some ⟨g, 0, none⟩) (M.length + 1) cap) (L.drop k).reverse ∧ Below w.heap.size w w2) := Hid.mk ⟨by rw [hrev.out]; exact g1, (h2.out.trans ((Below.refl _ _).alloc hsz _)).trans (Below.of_grown g2 (by simp; omega) (fun q r => hlk.out q r))⟩
      replace g1 := Hid.mk g1
      replace g2 := Hid.mk g2
      go_wp2_with fail
      go_roundw
      all_goals first | exact ⟨k, rfl, by omega, hnw⟩ | exact hw1.out
end F
end Go.Proofs.Ytoppcikacakjcaa


/-
  Stage 8, flow: lists of truths that are their owner's.
-/
namespace Go.Proofs.Ytoppcikacakjcaa
namespace F
open Go.RowKit
open T

def XO (base : Nat) (w : World) (v : Value) (m : Nat) (b : Bool) : Prop := w.ownsRow base 4 1 v m (List.replicate m (.bool b))
theorem run_append_b (w : World) (ty : TypeId) (base g n : Nat) (b : Bool) (X : Nat) (h : At w g (boolA n fun _ => b)) (hX : At w X #[.bool b]) (hn : n ≤ 2000000) (hb : base ≤ w.heap.size) :
    ∃ c w', (Builtin.append_ #[43, 43] ty #[.slice (some ⟨g, 0, none⟩) n n, .slice (some ⟨X, 0, none⟩) 1 1]).run Try.prog w = .ok (.slice (some ⟨w.heap.size, 0, none⟩) (n + 1) c) w' ∧ XO base w' (.slice (some ⟨w.heap.size, 0, none⟩) (n + 1) c) (n + 1) b ∧ Below w.heap.size w w' := by
  obtain ⟨i0, hi, hz0, hz1, hz2⟩ := info_parts' (t := 4) (z := .bool false) (s := 1) (b := 1) (by kernel_rfl)
  have holds : ∀ j u, (List.replicate n (Value.bool b))[j]? = some u → w.cell? ((⟨g, 0, none⟩ : Addr).add j) = some u := fun j u hj => by
    have hjn : j < n := by have := (List.getElem?_eq_some_iff.1 hj).1; simpa using this
    rw [addr_add, Nat.zero_add, boolA_at h j hjn, ← hj]
    simp [hjn]
  have hnews : ∀ j u, [Value.bool b][j]? = some u → w.cell? ((⟨X, 0, none⟩ : Addr).add j) = some u := fun j u hj => by
    rw [addr_add, hX.2.1]
    simpa using hj
  have hr := run_append_grow (P := Try.prog) w 43 ty 4 i0 (.bool false) Try.underlying43 hi hz0 ⟨g, 0, none⟩ n n (List.replicate n (.bool b)) (by rw [hz1]; simp) holds ⟨X, 0, none⟩ 1 1 [.bool b] (by rw [hz1]; rfl) hnews (by omega) (by omega) (by rw [hz2]; exact growslice_fits (by omega) (by omega))
  refine ⟨_, _, hr, ⟨by simp, .inr ⟨w.heap.size, _, _, rfl, hb, heap_alloc_new w.drew _, grownCap_ge w (n + 1) n 4, grownCap_le_maxLen w (n + 1) n 4 (by unfold maxLen; omega), ?_, ?_⟩⟩, ((Below.refl _ w).drew).alloc (Nat.le_refl _) _⟩
  · have hge := grownCap_ge w (n + 1) n 4
    simp only [Array.size_append, List.size_toArray, size_zeroCells, List.length_replicate, List.length_singleton]
    show n + 1 + (grownCap w (n + 1) n 4 - (n + 1)) * 1 = _
    omega
  · simp only [Array.toList_append, List.append_assoc]
    rw [← List.append_assoc]
    have e : List.replicate n (Value.bool b) ++ [Value.bool b] = List.replicate (n + 1) (Value.bool b) := by rw [List.replicate_succ']
    rw [e]
    have e2 : (n + 1) * 1 = (List.replicate (n + 1) (Value.bool b)).length := by simp
    rw [e2]
    exact List.take_left
/-- One more truth behind them. -/
theorem wpList_append_b {ops : Array Oper} {rest : List Oper} {o : Oper} {a : Act} {Q : Exit → Act → World → Prop} {w : World} (hgd : o.guard = none) (s x : Operand)
    (ho : o.op = .call { callee := .builtin .append, args := #[s, x], argTypes := #[43, 43] })
    (base : Nat) (v : Value) (g n j : Nat) (b : Bool) (hs : a.eval s = v) (hv : (j = 0 ∧ v = .slice (some ⟨g, 0, none⟩) n n) ∨ XO base w v (n + j) b) (h0 : At w g (boolA n fun _ => b))
    (X : Nat) (hx : a.eval x = .slice (some ⟨X, 0, none⟩) 1 1) (hX : At w X #[.bool b]) (hn : n + j ≤ 2000000) (hbase : base ≤ w.heap.size)
    (h : ∀ g' c w', XO base w' (.slice (some ⟨g', 0, none⟩) (n + (j + 1)) c) (n + (j + 1)) b → Below base w w' → wpList Try.prog ops Q rest (a.put o.dst (.slice (some ⟨g', 0, none⟩) (n + (j + 1)) c)) w') :
    wpList Try.prog ops Q (o :: rest) a w := by
  rcases hv with ⟨rfl, rfl⟩ | hv
  · refine wpList_plain hgd fun K hK => ?_
    obtain ⟨c, w', hr, h1, h2⟩ := run_append_b w o.type base g n b X h0 hX (by omega) hbase
    unfold Oper.wp execOp
    simp only [ho, resolve, invoke, builtin, Sem.run_bind, Sem.run_pure, Result.andThen_ok, List.map_toArray, List.map_cons, List.map_nil, hs, hx, hr]
    exact hK _ _ (h _ c w' h1 (h2.mono hbase))
  · obtain ⟨i0, hi, hz0, hz1, hz2⟩ := info_parts' (t := 4) (z := .bool false) (s := 1) (b := 1) (by kernel_rfl)
    have hnews : ∀ j u, [Value.bool b][j]? = some u → w.cell? ((⟨X, 0, none⟩ : Addr).add j) = some u := fun j u hj => by
      rw [addr_add, hX.2.1]
      simpa using hj
    refine wpList_append_lies _ hgd s x 43 ho base 4 i0 (.bool false) 1 1 Try.underlying43 hi hz0 hz1 hz2 rfl (by decide) v (n + j) (List.replicate (n + j) (.bool b)) hs hv ⟨X, 0, none⟩ 1 1 [.bool b] hx rfl hnews (fun u hu => by rw [List.mem_singleton] at hu; rw [hu]; rfl) (by decide) (by unfold maxLen; omega) (by omega) hbase _ rfl ?_
    intro g' c w' h1 h2 h3 h4
    refine h g' c w' ?_ (Below.of_grown h2 hbase (fun k r => (World.ownsRow.lt hv k r).1))
    have e : List.replicate (n + j) (Value.bool b) ++ [Value.bool b] = List.replicate (n + j + 1) (Value.bool b) := by rw [List.replicate_succ']
    rw [e] at h1
    exact h1
theorem XO.cell {base : Nat} {w : World} {g m c : Nat} {b : Bool} (h : XO base w (.slice (some ⟨g, 0, none⟩) m c) m b) (k : Nat) (hk : k < m) : w.cell? ⟨g, k, none⟩ = some (.bool b) := by
  have hc := World.ownsRow.cells h (g := g) rfl k (.bool b) (by simp [hk])
  rwa [addr_add, Nat.zero_add] at hc
end F
end Go.Proofs.Ytoppcikacakjcaa
