import Derived.Test.YtdmkedpnkejpbaaDoorP07
import Derived.Test.YtdmkedpnkejpbaaDoorP05
import Derived.OneCell
import Derived.Lib.AppendStr
import Derived.RegionTactic
import Derived.BigRegion
import Derived.Deep.RegionHeld3
import Derived.StillTactics
/-
  Stage 4, image: the writer's text and put.
-/
namespace Go.Proofs.YtdmkedpnkejpbaaDoor
open Go.RowKit

/-- The writer at block 'kw' has written these bytes; all that it has lies from block 'base' on. -/
def WBox (w : World) (base kw : Nat) (B : List UInt8) : Prop := base ≤ kw ∧ ∃ v, w.heap[kw]? = some (.cells #[v] 70 (0, 0)) ∧ BOwn w base v B
theorem one_at {w : World} {k : Nat} {cs : Array Value} {t : TypeId} (h : w.heap[k]? = some (.cells cs t (0, 0))) : At w k cs := by
  refine ⟨(Array.getElem?_eq_some_iff.1 h).1, fun o => ?_, fun o => ?_⟩
  · simp only [World.cell?]; rw [h]; simp
  · simp only [World.frozen?]; rw [h]; simp
theorem own_ne {w : World} {base e size n k : Nat} {v : Value} {xs : List Value} {cs : Array Value} {t : TypeId} (h : w.ownsRow base e size v n xs) (hb : w.heap[k]? = some (.cells cs t (0, 0))) (ht : t ≠ e) : v.ownBlock ≠ some k := by
  intro he
  rcases h.2 with ⟨rfl, _⟩ | ⟨g, cap, cur, rfl, hbg, hg, _⟩
  · cases he
  · obtain rfl : g = k := by simpa [Value.ownBlock] using he
    rw [hb] at hg
    simp at hg
    exact ht hg.2
theorem WBox.lt {w : World} {base kw : Nat} {B : List UInt8} (h : WBox w base kw B) : base ≤ w.heap.size := by
  obtain ⟨h1, v, h2, _⟩ := h
  have := (Array.getElem?_eq_some_iff.1 h2).1
  omega
theorem WBox.below {w w1 : World} {base kw : Nat} {B : List UInt8} (h : WBox w base kw B) (hb : Below w.heap.size w w1) : WBox w1 base kw B := by
  obtain ⟨h1, v, h2, h3⟩ := h
  have hlt := (Array.getElem?_eq_some_iff.1 h2).1
  exact ⟨h1, v, (hb.block kw hlt).trans h2, own_below h3 hb⟩
theorem own_form {w : World} {base : Nat} {v : Value} {B : List UInt8} (h : BOwn w base v B) : ∃ a c, v = .slice a B.length c := by
  rcases h.2 with ⟨rfl, h0⟩ | ⟨g, cap, cur, rfl, _⟩
  · exact ⟨none, 0, by rw [h0]⟩
  · exact ⟨_, cap, rfl⟩
theorem strCells_str (s : List UInt8) : Lib.strCells (str s) = s.map byteV := by
  unfold Lib.strCells byteV str
  simp
/-- A text appended to bytes that the call owns. -/
theorem wpList_append_text {ops : Array Oper} {rest : List Oper} {o : Oper} {a : Act} {Q : Exit → Act → World → Prop} {w : World} (hgd : o.guard = none) (s x : Operand)
    (ho : o.op = .call { callee := .builtin .append, args := #[s, x], argTypes := #[68, 9] })
    (base : Nat) (v : Value) (B news : List UInt8) (hs : a.eval s = v) (hB : BOwn w base v B) (hx : a.eval x = .string (str news)) (hlen : B.length + news.length ≤ 140737488355328) (hbase : base ≤ w.heap.size)
    (h : ∀ v' w', BOwn w' base v' (B ++ news) → w.grownBy w' v.ownBlock → wpList Tryd.prog ops Q rest (a.put o.dst v') w') :
    wpList Tryd.prog ops Q (o :: rest) a w := by
  obtain ⟨i0, hi, hz0, hz1, hz2⟩ := info_parts infoByte
  have hsz := str_size news
  refine Lib.wpList_append_own_string _ hgd s x 68 9 ho base 5 i0 Tryd.underlying68 Tryd.underlying9 hi hz0 hz1 hz2
    v B.length (B.map byteV) hs hB (str news) hx (by rw [hsz]; unfold maxLen; omega) (by rw [hsz]; omega) hbase ?_
  intro v' w' h1 h2 _
  refine h v' w' ?_ h2
  unfold BOwn
  rw [List.length_append, List.map_append, ← strCells_str, ← hsz]
  exact h1
/-- The box is written anew behind an append. -/
theorem WBox.stored {w w1 : World} {base kw : Nat} {v v' : Value} {B B' : List UInt8} (hk : base ≤ kw) (h2 : w.heap[kw]? = some (.cells #[v] 70 (0, 0))) (h3 : BOwn w base v B) (hg : w.grownBy w1 v.ownBlock) (h4 : BOwn w1 base v' B') :
    At w1 kw #[v] ∧ WBox (w1.setCell ⟨kw, 0, none⟩ v') base kw B' ∧ Below base w (w1.setCell ⟨kw, 0, none⟩ v') := by
  have hne : (70 : Nat) ≠ 5 := by decide
  have hlt := (Array.getElem?_eq_some_iff.1 h2).1
  have hb1 : w1.heap[kw]? = some (.cells #[v] 70 (0, 0)) := (hg.block kw hlt (fun e => own_ne h3 h2 hne e.symm)).trans h2
  refine ⟨one_at hb1, ⟨hk, v', one_setCell hb1, ?_⟩, ?_⟩
  · exact ownsRow_setCell_other h4 (own_ne h4 hb1 hne) v'
  · exact (Below.of_grown hg (by omega) (fun g hq => (own_block h3 g hq).1)).setCell (p := ⟨kw, 0, none⟩) hk v'
end Go.Proofs.YtdmkedpnkejpbaaDoor


/-
  Stage 4, image: the small calls: capabilities, types, places.
-/
namespace Go.Proofs.YtdmkedpnkejpbaaDoor
open Go.RowKit

set_option maxHeartbeats 400000 in
theorem hasAll_any (h p : Int) (w : World) :
    Calls Tryd.prog 97 #[.int .u8 h, .int .u8 p] w fun x w' => x = .returned (.bool (hasB h p)) ∧ w = w' := by
  go_enter Tryd.func97, Tryd.ntmps97
  go_wp2
  go_ret
  exact ⟨rfl, rfl⟩
set_option maxHeartbeats 400000 in
theorem capRight_any (b e c p s : Int) (w : World) :
    Calls Tryd.prog 93 #[.agg #[.int .u64 b, .int .u64 e, .int .u64 c, .int .u8 p, .int .i64 s]] w fun x w' => x = .returned (.bool (rightB b e p s)) ∧ w.alloc (.cells #[.int .u64 b, .int .u64 e, .int .u64 c, .int .u8 p, .int .i64 s] 39) = w' := by
  go_enter Tryd.func93, Tryd.ntmps93
  go_wp2_with (go_at_call 97; refine (hasAll_any _ _ _).mono ?_; rintro x w' ⟨rfl, rfl⟩)
  all_goals
    go_ret
    refine ⟨ret_bool ?_, rfl⟩
    first | (refine right_last ?_ ?_ ?_ ?_ <;> assumption) | (refine right_false ?_; rintro ⟨h1, h2, h3, h4, h5⟩; first | omega | contradiction)
set_option maxHeartbeats 400000 in
theorem dataCap_any (b e c p s : Int) (w : World) :
    Calls Tryd.prog 81 #[.agg #[.int .u64 b, .int .u64 e, .int .u64 c, .int .u8 p, .int .i64 s]] w fun x w' => x = .returned (.bool (dataB b e p s)) ∧ Gr w w' := by
  unfold dataB
  generalize hr : rightB b e p s = r
  have hc := capRight_any b e c p s
  rw [hr] at hc
  clear hr
  cases r
  all_goals
    go_enter Tryd.func81, Tryd.ntmps81
    go_wp2_with (go_at_call 93; refine (hc _).mono ?_; rintro x w' ⟨rfl, rfl⟩)
    go_ret
    refine ⟨ret_bool (by simp), ?_⟩
    repeat (first | exact Gr.refl _ | refine Gr.alloc ?_ _)
set_option maxHeartbeats 400000 in
theorem CapOf_any (t : PTyp) (c : Int) (w : World) :
    Calls Tryd.prog 92 #[.agg #[.bool t.cap, .int .u64 t.b, .int .u64 t.e, .int .u64 t.lo, .int .u64 t.hi, .int .u8 t.p, .int .i64 t.s], .int .u64 c] w fun x w' => x = .returned (.agg #[.int .u64 t.b, .int .u64 t.e, .int .u64 c, .int .u8 t.p, .int .i64 t.s]) ∧ Gr w w' := by
  go_enter Tryd.func92, Tryd.ntmps92
  go_wp2
  all_goals
    simp [bodyPost, results, Tryd.results92, go_sem]
    repeat (first | exact Gr.refl _ | refine Gr.alloc ?_ _)
set_option maxHeartbeats 400000 in
theorem pointsWithin_any (t : PTyp) (c : Int) (w : World) :
    Calls Tryd.prog 80 #[.agg #[.bool t.cap, .int .u64 t.b, .int .u64 t.e, .int .u64 t.lo, .int .u64 t.hi, .int .u8 t.p, .int .i64 t.s], .int .u64 c] w fun x w' => x = .returned (.bool (inLH t.lo t.hi c)) ∧ Gr w w' := by
  go_enter Tryd.func80, Tryd.ntmps80
  go_wp2
  all_goals
    go_ret
    refine ⟨ret_bool (by unfold inLH; simp_all <;> omega), ?_⟩
    repeat (first | exact Gr.refl _ | refine Gr.alloc ?_ _)
set_option maxHeartbeats 400000 in
theorem typeRight_any (t : PTyp) (w : World) :
    Calls Tryd.prog 79 #[.agg #[.bool t.cap, .int .u64 t.b, .int .u64 t.e, .int .u64 t.lo, .int .u64 t.hi, .int .u8 t.p, .int .i64 t.s]] w fun x w' => x = .returned (.bool t.right) ∧ Gr w w' := by
  have hc := CapOf_any t 0
  cases ht : t.cap with
  | false =>
    go_enter Tryd.func79, Tryd.ntmps79
    go_wp2
    all_goals
      go_ret
      refine ⟨ret_bool (by simp_all [PTyp.right]), ?_⟩
      (with_reducible repeat (first | exact Gr.refl _ | refine Gr.alloc ?_ _ | refine Gr.grow ?_ _ | refine Gr.drew ?_ | refine Gr.setCell ?_ _ _ _ (gr_size ?_)))
  | true =>
    rw [ht] at hc
    have hd := dataCap_any t.b t.e 0 t.p t.s
    have e : t.right = (dataB t.b t.e t.p t.s && decide (t.lo ≤ t.hi)) := by simp [PTyp.right, ht]
    rw [e]
    clear e ht
    generalize dataB t.b t.e t.p t.s = q at hd ⊢
    have L1 := grow_cell; have L2 := grow_frozen; have L3 := grow_set; have L4 := grow_lt; have L5 := glt1; have L6 := glt2; have L7 := glt3; have L8 := glt4; have L9 := glt5; have L10 := glt6; have L11 := lt1; have L12 := lt2; have L13 := lt3; have L14 := lt4; have L15 := lt5; have L16 := lt6; have L17 := lt7; have L18 := lt8
    cases q
    all_goals
      go_enter Tryd.func79, Tryd.ntmps79
      go_wp2_with (first | (go_at_call 92; refine (hc _).mono ?_; rintro x w' ⟨rfl, hG⟩; (repeat (replace hG := Gr.of_grow hG)); obtain ⟨l, rfl⟩ := hG) | (go_at_call 81; refine (hd _).mono ?_; rintro x w' ⟨rfl, hG⟩; (repeat (replace hG := Gr.of_grow hG)); obtain ⟨l, rfl⟩ := hG))
      go_ret
      refine ⟨ret_bool (by simp), ?_⟩
      (with_reducible repeat (first | exact Gr.refl _ | refine Gr.alloc ?_ _ | refine Gr.grow ?_ _ | refine Gr.drew ?_ | refine Gr.setCell ?_ _ _ _ (gr_size ?_)))
set_option maxHeartbeats 400000 in
theorem targetThere_any (k : Ins) (code gates : Int) (w : World) (h0 : 0 ≤ k.op) (h1 : k.op < 256) :
    Calls Tryd.prog 83 #[.agg #[.int .u8 k.op, .int .i64 k.a, .int .i64 k.b, .int .i64 k.c, .int .i64 k.m], .int .i64 code, .int .i64 gates] w fun x w' => x = .returned (.bool (tgtB k.op k.m code gates)) ∧ Gr w w' := by
  go_enter Tryd.func83, Tryd.ntmps83
  go_wp2
  all_goals
    go_ret
    refine ⟨ret_bool (by unfold tgtB; simp_all <;> omega), ?_⟩
    (with_reducible repeat (first | exact Gr.refl _ | refine Gr.alloc ?_ _ | refine Gr.grow ?_ _ | refine Gr.drew ?_ | refine Gr.setCell ?_ _ _ _ (gr_size ?_)))
set_option maxHeartbeats 1000000 in
theorem placeRight_any (b n f : Int) (d : ByteArray) (a : Option Addr) (k c : Nat) (w : World) (hb : W64 b) (hn : W64 n) :
    Calls Tryd.prog 61 #[.agg #[.int .u64 b, .int .u64 n, .string d, .slice a k c], .int .u64 f] w fun x w' => x = .returned (.bool (placeB b n f)) ∧ Gr w w' := by
  obtain ⟨b0, b1⟩ := hb
  obtain ⟨n0, n1⟩ := hn
  have m1 : b.tmod 16 = b % 16 := Int.tmod_eq_emod_of_nonneg b0
  have m2 : n.tmod 16 = n % 16 := Int.tmod_eq_emod_of_nonneg n0
  by_cases h6 : b < 65536
  · have m3 : IntKind.u64.wrap (65536 - b) = 65536 - b := by rw [IntKind.wrap_u64]; omega
    go_enter Tryd.func61, Tryd.ntmps61
    go_wp2
    all_goals
      go_ret
      refine ⟨ret_bool (by unfold placeB; simp_all <;> first | rfl | omega), ?_⟩
      (with_reducible repeat (first | exact Gr.refl _ | refine Gr.alloc ?_ _ | refine Gr.grow ?_ _ | refine Gr.drew ?_ | refine Gr.setCell ?_ _ _ _ (gr_size ?_)))
  · go_enter Tryd.func61, Tryd.ntmps61
    go_wp2
    all_goals
      go_ret
      refine ⟨ret_bool (by unfold placeB; simp_all <;> first | rfl | omega), ?_⟩
      (with_reducible repeat (first | exact Gr.refl _ | refine Gr.alloc ?_ _ | refine Gr.grow ?_ _ | refine Gr.drew ?_ | refine Gr.setCell ?_ _ _ _ (gr_size ?_)))
set_option maxHeartbeats 1000000 in
theorem slotRight_any (k : PSlot) (w : World) :
    Calls Tryd.prog 63 #[.agg #[.bool k.t.cap, .int .u64 k.t.b, .int .u64 k.t.e, .int .u64 k.t.lo, .int .u64 k.t.hi, .int .u8 k.t.p, .int .i64 k.t.s, .int .u64 k.c]] w fun x w' => x = .returned (.bool k.right) ∧ Gr w w' := by
  have ht := typeRight_any k.t
  have hp := pointsWithin_any k.t k.c
  unfold PSlot.right
  generalize k.t.right = q1 at ht ⊢
  generalize inLH k.t.lo k.t.hi k.c = q2 at hp ⊢
  generalize k.t.cap = q0 at ht hp ⊢
  have L1 := grow_cell; have L2 := grow_frozen; have L3 := grow_set; have L4 := grow_lt; have L5 := glt1; have L6 := glt2; have L7 := glt3; have L8 := glt4; have L9 := glt5; have L10 := glt6; have L11 := lt1; have L12 := lt2; have L13 := lt3; have L14 := lt4; have L15 := lt5; have L16 := lt6; have L17 := lt7; have L18 := lt8
  cases q0
  · go_enter Tryd.func63, Tryd.ntmps63
    go_wp2
    go_ret
    refine ⟨ret_bool (by simp), ?_⟩
    (with_reducible repeat (first | exact Gr.refl _ | refine Gr.alloc ?_ _ | refine Gr.grow ?_ _ | refine Gr.drew ?_ | refine Gr.setCell ?_ _ _ _ (gr_size ?_)))
  · cases q1
    all_goals
      go_enter Tryd.func63, Tryd.ntmps63
      go_wp2_with (first | (go_at_call 79; refine (ht _).mono ?_; rintro x w' ⟨rfl, hG⟩; (repeat (replace hG := Gr.of_grow hG)); obtain ⟨l, rfl⟩ := hG) | (go_at_call 80; refine (hp _).mono ?_; rintro x w' ⟨rfl, hG⟩; (repeat (replace hG := Gr.of_grow hG)); obtain ⟨l, rfl⟩ := hG))
      go_ret
      refine ⟨ret_bool (by simp), ?_⟩
      (with_reducible repeat (first | exact Gr.refl _ | refine Gr.alloc ?_ _ | refine Gr.grow ?_ _ | refine Gr.drew ?_ | refine Gr.setCell ?_ _ _ _ (gr_size ?_)))
end Go.Proofs.YtdmkedpnkejpbaaDoor
