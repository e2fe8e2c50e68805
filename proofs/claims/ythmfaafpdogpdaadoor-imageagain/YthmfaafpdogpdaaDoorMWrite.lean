/-
  Stage 4, image: the writer's text and put.
-/
import Derived.Test.YthmfaafpdogpdaaDoorMRep
import Derived.Test.YthmfaafpdogpdaaDoorIApp
import Derived.OneCell
import Derived.Lib.AppendStr
namespace Go.Proofs.YthmfaafpdogpdaaDoor
open Go.RowKit

/-- The writer at block 'kw' has written these bytes; all that it has lies from block 'base' on. -/
def WBox (w : World) (base kw : Nat) (B : List UInt8) : Prop := base ≤ kw ∧ ∃ v, w.heap[kw]? = some (.cells #[v] 84 (0, 0)) ∧ BOwn w base v B
theorem one_at {w : World} {k : Nat} {cs : Array Value} {t : TypeId} (h : w.heap[k]? = some (.cells cs t (0, 0))) : At w k cs := by
  refine ⟨(Array.getElem?_eq_some_iff.1 h).1, fun o => ?_, fun o => ?_⟩
  · simp only [World.cell?]; rw [h]; simp
  · simp only [World.frozen?]; rw [h]; simp
theorem own_ne {w : World} {base e size n k : Nat} {v : Value} {xs : List Value} {cs : Array Value} {t : TypeId} (h : w.ownsRow base e size v n xs) (hb : w.heap[k]? = some (.cells cs t (0, 0))) (ht : t ≠ e) : v.ownBlock ≠ some k := by
  intro he
  rcases h.2 with ⟨rfl, _⟩ | ⟨g, cap, cur, rfl, hbg, hg, _⟩
  · cases he
  · obtain rfl : g = k := by simpa [Value.ownBlock] using he
    rw [hb] at hg
    simp at hg
    exact ht hg.2
theorem WBox.lt {w : World} {base kw : Nat} {B : List UInt8} (h : WBox w base kw B) : base ≤ w.heap.size := by
  obtain ⟨h1, v, h2, _⟩ := h
  have := (Array.getElem?_eq_some_iff.1 h2).1
  omega
theorem WBox.below {w w1 : World} {base kw : Nat} {B : List UInt8} (h : WBox w base kw B) (hb : Below w.heap.size w w1) : WBox w1 base kw B := by
  obtain ⟨h1, v, h2, h3⟩ := h
  have hlt := (Array.getElem?_eq_some_iff.1 h2).1
  exact ⟨h1, v, (hb.block kw hlt).trans h2, own_below h3 hb⟩
theorem own_form {w : World} {base : Nat} {v : Value} {B : List UInt8} (h : BOwn w base v B) : ∃ a c, v = .slice a B.length c := by
  rcases h.2 with ⟨rfl, h0⟩ | ⟨g, cap, cur, rfl, _⟩
  · exact ⟨none, 0, by rw [h0]⟩
  · exact ⟨_, cap, rfl⟩
theorem strCells_str (s : List UInt8) : Lib.strCells (str s) = s.map byteV := by
  unfold Lib.strCells byteV str
  simp
/-- A text appended to bytes that the call owns. -/
theorem wpList_append_text {ops : Array Oper} {rest : List Oper} {o : Oper} {a : Act} {Q : Exit → Act → World → Prop} {w : World} (hgd : o.guard = none) (s x : Operand)
    (ho : o.op = .call { callee := .builtin .append, args := #[s, x], argTypes := #[71, 9] })
    (base : Nat) (v : Value) (B news : List UInt8) (hs : a.eval s = v) (hB : BOwn w base v B) (hx : a.eval x = .string (str news)) (hlen : B.length + news.length ≤ 140737488355328) (hbase : base ≤ w.heap.size)
    (h : ∀ v' w', BOwn w' base v' (B ++ news) → w.grownBy w' v.ownBlock → wpList Tryd.prog ops Q rest (a.put o.dst v') w') :
    wpList Tryd.prog ops Q (o :: rest) a w := by
  obtain ⟨i0, hi, hz0, hz1, hz2⟩ := info_parts infoByte
  have hsz := str_size news
  refine Lib.wpList_append_own_string _ hgd s x 71 9 ho base 5 i0 Tryd.underlying71 Tryd.underlying9 hi hz0 hz1 hz2
    v B.length (B.map byteV) hs hB (str news) hx (by rw [hsz]; unfold maxLen; omega) (by rw [hsz]; omega) hbase ?_
  intro v' w' h1 h2 _
  refine h v' w' ?_ h2
  unfold BOwn
  rw [List.length_append, List.map_append, ← strCells_str, ← hsz]
  exact h1
/-- The box is written anew behind an append. -/
theorem WBox.stored {w w1 : World} {base kw : Nat} {v v' : Value} {B B' : List UInt8} (hk : base ≤ kw) (h2 : w.heap[kw]? = some (.cells #[v] 84 (0, 0))) (h3 : BOwn w base v B) (hg : w.grownBy w1 v.ownBlock) (h4 : BOwn w1 base v' B') :
    At w1 kw #[v] ∧ WBox (w1.setCell ⟨kw, 0, none⟩ v') base kw B' ∧ Below base w (w1.setCell ⟨kw, 0, none⟩ v') := by
  have hne : (84 : Nat) ≠ 5 := by decide
  have hlt := (Array.getElem?_eq_some_iff.1 h2).1
  have hb1 : w1.heap[kw]? = some (.cells #[v] 84 (0, 0)) := (hg.block kw hlt (fun e => own_ne h3 h2 hne e.symm)).trans h2
  refine ⟨one_at hb1, ⟨hk, v', one_setCell hb1, ?_⟩, ?_⟩
  · exact ownsRow_setCell_other h4 (own_ne h4 hb1 hne) v'
  · exact (Below.of_grown hg (by omega) (fun g hq => (own_block h3 g hq).1)).setCell (p := ⟨kw, 0, none⟩) hk v'
end Go.Proofs.YthmfaafpdogpdaaDoor
