/-
  Stage 2, span: a slice of numbers that came in, opened; numbers appended to a row that the call owns.
-/
import Derived.Test.YtodhgmeecphckaaSOpenS
import Derived.Test.YtodhgmeecphckaaSAt
import Derived.Test.YtodhgmeecphckaaSSet
import Derived.Deep.AppendLies
import Derived.Deep.AppendSrc
import Derived.Maps.AppendAt
namespace Go.Proofs.Ytodhgmeecphckaa
open Go.ChangeShapes Go.WideShapes Go.ChangeAt Go.RowKit Go.Deep

/-- A slice of numbers that can be read. -/
def NumsL (w : World) (a : Option Addr) (L : List Int) : Prop := ∀ i (h : i < L.length), ∃ b off : Nat, a = some ⟨b, off, none⟩ ∧ b < w.heap.size ∧ W64 L[i] ∧ w.cell? ⟨b, off + i, none⟩ = some (.int .u64 L[i])
theorem list_of {α : Type} {P : Nat → α → Prop} (n : Nat) (h : ∀ i, i < n → ∃ x, P i x) : ∃ L : List α, L.length = n ∧ ∀ i (hi : i < L.length), P i L[i] := by
  induction n with
  | zero => exact ⟨[], rfl, fun i hi => by simp at hi⟩
  | succ n ih =>
    obtain ⟨L, hl, hL⟩ := ih (fun i hi => h i (by omega))
    obtain ⟨x, hx⟩ := h n (by omega)
    refine ⟨L ++ [x], by simp [hl], fun i hi => ?_⟩
    by_cases hlt : i < L.length
    · rw [List.getElem_append_left hlt]; exact hL i hlt
    · have e : i = n := by simp at hi; omega
      have e2 : (L ++ [x])[i] = x := by rw [List.getElem_append_right (by omega)]; simp
      rw [e2, e]; exact hx
theorem no_spot1 {W : World} {a : Addr} {v0 : Value} (h : W.cells? 0 (a.add (0 * 1)) 1 = some [v0]) : a.spot = none := by
  obtain ⟨_, _, hc⟩ := World.cells?_some h
  have c0 := hc 0 (by omega)
  simp only [Nat.zero_mul, Addr.add, if_true] at c0
  exact World.cell?_spot (c0.trans rfl)
theorem one_cell {W : World} {a : Addr} {i : Nat} {v0 : Value} (hs : a.spot = none) (h : W.cells? 0 (a.add (i * 1)) 1 = some [v0]) :
    ∃ b off, a = ⟨b, off, none⟩ ∧ b < W.heap.size ∧ W.cell? ⟨b, off + i, none⟩ = some v0 := by
  obtain ⟨_, _, hc⟩ := World.cells?_some h
  have c0 := hc 0 (by omega)
  obtain ⟨b, off, spot⟩ := a
  obtain rfl : spot = none := hs
  rw [addr_add, addr_add, Nat.mul_one, Nat.add_zero] at c0
  have hlt := World.block_lt_of_cell? W _ (c0.trans rfl)
  exact ⟨b, off, rfl, hlt, c0⟩
theorem open_u64s {H : Type} {enc : TypeId × Value → H} {W : World} {spare : Nat → Bool} {held : Bool} {a : Option Addr} {len cap : Nat} {d : DataW H} {ps : List MemPlace}
    (h : DataW.Trod enc Try.prog W 0 spare held 45 (.slice a len cap) d ps) : (∃ L : List Int, L.length = len ∧ NumsL W a L) ∧ len ≤ maxLen := by
  obtain ⟨fuel, hf⟩ := h
  have k1 : Try.prog.cellsOf 22 = 1 := by kernel_rfl
  rcases open_slice Try.underlying45 hf with ⟨hcs, _⟩ | ⟨x, l, c, m, n, D, Pl, hcs, _, hl, hm, hmm, _, hx⟩
  · simp [Value.cells] at hcs
    obtain ⟨rfl, rfl, rfl⟩ := hcs
    exact ⟨⟨[], rfl, fun i hi => by simp at hi⟩, by simp [maxLen]⟩
  · simp [Value.cells] at hcs
    obtain ⟨rfl, rfl, rfl⟩ := hcs
    refine ⟨list_of (P := fun i x' => ∃ b off : Nat, some x = some (⟨b, off, none⟩ : Addr) ∧ b < W.heap.size ∧ W64 x' ∧ W.cell? ⟨b, off + i, none⟩ = some (.int .u64 x')) len fun i hi => ?_, by omega⟩
    obtain ⟨cs', h1, h2⟩ := hx i (by rw [hmm]; split <;> omega)
    obtain ⟨p, rfl, _, hp⟩ := DataW.trod_int Try.underlying22 h2
    obtain ⟨cs0, g1, g2⟩ := hx 0 (by rw [hmm]; split <;> omega)
    obtain ⟨_, rfl, _⟩ := DataW.trod_int Try.underlying22 g2
    rw [k1] at h1 g1
    obtain ⟨b, off, rfl, hlt, c0⟩ := one_cell (no_spot1 g1) h1
    exact ⟨p, b, off, rfl, hlt, bd_u64 hp, c0⟩
theorem At.below {w w1 : World} {B k : Nat} {cs : Array Value} (h : At w k cs) (hb : Below B w w1) (hk : k < B) : At w1 k cs :=
  ⟨Nat.lt_of_lt_of_le h.1 hb.size, fun o => (hb.cell (p := ⟨k, o, none⟩) hk).trans (h.2.1 o), fun o => (hb.frozen (p := ⟨k, o, none⟩) hk).trans (h.2.2 o)⟩
theorem Below.of_grown {B : Nat} {w w1 : World} {row : Option Nat} (h : w.grownBy w1 row) (hB : B ≤ w.heap.size) (hr : ∀ g, row = some g → B ≤ g) : Below B w w1 :=
  ⟨h.os, h.tape, h.output, h.size, fun k hk => h.block k (Nat.lt_of_lt_of_le hk hB) (fun e => by have := hr k e.symm; omega)⟩
/-- A row of numbers that the call owns. -/
def NOwn (w : World) (base : Nat) (v : Value) (L : List Int) : Prop := w.ownsRow base 22 1 v L.length (L.map (Value.int .u64))
theorem NOwn.below {w w1 : World} {base : Nat} {v : Value} {L : List Int} (h : NOwn w base v L) (hb : Below w.heap.size w w1) : NOwn w1 base v L := by
  refine ⟨h.1, ?_⟩
  rcases h.2 with h2 | ⟨g, cap, cur, hv, hbg, hg, rest⟩
  · exact .inl h2
  · have hlt : g < w.heap.size := (Array.getElem?_eq_some_iff.1 hg).1
    exact .inr ⟨g, cap, cur, hv, hbg, (hb.block g hlt).trans hg, rest⟩
theorem NOwn.empty (w : World) (base : Nat) (hb : base ≤ w.heap.size) : NOwn (w.alloc (.cells #[] 22)) base (.slice (some ⟨w.heap.size, 0, none⟩) 0 0) [] :=
  ⟨rfl, .inr ⟨w.heap.size, 0, #[], rfl, hb, (MapKept.heap_alloc w _).1, Nat.le_refl _, by simp [maxLen], rfl, rfl⟩⟩
theorem NOwn.block {w : World} {base : Nat} {v : Value} {L : List Int} (h : NOwn w base v L) : ∀ g, v.ownBlock = some g → base ≤ g := by
  intro g hg
  rcases h.2 with ⟨rfl, _⟩ | ⟨g', cap, cur, rfl, hbg, hh, rest⟩
  · cases hg
  · have : g' = g := by simpa [Value.ownBlock] using hg
    omega
theorem NOwn.nums {w : World} {base g cap n : Nat} {L : List Int} (h : NOwn w base (.slice (some ⟨g, 0, none⟩) n cap) L) (hL : ∀ x ∈ L, W64 x) : NumsL w (some ⟨g, 0, none⟩) L := by
  intro i hi
  have hg : g < w.heap.size := by
    rcases h.2 with ⟨h1, _⟩ | ⟨g', cap', cur, hv, hbg, hh, rest⟩
    · cases h1
    · have e : g' = g := by simp at hv; exact hv.1.symm
      rw [← e]; exact (Array.getElem?_eq_some_iff.1 hh).1
  have hc := World.ownsRow.cells h (g := g) rfl i (.int .u64 L[i]) (by simp [hi])
  rw [addr_add] at hc
  exact ⟨g, 0, rfl, hg, hL _ (List.getElem_mem hi), hc⟩
theorem infoU64 : (Try.prog.info? 22).map (fun i => (i.zero, i.size, i.bytes)) = some (some (.int .u64 0), 1, 8) := by kernel_rfl
theorem info_parts {t : TypeId} {z : Value} {s b : Nat} (h : (Try.prog.info? t).map (fun i => (i.zero, i.size, i.bytes)) = some (some z, s, b)) :
    ∃ i, Try.prog.info? t = some i ∧ i.zero = some z ∧ i.size = s ∧ i.bytes = b := by
  obtain ⟨i, hi, he⟩ := Option.map_eq_some_iff.1 h
  simp only [Prod.mk.injEq] at he
  exact ⟨i, hi, he.1, he.2.1, he.2.2⟩
theorem news_nums {w : World} {a : Addr} {L : List Int} (h : NumsL w (some a) L) : ∀ j u, (L.map (Value.int .u64))[j]? = some u → w.cell? (a.add j) = some u := by
  intro j u hj
  obtain ⟨hl, he⟩ := List.getElem?_eq_some_iff.1 hj
  have hl' : j < L.length := by simpa using hl
  obtain ⟨b, off, ha, _, _, hc⟩ := h j hl'
  cases ha
  rw [addr_add, hc, ← he]
  simp
theorem nums_one (L : List Int) : ∀ u ∈ L.map (Value.int .u64), u.oneCell' = true := by
  intro u hu
  obtain ⟨x, _, rfl⟩ := List.mem_map.1 hu
  rfl
/-- Numbers that can be read, appended to an own row that is not nil. -/
theorem wpList_append_nums {ops : Array Oper} {rest : List Oper} {o : Oper} {a : Act} {Q : Exit → Act → World → Prop} {w : World} (hgd : o.guard = none) (s x : Operand)
    (ho : o.op = .call { callee := .builtin .append, args := #[s, x], argTypes := #[45, 45] })
    (base : Nat) (v : Value) (L M : List Int) (hs : a.eval s = v) (hL : NOwn w base v L)
    (ax : Option Addr) (m c : Nat) (hm : M.length = m) (hx : a.eval x = .slice ax m c) (hM : NumsL w ax M) (hlen : L.length + m ≤ 1000) (hbase : base ≤ w.heap.size)
    (h : ∀ v' w', NOwn w' base v' (L ++ M) → w.grownBy w' v.ownBlock → wpList Try.prog ops Q rest (a.put o.dst v') w') :
    wpList Try.prog ops Q (o :: rest) a w := by
  subst hm
  obtain ⟨i0, hi, hz0, hz1, hz2⟩ := info_parts infoU64
  cases ax with
  | none =>
    have hM0 : M = [] := by
      cases M with
      | nil => rfl
      | cons k M =>
        obtain ⟨b, off, e, _⟩ := hM 0 (by simp)
        cases e
    subst hM0
    refine wpList_plain hgd fun K hK => ?_
    have hr : (Builtin.append_ #[45, 45] o.type #[v, .slice none 0 c]).run Try.prog w = .ok v w := by
      rcases hL.2 with ⟨rfl, h0⟩ | ⟨g, cap, cur, rfl, hbg, hg, hnc, hcm, hcs, htake⟩
      · simp [Builtin.append_, run_underlying Try.underlying45, sizeOf, typeInfo, hi, Builtin.lenOf, Builtin.firstCells]
      · have := run_append_room_src (P := Try.prog) w 45 45 o.type 22 i0 Try.underlying45 hi g 0 L.length cap (.slice none 0 c) 0 [] (Src.ofNil w Try.underlying45 c) (by omega) (fun j hj => by simp at hj) (fun j hj => by simp at hj)
        simpa [World.setCells] using this
    unfold Oper.wp execOp
    simp only [ho, resolve, invoke, builtin, Sem.run_bind, Sem.run_pure, Result.andThen_ok, List.map_toArray, List.map_cons, List.map_nil, hs, hx, List.length_nil, hr]
    exact hK _ _ (h v w (by simpa using hL) ⟨rfl, rfl, rfl, Nat.le_refl _, fun _ _ _ => rfl⟩)
  | some ad =>
    refine wpList_append_own_at _ hgd s x 45 ho base 22 i0 (.int .u64 0) 1 8 Try.underlying45 hi hz0 hz1 hz2 rfl (by decide)
      v L.length (L.map (Value.int .u64)) hs hL ad M.length c (M.map (Value.int .u64)) hx (by simp) (news_nums hM) (nums_one M) (by unfold maxLen; omega) (by omega) hbase ?_
    intro v' w' h1 h2 _ h4
    refine h v' w' ?_ h2
    unfold NOwn
    rw [List.length_append, List.map_append]
    exact h1
/-- One number appended, which lies in a new block. -/
theorem wpList_append_num {ops : Array Oper} {rest : List Oper} {o : Oper} {a : Act} {Q : Exit → Act → World → Prop} {w : World} (hgd : o.guard = none) (s x : Operand)
    (ho : o.op = .call { callee := .builtin .append, args := #[s, x], argTypes := #[45, 45] })
    (base : Nat) (v : Value) (L : List Int) (y : Int) (hs : a.eval s = v) (hL : NOwn w base v L)
    (X : Nat) (hx : a.eval x = .slice (some ⟨X, 0, none⟩) 1 1) (hX : At w X #[.int .u64 y]) (hlen : L.length ≤ 1000) (hbase : base ≤ w.heap.size)
    (h : ∀ g cap w', NOwn w' base (.slice (some ⟨g, 0, none⟩) (L.length + 1) cap) (L ++ [y]) → w.grownBy w' v.ownBlock → wpList Try.prog ops Q rest (a.put o.dst (.slice (some ⟨g, 0, none⟩) (L.length + 1) cap)) w') :
    wpList Try.prog ops Q (o :: rest) a w := by
  obtain ⟨i0, hi, hz0, hz1, hz2⟩ := info_parts infoU64
  have hn : ∀ j u, [Value.int .u64 y][j]? = some u → w.cell? ((⟨X, 0, none⟩ : Addr).add j) = some u := by
    intro j u hj
    rw [addr_add, Nat.zero_add, hX.2.1]
    simpa using hj
  refine wpList_append_lies _ hgd s x 45 ho base 22 i0 (.int .u64 0) 1 8 Try.underlying45 hi hz0 hz1 hz2 rfl (by decide)
    v L.length (L.map (Value.int .u64)) hs hL ⟨X, 0, none⟩ 1 1 [.int .u64 y] hx rfl hn (by simp [Value.oneCell']) (by decide) (by unfold maxLen; omega) (by omega) hbase _ rfl ?_
  intro g cap w' h1 h2 _ _
  refine h g cap w' ?_ h2
  unfold NOwn
  rw [List.length_append, List.map_append]
  exact h1
theorem gr_size {w W : World} (h : Gr w W) : w.heap.size ≤ W.heap.size := h.below.size
theorem Gr.cell {w W : World} (h : Gr w W) {k : Nat} (hk : k < w.heap.size) (o : Nat) : W.cell? ⟨k, o, none⟩ = w.cell? ⟨k, o, none⟩ := h.below.cell (p := ⟨k, o, none⟩) hk
structure Kb (p : Prop) : Prop where
  out : p
theorem cut_rule {X Y : Prop} (h : Kb X → Y) (x : X) : Y := h ⟨x⟩
theorem hide {p : Prop} (h : p) : Hid p := h
def lenOf : Value → Nat
  | .slice _ n _ => n
  | _ => 0
theorem below_one (w : World) (o : Obj) : Below w.heap.size w (w.alloc o) := ((Gr.refl w).alloc o).below
theorem NumsL.below {w w1 : World} {a : Option Addr} {L : List Int} (h : NumsL w a L) (hb : Below w.heap.size w w1) : NumsL w1 a L := fun i hi => by
  obtain ⟨b, off, ha, h2, h3, h4⟩ := h i hi
  exact ⟨b, off, ha, Nat.lt_of_lt_of_le h2 hb.size, h3, (hb.cell (p := ⟨b, off + i, none⟩) h2).trans h4⟩

end Go.Proofs.Ytodhgmeecphckaa
