import Derived.Test.YtdmkedpnkejpbaaDoorP44
/-
  Twins of programs: their rows. No Go in sight.
-/
namespace Go.Proofs.YtdmkedpnkejpbaaDoor
namespace Q
open Go.RowKit

/-- A list's value. -/
structure Sl where
  a : Option Addr
  l : Nat
  c : Nat
def Sl.val (s : Sl) : Value := .slice s.a s.l s.c
structure RgV where
  b : Int
  n : Int
  d : List UInt8
  s : Sl
structure CpV where
  r : Sl
  k : Sl
structure GtV where
  c : Int
  e : Int
  x : Sl
  y : Sl
def RgV.vals (v : RgV) : List Value := [.int .u64 v.b, .int .u64 v.n, .string (str v.d), .slice v.s.a v.s.l v.s.c]
def CpV.vals (v : CpV) : List Value := [.slice v.r.a v.r.l v.r.c, .slice v.k.a v.k.l v.k.c]
def GtV.vals (v : GtV) : List Value := [.int .i64 v.c, .int .i64 v.e, .slice v.x.a v.x.l v.x.c, .slice v.y.a v.y.l v.y.c]
theorem rg_len (v : RgV) : v.vals.length = 4 := rfl
theorem cp_len (v : CpV) : v.vals.length = 2 := rfl
theorem gt_len (v : GtV) : v.vals.length = 4 := rfl
theorem rg_one (x : RgV) : ∀ v ∈ x.vals, v.oneCell' = true := by
  intro v h
  simp only [RgV.vals, List.mem_cons, List.not_mem_nil, or_false] at h
  rcases h with rfl | rfl | rfl | rfl <;> rfl
theorem cp_one (x : CpV) : ∀ v ∈ x.vals, v.oneCell' = true := by
  intro v h
  simp only [CpV.vals, List.mem_cons, List.not_mem_nil, or_false] at h
  rcases h with rfl | rfl <;> rfl
theorem gt_one (x : GtV) : ∀ v ∈ x.vals, v.oneCell' = true := by
  intro v h
  simp only [GtV.vals, List.mem_cons, List.not_mem_nil, or_false] at h
  rcases h with rfl | rfl | rfl | rfl <;> rfl
def nilS : Sl := ⟨none, 0, 0⟩
def rgZ : RgV := ⟨0, 0, [], nilS⟩
def cpZ : CpV := ⟨nilS, nilS⟩
def gtZ : GtV := ⟨0, 0, nilS, nilS⟩
def rgM : RgV := ⟨77, 0, [109, 97, 114, 107], nilS⟩
def gtM : GtV := ⟨-7, 0, nilS, nilS⟩
/-- What lies above 'kk' stays. -/
structure Kt (kk : Nat) (w w' : World) : Prop where
  size : w.heap.size ≤ w'.heap.size
  block : ∀ g, kk < g → g < w.heap.size → w'.heap[g]? = w.heap[g]?
theorem Kt.refl (kk : Nat) (w : World) : Kt kk w w := ⟨Nat.le_refl _, fun _ _ _ => rfl⟩
theorem Kt.trans {kk : Nat} {a b c : World} (h : Kt kk a b) (k : Kt kk b c) : Kt kk a c := ⟨Nat.le_trans h.size k.size, fun g h1 h2 => (k.block g h1 (Nat.lt_of_lt_of_le h2 h.size)).trans (h.block g h1 h2)⟩
theorem Kt.gr {kk : Nat} {a b : World} (h : Gr a b) : Kt kk a b := ⟨h.below.size, fun g _ h2 => h.below.block g h2⟩
theorem setCell_block (w : World) (b o g : Nat) (v : Value) (h : b ≠ g) : (w.setCell ⟨b, o, none⟩ v).heap[g]? = w.heap[g]? := by
  unfold World.setCell
  simp only [Array.getElem?_modify]
  rw [if_neg h]
theorem setCells_block (b g : Nat) (h : b ≠ g) : ∀ (vs : List Value) (o : Nat) (w : World), (w.setCells b o vs).heap[g]? = w.heap[g]?
  | [], _, _ => rfl
  | v :: r, o, w => by rw [World.setCells, setCells_block b g h r, setCell_block w b o g v h]
theorem Kt.sets {kk : Nat} {a w : World} (h : Kt kk a w) (b o : Nat) (vs : List Value) (hb : b ≤ kk ∨ a.heap.size ≤ b) : Kt kk a (w.setCells b o vs) :=
  ⟨by rw [setCells_size]; exact h.size, fun g h1 h2 => by rw [setCells_block b g (by omega)]; exact h.block g h1 h2⟩
theorem Kt.set {kk : Nat} {a w : World} (h : Kt kk a w) (b o : Nat) (v : Value) (hb : b ≤ kk ∨ a.heap.size ≤ b) : Kt kk a (w.setCell ⟨b, o, none⟩ v) := h.sets b o [v] hb
theorem Kt.at_ {kk g : Nat} {w w' : World} {cs : Array Value} (h : Kt kk w w') (q : At w g cs) (hg : kk < g) : At w' g cs :=
  ⟨Nat.lt_of_lt_of_le q.1 h.size, fun i => by rw [World.cell?_of_block (a := ⟨g, i, none⟩) (h.block g hg q.1)]; exact q.2.1 i, fun i => by rw [World.frozen?_of_block (a := ⟨g, i, none⟩) (h.block g hg q.1)]; exact q.2.2 i⟩
/-- A list's twin, above 'kk'. -/
def LsOk {α : Type} (vals : α → List Value) (M : α) (kk : Nat) (W : World) (L : List α) (s : Sl) : Prop := ∃ g, s = ⟨some ⟨g, 0, none⟩, L.length, L.length + 8⟩ ∧ kk < g ∧ At W g (rowV [] vals (marked M L)).toArray
def SlOk (kk : Nat) (W : World) (L : List PSlot) (s : Sl) : Prop := (L = [] ∧ s = nilS) ∨ (L ≠ [] ∧ LsOk PSlot.vals slotM kk W L s)
theorem LsOk.keep {α : Type} {vals : α → List Value} {M : α} {kk : Nat} {W W' : World} {L : List α} {s : Sl} (h : LsOk vals M kk W L s) (k : Kt kk W W') : LsOk vals M kk W' L s := by
  obtain ⟨g, h1, h2, h3⟩ := h
  exact ⟨g, h1, h2, k.at_ h3 h2⟩
theorem SlOk.keep {kk : Nat} {W W' : World} {L : List PSlot} {s : Sl} (h : SlOk kk W L s) (k : Kt kk W W') : SlOk kk W' L s := by
  rcases h with h | ⟨h0, h⟩
  · exact .inl h
  · exact .inr ⟨h0, h.keep k⟩
theorem LsOk.mono {α : Type} {vals : α → List Value} {M : α} {kk k' : Nat} {W : World} {L : List α} {s : Sl} (h : LsOk vals M k' W L s) (hk : kk ≤ k') : LsOk vals M kk W L s := by
  obtain ⟨g, h1, h2, h3⟩ := h
  exact ⟨g, h1, by omega, h3⟩
theorem SlOk.mono {kk k' : Nat} {W : World} {L : List PSlot} {s : Sl} (h : SlOk k' W L s) (hk : kk ≤ k') : SlOk kk W L s := by
  rcases h with h | ⟨h0, h⟩
  · exact .inl h
  · exact .inr ⟨h0, h.mono hk⟩
def RgOk (kk : Nat) (W : World) (r : PReg) (v : RgV) : Prop := v.b = r.b ∧ v.n = r.n ∧ v.d = r.data ∧ SlOk kk W r.slots v.s
def CpOk (kk : Nat) (W : World) (c : PComp) (v : CpV) : Prop := LsOk PRoot.vals rootM kk W c.roots v.r ∧ LsOk Ins.vals instM kk W c.code v.k
def GtOk (kk : Nat) (W : World) (g : PGate) (v : GtV) : Prop := v.c = g.c ∧ v.e = g.e ∧ LsOk PTyp.vals typeM kk W g.args v.x ∧ LsOk PTyp.vals typeM kk W g.res v.y
/-- A compartment that is a mark. -/
def CpMark (kk : Nat) (W : World) (v : CpV) : Prop := v.k = nilS ∧ ∃ g, v.r = ⟨some ⟨g, 0, none⟩, 1, 1⟩ ∧ kk < g ∧ At W g (rowV [] PRoot.vals [rootM]).toArray
/-- The first 'i' of a row are twins, or marks. -/
def Done {α β : Type} (ok : World → α → β → Prop) (mk : World → β → Prop) (W : World) (L : List α) (l : List β) (i : Nat) : Prop :=
  ∀ j, j < i → (∀ h : j < L.length, ∃ v, l[j]? = some v ∧ ok W L[j] v) ∧ (L.length ≤ j → ∃ v, l[j]? = some v ∧ mk W v)
theorem Done.zero {α β : Type} (ok : World → α → β → Prop) (mk : World → β → Prop) (W : World) (L : List α) (l : List β) : Done ok mk W L l 0 := fun j h => by omega
theorem Done.keep {α β : Type} {ok : World → α → β → Prop} {mk : World → β → Prop} {W W' : World} {L : List α} {l : List β} {i : Nat} (h : Done ok mk W L l i) (k1 : ∀ a b, ok W a b → ok W' a b) (k2 : ∀ b, mk W b → mk W' b) : Done ok mk W' L l i := fun j hj => by
  refine ⟨fun q => ?_, fun q => ?_⟩
  · obtain ⟨v, h1, h2⟩ := (h j hj).1 q
    exact ⟨v, h1, k1 _ _ h2⟩
  · obtain ⟨v, h1, h2⟩ := (h j hj).2 q
    exact ⟨v, h1, k2 _ h2⟩
theorem Done.next {α β : Type} {ok : World → α → β → Prop} {mk : World → β → Prop} {W : World} {L : List α} {l : List β} {i : Nat} (h : Done ok mk W L l i) (hi : i < l.length) (v : β) (h1 : ∀ q : i < L.length, ok W L[i] v) (h2 : L.length ≤ i → mk W v) : Done ok mk W L (l.set i v) (i + 1) := fun j hj => by
  by_cases e : j = i
  · subst e
    exact ⟨fun q => ⟨v, by simp [hi], h1 q⟩, fun q => ⟨v, by simp [hi], h2 q⟩⟩
  · obtain ⟨a, b⟩ := h j (by omega)
    rw [List.getElem?_set_ne (fun r => e r.symm)]
    exact ⟨a, b⟩
/-- What can be copied. -/
structure TwFit (m : PImg) : Prop where
  r : 56 * (m.regs.length + 8) ≤ 281474976710656
  c : 48 * (m.comps.length + 8) ≤ 281474976710656
  g : 64 * (m.gates.length + 8) ≤ 281474976710656
  rs : ∀ r ∈ m.regs, 64 * (r.slots.length + 8) ≤ 281474976710656
  cs : ∀ c ∈ m.comps, 48 * (c.roots.length + 8) ≤ 281474976710656 ∧ 40 * (c.code.length + 8) ≤ 281474976710656
  gs : ∀ g ∈ m.gates, 56 * (g.args.length + 8) ≤ 281474976710656 ∧ 56 * (g.res.length + 8) ≤ 281474976710656
/-- A twin's four blocks, and all that is in them. -/
structure Tw (w : World) (im : List Value) (out : List Value) (lr : List RgV) (lc : List CpV) (lg : List GtV) (W : World) : Prop where
  m : At W w.heap.size im.toArray
  res : At W (w.heap.size + 1) #[.slice none 0 0, .slice none 0 0, .slice none 0 0, .int .i64 0]
  o : At W (w.heap.size + 1 + 1) out.toArray
  r : At W (w.heap.size + 1 + 1 + 1) (rowV [] RgV.vals lr).toArray
  c : At W (w.heap.size + 1 + 1 + 1 + 1) (rowV [] CpV.vals lc).toArray
  g : At W (w.heap.size + 1 + 1 + 1 + 1 + 1) (rowV [] GtV.vals lg).toArray
  gr : Gr w W
theorem Tw.grow {w : World} {im out : List Value} {lr : List RgV} {lc : List CpV} {lg : List GtV} {W W' : World} (h : Tw w im out lr lc lg W) (q : Gr W W') : Tw w im out lr lc lg W' :=
  ⟨h.m.gr q, h.res.gr q, h.o.gr q, h.r.gr q, h.c.gr q, h.g.gr q, h.gr.trans q⟩
theorem Tw.sets {w : World} {im out : List Value} {lr : List RgV} {lc : List CpV} {lg : List GtV} {W : World} (h : Tw w im out lr lc lg W) (b o : Nat) (vs : List Value) (hb : w.heap.size + 1 + 1 + 1 + 1 + 1 < b) : Tw w im out lr lc lg (W.setCells b o vs) :=
  ⟨h.m.other (by omega) o vs, h.res.other (by omega) o vs, h.o.other (by omega) o vs, h.r.other (by omega) o vs, h.c.other (by omega) o vs, h.g.other (by omega) o vs, h.gr.setCells b (by omega) vs o⟩
theorem Tw.setR {w : World} {im out : List Value} {lr : List RgV} {lc : List CpV} {lg : List GtV} {W : World} (h : Tw w im out lr lc lg W) (i : Nat) (hi : i < lr.length) (v : RgV) : Tw w im out (lr.set i v) lc lg (W.setCells (w.heap.size + 1 + 1 + 1) (i * 4) v.vals) :=
  ⟨h.m.other (by omega) _ _, h.res.other (by omega) _ _, h.o.other (by omega) _ _, h.r.setElem rg_len i hi v (i * 4) (by simp), h.c.other (by omega) _ _, h.g.other (by omega) _ _, h.gr.setCells _ (by omega) _ _⟩
theorem Tw.setC {w : World} {im out : List Value} {lr : List RgV} {lc : List CpV} {lg : List GtV} {W : World} (h : Tw w im out lr lc lg W) (i : Nat) (hi : i < lc.length) (v : CpV) : Tw w im out lr (lc.set i v) lg (W.setCells (w.heap.size + 1 + 1 + 1 + 1) (i * 2) v.vals) :=
  ⟨h.m.other (by omega) _ _, h.res.other (by omega) _ _, h.o.other (by omega) _ _, h.r.other (by omega) _ _, h.c.setElem cp_len i hi v (i * 2) (by simp), h.g.other (by omega) _ _, h.gr.setCells _ (by omega) _ _⟩
theorem Tw.setG {w : World} {im out : List Value} {lr : List RgV} {lc : List CpV} {lg : List GtV} {W : World} (h : Tw w im out lr lc lg W) (i : Nat) (hi : i < lg.length) (v : GtV) : Tw w im out lr lc (lg.set i v) (W.setCells (w.heap.size + 1 + 1 + 1 + 1 + 1) (i * 4) v.vals) :=
  ⟨h.m.other (by omega) _ _, h.res.other (by omega) _ _, h.o.other (by omega) _ _, h.r.other (by omega) _ _, h.c.other (by omega) _ _, h.g.setElem gt_len i hi v (i * 4) (by simp), h.gr.setCells _ (by omega) _ _⟩
end Q
end Go.Proofs.YtdmkedpnkejpbaaDoor


/-
  Programs that are lent: rows with room behind them. No Go in sight.
-/
namespace Go.Proofs.YtdmkedpnkejpbaaDoor
namespace Q
open Go.RowKit

def slot77 : PSlot := { t := typeZ, c := 77 }
def rg77 : RgV := ⟨77, 0, [], nilS⟩
def RgOkL (kk : Nat) (W : World) (r : PReg) (v : RgV) : Prop := v.b = r.b ∧ v.n = r.n ∧ v.d = r.data ∧ LsOk PSlot.vals slot77 kk W r.slots v.s
def CpOkL (kk : Nat) (W : World) (c : PComp) (v : CpV) : Prop := LsOk PRoot.vals rootZ kk W c.roots v.r ∧ LsOk Ins.vals instZ kk W c.code v.k
def GtOkL (kk : Nat) (W : World) (g : PGate) (v : GtV) : Prop := v.c = g.c ∧ v.e = g.e ∧ LsOk PTyp.vals typeZ kk W g.args v.x ∧ LsOk PTyp.vals typeZ kk W g.res v.y
def isV {β : Type} (M : β) (_ : World) (v : β) : Prop := v = M
theorem rgL_keep {kk : Nat} {W W' : World} (k : Kt kk W W') (a : PReg) (b : RgV) (h : RgOkL kk W a b) : RgOkL kk W' a b := ⟨h.1, h.2.1, h.2.2.1, h.2.2.2.keep k⟩
theorem cpL_keep {kk : Nat} {W W' : World} (k : Kt kk W W') (a : PComp) (b : CpV) (h : CpOkL kk W a b) : CpOkL kk W' a b := ⟨h.1.keep k, h.2.keep k⟩
theorem gtL_keep {kk : Nat} {W W' : World} (k : Kt kk W W') (a : PGate) (b : GtV) (h : GtOkL kk W a b) : GtOkL kk W' a b := ⟨h.1, h.2.1, h.2.2.1.keep k, h.2.2.2.keep k⟩
/-- A row of which 'i' are done: the others are as they were made. -/
structure Row3 {α β : Type} (ok : World → α → β → Prop) (mk : World → β → Prop) (Z : β) (n : Nat) (W : World) (L : List α) (l : List β) (i : Nat) : Prop where
  len : l.length = n
  done : Done ok mk W L l i
  rest : ∀ j, i ≤ j → j < n → l[j]? = some Z
theorem Row3.zero {α β : Type} (ok : World → α → β → Prop) (mk : World → β → Prop) (Z : β) (n : Nat) (W : World) (L : List α) : Row3 ok mk Z n W L (List.replicate n Z) 0 :=
  ⟨by simp, Done.zero _ _ _ _ _, fun j _ h => by simp [h]⟩
theorem Row3.keep {α β : Type} {ok : World → α → β → Prop} {mk : World → β → Prop} {Z : β} {n : Nat} {W W' : World} {L : List α} {l : List β} {i : Nat} (h : Row3 ok mk Z n W L l i) (k1 : ∀ a b, ok W a b → ok W' a b) (k2 : ∀ b, mk W b → mk W' b) : Row3 ok mk Z n W' L l i :=
  ⟨h.len, h.done.keep k1 k2, h.rest⟩
theorem Row3.next {α β : Type} {ok : World → α → β → Prop} {mk : World → β → Prop} {Z : β} {n : Nat} {W : World} {L : List α} {l : List β} {i : Nat} (h : Row3 ok mk Z n W L l i) (hi : i < n) (v : β) (h1 : ∀ q : i < L.length, ok W L[i] v) (h2 : L.length ≤ i → mk W v) : Row3 ok mk Z n W L (l.set i v) (i + 1) :=
  ⟨by rw [List.length_set]; exact h.len, h.done.next (by rw [h.len]; exact hi) v h1 h2, fun j hj hn => by rw [List.getElem?_set_ne (by omega)]; exact h.rest j (by omega) hn⟩
theorem Row3.over {α β : Type} {ok : World → α → β → Prop} {Z : β} {n : Nat} {W : World} {L : List α} {l : List β} (h : Row3 ok (isV Z) Z n W L l L.length) : Done ok (isV Z) W L l n := fun j hj => by
  by_cases q : j < L.length
  · exact h.done j q
  · exact ⟨fun r => absurd r q, fun r => ⟨Z, h.rest j r hj, rfl⟩⟩
/-- One cell of a row's element. -/
theorem flat_set {α : Type} {f : α → List Value} {k : Nat} (hf : ∀ x, (f x).length = k) : ∀ (L : List α) (i : Nat) (hi : i < L.length) (v : α) (j : Nat) (x : Value), j < k → f v = (f L[i]).set j x → (L.set i v).flatMap f = (L.flatMap f).set (i * k + j) x
  | [], i, hi, _, _, _, _, _ => absurd hi (by simp)
  | a :: L, 0, _, v, j, x, hj, h => by
    simp only [List.getElem_cons_zero] at h
    rw [List.set_cons_zero, List.flatMap_cons, List.flatMap_cons, h, Nat.zero_mul, Nat.zero_add, List.set_append_left _ _ (by rw [hf]; exact hj)]
  | a :: L, i + 1, hi, v, j, x, hj, h => by
    simp only [List.getElem_cons_succ] at h
    rw [List.set_cons_succ, List.flatMap_cons, List.flatMap_cons, flat_set hf L i (by simpa using hi) v j x hj h, List.set_append_right _ _ (by rw [hf, Nat.succ_mul]; omega), hf, show (i + 1) * k + j - k = i * k + j by rw [Nat.succ_mul]; omega]
theorem At.setOne {α : Type} {f : α → List Value} {k : Nat} (hf : ∀ x, (f x).length = k) {w : World} {b : Nat} {L : List α} (h : At w b (rowV [] f L).toArray) (i : Nat) (hi : i < L.length) (v : α) (j : Nat) (x : Value) (hj : j < k) (hv : f v = (f L[i]).set j x) (o : Nat) (ho : o = i * k + j) : At (w.setCell ⟨b, o, none⟩ x) b (rowV [] f (L.set i v)).toArray := by
  subst ho
  have e := row_len (pre := []) hf L
  have hlt : i * k + j < L.length * k := by
    have : (i + 1) * k ≤ L.length * k := Nat.mul_le_mul_right k hi
    rw [Nat.succ_mul] at this
    omega
  have q := h.set (i * k + j) x (by rw [List.size_toArray, e]; simpa using hlt)
  rw [List.setIfInBounds_toArray] at q
  unfold rowV at q ⊢
  rw [List.nil_append, ← flat_set hf L i hi v j x hj hv] at q
  rw [List.nil_append]
  exact q
theorem elem_atL {α : Type} {f : α → List Value} {k : Nat} (hf : ∀ x, (f x).length = k) {w : World} {b : Nat} {L : List α} (h : At w b (rowV [] f L).toArray) (i : Nat) (v : α) (hv : L[i]? = some v) : w.rangeAt b (i * k) (f v) := by
  obtain ⟨hi, rfl⟩ := List.getElem?_eq_some_iff.1 hv
  exact h.elem (pre := []) hf i hi (i * k) (by simp)
/-- A list made and copied. -/
theorem made_copy {α : Type} {vals : α → List Value} {k b : Nat} {Z : α} (hk : 0 < k) (hv : ∀ x, (vals x).length = k) (h1 : ∀ x, ∀ v ∈ vals x, v.oneCell' = true) {t e : TypeId} (ty : TypeId) (ht : Tryd.prog.underlying t = some (.slice e)) (hi : (Tryd.prog.info? e).map (fun i => (i.zero, i.size, i.bytes)) = some (some (.agg (vals Z).toArray), k, b)) (hs : (Tryd.prog.info? e).map (·.size) = some k)
    (L : List α) (a : Option Addr) (c B kk : Nat) (w : World) (hL : FIn k vals B w a L) (hB : B ≤ w.heap.size) (hb : b * (L.length + 8) ≤ 281474976710656) (hn : L.length ≤ 281474976710648) (hkk : kk < w.heap.size) :
    (Instr.makeSlice t (.int .i64 ((L.length : Int) + 8)) (.int .i64 ((L.length : Int) + 8))).run Tryd.prog w = .ok (.slice (some ⟨w.heap.size, 0, none⟩) (L.length + 8) (L.length + 8)) (w.alloc (.cells (rowV [] vals (List.replicate (L.length + 8) Z)).toArray e)) ∧
    (Builtin.copy_ #[t, t] ty #[.slice (some ⟨w.heap.size, 0, none⟩) (L.length + 8) (L.length + 8), .slice a L.length c]).run Tryd.prog (w.alloc (.cells (rowV [] vals (List.replicate (L.length + 8) Z)).toArray e)) = .ok (goInt L.length) ((w.alloc (.cells (rowV [] vals (List.replicate (L.length + 8) Z)).toArray e)).setCells w.heap.size 0 (L.flatMap vals)) ∧
    LsOk vals Z kk ((w.alloc (.cells (rowV [] vals (List.replicate (L.length + 8) Z)).toArray e)).setCells w.heap.size 0 (L.flatMap vals)) L ⟨some ⟨w.heap.size, 0, none⟩, L.length, L.length + 8⟩ ∧
    Gr w ((w.alloc (.cells (rowV [] vals (List.replicate (L.length + 8) Z)).toArray e)).setCells w.heap.size 0 (L.flatMap vals)) := by
  have hm := make_k (vals := vals) (Z := Z) (t := t) (e := e) (k := k) (b := b) hk hv ht hi (L.length + 8) (by omega) hb w
  rw [show ((L.length + 8 : Nat) : Int) = (L.length : Int) + 8 by omega] at hm
  have g1 : Gr w (w.alloc (.cells (rowV [] vals (List.replicate (L.length + 8) Z)).toArray e)) := (Gr.refl w).alloc _
  have q := copy_rows (B := B) (c := c) (k := k) hk hv h1 ty ht hs (At.new w (rowV [] vals (List.replicate (L.length + 8) Z)).toArray e) (L := L) (a := a) (hL.below ⟨g1.below.os, g1.below.tape, g1.below.output, g1.below.size, fun j hj => g1.below.block j (by omega)⟩) (by simp)
  rw [List.length_replicate] at q
  refine ⟨hm, q.1, ⟨w.heap.size, rfl, hkk, ?_⟩, g1.setCells _ (Nat.le_refl _) _ _⟩
  have q2 := q.2
  rw [marked_drop] at q2
  exact q2
theorem _root_.Go.Proofs.YtdmkedpnkejpbaaDoor.LIn.fin5 {B : Nat} {w : World} {a : Option Addr} {L : List Ins} (h : LIn B w a L) : FIn 5 Ins.vals B w a L := fun i hi => by
  obtain ⟨b, off, ha, h1, h2, f0, f1, f2, f3, f4⟩ := h i hi
  refine ⟨b, off, ha, h1, h2, fun j hj => ?_⟩
  match j, hj with
  | 0, _ => exact f0
  | 1, _ => exact f1
  | 2, _ => exact f2
  | 3, _ => exact f3
  | 4, _ => exact f4
/-- A program that is lent. -/
structure LeIn (kk kr kc kg : Nat) (W : World) (m : PImg) (lr : List RgV) (lc : List CpV) (lg : List GtV) : Prop where
  r : At W kr (rowV [] RgV.vals lr).toArray
  c : At W kc (rowV [] CpV.vals lc).toArray
  g : At W kg (rowV [] GtV.vals lg).toArray
  rl : lr.length = m.regs.length + 8
  cl : lc.length = m.comps.length + 8
  gl : lg.length = m.gates.length + 8
  rd : Done (RgOkL kk) (isV rg77) W m.regs lr (m.regs.length + 8)
  cd : Done (CpOkL kk) (isV cpZ) W m.comps lc (m.comps.length + 8)
  gd : Done (GtOkL kk) (isV gtZ) W m.gates lg (m.gates.length + 8)
theorem LeIn.gr {kk kr kc kg : Nat} {W W' : World} {m : PImg} {lr : List RgV} {lc : List CpV} {lg : List GtV} (h : LeIn kk kr kc kg W m lr lc lg) (q : Gr W W') : LeIn kk kr kc kg W' m lr lc lg :=
  ⟨h.r.gr q, h.c.gr q, h.g.gr q, h.rl, h.cl, h.gl, h.rd.keep (rgL_keep (Kt.gr q)) (fun _ h => h), h.cd.keep (cpL_keep (Kt.gr q)) (fun _ h => h), h.gd.keep (gtL_keep (Kt.gr q)) (fun _ h => h)⟩
theorem marked_atL {α : Type} {M : α} {L : List α} (i : Nat) (hi : i < L.length) : (marked M L)[i]? = some L[i] := by
  unfold marked
  rw [List.getElem?_append_left hi, List.getElem?_eq_getElem hi]
theorem marked_pastL {α : Type} {M : α} {L : List α} (i : Nat) (hi : L.length ≤ i) (h8 : i < L.length + 8) : (marked M L)[i]? = some M := by
  unfold marked
  rw [List.getElem?_append_right hi, List.getElem?_replicate, if_pos (by omega)]
theorem LsOk.finL {α : Type} {vals : α → List Value} {M : α} {kk k : Nat} {W : World} {L : List α} {s : Sl} (hk : ∀ x, (vals x).length = k) (h : LsOk vals M kk W L s) : FIn k vals W.heap.size W s.a L := by
  obtain ⟨g, rfl, _, hA⟩ := h
  intro i hi
  refine ⟨g, 0, rfl, hA.1, hA.1, fun j hj => ?_⟩
  have hj' : j < (vals L[i]).length := by rw [hk]; exact hj
  rw [List.getElem?_eq_getElem hj', Nat.zero_add]
  exact elem_atL hk hA i _ (marked_atL i hi) j _ (List.getElem?_eq_getElem hj')
theorem LsOk.linL {M : Ins} {kk : Nat} {W : World} {L : List Ins} {s : Sl} (h : LsOk Ins.vals M kk W L s) : LIn W.heap.size W s.a L := by
  obtain ⟨g, rfl, _, hA⟩ := h
  intro i hi
  have q := elem_atL (k := 5) (fun _ => rfl) hA i _ (marked_atL i hi)
  refine ⟨g, 0, rfl, hA.1, hA.1, ?_⟩
  rw [Nat.zero_add]
  exact ⟨q 0 _ rfl, q 1 _ rfl, q 2 _ rfl, q 3 _ rfl, q 4 _ rfl⟩
theorem LsOk.lenL {α : Type} {vals : α → List Value} {M : α} {kk : Nat} {W : World} {L : List α} {s : Sl} (h : LsOk vals M kk W L s) : s.l = L.length := by
  obtain ⟨g, rfl, _, _⟩ := h
  rfl
theorem LeIn.img {kk kr kc kg : Nat} {W : World} {m : PImg} {lr : List RgV} {lc : List CpV} {lg : List GtV} (h : LeIn kk kr kc kg W m lr lc lg) : ImgIn W.heap.size W (some ⟨kr, 0, none⟩) (some ⟨kc, 0, none⟩) (some ⟨kg, 0, none⟩) m := by
  refine ⟨fun i hi => ?_, fun i hi => ?_, fun i hi => ?_⟩
  · obtain ⟨v, hv, e1, e2, e3, hok⟩ := (h.rd i (by omega)).1 hi
    have q := elem_atL rg_len h.r i _ hv
    refine ⟨kr, 0, v.s.a, v.s.c, rfl, h.r.1, h.r.1, ?_, ?_, ?_, ?_, hok.finL slt_len⟩
    · rw [Nat.zero_add, ← e1]; exact q 0 _ rfl
    · rw [Nat.zero_add, ← e2]; exact q 1 _ rfl
    · rw [Nat.zero_add, ← e3]; exact q 2 _ rfl
    · rw [Nat.zero_add, ← hok.lenL]; exact q 3 _ rfl
  · obtain ⟨v, hv, hok⟩ := (h.cd i (by omega)).1 hi
    have q := elem_atL cp_len h.c i _ hv
    refine ⟨kc, 0, v.r.a, v.r.c, v.k.a, v.k.c, rfl, h.c.1, h.c.1, ?_, ?_, hok.1.finL rot_len, hok.2.linL⟩
    · rw [Nat.zero_add, ← hok.1.lenL]; exact q 0 _ rfl
    · rw [Nat.zero_add, ← hok.2.lenL]; exact q 1 _ rfl
  · obtain ⟨v, hv, e1, e2, h1, h2⟩ := (h.gd i (by omega)).1 hi
    have q := elem_atL gt_len h.g i _ hv
    refine ⟨kg, 0, v.x.a, v.x.c, v.y.a, v.y.c, rfl, h.g.1, h.g.1, ?_, ?_, ?_, ?_, h1.finL typ_len, h2.finL typ_len⟩
    · rw [Nat.zero_add, ← e1]; exact q 0 _ rfl
    · rw [Nat.zero_add, ← e2]; exact q 1 _ rfl
    · rw [Nat.zero_add, ← h1.lenL]; exact q 2 _ rfl
    · rw [Nat.zero_add, ← h2.lenL]; exact q 3 _ rfl
end Q
end Go.Proofs.YtdmkedpnkejpbaaDoor
