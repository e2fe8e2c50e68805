import Derived.Test.YthblllanofnmmaaP20
import Derived.Test.YthblllanofnmmaaP17
import Derived.Deep.AppendSrc
import Derived.Test.YthblllanofnmmaaP02
import Derived.Deep.MidRow
/-
  Rows of whole lists: what is appended, where it lies.
-/
namespace Go.Proofs.Ythblllanofnmmaa
open Go.RowKit

theorem flatten_get {k : Nat} : ∀ {css : List (List Value)}, (∀ cs ∈ css, cs.length = k) → ∀ (i j : Nat) (cs : List Value), css[i]? = some cs → j < k → css.flatten[i * k + j]? = cs[j]?
  | [], _, i, _, cs, h, _ => by simp at h
  | c :: css, hl, 0, j, cs, h, hj => by
    obtain rfl : c = cs := by simpa using h
    have := hl c (by simp)
    rw [List.flatten_cons, Nat.zero_mul, Nat.zero_add, List.getElem?_append_left (by omega)]
  | c :: css, hl, i + 1, j, cs, h, hj => by
    have hc := hl c (by simp)
    rw [List.flatten_cons, List.getElem?_append_right (by rw [hc, Nat.succ_mul]; omega)]
    have e : (i + 1) * k + j - c.length = i * k + j := by rw [hc, Nat.succ_mul]; omega
    rw [e]
    exact flatten_get (fun x hx => hl x (by simp [hx])) i j cs (by simpa using h) hj
theorem flatMap_get {α : Type} {k : Nat} {vals : α → List Value} (hv : ∀ x, (vals x).length = k) (L : List α) (i j : Nat) (hi : i < L.length) (hj : j < k) : (L.flatMap vals)[i * k + j]? = (vals L[i])[j]? := by
  rw [List.flatMap_def]
  refine flatten_get (k := k) ?_ i j (vals L[i]) (by simp [hi]) hj
  intro cs h
  obtain ⟨x, _, rfl⟩ := List.mem_map.1 h
  exact hv x
theorem row_cell {w : World} {base e size g c n : Nat} {xs : List Value} (h : w.ownsRow base e size (.slice (some ⟨g, 0, none⟩) n c) n xs) (j : Nat) (v : Value) (hj : xs[j]? = some v) : w.cell? ⟨g, j, none⟩ = some v := by
  have hc := World.ownsRow.cells h (g := g) rfl j v hj
  have ea : (⟨g, 0, none⟩ : Addr).add j = ⟨g, j, none⟩ := by by_cases h0 : j = 0 <;> simp [Addr.add, h0]
  rwa [ea] at hc
theorem own_at {w : World} {base e size n c : Nat} {a : Option Addr} {xs : List Value} (h : w.ownsRow base e size (.slice a n c) n xs) (hn : 0 < n) : ∃ g, a = some ⟨g, 0, none⟩ ∧ base ≤ g ∧ g < w.heap.size := by
  have hb := own_block h
  rcases h.2 with ⟨e1, h0⟩ | ⟨g, cap, cur, e1, hbg, _⟩
  · omega
  · have e2 : a = some ⟨g, 0, none⟩ := by cases e1; rfl
    subst e2
    exact ⟨g, rfl, hb g rfl⟩
theorem own_cell {w : World} {base e size n c : Nat} {a : Option Addr} {xs : List Value} (h : w.ownsRow base e size (.slice a n c) n xs) {g : Nat} (ha : a = some ⟨g, 0, none⟩) (j : Nat) (v : Value) (hj : xs[j]? = some v) : w.cell? ⟨g, j, none⟩ = some v := by
  subst ha
  exact row_cell h j v hj
theorem own_fin {α : Type} {k : Nat} {vals : α → List Value} (hv : ∀ x, (vals x).length = k) {w : World} {base e c : Nat} {a : Option Addr} {L : List α} (h : w.ownsRow base e k (.slice a L.length c) L.length (L.flatMap vals)) : FIn k vals w.heap.size w a L := fun i hi => by
  obtain ⟨g, rfl, _, hg⟩ := own_at h (by omega)
  refine ⟨g, 0, rfl, hg, hg, fun j hj => ?_⟩
  have e := flatMap_get hv L i j hi hj
  have hs : j < (vals L[i]).length := by rw [hv]; exact hj
  rw [List.getElem?_eq_getElem hs] at e ⊢
  rw [Nat.zero_add]
  exact own_cell h rfl _ _ e
theorem slot_len (x : PSlot) : x.vals.length = 8 := rfl
theorem root_len (x : PRoot) : x.vals.length = 6 := rfl
theorem typ_len (x : PTyp) : x.vals.length = 7 := rfl
theorem infoType : (Try.prog.info? 72).map (fun i => (i.zero, i.size, i.bytes)) = some (some (.agg #[.bool false, .int .u64 0, .int .u64 0, .int .u64 0, .int .u64 0, .int .u8 0, .int .i64 0]), 7, 56) := by kernel_rfl
theorem infoSlot : (Try.prog.info? 74).map (fun i => (i.zero, i.size, i.bytes)) = some (some (.agg #[.bool false, .int .u64 0, .int .u64 0, .int .u64 0, .int .u64 0, .int .u8 0, .int .i64 0, .int .u64 0]), 8, 64) := by kernel_rfl
theorem infoRoot : (Try.prog.info? 148).map (fun i => (i.zero, i.size, i.bytes)) = some (some (.agg #[.int .i64 0, .int .u64 0, .int .u64 0, .int .u64 0, .int .u8 0, .int .i64 0]), 6, 48) := by kernel_rfl
/-- So many things as a row may have. -/
def Fit (n : Nat) : Prop := n * 64 ≤ 140737488355328
def FitB (k n : Nat) : Prop := n * k ≤ 140737488355328
theorem news_fin {α : Type} {k : Nat} {vals : α → List Value} (hv : ∀ x, (vals x).length = k) (hk : 0 < k) {w : World} {B : Nat} {a : Addr} {M : List α} (h : FIn k vals B w (some a) M) : ∀ j u, (M.flatMap vals)[j]? = some u → w.cell? (a.add j) = some u := by
  intro j u hj
  have hlen : (M.flatMap vals).length = M.length * k := by
    clear hj h
    induction M with
    | nil => simp
    | cons x M ih => rw [List.flatMap_cons, List.length_append, ih, hv, List.length_cons, Nat.succ_mul]; omega
  have hjl : j < M.length * k := by
    have := (List.getElem?_eq_some_iff.1 hj).1
    rwa [hlen] at this
  have hq : j / k < M.length := Nat.div_lt_of_lt_mul (by rw [Nat.mul_comm]; exact hjl)
  have hm : j % k < k := Nat.mod_lt _ hk
  obtain ⟨b, off, ha, _, _, hc⟩ := h (j / k) hq
  cases ha
  have ea : (⟨b, off, none⟩ : Addr).add j = ⟨b, off + j, none⟩ := by by_cases h0 : j = 0 <;> simp [Addr.add, h0]
  have hg := flatMap_get hv M (j / k) (j % k) hq hm
  have ej : j / k * k + j % k = j := by rw [Nat.mul_comm]; exact Nat.div_add_mod j k
  rw [ej, hj] at hg
  have := hc (j % k) hm
  rw [Nat.add_assoc, ej] at this
  rw [ea, this, ← hg]
theorem flatMap_len {α : Type} {k : Nat} {vals : α → List Value} (hv : ∀ x, (vals x).length = k) (M : List α) : (M.flatMap vals).length = M.length * k := by
  induction M with
  | nil => simp
  | cons x M ih => rw [List.flatMap_cons, List.length_append, ih, hv, List.length_cons, Nat.succ_mul]; omega
theorem slot_one (x : PSlot) : ∀ u ∈ x.vals, u.oneCell' = true := by
  intro u hu; simp [PSlot.vals, PTyp.vals] at hu; rcases hu with h | h | h | h | h | h | h | h <;> rw [h] <;> rfl
theorem root_one (x : PRoot) : ∀ u ∈ x.vals, u.oneCell' = true := by
  intro u hu; simp [PRoot.vals] at hu; rcases hu with h | h | h | h | h | h <;> rw [h] <;> rfl
theorem typ_one (x : PTyp) : ∀ u ∈ x.vals, u.oneCell' = true := by
  intro u hu; simp [PTyp.vals] at hu; rcases hu with h | h | h | h | h | h | h <;> rw [h] <;> rfl
/-- A whole list, appended to none. -/
theorem wpList_append_all {α : Type} {k : Nat} {vals : α → List Value} (hv : ∀ x, (vals x).length = k) (hk : 0 < k) (h1c : ∀ x, ∀ u ∈ vals x, u.oneCell' = true)
    {ops : Array Oper} {rest : List Oper} {o : Oper} {a : Act} {Q : Exit → Act → World → Prop} {w : World} (hgd : o.guard = none) (s x : Operand) (t e : TypeId) (z : Value) (bytes : Nat)
    (ho : o.op = .call { callee := .builtin .append, args := #[s, x], argTypes := #[t, t] }) (ht : Try.prog.underlying t = some (.slice e))
    (hi : (Try.prog.info? e).map (fun i => (i.zero, i.size, i.bytes)) = some (some z, k, bytes)) (hz : z.cells.size = k) (hby : 0 < bytes)
    (M : List α) (hs : a.eval s = .slice none 0 0) (ax : Option Addr) (c : Nat) (hx : a.eval x = .slice ax M.length c) (B : Nat) (hM : FIn k vals B w ax M) (hlen : FitB bytes M.length)
    (h : ∀ v' w', w'.ownsRow w.heap.size e k v' M.length (M.flatMap vals) → w.grownBy w' none → wpList Try.prog ops Q rest (a.put o.dst v') w') :
    wpList Try.prog ops Q (o :: rest) a w := by
  obtain ⟨i0, hi0, hz0, hz1, hz2⟩ := info_parts hi
  cases ax with
  | none =>
    have hM0 : M = [] := by
      cases M with
      | nil => rfl
      | cons y M =>
        obtain ⟨b, off, e, _⟩ := hM 0 (by simp)
        cases e
    subst hM0
    refine wpList_plain hgd fun K hK => ?_
    have hr : (Builtin.append_ #[t, t] o.type #[.slice none 0 0, .slice none 0 c]).run Try.prog w = .ok (.slice none 0 0) w := by
      simp [Builtin.append_, run_underlying ht, sizeOf, typeInfo, hi0, Builtin.lenOf, Builtin.firstCells]
    unfold Oper.wp execOp
    simp only [ho, resolve, invoke, builtin, Sem.run_bind, Sem.run_pure, Result.andThen_ok, List.map_toArray, List.map_cons, List.map_nil, hs, hx, List.length_nil, hr]
    exact hK _ _ (h (.slice none 0 0) w ⟨by simp, .inl ⟨rfl, rfl⟩⟩ ⟨rfl, rfl, rfl, Nat.le_refl _, fun _ _ _ => rfl⟩)
  | some ad =>
    unfold FitB at hlen
    have hb1 := Nat.le_mul_of_pos_right M.length hby
    have hb : (0 + M.length) * bytes ≤ 140737488355328 := by
      rw [Nat.zero_add]
      exact hlen
    refine wpList_append_own_at _ hgd s x t ho w.heap.size e i0 z k bytes ht hi0 hz0 hz1 hz2 hz hk
      (.slice none 0 0) 0 [] hs ⟨by simp, .inl ⟨rfl, rfl⟩⟩ ad M.length c (M.flatMap vals) hx (flatMap_len hv M) (news_fin hv hk hM) (fun u hu => by
        obtain ⟨y, _, hy⟩ := List.mem_flatMap.1 hu
        exact h1c y u hy) (by unfold maxLen; omega) hb (Nat.le_refl _) ?_
    intro v' w' k1 k2 _ _
    refine h v' w' ?_ k2
    simpa using k1
theorem fitB_of {k n : Nat} (h : Fit n) (hk : k ≤ 64) : FitB k n := by
  unfold Fit at h
  unfold FitB
  exact Nat.le_trans (Nat.mul_le_mul_left _ hk) h
end Go.Proofs.Ythblllanofnmmaa


/-
  Rows of many elements that lie in one block: one element's range, one element written anew. No Go in sight.
-/
namespace Go.Proofs.Ythblllanofnmmaa
open Go.RowKit

/-- A row of elements, 'p' cells ahead of it. -/
def rowV {α : Type} (pre : List Value) (f : α → List Value) (L : List α) : List Value := pre ++ L.flatMap f
theorem flat_len {α : Type} {f : α → List Value} {k : Nat} (hf : ∀ x, (f x).length = k) : ∀ L : List α, (L.flatMap f).length = L.length * k
  | [] => by simp
  | x :: L => by rw [List.flatMap_cons, List.length_append, hf, flat_len hf L, List.length_cons, Nat.add_mul]; omega
theorem flat_at' {α : Type} {f : α → List Value} {k : Nat} (hf : ∀ x, (f x).length = k) : ∀ (L : List α) (i : Nat) (h : i < L.length) (j : Nat), j < k → (L.flatMap f)[i * k + j]? = (f L[i])[j]?
  | x :: L, 0, _, j, hj => by
    rw [List.flatMap_cons, Nat.zero_mul, Nat.zero_add, List.getElem?_append_left (by rw [hf]; exact hj)]
    rfl
  | x :: L, i + 1, h, j, hj => by
    rw [List.flatMap_cons, List.getElem?_append_right (by rw [hf, Nat.add_mul]; omega), hf, show (i + 1) * k + j - k = i * k + j by rw [Nat.add_mul]; omega]
    exact flat_at' hf L i (by simpa using h) j hj
theorem rowv_at {α : Type} {pre : List Value} {f : α → List Value} {k : Nat} (hf : ∀ x, (f x).length = k) (L : List α) (i : Nat) (h : i < L.length) (j : Nat) (hj : j < k) : (rowV pre f L)[pre.length + i * k + j]? = (f L[i])[j]? := by
  unfold rowV
  rw [List.getElem?_append_right (by omega), show pre.length + i * k + j - pre.length = i * k + j by omega]
  exact flat_at' hf L i h j hj
theorem row_len {α : Type} {pre : List Value} {f : α → List Value} {k : Nat} (hf : ∀ x, (f x).length = k) (L : List α) : (rowV pre f L).length = pre.length + L.length * k := by
  unfold rowV; rw [List.length_append, flat_len hf]
theorem At.range {w : World} {b : Nat} {cs : List Value} (h : At w b cs.toArray) : w.rangeAt b 0 cs := fun j v q => by
  rw [Nat.zero_add, h.2.1]; simpa using q
theorem At.elem {α : Type} {pre : List Value} {f : α → List Value} {k : Nat} (hf : ∀ x, (f x).length = k) {w : World} {b : Nat} {L : List α} (h : At w b (rowV pre f L).toArray) (i : Nat) (hi : i < L.length) (o : Nat) (ho : o = pre.length + i * k) : w.rangeAt b o (f L[i]) := fun j v q => by
  have hj : j < k := by have := (List.getElem?_eq_some_iff.1 q).1; rwa [hf] at this
  rw [h.2.1, List.getElem?_toArray, ho, rowv_at hf L i hi j hj]
  exact q
theorem At.there {w : World} {b : Nat} {cs : List Value} (h : At w b cs.toArray) (o n : Nat) (hn : o + n ≤ cs.length) : w.there b o n := fun j hj => by
  refine ⟨?_, h.2.2 _⟩
  rw [h.2.1, List.getElem?_toArray, List.getElem?_eq_getElem (by omega)]
  rfl
theorem setCells_size (b : Nat) : ∀ (vs : List Value) (o : Nat) (w : World), (w.setCells b o vs).heap.size = w.heap.size
  | [], _, _ => rfl
  | v :: r, o, w => by rw [World.setCells, setCells_size b r]; simp
theorem At.setRange {w : World} {b : Nat} {cs ds : List Value} (h : At w b cs.toArray) (o : Nat) (vs : List Value) (_hl : ds.length = cs.length) (ho : o + vs.length ≤ cs.length)
    (hin : ∀ j, j < vs.length → ds[o + j]? = vs[j]?) (hout : ∀ i, i < o ∨ o + vs.length ≤ i → ds[i]? = cs[i]?) : At (w.setCells b o vs) b ds.toArray := by
  refine ⟨by rw [setCells_size]; exact h.1, fun i => ?_, fun i => by rw [World.frozen?_setCells]; exact h.2.2 i⟩
  rw [List.getElem?_toArray]
  by_cases q : o ≤ i ∧ i < o + vs.length
  · have e : i = o + (i - o) := by omega
    rw [e, World.cell?_setCells_in b vs o w (fun j hj => (h.there o vs.length ho j hj).1) (i - o) (by omega), hin _ (by omega), List.getElem?_eq_getElem (by omega)]
  · rw [World.cell?_setCells_out b vs o w ⟨b, i, none⟩ (fun _ _ => by show i < o ∨ o + vs.length ≤ i; omega), h.2.1, List.getElem?_toArray, hout i (by omega)]
theorem At.setAll {w : World} {b : Nat} {cs : List Value} (h : At w b cs.toArray) (vs : List Value) (hl : vs.length = cs.length) : At (w.setCells b 0 vs) b vs.toArray :=
  h.setRange 0 vs hl (by omega) (fun j _ => by rw [Nat.zero_add]) (fun i q => by rw [List.getElem?_eq_none (by omega), List.getElem?_eq_none (by omega)])
theorem At.other {w : World} {b b' : Nat} {cs : Array Value} (h : At w b cs) (hne : b ≠ b') (o : Nat) (vs : List Value) : At (w.setCells b' o vs) b cs :=
  ⟨by rw [setCells_size]; exact h.1, fun i => by rw [World.cell?_setCells_out b' vs o w ⟨b, i, none⟩ (fun e _ => absurd e hne)]; exact h.2.1 i, fun i => by rw [World.frozen?_setCells]; exact h.2.2 i⟩
theorem Gr.setCells {w W : World} (h : Gr w W) (b : Nat) (hb : w.heap.size ≤ b) : ∀ (vs : List Value) (o : Nat), Gr w (W.setCells b o vs) := fun vs => by
  induction vs generalizing W with
  | nil => exact fun _ => h
  | cons v r ih => exact fun o => ih (h.setCell b o v hb) (o + 1)
theorem At.setElem {α : Type} {pre : List Value} {f : α → List Value} {k : Nat} (hf : ∀ x, (f x).length = k) {w : World} {b : Nat} {L : List α} (h : At w b (rowV pre f L).toArray) (i : Nat) (hi : i < L.length) (x : α) (o : Nat) (ho : o = pre.length + i * k) : At (w.setCells b o (f x)) b (rowV pre f (L.set i x)).toArray := by
  have e1 := row_len (pre := pre) hf L
  have e2 := row_len (pre := pre) hf (L.set i x)
  rw [List.length_set] at e2
  have hk : i * k + k ≤ L.length * k := by
    have : (i + 1) * k ≤ L.length * k := Nat.mul_le_mul_right k hi
    rw [Nat.add_mul] at this; omega
  refine h.setRange o (f x) (by omega) (by rw [hf]; omega) (fun j hj => ?_) (fun n hn => ?_)
  · rw [hf] at hj
    rw [ho, rowv_at hf (L.set i x) i (by simpa using hi) j hj]
    simp
  · rw [hf] at hn
    by_cases q : n < pre.length
    · unfold rowV
      rw [List.getElem?_append_left q, List.getElem?_append_left q]
    · by_cases q2 : n < pre.length + L.length * k
      · have hk0 : 0 < k := by
          rcases Nat.eq_zero_or_pos k with h0 | h0
          · subst h0; simp at q2; omega
          · exact h0
        have en : n = pre.length + (n - pre.length) / k * k + (n - pre.length) % k := by
          have := Nat.div_add_mod (n - pre.length) k
          rw [Nat.mul_comm] at this
          omega
        have hd : (n - pre.length) / k < L.length := by
          rw [Nat.div_lt_iff_lt_mul hk0]; omega
        have hm := Nat.mod_lt (n - pre.length) hk0
        have hne : i ≠ (n - pre.length) / k := by
          intro e
          rw [← e] at en
          omega
        rw [en, rowv_at hf (L.set i x) _ (by simpa using hd) _ hm, rowv_at hf L _ hd _ hm, List.getElem_set_ne hne]
      · rw [List.getElem?_eq_none (by omega), List.getElem?_eq_none (by omega)]
theorem At.new' (w : World) (cs : List Value) (t : TypeId) {k : Nat} (h : w.heap.size = k) : At (w.alloc (.cells cs.toArray t)) k cs.toArray := At.at_ w _ t h
end Go.Proofs.Ythblllanofnmmaa
