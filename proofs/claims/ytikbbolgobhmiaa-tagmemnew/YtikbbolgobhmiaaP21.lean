import Derived.Test.YtikbbolgobhmiaaP02
import Derived.Deep.MidRow
import Derived.Test.YtikbbolgobhmiaaTNewA
import Derived.Test.YtikbbolgobhmiaaP20
import Derived.Deep.AppendLies
/-
  Rows of many elements that lie in one block: one element's range, one element written anew. No Go in sight.
-/
namespace Go.Proofs.Ytikbbolgobhmiaa
open Go.RowKit

/-- A row of elements, 'p' cells ahead of it. -/
def rowV {α : Type} (pre : List Value) (f : α → List Value) (L : List α) : List Value := pre ++ L.flatMap f
theorem flat_len {α : Type} {f : α → List Value} {k : Nat} (hf : ∀ x, (f x).length = k) : ∀ L : List α, (L.flatMap f).length = L.length * k
  | [] => by simp
  | x :: L => by rw [List.flatMap_cons, List.length_append, hf, flat_len hf L, List.length_cons, Nat.add_mul]; omega
theorem flat_at' {α : Type} {f : α → List Value} {k : Nat} (hf : ∀ x, (f x).length = k) : ∀ (L : List α) (i : Nat) (h : i < L.length) (j : Nat), j < k → (L.flatMap f)[i * k + j]? = (f L[i])[j]?
  | x :: L, 0, _, j, hj => by
    rw [List.flatMap_cons, Nat.zero_mul, Nat.zero_add, List.getElem?_append_left (by rw [hf]; exact hj)]
    rfl
  | x :: L, i + 1, h, j, hj => by
    rw [List.flatMap_cons, List.getElem?_append_right (by rw [hf, Nat.add_mul]; omega), hf, show (i + 1) * k + j - k = i * k + j by rw [Nat.add_mul]; omega]
    exact flat_at' hf L i (by simpa using h) j hj
theorem rowv_at {α : Type} {pre : List Value} {f : α → List Value} {k : Nat} (hf : ∀ x, (f x).length = k) (L : List α) (i : Nat) (h : i < L.length) (j : Nat) (hj : j < k) : (rowV pre f L)[pre.length + i * k + j]? = (f L[i])[j]? := by
  unfold rowV
  rw [List.getElem?_append_right (by omega), show pre.length + i * k + j - pre.length = i * k + j by omega]
  exact flat_at' hf L i h j hj
theorem row_len {α : Type} {pre : List Value} {f : α → List Value} {k : Nat} (hf : ∀ x, (f x).length = k) (L : List α) : (rowV pre f L).length = pre.length + L.length * k := by
  unfold rowV; rw [List.length_append, flat_len hf]
theorem At.range {w : World} {b : Nat} {cs : List Value} (h : At w b cs.toArray) : w.rangeAt b 0 cs := fun j v q => by
  rw [Nat.zero_add, h.2.1]; simpa using q
theorem At.elem {α : Type} {pre : List Value} {f : α → List Value} {k : Nat} (hf : ∀ x, (f x).length = k) {w : World} {b : Nat} {L : List α} (h : At w b (rowV pre f L).toArray) (i : Nat) (hi : i < L.length) (o : Nat) (ho : o = pre.length + i * k) : w.rangeAt b o (f L[i]) := fun j v q => by
  have hj : j < k := by have := (List.getElem?_eq_some_iff.1 q).1; rwa [hf] at this
  rw [h.2.1, List.getElem?_toArray, ho, rowv_at hf L i hi j hj]
  exact q
theorem At.there {w : World} {b : Nat} {cs : List Value} (h : At w b cs.toArray) (o n : Nat) (hn : o + n ≤ cs.length) : w.there b o n := fun j hj => by
  refine ⟨?_, h.2.2 _⟩
  rw [h.2.1, List.getElem?_toArray, List.getElem?_eq_getElem (by omega)]
  rfl
theorem setCells_size (b : Nat) : ∀ (vs : List Value) (o : Nat) (w : World), (w.setCells b o vs).heap.size = w.heap.size
  | [], _, _ => rfl
  | v :: r, o, w => by rw [World.setCells, setCells_size b r]; simp
theorem At.setRange {w : World} {b : Nat} {cs ds : List Value} (h : At w b cs.toArray) (o : Nat) (vs : List Value) (_hl : ds.length = cs.length) (ho : o + vs.length ≤ cs.length)
    (hin : ∀ j, j < vs.length → ds[o + j]? = vs[j]?) (hout : ∀ i, i < o ∨ o + vs.length ≤ i → ds[i]? = cs[i]?) : At (w.setCells b o vs) b ds.toArray := by
  refine ⟨by rw [setCells_size]; exact h.1, fun i => ?_, fun i => by rw [World.frozen?_setCells]; exact h.2.2 i⟩
  rw [List.getElem?_toArray]
  by_cases q : o ≤ i ∧ i < o + vs.length
  · have e : i = o + (i - o) := by omega
    rw [e, World.cell?_setCells_in b vs o w (fun j hj => (h.there o vs.length ho j hj).1) (i - o) (by omega), hin _ (by omega), List.getElem?_eq_getElem (by omega)]
  · rw [World.cell?_setCells_out b vs o w ⟨b, i, none⟩ (fun _ _ => by show i < o ∨ o + vs.length ≤ i; omega), h.2.1, List.getElem?_toArray, hout i (by omega)]
theorem At.setAll {w : World} {b : Nat} {cs : List Value} (h : At w b cs.toArray) (vs : List Value) (hl : vs.length = cs.length) : At (w.setCells b 0 vs) b vs.toArray :=
  h.setRange 0 vs hl (by omega) (fun j _ => by rw [Nat.zero_add]) (fun i q => by rw [List.getElem?_eq_none (by omega), List.getElem?_eq_none (by omega)])
theorem At.other {w : World} {b b' : Nat} {cs : Array Value} (h : At w b cs) (hne : b ≠ b') (o : Nat) (vs : List Value) : At (w.setCells b' o vs) b cs :=
  ⟨by rw [setCells_size]; exact h.1, fun i => by rw [World.cell?_setCells_out b' vs o w ⟨b, i, none⟩ (fun e _ => absurd e hne)]; exact h.2.1 i, fun i => by rw [World.frozen?_setCells]; exact h.2.2 i⟩
theorem Gr.setCells {w W : World} (h : Gr w W) (b : Nat) (hb : w.heap.size ≤ b) : ∀ (vs : List Value) (o : Nat), Gr w (W.setCells b o vs) := fun vs => by
  induction vs generalizing W with
  | nil => exact fun _ => h
  | cons v r ih => exact fun o => ih (h.setCell b o v hb) (o + 1)
theorem At.setElem {α : Type} {pre : List Value} {f : α → List Value} {k : Nat} (hf : ∀ x, (f x).length = k) {w : World} {b : Nat} {L : List α} (h : At w b (rowV pre f L).toArray) (i : Nat) (hi : i < L.length) (x : α) (o : Nat) (ho : o = pre.length + i * k) : At (w.setCells b o (f x)) b (rowV pre f (L.set i x)).toArray := by
  have e1 := row_len (pre := pre) hf L
  have e2 := row_len (pre := pre) hf (L.set i x)
  rw [List.length_set] at e2
  have hk : i * k + k ≤ L.length * k := by
    have : (i + 1) * k ≤ L.length * k := Nat.mul_le_mul_right k hi
    rw [Nat.add_mul] at this; omega
  refine h.setRange o (f x) (by omega) (by rw [hf]; omega) (fun j hj => ?_) (fun n hn => ?_)
  · rw [hf] at hj
    rw [ho, rowv_at hf (L.set i x) i (by simpa using hi) j hj]
    simp
  · rw [hf] at hn
    by_cases q : n < pre.length
    · unfold rowV
      rw [List.getElem?_append_left q, List.getElem?_append_left q]
    · by_cases q2 : n < pre.length + L.length * k
      · have hk0 : 0 < k := by
          rcases Nat.eq_zero_or_pos k with h0 | h0
          · subst h0; simp at q2; omega
          · exact h0
        have en : n = pre.length + (n - pre.length) / k * k + (n - pre.length) % k := by
          have := Nat.div_add_mod (n - pre.length) k
          rw [Nat.mul_comm] at this
          omega
        have hd : (n - pre.length) / k < L.length := by
          rw [Nat.div_lt_iff_lt_mul hk0]; omega
        have hm := Nat.mod_lt (n - pre.length) hk0
        have hne : i ≠ (n - pre.length) / k := by
          intro e
          rw [← e] at en
          omega
        rw [en, rowv_at hf (L.set i x) _ (by simpa using hd) _ hm, rowv_at hf L _ hd _ hm, List.getElem_set_ne hne]
      · rw [List.getElem?_eq_none (by omega), List.getElem?_eq_none (by omega)]
theorem At.new' (w : World) (cs : List Value) (t : TypeId) {k : Nat} (h : w.heap.size = k) : At (w.alloc (.cells cs.toArray t)) k cs.toArray := At.at_ w _ t h
end Go.Proofs.Ytikbbolgobhmiaa


/-
  Stage 6, tagmem: regions that are lent: where they lie.
-/
namespace Go.Proofs.Ytikbbolgobhmiaa
namespace T
open Go.RowKit

/-- A region that is lent, and where its slots lie. -/
structure Zr where
  r : Rg
  g : Nat
  c : Nat
def s77 : Sl := ⟨false, 0, 0, 0, 0, 0, 0, 77⟩
def s5 : Sl := ⟨false, 0, 0, 0, 0, 0, 0, 5⟩
def Zr.reg (z : Zr) : List Value := [.int .u64 z.r.b, .int .u64 z.r.n, .string (str z.r.data), .slice (some ⟨z.g, 0, none⟩) z.r.slots.length z.c]
def Zr.row (z : Zr) : List Value := [.slice (some ⟨z.g, 0, none⟩) (z.r.slots.length + 6) z.c]
def m77 : List Value := [.int .u64 77, .int .u64 0, .string (str []), .slice none 0 0]
def slR (lo : Nat) (W : World) (v : Value) (L : List Sl) : Prop := W.ownsRow lo 45 8 v L.length (L.flatMap Sl.vals)
def Zr.val (z : Zr) : Value := .slice (some ⟨z.g, 0, none⟩) (z.r.slots.length + 6) z.c
def Zr.own (lo : Nat) (W : World) (z : Zr) : Prop := slR lo W z.val (z.r.slots ++ List.replicate 6 s77)
def mks (k : Nat) : List Value := (List.replicate k m77).flatten
structure LtIn (lo : Nat) (W : World) (av rv : Value) (Z : List Zr) (k : Nat) : Prop where
  all : W.ownsRow lo 40 4 av (Z.length + k) (Z.flatMap Zr.reg ++ mks k)
  rows : W.ownsRow lo 38 1 rv Z.length (Z.flatMap Zr.row)
  sl : ∀ z ∈ Z, z.own lo W
  ne : Z.Pairwise (fun a b => a.g ≠ b.g)
theorem sl_len (x : Sl) : x.vals.length = 8 := rfl
theorem sl_one (x : Sl) : ∀ u ∈ x.vals, u.oneCell' = true := by
  intro u hu
  simp only [Sl.vals, List.mem_cons, List.not_mem_nil, or_false] at hu
  rcases hu with rfl | rfl | rfl | rfl | rfl | rfl | rfl | rfl <;> rfl
theorem ein_fin {w : World} {a : Option Addr} {L : List Sl} (h : EIn 8 Sl.vals w a L) : FIn 8 Sl.vals w.heap.size w a L := fun i hi => by
  obtain ⟨b, off, e, hb, hc⟩ := h i hi
  refine ⟨b, off, e, hb, hb, fun j hj => ?_⟩
  have hs : j < (Sl.vals L[i]).length := hj
  rw [List.getElem?_eq_getElem hs]
  exact hc j _ (List.getElem?_eq_getElem hs)
theorem fin_ein {w : World} {a : Option Addr} {B : Nat} {L : List Sl} (h : FIn 8 Sl.vals B w a L) : EIn 8 Sl.vals w a L := fun i hi => by
  obtain ⟨b, off, e, _, hb, hc⟩ := h i hi
  refine ⟨b, off, e, hb, fun j v q => ?_⟩
  have hj : j < 8 := (List.getElem?_eq_some_iff.1 q).1
  rw [hc j hj]
  exact q
/-- One element more onto an own row. -/
theorem wpList_append_t {ops : Array Oper} {rest : List Oper} {o : Oper} {a : Act} {Q : Exit → Act → World → Prop} {w : World} (hgd : o.guard = none) (s x : Operand) (t e : TypeId) (z : Value) (size bytes : Nat)
    (ho : o.op = .call { callee := .builtin .append, args := #[s, x], argTypes := #[t, t] }) (ht : Try.prog.underlying t = some (.slice e))
    (hi : (Try.prog.info? e).map (fun i => (i.zero, i.size, i.bytes)) = some (some z, size, bytes)) (hz : z.cells.size = size) (hsz : 0 < size) (hby : 0 < bytes)
    (base : Nat) (v : Value) (n : Nat) (xs cs : List Value) (hs : a.eval s = v) (hown : w.ownsRow base e size v n xs) (X : Nat) (hx : a.eval x = .slice (some ⟨X, 0, none⟩) 1 1) (hX : At w X cs.toArray) (hc : cs.length = size) (h1 : ∀ u ∈ cs, u.oneCell' = true)
    (hlen : FitB bytes (n + 1)) (hbase : base ≤ w.heap.size)
    (h : ∀ g cap w', w'.ownsRow base e size (.slice (some ⟨g, 0, none⟩) (n + 1) cap) (n + 1) (xs ++ cs) → w.grownBy w' v.ownBlock → (v.ownBlock = some g ∨ g = w.heap.size) → wpList Try.prog ops Q rest (a.put o.dst (.slice (some ⟨g, 0, none⟩) (n + 1) cap)) w') :
    wpList Try.prog ops Q (o :: rest) a w := by
  obtain ⟨i0, hi0, hz0, hz1, hz2⟩ := Go.Proofs.Ytikbbolgobhmiaa.info_parts hi
  unfold FitB at hlen
  have hb1 := Nat.le_mul_of_pos_right (n + 1) hby
  refine wpList_append_lies _ hgd s x t ho base e i0 z size bytes ht hi0 hz0 hz1 hz2 hz hsz v n xs hs hown ⟨X, 0, none⟩ 1 1 cs hx (by omega) (news_at hX) h1 (by decide) (by unfold maxLen; omega) hlen hbase _ rfl ?_
  intro g cap w' k1 k2 k3 _
  exact h g cap w' k1 k2 k3
theorem own_gro {w w1 : World} {base e size n : Nat} {v : Value} {xs : List Value} {row : Option Nat} (h : w.ownsRow base e size v n xs) (hg : w.grownBy w1 row) (hne : ∀ g, v.ownBlock = some g → row ≠ some g) : w1.ownsRow base e size v n xs := own_grown h hg hne
theorem own_part {w : World} {l e s n l' e' s' n' g : Nat} {v v' : Value} {xs xs' : List Value} (h : w.ownsRow l e s v n xs) (h' : w.ownsRow l' e' s' v' n' xs') (ne : e ≠ e') (q : v.ownBlock = some g) : v'.ownBlock ≠ some g := by
  intro q'
  rcases h.2 with ⟨rfl, _⟩ | ⟨g1, cap, cur, rfl, _, hg, _⟩
  · cases q
  · rcases h'.2 with ⟨rfl, _⟩ | ⟨g2, cap', cur', rfl, _, hg', _⟩
    · cases q'
    · obtain rfl : g1 = g := by simpa [Value.ownBlock] using q
      obtain rfl : g2 = g1 := by simpa [Value.ownBlock] using q'
      rw [hg] at hg'
      cases hg'
      exact ne rfl
theorem LtIn.below {lo : Nat} {W W' : World} {av rv : Value} {Z : List Zr} {k : Nat} (h : LtIn lo W av rv Z k) (g : Below W.heap.size W W') : LtIn lo W' av rv Z k :=
  ⟨own_below h.all g, own_below h.rows g, fun z hz => own_below (h.sl z hz) g, h.ne⟩
theorem slR.lower {lo lo' : Nat} {W : World} {v : Value} {L : List Sl} (h : slR lo W v L) (hl : lo' ≤ lo) : slR lo' W v L := by
  refine ⟨h.1, ?_⟩
  rcases h.2 with q | ⟨g, cap, cur, e1, hb, r⟩
  · exact .inl q
  · exact .inr ⟨g, cap, cur, e1, Nat.le_trans hl hb, r⟩
end T
end Go.Proofs.Ytikbbolgobhmiaa
