import Derived.Test.YtdmkedpnkejpbaaDoorP07
import Derived.Test.YtdmkedpnkejpbaaDoorP43
import Derived.Laws.MakeOwn
import Derived.Laws.IdiomCopy
import Derived.BigFrame
/-
  Twins of programs: rows made and copied, elements of any size. No Go in sight.
-/
namespace Go.Proofs.YtdmkedpnkejpbaaDoor
namespace Q
open Go.RowKit

theorem made_k {α : Type} {vals : α → List Value} {k : Nat} (hk : 0 < k) (hv : ∀ x, (vals x).length = k) (Z : α) (n : Nat) : madeCells (vals Z).toArray (n * k) = (rowV [] vals (List.replicate n Z)).toArray := by
  apply Array.ext_getElem?
  intro i
  have e : (rowV [] vals (List.replicate n Z)).toArray[i]? = (rowV [] vals (List.replicate n Z))[i]? := by simp
  rw [e]
  have hl := row_len (pre := []) hv (List.replicate n Z)
  rw [List.length_replicate] at hl
  by_cases h : i < n * k
  · have hd : i / k < n := by rw [Nat.div_lt_iff_lt_mul hk]; exact h
    have hm := Nat.mod_lt i hk
    have ei : i = ([] : List Value).length + i / k * k + i % k := by
      have := Nat.div_add_mod i k
      rw [Nat.mul_comm] at this
      simp; omega
    have r := rowv_at (pre := []) hv (List.replicate n Z) (i / k) (by simpa using hd) (i % k) hm
    rw [← ei] at r
    rw [r]
    have hz : i % k < (vals Z).length := by rw [hv]; exact hm
    simp [madeCells, h, hv]
    rw [List.getElem?_eq_getElem hz]
    rfl
  · rw [Array.getElem?_eq_none (by rw [size_madeCells]; omega), List.getElem?_eq_none (by rw [hl]; simp; omega)]
theorem info_partsQ {t : TypeId} {z : Value} {s b : Nat} (h : (Tryd.prog.info? t).map (fun i => (i.zero, i.size, i.bytes)) = some (some z, s, b)) :
    ∃ i, Tryd.prog.info? t = some i ∧ i.zero = some z ∧ i.size = s ∧ i.bytes = b := by
  obtain ⟨i, hi, he⟩ := Option.map_eq_some_iff.1 h
  simp only [Prod.mk.injEq] at he
  exact ⟨i, hi, he.1, he.2.1, he.2.2⟩
theorem make_k {α : Type} {vals : α → List Value} {t e : TypeId} {k b : Nat} {Z : α} (hk : 0 < k) (hv : ∀ x, (vals x).length = k) (ht : Tryd.prog.underlying t = some (.slice e))
    (hi : (Tryd.prog.info? e).map (fun i => (i.zero, i.size, i.bytes)) = some (some (.agg (vals Z).toArray), k, b)) (n : Nat) (hn : n ≤ 4611686018427387904) (hb : b * n ≤ 281474976710656) (w : World) :
    (Instr.makeSlice t (.int .i64 n) (.int .i64 n)).run Tryd.prog w = .ok (.slice (some ⟨w.heap.size, 0, none⟩) n n) (w.alloc (.cells (rowV [] vals (List.replicate n Z)).toArray e)) := by
  obtain ⟨i0, hi0, hz0, hz1, hz2⟩ := info_partsQ hi
  have hbb : (i0.bytes : Int) * (n : Int) ≤ 281474976710656 := by
    rw [hz2]
    have h : ((b * n : Nat) : Int) ≤ 281474976710656 := by omega
    rwa [Int.natCast_mul] at h
  have h := run_make (P := Tryd.prog) w t e i0 _ ht hi0 hz0 .i64 .i64 n n (by omega) (by omega) hbb (by omega)
  rw [hz1, Int.toNat_natCast, show (Value.agg (vals Z).toArray).cells = (vals Z).toArray from rfl, made_k hk hv] at h
  exact h
theorem run_copy_none {P : Program} (w : World) (dT sT ty elem : TypeId) (k : Nat) (d : Addr) (dLen dCap sCap : Nat) (hu : P.underlying dT = some (.slice elem)) (hs : (P.info? elem).map (·.size) = some k) :
    (Builtin.copy_ #[dT, sT] ty #[.slice (some d) dLen dCap, .slice none 0 sCap]).run P w = .ok (goInt 0) w := by
  cases hq : P.info? elem with
  | none => simp [hq] at hs
  | some i => simp [Builtin.copy_, run_underlying hu, Builtin.lenOf, Builtin.firstCells, sizeOf, typeInfo, hq, storeCells]
theorem run_copy_q {P : Program} (w : World) (dT sT ty elem : TypeId) (k b o dLen dCap : Nat) (a : Addr) (sLen sCap : Nat) (cs : List Value)
    (hu : P.underlying dT = some (.slice elem)) (hs : (P.info? elem).map (·.size) = some k) (hn : cs.length = Nat.min sLen dLen * k)
    (hsrc : ∀ j v, cs[j]? = some v → w.cell? (a.add j) = some v) (hc : ∀ j, j < cs.length → (w.cell? ⟨b, o + j, none⟩).isSome = true) (hf : ∀ j, j < cs.length → w.frozen? ⟨b, o + j, none⟩ = false) (h1 : ∀ v ∈ cs, v.oneCell' = true) :
    (Builtin.copy_ #[dT, sT] ty #[.slice (some ⟨b, o, none⟩) dLen dCap, .slice (some a) sLen sCap]).run P w = .ok (goInt (Nat.min sLen dLen)) (w.setCells b o cs) := by
  have hl := run_loadCells_list (P := P) w a cs hsrc
  have hst := run_storeCells_cells (P := P) b o cs 0 w (by simpa using hc) (by simpa using hf) h1
  cases hq : P.info? elem with
  | none => simp [hq] at hs
  | some i =>
    have hi : i.size = k := by simpa [hq] using hs
    simp [Builtin.copy_, run_underlying hu, Builtin.lenOf, Builtin.firstCells, sizeOf, typeInfo, hq, hi, ← hn, hl, hst]
theorem addr_addQ (b o j : Nat) : (⟨b, o, none⟩ : Addr).add j = ⟨b, o + j, none⟩ := by unfold Addr.add; split <;> simp_all
/-- A list copied to the head of a row. -/
theorem copy_rows {α : Type} {vals : α → List Value} {k : Nat} (hk : 0 < k) (hv : ∀ x, (vals x).length = k) (h1 : ∀ x, ∀ v ∈ vals x, v.oneCell' = true) {w : World} {B g : Nat} {l L : List α} {a : Option Addr} {c : Nat} {t e : TypeId} (ty : TypeId) (ht : Tryd.prog.underlying t = some (.slice e)) (hi : (Tryd.prog.info? e).map (·.size) = some k)
    (h : At w g (rowV [] vals l).toArray) (hL : FIn k vals B w a L) (hl : L.length ≤ l.length) :
    (Builtin.copy_ #[t, t] ty #[.slice (some ⟨g, 0, none⟩) l.length l.length, .slice a L.length c]).run Tryd.prog w = .ok (goInt L.length) (w.setCells g 0 (L.flatMap vals)) ∧ At (w.setCells g 0 (L.flatMap vals)) g (rowV [] vals (L ++ l.drop L.length)).toArray := by
  have e1 := flat_len hv L
  have e2 := row_len (pre := []) hv l
  have e3 := row_len (pre := []) hv (L ++ l.drop L.length)
  have hle : L.length * k ≤ l.length * k := Nat.mul_le_mul_right k hl
  constructor
  · cases a with
    | none =>
      have e0 : L = [] := by
        cases L with
        | nil => rfl
        | cons x L => obtain ⟨b, off, q, _⟩ := hL 0 (by simp); cases q
      subst e0
      exact run_copy_none w t t ty e k _ _ _ _ ht hi
    | some ad =>
      have hmin : Nat.min L.length l.length = L.length := Nat.min_eq_left hl
      have := run_copy_q (P := Tryd.prog) w t t ty e k g 0 l.length l.length ad L.length c (L.flatMap vals) ht hi (by rw [hmin]; exact e1) (fun j v hj => ?_) (fun j hj => ?_) (fun j hj => h.2.2 _) (fun v hv' => ?_)
      · rw [hmin] at this
        exact this
      · have hjl : j < L.length * k := by rw [← e1]; exact (List.getElem?_eq_some_iff.1 hj).1
        have hd : j / k < L.length := by rw [Nat.div_lt_iff_lt_mul hk]; exact hjl
        have hm := Nat.mod_lt j hk
        obtain ⟨b, off, q, _, _, hc⟩ := hL (j / k) hd
        cases q
        have ej : j = j / k * k + j % k := by
          have := Nat.div_add_mod j k
          rw [Nat.mul_comm] at this
          omega
        have r := flat_at' hv L (j / k) hd (j % k) hm
        rw [← ej, hj] at r
        rw [addr_addQ, show off + j = off + j / k * k + j % k by omega, hc _ hm, ← r]
      · rw [h.2.1, List.getElem?_toArray, List.getElem?_eq_getElem (by omega)]
        rfl
      · obtain ⟨x, _, hx⟩ := List.mem_flatMap.1 hv'
        exact h1 x v hx
  · refine h.setRange 0 (L.flatMap vals) ?_ (by omega) (fun j hj => ?_) (fun i hi => ?_)
    · rw [e3, e2, List.length_append, List.length_drop, show L.length + (l.length - L.length) = l.length by omega]
    · unfold rowV
      rw [Nat.zero_add, List.nil_append, List.flatMap_append, List.getElem?_append_left hj]
    · have hi' : L.length * k ≤ i := by omega
      unfold rowV
      rw [List.nil_append, List.nil_append, List.flatMap_append, List.getElem?_append_right (by omega)]
      have es : l.flatMap vals = (l.take L.length).flatMap vals ++ (l.drop L.length).flatMap vals := by rw [← List.flatMap_append, List.take_append_drop]
      have et := flat_len hv (l.take L.length)
      rw [List.length_take, Nat.min_eq_left hl] at et
      rw [es, List.getElem?_append_right (by omega), et, e1]
/-- A row while marks are laid. -/
structure Mk {α : Type} (vals : α → List Value) (M : α) (w : World) (g n j : Nat) (l : List α) (wr : World) : Prop where
  len : l.length = n
  at_ : At wr g (rowV [] vals l).toArray
  set : ∀ i, i < j → l[i]? = some M
  gr : Gr w wr
theorem Mk.grow {α : Type} {vals : α → List Value} {M : α} {w : World} {g n j : Nat} {l : List α} {wr wq : World} (h : Mk vals M w g n j l wr) (q : Gr wr wq) : Mk vals M w g n j l wq := ⟨h.len, h.at_.gr q, h.set, h.gr.trans q⟩
theorem Mk.there {α : Type} {vals : α → List Value} {M : α} {w : World} {g n j k : Nat} {l : List α} {wr : World} (hv : ∀ x, (vals x).length = k) (h : Mk vals M w g n j l wr) (hj : j < n) : wr.there g (j * k) k := by
  refine h.at_.there _ _ ?_
  rw [row_len hv, h.len]
  have : (j + 1) * k ≤ n * k := Nat.mul_le_mul_right k hj
  rw [Nat.add_mul] at this
  simp; omega
theorem Mk.next {α : Type} {vals : α → List Value} {M : α} {w : World} {g n j k : Nat} {l : List α} {wr : World} (hv : ∀ x, (vals x).length = k) (h : Mk vals M w g n j l wr) (hj : j < n) (hg : w.heap.size ≤ g) : Mk vals M w g n (j + 1) (l.set j M) (wr.setCells g (j * k) (vals M)) := by
  refine ⟨by rw [List.length_set]; exact h.len, h.at_.setElem hv j (by rw [h.len]; exact hj) M (j * k) (by simp), fun i hi => ?_, h.gr.setCells g hg _ _⟩
  by_cases e : i = j
  · subst e; simp [h.len, hj]
  · rw [List.getElem?_set_ne (fun r => e r.symm)]
    exact h.set i (by omega)
theorem Mk.all {α : Type} {vals : α → List Value} {M : α} {w : World} {g n : Nat} {l : List α} {wr : World} (h : Mk vals M w g n n l wr) : l = List.replicate n M := by
  apply List.ext_getElem?
  intro i
  by_cases hi : i < n
  · rw [h.set i hi]; simp [hi]
  · rw [List.getElem?_eq_none (by rw [h.len]; omega), List.getElem?_eq_none (by simp; omega)]
/-- A list with eight marks behind it. -/
def marked {α : Type} (M : α) (L : List α) : List α := L ++ List.replicate 8 M
theorem marked_drop {α : Type} (M : α) (L : List α) : L ++ (List.replicate (L.length + 8) M).drop L.length = marked M L := by
  unfold marked
  rw [List.drop_replicate, show L.length + 8 - L.length = 8 by omega]
theorem lin_fin {B : Nat} {w : World} {a : Option Addr} {L : List Ins} (h : LIn B w a L) : FIn 5 Ins.vals B w a L := fun i hi => by
  obtain ⟨b, off, e, h1, h2, h3⟩ := h i hi
  refine ⟨b, off, e, h1, h2, fun j hj => ?_⟩
  obtain ⟨c0, c1, c2, c3, c4⟩ := h3
  match j, hj with
  | 0, _ => exact c0
  | 1, _ => exact c1
  | 2, _ => exact c2
  | 3, _ => exact c3
  | 4, _ => exact c4
  | n + 5, h => omega
end Q
end Go.Proofs.YtdmkedpnkejpbaaDoor


/-
  Twins of programs: lists with marks behind them.
-/
namespace Go.Proofs.YtdmkedpnkejpbaaDoor
namespace Q
open Go.RowKit

def instM : Ins := { op := 222, a := -7, b := 0, c := 0, m := 0 }
def typeM : PTyp := { cap := true, b := 77, e := 0, lo := 0, hi := 0, p := 0, s := 222 }
def rootM : PRoot := { r := -7, b := 0, e := 0, c := 0, p := 0, s := 0 }
def slotM : PSlot := { t := typeM, c := 0 }
def instZ : Ins := { op := 0, a := 0, b := 0, c := 0, m := 0 }
def typeZ : PTyp := { cap := false, b := 0, e := 0, lo := 0, hi := 0, p := 0, s := 0 }
def rootZ : PRoot := { r := 0, b := 0, e := 0, c := 0, p := 0, s := 0 }
def slotZ : PSlot := { t := typeZ, c := 0 }
theorem ins_len (x : Ins) : x.vals.length = 5 := rfl
theorem typ_len (x : PTyp) : x.vals.length = 7 := rfl
theorem rot_len (x : PRoot) : x.vals.length = 6 := rfl
theorem slt_len (x : PSlot) : x.vals.length = 8 := rfl
theorem ins_one (x : Ins) : ∀ v ∈ x.vals, v.oneCell' = true := by
  intro v h
  simp only [Ins.vals, List.mem_cons, List.not_mem_nil, or_false] at h
  rcases h with rfl | rfl | rfl | rfl | rfl <;> rfl
theorem typ_one (x : PTyp) : ∀ v ∈ x.vals, v.oneCell' = true := by
  intro v h
  simp only [PTyp.vals, List.mem_cons, List.not_mem_nil, or_false] at h
  rcases h with rfl | rfl | rfl | rfl | rfl | rfl | rfl <;> rfl
theorem rot_one (x : PRoot) : ∀ v ∈ x.vals, v.oneCell' = true := by
  intro v h
  simp only [PRoot.vals, List.mem_cons, List.not_mem_nil, or_false] at h
  rcases h with rfl | rfl | rfl | rfl | rfl | rfl <;> rfl
theorem slt_one (x : PSlot) : ∀ v ∈ x.vals, v.oneCell' = true := by
  intro v h
  simp only [PSlot.vals, PTyp.vals, List.cons_append, List.nil_append, List.mem_cons, List.not_mem_nil, or_false] at h
  rcases h with rfl | rfl | rfl | rfl | rfl | rfl | rfl | rfl <;> rfl
end Q
end Go.Proofs.YtdmkedpnkejpbaaDoor
