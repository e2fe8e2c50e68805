import Derived.Test.YtmmakknhaacplaaGreatDoorP08
import Derived.Test.YtmmakknhaacplaaGreatDoorP05
import Derived.Deep.AppendSrc
/-
  Rows of whole lists: what is appended, where it lies.
-/
namespace Go.Proofs.YtmmakknhaacplaaGreatDoor
open Go.RowKit

theorem flatten_get {k : Nat} : ∀ {css : List (List Value)}, (∀ cs ∈ css, cs.length = k) → ∀ (i j : Nat) (cs : List Value), css[i]? = some cs → j < k → css.flatten[i * k + j]? = cs[j]?
  | [], _, i, _, cs, h, _ => by simp at h
  | c :: css, hl, 0, j, cs, h, hj => by
    obtain rfl : c = cs := by simpa using h
    have := hl c (by simp)
    rw [List.flatten_cons, Nat.zero_mul, Nat.zero_add, List.getElem?_append_left (by omega)]
  | c :: css, hl, i + 1, j, cs, h, hj => by
    have hc := hl c (by simp)
    rw [List.flatten_cons, List.getElem?_append_right (by rw [hc, Nat.succ_mul]; omega)]
    have e : (i + 1) * k + j - c.length = i * k + j := by rw [hc, Nat.succ_mul]; omega
    rw [e]
    exact flatten_get (fun x hx => hl x (by simp [hx])) i j cs (by simpa using h) hj
theorem flatMap_get {α : Type} {k : Nat} {vals : α → List Value} (hv : ∀ x, (vals x).length = k) (L : List α) (i j : Nat) (hi : i < L.length) (hj : j < k) : (L.flatMap vals)[i * k + j]? = (vals L[i])[j]? := by
  rw [List.flatMap_def]
  refine flatten_get (k := k) ?_ i j (vals L[i]) (by simp [hi]) hj
  intro cs h
  obtain ⟨x, _, rfl⟩ := List.mem_map.1 h
  exact hv x
theorem slot_len (x : PSlot) : x.vals.length = 8 := rfl
theorem root_len (x : PRoot) : x.vals.length = 6 := rfl
theorem typ_len (x : PTyp) : x.vals.length = 7 := rfl
theorem infoType : (Tryz.prog.info? 66).map (fun i => (i.zero, i.size, i.bytes)) = some (some (.agg #[.bool false, .int .u64 0, .int .u64 0, .int .u64 0, .int .u64 0, .int .u8 0, .int .i64 0]), 7, 56) := by kernel_rfl
theorem infoSlot : (Tryz.prog.info? 68).map (fun i => (i.zero, i.size, i.bytes)) = some (some (.agg #[.bool false, .int .u64 0, .int .u64 0, .int .u64 0, .int .u64 0, .int .u8 0, .int .i64 0, .int .u64 0]), 8, 64) := by kernel_rfl
theorem infoRoot : (Tryz.prog.info? 70).map (fun i => (i.zero, i.size, i.bytes)) = some (some (.agg #[.int .i64 0, .int .u64 0, .int .u64 0, .int .u64 0, .int .u8 0, .int .i64 0]), 6, 48) := by kernel_rfl
/-- So many things as a row may have. -/
def Fit (n : Nat) : Prop := n * 64 ≤ 140737488355328
def FitB (k n : Nat) : Prop := n * k ≤ 140737488355328
theorem news_fin {α : Type} {k : Nat} {vals : α → List Value} (hv : ∀ x, (vals x).length = k) (hk : 0 < k) {w : World} {B : Nat} {a : Addr} {M : List α} (h : FIn k vals B w (some a) M) : ∀ j u, (M.flatMap vals)[j]? = some u → w.cell? (a.add j) = some u := by
  intro j u hj
  have hlen : (M.flatMap vals).length = M.length * k := by
    clear hj h
    induction M with
    | nil => simp
    | cons x M ih => rw [List.flatMap_cons, List.length_append, ih, hv, List.length_cons, Nat.succ_mul]; omega
  have hjl : j < M.length * k := by
    have := (List.getElem?_eq_some_iff.1 hj).1
    rwa [hlen] at this
  have hq : j / k < M.length := Nat.div_lt_of_lt_mul (by rw [Nat.mul_comm]; exact hjl)
  have hm : j % k < k := Nat.mod_lt _ hk
  obtain ⟨b, off, ha, _, _, hc⟩ := h (j / k) hq
  cases ha
  have ea : (⟨b, off, none⟩ : Addr).add j = ⟨b, off + j, none⟩ := by by_cases h0 : j = 0 <;> simp [Addr.add, h0]
  have hg := flatMap_get hv M (j / k) (j % k) hq hm
  have ej : j / k * k + j % k = j := by rw [Nat.mul_comm]; exact Nat.div_add_mod j k
  rw [ej, hj] at hg
  have := hc (j % k) hm
  rw [Nat.add_assoc, ej] at this
  rw [ea, this, ← hg]
theorem flatMap_len {α : Type} {k : Nat} {vals : α → List Value} (hv : ∀ x, (vals x).length = k) (M : List α) : (M.flatMap vals).length = M.length * k := by
  induction M with
  | nil => simp
  | cons x M ih => rw [List.flatMap_cons, List.length_append, ih, hv, List.length_cons, Nat.succ_mul]; omega
theorem slot_one (x : PSlot) : ∀ u ∈ x.vals, u.oneCell' = true := by
  intro u hu; simp [PSlot.vals, PTyp.vals] at hu; rcases hu with h | h | h | h | h | h | h | h <;> rw [h] <;> rfl
theorem root_one (x : PRoot) : ∀ u ∈ x.vals, u.oneCell' = true := by
  intro u hu; simp [PRoot.vals] at hu; rcases hu with h | h | h | h | h | h <;> rw [h] <;> rfl
theorem typ_one (x : PTyp) : ∀ u ∈ x.vals, u.oneCell' = true := by
  intro u hu; simp [PTyp.vals] at hu; rcases hu with h | h | h | h | h | h | h <;> rw [h] <;> rfl
end Go.Proofs.YtmmakknhaacplaaGreatDoor
