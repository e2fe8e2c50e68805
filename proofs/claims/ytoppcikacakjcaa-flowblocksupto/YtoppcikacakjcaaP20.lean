import Derived.Test.YtoppcikacakjcaaP19
import Derived.Laws.IdiomCopy
/-
  Stage 8, flow: the document's Reached, Dominates.
-/
namespace Go.Proofs.Ytoppcikacakjcaa
namespace F
open Go.RowKit
open T

end F
end Go.Proofs.Ytoppcikacakjcaa


/-
  Stage 8, flow: what is lent: lists with room behind them.
-/
namespace Go.Proofs.Ytoppcikacakjcaa
namespace F
open Go.RowKit
open T

theorem setCells_size (k : Nat) : ∀ (vs : List Value) (o : Nat) (w : World), (w.setCells k o vs).heap.size = w.heap.size
  | [], _, _ => rfl
  | v :: r, o, w => by rw [World.setCells, setCells_size k r (o + 1)]; simp
theorem kp_setCells (S : Nat → Prop) (k : Nat) (h : S k) : ∀ (vs : List Value) (o : Nat) (w : World), Kp S w (w.setCells k o vs)
  | [], _, w => Kp.refl S w
  | v :: r, o, w => (Kp.set (S := S) w ⟨k, o, none⟩ v h).trans (kp_setCells S k h r (o + 1) _) (fun _ q => .inl q)
/-- Copy of elements of any size. -/
theorem run_copy_k {P : Program} (w : World) (dT sT ty elem : TypeId) (k b o dLen dCap : Nat) (a : Addr) (sLen sCap : Nat) (cs : List Value)
    (hu : P.underlying dT = some (.slice elem)) (hs : (P.info? elem).map (·.size) = some k) (hn : cs.length = Nat.min sLen dLen * k)
    (hsrc : ∀ j v, cs[j]? = some v → w.cell? (a.add j) = some v) (hc : ∀ j, j < cs.length → (w.cell? ⟨b, o + j, none⟩).isSome = true) (hf : ∀ j, j < cs.length → w.frozen? ⟨b, o + j, none⟩ = false) (h1 : ∀ v ∈ cs, v.oneCell' = true) :
    (Builtin.copy_ #[dT, sT] ty #[.slice (some ⟨b, o, none⟩) dLen dCap, .slice (some a) sLen sCap]).run P w = .ok (goInt (Nat.min sLen dLen)) (w.setCells b o cs) := by
  have hl := run_loadCells_list (P := P) w a cs hsrc
  have hst := run_storeCells_cells (P := P) b o cs 0 w (by simpa using hc) (by simpa using hf) h1
  cases hq : P.info? elem with
  | none => simp [hq] at hs
  | some i =>
    have hi : i.size = k := by simpa [hq] using hs
    simp [Builtin.copy_, run_underlying hu, Builtin.lenOf, Builtin.firstCells, sizeOf, typeInfo, hq, hi, ← hn, hl, hst]
/-- A list of numbers lent: numbers, then marks. -/
def mkN : List Int := [-99, -99, -99, -99, -99, -99, -99, -99]
def numA (l : List Int) : Array Value := (l.map (Value.int .i64)).toArray
theorem numA_at {w : World} {g : Nat} {l : List Int} (h : At w g (numA l)) (k : Nat) (hk : k < l.length) : w.cell? ⟨g, k, none⟩ = some (.int .i64 l[k]) := by
  rw [h.2.1]
  simp [numA, hk]
theorem numA_put {w : World} {g : Nat} {l : List Int} (h : At w g (numA l)) (k : Nat) (y : Int) (hk : k < l.length) : At (w.setCell ⟨g, k, none⟩ (.int .i64 y)) g (numA (l.set k y)) := by
  have := h.set k (.int .i64 y) (by simpa [numA] using hk)
  have e : (numA l).setIfInBounds k (.int .i64 y) = numA (l.set k y) := by
    simp [numA, List.map_set]
  rw [e] at this
  exact this
/-- A list that lies at the front of a block. -/
theorem nin_front {w : World} {g : Nat} {E M : List Int} (h : At w g (numA (E ++ M))) : NIn (g + 1) w (some ⟨g, 0, none⟩) E := fun i hi => by
  refine ⟨g, 0, rfl, Nat.lt_succ_self _, h.1, ?_⟩
  rw [Nat.zero_add, numA_at h i (by simp; omega), List.getElem_append_left hi]
theorem at_cells {w : World} {k : Nat} {cs : Array Value} (h : At w k cs) (vs : List Value) (hl : vs.length ≤ cs.size) : At (w.setCells k 0 vs) k (vs ++ cs.toList.drop vs.length).toArray := by
  refine ⟨by rw [setCells_size]; exact h.1, fun o => ?_, fun o => by rw [World.frozen?_setCells]; exact h.2.2 o⟩
  by_cases q : o < vs.length
  · have := World.cell?_setCells_in k vs 0 w (fun j hj => by rw [Nat.zero_add, h.2.1 j, Array.getElem?_eq_getElem (by omega)]; rfl) o q
    rw [Nat.zero_add] at this
    rw [this, List.getElem?_toArray, List.getElem?_append_left q, List.getElem?_eq_getElem q]
  · rw [World.cell?_setCells_out k vs 0 w _ (fun _ _ => .inr (by simpa using q)), h.2.1 o]
    simp only [List.getElem?_toArray]
    rw [List.getElem?_append_right (by omega), List.getElem?_drop]
    rw [show vs.length + (o - vs.length) = o by omega]
    simp
theorem copy_nums {w : World} {g : Nat} {l E : List Int} {ea : Option Addr} {ec : Nat} (ty : TypeId) (h : At w g (numA l)) (hE : NIn w.heap.size w ea E) (hnil : NilOk ea E.length ec) (hl : l.length = E.length + 8) :
    (Builtin.copy_ #[23, 23] ty #[.slice (some ⟨g, 0, none⟩) (E.length + 8) (E.length + 8), .slice ea E.length ec]).run Try.prog w = .ok (goInt E.length) (w.setCells g 0 (E.map (Value.int .i64))) := by
  obtain ⟨i0, hi0, hz0, hz1, hz2⟩ := info_parts' (t := 3) (z := .int .i64 0) (s := 1) (b := 8) (by kernel_rfl)
  cases ea with
  | none =>
    obtain ⟨h0, rfl⟩ := hnil rfl
    have e0 : E = [] := List.length_eq_zero_iff.1 h0
    subst e0
    exact run_copy_nil (P := Try.prog) w 23 23 ty 3 ⟨g, 0, none⟩ 8 8 Try.underlying23 (by rw [hi0]; rfl)
  | some ad =>
    have hmin : Nat.min E.length (E.length + 8) = E.length := Nat.min_eq_left (by omega)
    have := run_copy_k (P := Try.prog) w 23 23 ty 3 1 g 0 (E.length + 8) (E.length + 8) ad E.length ec (E.map (Value.int .i64)) Try.underlying23 (by rw [hi0]; simp [hz1]) (by rw [hmin]; simp) (fun j v hj => ?_) (fun j hj => ?_) (fun j hj => h.2.2 _) (fun v hv => ?_)
    · rw [hmin] at this
      exact this
    · have hjl : j < E.length := by have := (List.getElem?_eq_some_iff.1 hj).1; simpa using this
      obtain ⟨b, off, e, _, _, hc⟩ := hE j hjl
      cases e
      rw [addr_add, hc, ← hj]
      simp [hjl]
    · have hjl : j < l.length := by simp at hj; omega
      rw [Nat.zero_add, numA_at h j hjl]
      rfl
    · obtain ⟨y, _, rfl⟩ := List.mem_map.1 hv
      rfl
def LtI (w : World) (n j : Nat) (wr : World) : Prop := Hid (Below w.heap.size w wr ∧ ∃ l : List Int, l.length = n + 8 ∧ At wr w.heap.size (numA l) ∧ ∀ k, k < j → l[k]? = some (-99))
set_option maxRecDepth 100000 in
set_option maxHeartbeats 2000000 in
theorem lentInts_any (E : List Int) (ea : Option Addr) (ec : Nat) (w : World) (hE : NIn w.heap.size w ea E) (hnil : NilOk ea E.length ec) (he : E.length ≤ 1900000) :
    Calls Try.prog 6 #[.slice ea E.length ec] w fun e w' => e = .returned (.slice (some ⟨w.heap.size, 0, none⟩) E.length (E.length + 8)) ∧ At w' w.heap.size (numA (E ++ mkN)) ∧ Below w.heap.size w w' := by
  have hm := make_ints (E.length + 8) (by omega)
  rw [show ((E.length + 8 : Nat) : Int) = (E.length : Int) + 8 by omega] at hm
  have h0 : LtI w E.length 0 (w.alloc (.cells (Array.replicate (E.length + 8) (.int .i64 0)) 3)) := Hid.mk ⟨by (repeat (first | assumption | with_reducible exact Below.refl _ _ | with_reducible refine Below.alloc ?_ (by simp <;> omega) _ | with_reducible refine Below.setCell ?_ (by simp <;> omega) _ | with_reducible refine Below.drew ?_)), List.replicate (E.length + 8) 0, by simp, by simpa [numA] using At.new w (Array.replicate (E.length + 8) (.int .i64 0)) 3, fun k hk => by omega⟩
  have hS : ∀ j wr, LtI w E.length j wr → j < E.length + 8 → (∃ y, wr.cell? ⟨w.heap.size, j, none⟩ = some y) ∧ wr.frozen? ⟨w.heap.size, j, none⟩ = false ∧ LtI w E.length (j + 1) (wr.setCell ⟨w.heap.size, j, none⟩ (.int .i64 (-99))) := fun j wr q hj => by
    obtain ⟨q1, l, q2, q3, q4⟩ := q.out
    refine ⟨⟨_, numA_at q3 j (by omega)⟩, q3.2.2 j, Hid.mk ⟨q1.setCell (Nat.le_refl _) _, l.set j (-99), by simp [q2], numA_put q3 j (-99) (by omega), fun k hk => ?_⟩⟩
    by_cases e : k = j
    · subst e; simp [q2, hj]
    · rw [List.getElem?_set_ne (fun r => e r.symm)]
      exact q4 k (by omega)
  have hC : ∀ wr, LtI w E.length (E.length + 8) wr → ((Builtin.copy_ #[23, 23] 3 #[.slice (some ⟨w.heap.size, 0, none⟩) (E.length + 8) (E.length + 8), .slice ea E.length ec]).run Try.prog wr = .ok (goInt E.length) (wr.setCells w.heap.size 0 (E.map (Value.int .i64)))) ∧ At (wr.setCells w.heap.size 0 (E.map (Value.int .i64))) w.heap.size (numA (E ++ mkN)) ∧ Below w.heap.size w (wr.setCells w.heap.size 0 (E.map (Value.int .i64))) := fun wr q => by
    obtain ⟨q1, l, q2, q3, q4⟩ := q.out
    refine ⟨copy_nums _ q3 ((hE.below q1).mono q1.size) hnil q2, ?_, q1.trans ((kp_setCells (fun k => k = w.heap.size) w.heap.size rfl _ 0 wr).below q1.size (fun k r => by omega))⟩
    have := at_cells q3 (E.map (Value.int .i64)) (by simp [numA]; omega)
    have el : l = List.replicate (E.length + 8) (-99) := by
      apply List.ext_getElem?
      intro k
      by_cases hk : k < E.length + 8
      · rw [q4 k hk]; simp [hk]
      · rw [List.getElem?_eq_none (by omega), List.getElem?_eq_none (by simp; omega)]
    have e2 : (E.map (Value.int .i64) ++ (numA l).toList.drop (E.map (Value.int .i64)).length).toArray = numA (E ++ mkN) := by
      rw [el]
      simp only [numA, List.toList_toArray, List.length_map, List.map_append]
      congr 2
      rw [← List.map_drop, List.drop_replicate, show E.length + 8 - E.length = 8 by omega]
      rfl
    rw [e2] at this
    exact this
  replace hE := Hid.mk hE
  replace hnil := Hid.mk hnil
  replace hS := Hid.mk hS
  replace hC := Hid.mk hC
  go_enter Try.func6, Try.ntmps6
  go_wp2_with fail
  go_loopw [4] (fun x wr => ∃ j : Nat, x = .int .i64 j ∧ j ≤ E.length + 8 ∧ LtI w E.length j wr) (fun x _ => E.length + 8 - (intOf x).toNat)
  case atStart => exact ⟨0, rfl, by omega, h0⟩
  case round =>
    clear h0
    obtain ⟨j, rfl, hj, hI⟩ := hrel
    by_cases hlt : j < E.length + 8
    · obtain ⟨⟨y, s1⟩, s2, s3⟩ := hS.out j wr hI hlt
      have hi1 : (j : Int) < (E.length : Int) + 8 := by omega
      go_wp2_with fail
      go_roundw
      all_goals first | exact ⟨j + 1, by simp, by omega, s3⟩ | (simp only [intOf]; omega)
    · have hi1 : ¬ (j : Int) < (E.length : Int) + 8 := by omega
      have ej : j = E.length + 8 := by omega
      subst ej
      obtain ⟨d1, d2, d3⟩ := hC.out wr hI
      have hi2 : (E.length : Int) ≤ (E.length : Int) + 8 := by omega
      replace d2 := Hid.mk d2
      replace d3 := Hid.mk d3
      go_wp2_with fail
      go_ret
      exact ⟨rfl, d2.out, d3.out⟩
end F
end Go.Proofs.Ytoppcikacakjcaa
