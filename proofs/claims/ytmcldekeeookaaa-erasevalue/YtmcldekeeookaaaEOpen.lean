/-
  Stage 12, erase: values and states of sixteen registers, handed in, opened.
-/
import Derived.Test.YtmcldekeeookaaaRows
import Derived.Test.YtmcldekeeookaaaEVal
import Derived.ProofKit
import Derived.OpenShut
import Derived.ChangeOld
import Derived.Deep.Slices
namespace Go.Proofs.Ytmcldekeeookaaa
open Go.ChangeShapes Go.WideShapes Go.ChangeAt Go.RowKit Go.Deep
theorem own : ownKnob Try.prog.godebug = none := by kernel_rfl
theorem laidOut : laidOutB Try.prog = true := by kernel_rfl
namespace E

theorem choose_list {α : Type} (p : Nat → α → Prop) : ∀ n, (∀ i, i < n → ∃ k, p i k) → ∃ L : List α, L.length = n ∧ ∀ i (h : i < L.length), p i L[i]
  | 0, _ => ⟨[], rfl, fun i h => by simp at h⟩
  | n + 1, h => by
    obtain ⟨L, hl, hL⟩ := choose_list p n (fun i hi => h i (by omega))
    obtain ⟨k, hk⟩ := h n (by omega)
    refine ⟨L ++ [k], by simp [hl], fun i hi => ?_⟩
    by_cases hin : i < L.length
    · rw [List.getElem_append_left hin]; exact hL i hin
    · have : i = n := by simp at hi; omega
      subst this
      rw [List.getElem_append_right (by omega)]
      simpa [hl] using hk
theorem list5 {α : Type} {cs : List α} (h : cs.length = 5) : ∃ c0 c1 c2 c3 c4, cs = [c0, c1, c2, c3, c4] := by
  match cs, h with
  | [c0, c1, c2, c3, c4], _ => exact ⟨c0, c1, c2, c3, c4, rfl⟩
theorem list7 {α : Type} {cs : List α} (h : cs.length = 7) : ∃ c0 c1 c2 c3 c4 c5 c6, cs = [c0, c1, c2, c3, c4, c5, c6] := by
  match cs, h with
  | [c0, c1, c2, c3, c4, c5, c6], _ => exact ⟨c0, c1, c2, c3, c4, c5, c6, rfl⟩
set_option maxRecDepth 100000 in
theorem trod_cap {H : Type} {enc : TypeId × Value → H} {W : World} {b0 n : Nat} {spare : Nat → Bool} {held : Bool} {cs : List Value} {x : DataW H × List MemPlace}
    (hf : DataW.trod enc Try.prog W b0 spare held n 25 cs = some x) : ∃ k : Kc, cs = k.vals := by
  obtain ⟨xs, m, _, hxx, hcl, hl, hx⟩ := DataW.trod_struct Try.underlying25 hf
  obtain ⟨c0, c1, c2, c3, c4, rfl⟩ := list5 (hcl.trans (by kernel_rfl))
  have at_ : ∀ i, i < 5 → ∃ y, xs[i]? = some y := by
    intro i hi
    have : i < xs.length := by rw [hl]; simpa using hi
    exact ⟨xs[i], by simp [this]⟩
  obtain ⟨y0, t0⟩ := at_ 0 (by omega)
  rw [← hx 0 _ rfl] at t0
  obtain ⟨y1, t1⟩ := at_ 1 (by omega)
  rw [← hx 1 _ rfl] at t1
  obtain ⟨y2, t2⟩ := at_ 2 (by omega)
  rw [← hx 2 _ rfl] at t2
  obtain ⟨y3, t3⟩ := at_ 3 (by omega)
  rw [← hx 3 _ rfl] at t3
  obtain ⟨y4, t4⟩ := at_ 4 (by omega)
  rw [← hx 4 _ rfl] at t4
  have q0 : Try.prog.cellsOf 22 = 1 := by kernel_rfl
  have q1 : Try.prog.cellsOf 23 = 1 := by kernel_rfl
  have q2 : Try.prog.cellsOf 3 = 1 := by kernel_rfl
  obtain ⟨b, f0, _, v0⟩ := DataW.trod_int Try.underlying22 t0
  obtain ⟨e, f1, _, v1⟩ := DataW.trod_int Try.underlying22 t1
  obtain ⟨c, f2, _, v2⟩ := DataW.trod_int Try.underlying22 t2
  obtain ⟨p, f3, _, v3⟩ := DataW.trod_int Try.underlying23 t3
  obtain ⟨s, f4, _, v4⟩ := DataW.trod_int Try.underlying3 t4
  simp [q0, q1, q2] at f0 f1 f2 f3 f4
  subst f0
  subst f1
  subst f2
  subst f3
  subst f4
  exact ⟨⟨b, e, c, p, s⟩, rfl⟩
set_option maxRecDepth 100000 in
theorem trod_value {H : Type} {enc : TypeId × Value → H} {W : World} {b0 n : Nat} {spare : Nat → Bool} {held : Bool} {cs : List Value} {x : DataW H × List MemPlace}
    (hf : DataW.trod enc Try.prog W b0 spare held n 27 cs = some x) : ∃ v : Vv, cs = v.vals := by
  obtain ⟨xs, m, _, hxx, hcl, hl, hx⟩ := DataW.trod_struct Try.underlying27 hf
  obtain ⟨c0, c1, c2, c3, c4, c5, c6, rfl⟩ := list7 (hcl.trans (by kernel_rfl))
  have at_ : ∀ i, i < 3 → ∃ y, xs[i]? = some y := by
    intro i hi
    have : i < xs.length := by rw [hl]; simpa using hi
    exact ⟨xs[i], by simp [this]⟩
  obtain ⟨y0, t0⟩ := at_ 0 (by omega)
  rw [← hx 0 _ rfl] at t0
  obtain ⟨y1, t1⟩ := at_ 1 (by omega)
  rw [← hx 1 _ rfl] at t1
  obtain ⟨y2, t2⟩ := at_ 2 (by omega)
  rw [← hx 2 _ rfl] at t2
  have q0 : Try.prog.cellsOf 4 = 1 := by kernel_rfl
  have q1 : Try.prog.cellsOf 22 = 1 := by kernel_rfl
  have q2 : Try.prog.cellsOf 25 = 5 := by kernel_rfl
  obtain ⟨g, f0, _⟩ := DataW.trod_bool Try.underlying4 t0
  obtain ⟨nn, f1, _, v1⟩ := DataW.trod_int Try.underlying22 t1
  obtain ⟨c, f2⟩ := trod_cap t2
  simp [q0, q1, q2, Kc.vals] at f0 f1 f2
  subst f0
  subst f1
  obtain ⟨rfl, rfl, rfl, rfl, rfl⟩ := f2
  exact ⟨⟨g, nn, c⟩, rfl⟩
theorem open_value {H : Type} {enc : TypeId × Value → H} {W : World} {r : Reach} {base b0 : Nat} {spare : Nat → Bool} {held : Bool} {v : Value} {d : DataW H} {ps : List MemPlace}
    (hv : Value.okWide Try.prog W r base 27 v) (h : DataW.Trod enc Try.prog W b0 spare held 27 v d ps) : ∃ k : Vv, v = .agg k.vals.toArray := by
  obtain ⟨cs, rfl, hsz⟩ := okWide_struct Try.underlying27 hv
  obtain ⟨fuel, hf⟩ := h
  obtain ⟨k, hk⟩ := trod_value hf
  obtain ⟨l⟩ := cs
  simp [Value.cells] at hk
  subst hk
  exact ⟨k, rfl⟩
theorem rows_of {α : Type} {vals : α → List Value} {k : Nat} : ∀ (L : List α) (cs : List Value), cs.length = L.length * k → (∀ i (h : i < L.length), (cs.drop (i * k)).take k = vals L[i]) → cs = L.flatMap vals
  | [], cs, hl, _ => by simpa using hl
  | y :: L, cs, hl, h => by
    have h0 := h 0 (by simp)
    simp only [Nat.zero_mul, List.drop_zero, List.getElem_cons_zero] at h0
    rw [List.length_cons, Nat.add_mul] at hl
    have ih := rows_of (vals := vals) (k := k) L (cs.drop k) (by rw [List.length_drop]; omega) (fun i hi => by
      have := h (i + 1) (by simpa using hi)
      rw [Nat.add_mul, Nat.one_mul] at this
      rw [List.drop_drop, Nat.add_comm k]
      simpa using this)
    rw [List.flatMap_cons, ← ih, ← h0, List.take_append_drop]
theorem trod_rows {α : Type} {vals : α → List Value} {t e : TypeId} {n k : Nat} (hu : Try.prog.underlying t = some (.array n e)) (hk : Try.prog.cellsOf e = k) (hct : Try.prog.cellsOf t = n * k)
    {H : Type} {enc : TypeId × Value → H} {W : World} {b0 fuel : Nat} {spare : Nat → Bool} {held : Bool} {cs : List Value} {x : DataW H × List MemPlace}
    (ht : ∀ m ds y, DataW.trod enc Try.prog W b0 spare held m e ds = some y → ∃ z, ds = vals z)
    (h : DataW.trod enc Try.prog W b0 spare held fuel t cs = some x) : ∃ L : List α, cs = rowV [] vals L ∧ L.length = n := by
  obtain ⟨xs, m, _, _, hl, hn, hx⟩ := DataW.trod_array hu h
  obtain ⟨L, hL, hp⟩ := choose_list (fun i y => (cs.drop (i * k)).take k = vals y) n (fun i hi => by
    have hi' := hx i hi
    rw [List.getElem?_eq_getElem (by omega), hk] at hi'
    obtain ⟨z, e1⟩ := ht _ _ _ hi'
    exact ⟨z, e1⟩)
  refine ⟨L, ?_, hL⟩
  unfold rowV
  rw [List.nil_append]
  exact rows_of (k := k) L cs (by rw [hl, hct, hL]) (fun i hi => hp i hi)
set_option maxRecDepth 100000 in
theorem trod_snap {H : Type} {enc : TypeId × Value → H} {W : World} {b0 n : Nat} {spare : Nat → Bool} {held : Bool} {cs : List Value} {x : DataW H × List MemPlace}
    (hf : DataW.trod enc Try.prog W b0 spare held n 30 cs = some x) : ∃ (g p d : Int) (V : List Vv), cs = rowV [.int .i64 g, .int .i64 p, .int .i64 d] Vv.vals V ∧ V.length = 16 := by
  obtain ⟨xs, m, _, hxx, hcl, hl, hx⟩ := DataW.trod_struct Try.underlying30 hf
  have hcl' : cs.length = 115 := hcl.trans (by kernel_rfl)
  have at_ : ∀ i, i < 4 → ∃ y, xs[i]? = some y := by
    intro i hi
    have : i < xs.length := by rw [hl]; simpa using hi
    exact ⟨xs[i], by simp [this]⟩
  obtain ⟨y0, t0⟩ := at_ 0 (by omega)
  rw [← hx 0 _ rfl] at t0
  obtain ⟨y1, t1⟩ := at_ 1 (by omega)
  rw [← hx 1 _ rfl] at t1
  obtain ⟨y2, t2⟩ := at_ 2 (by omega)
  rw [← hx 2 _ rfl] at t2
  obtain ⟨y3, t3⟩ := at_ 3 (by omega)
  rw [← hx 3 _ rfl] at t3
  have q0 : Try.prog.cellsOf 3 = 1 := by kernel_rfl
  have q1 : Try.prog.cellsOf 28 = 112 := by kernel_rfl
  obtain ⟨g, f0, _⟩ := DataW.trod_int Try.underlying3 t0
  obtain ⟨p, f1, _⟩ := DataW.trod_int Try.underlying3 t1
  obtain ⟨d, f2, _⟩ := DataW.trod_int Try.underlying3 t2
  obtain ⟨V, f3, hV⟩ := trod_rows (vals := Vv.vals) (k := 7) Try.underlying28 (by kernel_rfl) (by rw [q1]) (fun _ _ _ q => trod_value q) t3
  replace f0 : (cs.drop 0).take (Try.prog.cellsOf 3) = [.int .i64 g] := f0
  replace f1 : (cs.drop 1).take (Try.prog.cellsOf 3) = [.int .i64 p] := f1
  replace f2 : (cs.drop 2).take (Try.prog.cellsOf 3) = [.int .i64 d] := f2
  replace f3 : (cs.drop 3).take (Try.prog.cellsOf 28) = rowV [] Vv.vals V := f3
  rw [q0] at f0 f1 f2
  rw [q1] at f3
  refine ⟨g, p, d, V, ?_, hV⟩
  match cs, hcl' with
  | c :: c' :: c'' :: cs, h' =>
    simp only [List.drop_zero, List.drop_succ_cons, List.take_succ_cons, List.take_zero, List.cons.injEq, and_true] at f0 f1 f2
    simp only [List.drop_succ_cons, List.drop_zero] at f3
    rw [List.take_of_length_le (by simp only [List.length_cons] at h'; omega)] at f3
    rw [f0, f1, f2, f3]
    rfl
theorem open_snap {H : Type} {enc : TypeId × Value → H} {W : World} {r : Reach} {base b0 : Nat} {spare : Nat → Bool} {held : Bool} {v : Value} {d : DataW H} {ps : List MemPlace}
    (hv : Value.okWide Try.prog W r base 30 v) (h : DataW.Trod enc Try.prog W b0 spare held 30 v d ps) : ∃ (g p d : Int) (V : List Vv), v = .agg (rowV [.int .i64 g, .int .i64 p, .int .i64 d] Vv.vals V).toArray ∧ V.length = 16 := by
  obtain ⟨cs, rfl, hsz⟩ := okWide_struct Try.underlying30 hv
  obtain ⟨fuel, hf⟩ := h
  obtain ⟨g, p, d, V, hk, hok⟩ := trod_snap hf
  obtain ⟨cl⟩ := cs
  simp [Value.cells] at hk
  subst hk
  exact ⟨g, p, d, V, rfl, hok⟩
end E
end Go.Proofs.Ytmcldekeeookaaa
