/-
  Stage 9, regtype: states and rows of sixteen values, handed in, opened.
-/
import Derived.Test.YtbbpbfbifgfjdaaROpen
import Derived.Test.YtbbpbfbifgfjdaaRStAll
namespace Go.Proofs.Ytbbpbfbifgfjdaa
open Go.ChangeShapes Go.WideShapes Go.ChangeAt Go.RowKit Go.Deep
namespace R

theorem rows_of {α : Type} {vals : α → List Value} {k : Nat} : ∀ (L : List α) (cs : List Value), cs.length = L.length * k → (∀ i (h : i < L.length), (cs.drop (i * k)).take k = vals L[i]) → cs = L.flatMap vals
  | [], cs, hl, _ => by simpa using hl
  | y :: L, cs, hl, h => by
    have h0 := h 0 (by simp)
    simp only [Nat.zero_mul, List.drop_zero, List.getElem_cons_zero] at h0
    rw [List.length_cons, Nat.add_mul] at hl
    have ih := rows_of (vals := vals) (k := k) L (cs.drop k) (by rw [List.length_drop]; omega) (fun i hi => by
      have := h (i + 1) (by simpa using hi)
      rw [Nat.add_mul, Nat.one_mul] at this
      rw [List.drop_drop, Nat.add_comm k]
      simpa using this)
    rw [List.flatMap_cons, ← ih, ← h0, List.take_append_drop]
theorem trod_rows {α : Type} {vals : α → List Value} {ok : α → Prop} {t e : TypeId} {n k : Nat} (hu : Try.prog.underlying t = some (.array n e)) (hk : Try.prog.cellsOf e = k) (hct : Try.prog.cellsOf t = n * k)
    {H : Type} {enc : TypeId × Value → H} {W : World} {b0 fuel : Nat} {spare : Nat → Bool} {held : Bool} {cs : List Value} {x : DataW H × List MemPlace}
    (ht : ∀ m ds y, DataW.trod enc Try.prog W b0 spare held m e ds = some y → ∃ z, ds = vals z ∧ ok z)
    (h : DataW.trod enc Try.prog W b0 spare held fuel t cs = some x) : ∃ L : List α, cs = rowV [] vals L ∧ L.length = n ∧ ∀ y ∈ L, ok y := by
  obtain ⟨xs, m, _, _, hl, hn, hx⟩ := DataW.trod_array hu h
  obtain ⟨L, hL, hp⟩ := choose_list (fun i y => (cs.drop (i * k)).take k = vals y ∧ ok y) n (fun i hi => by
    have hi' := hx i hi
    rw [List.getElem?_eq_getElem (by omega), hk] at hi'
    obtain ⟨z, e1, e2⟩ := ht _ _ _ hi'
    exact ⟨z, e1, e2⟩)
  refine ⟨L, ?_, hL, fun y hy => ?_⟩
  · unfold rowV
    rw [List.nil_append]
    exact rows_of (k := k) L cs (by rw [hl, hct, hL]) (fun i hi => (hp i hi).1)
  · obtain ⟨i, hi, rfl⟩ := List.getElem_of_mem hy
    exact (hp i hi).2
set_option maxRecDepth 100000 in
theorem trod_state {H : Type} {enc : TypeId × Value → H} {W : World} {b0 n : Nat} {spare : Nat → Bool} {held : Bool} {cs : List Value} {x : DataW H × List MemPlace}
    (hf : DataW.trod enc Try.prog W b0 spare held n 47 cs = some x) : ∃ (l : Bool) (A : List RT), cs = stC l A ∧ R16 A := by
  obtain ⟨xs, m, _, hxx, hcl, hl, hx⟩ := DataW.trod_struct Try.underlying47 hf
  have hcl' : cs.length = 193 := hcl.trans (by kernel_rfl)
  have at_ : ∀ i, i < 2 → ∃ y, xs[i]? = some y := by
    intro i hi
    have : i < xs.length := by rw [hl]; simpa using hi
    exact ⟨xs[i], by simp [this]⟩
  obtain ⟨y0, t0⟩ := at_ 0 (by omega)
  rw [← hx 0 _ rfl] at t0
  obtain ⟨y1, t1⟩ := at_ 1 (by omega)
  rw [← hx 1 _ rfl] at t1
  have q0 : Try.prog.cellsOf 4 = 1 := by kernel_rfl
  have q1 : Try.prog.cellsOf 45 = 192 := by kernel_rfl
  obtain ⟨l, f0, _⟩ := DataW.trod_bool Try.underlying4 t0
  obtain ⟨A, f1, hA, rA⟩ := trod_rows (vals := RT.vals) (ok := RT.Rng) (k := 12) Try.underlying45 (by kernel_rfl) (by rw [q1]) (fun _ _ _ q => trod_rt q) t1
  replace f0 : (cs.drop 0).take (Try.prog.cellsOf 4) = [.bool l] := f0
  replace f1 : (cs.drop 1).take (Try.prog.cellsOf 45) = rowV [] RT.vals A := f1
  rw [q0] at f0
  rw [q1] at f1
  refine ⟨l, A, ?_, hA, rA⟩
  match cs, hcl' with
  | c :: cs, h' =>
    simp only [List.drop_zero, List.take_succ_cons, List.take_zero, List.cons.injEq, and_true] at f0
    simp only [List.drop_succ_cons, List.drop_zero] at f1
    rw [List.take_of_length_le (by simp only [List.length_cons] at h'; omega)] at f1
    rw [f0, f1]
    rfl
theorem open_state {H : Type} {enc : TypeId × Value → H} {W : World} {r : Reach} {base b0 : Nat} {spare : Nat → Bool} {held : Bool} {v : Value} {d : DataW H} {ps : List MemPlace}
    (hv : Value.okWide Try.prog W r base 47 v) (h : DataW.Trod enc Try.prog W b0 spare held 47 v d ps) : ∃ (l : Bool) (A : List RT), v = .agg (stC l A).toArray ∧ R16 A := by
  obtain ⟨cs, rfl, hsz⟩ := okWide_struct Try.underlying47 hv
  obtain ⟨fuel, hf⟩ := h
  obtain ⟨l, A, hk, hok⟩ := trod_state hf
  obtain ⟨cl⟩ := cs
  simp [Value.cells] at hk
  subst hk
  exact ⟨l, A, rfl, hok⟩
theorem open_regs {H : Type} {enc : TypeId × Value → H} {W : World} {r : Reach} {base b0 : Nat} {spare : Nat → Bool} {held : Bool} {v : Value} {d : DataW H} {ps : List MemPlace}
    (hv : Value.okWide Try.prog W r base 48 v) (h : DataW.Trod enc Try.prog W b0 spare held 48 v d ps) : ∃ V : List Vv, v = .agg (rowV [] Vv.vals V).toArray ∧ V16 V := by
  obtain ⟨cs, rfl, hsz⟩ : ∃ cs, v = .agg cs ∧ cs.size = Try.prog.cellsOf 48 := by
    simp only [Value.okWide, Try.underlying48] at hv
    obtain ⟨cs, h1, h2, _⟩ := hv
    exact ⟨cs, h1, h2⟩
  obtain ⟨fuel, hf⟩ := h
  obtain ⟨V, hk, hL, hok⟩ := trod_rows (vals := Vv.vals) (ok := Vv.Rng) (k := 7) Try.underlying48 (by kernel_rfl) (by kernel_rfl) (fun _ _ _ q => trod_value q) hf
  obtain ⟨cl⟩ := cs
  simp [Value.cells] at hk
  subst hk
  exact ⟨V, rfl, hL, hok⟩
end R
end Go.Proofs.Ytbbpbfbifgfjdaa
