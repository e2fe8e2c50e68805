/-
  Stage 9, regtype: what came in, opened.
-/
import Derived.Test.YtbbpbfbifgfjdaaRows
import Derived.Test.YtbbpbfbifgfjdaaRNum
import Derived.Test.YtbbpbfbifgfjdaaTEin
import Derived.ProofKit
import Derived.OpenShut
import Derived.ChangeOld
import Derived.Deep.Slices
namespace Go.Proofs.Ytbbpbfbifgfjdaa
open Go.ChangeShapes Go.WideShapes Go.ChangeAt Go.RowKit Go.Deep
theorem own : ownKnob Try.prog.godebug = none := by kernel_rfl
theorem laidOut : laidOutB Try.prog = true := by kernel_rfl
namespace R

theorem bd_u64 {n : Int} (h : (Lit.int .u64 n).wf = true) : u64I n := by
  have := bounds_u64 h; unfold u64I; omega
theorem bd_u8 {n : Int} (h : (Lit.int .u8 n).wf = true) : ∃ m : Nat, n = m ∧ m < 256 := by
  have := bounds_u8 h; exact ⟨n.toNat, by omega, by omega⟩
theorem bd_i64 {n : Int} (h : (Lit.int .i64 n).wf = true) : -9223372036854775808 ≤ n ∧ n ≤ 9223372036854775807 := by
  have := bounds_i64 h; omega
theorem choose_list {α : Type} (p : Nat → α → Prop) : ∀ n, (∀ i, i < n → ∃ k, p i k) → ∃ L : List α, L.length = n ∧ ∀ i (h : i < L.length), p i L[i]
  | 0, _ => ⟨[], rfl, fun i h => by simp at h⟩
  | n + 1, h => by
    obtain ⟨L, hl, hL⟩ := choose_list p n (fun i hi => h i (by omega))
    obtain ⟨k, hk⟩ := h n (by omega)
    refine ⟨L ++ [k], by simp [hl], fun i hi => ?_⟩
    by_cases hin : i < L.length
    · rw [List.getElem_append_left hin]; exact hL i hin
    · have : i = n := by simp at hi; omega
      subst this
      rw [List.getElem_append_right (by omega)]
      simpa [hl] using hk
theorem list2 {α : Type} {cs : List α} (h : cs.length = 2) : ∃ c0 c1, cs = [c0, c1] := by
  match cs, h with
  | [c0, c1], _ => exact ⟨c0, c1, rfl⟩
theorem list5 {α : Type} {cs : List α} (h : cs.length = 5) : ∃ c0 c1 c2 c3 c4, cs = [c0, c1, c2, c3, c4] := by
  match cs, h with
  | [c0, c1, c2, c3, c4], _ => exact ⟨c0, c1, c2, c3, c4, rfl⟩
theorem list7 {α : Type} {cs : List α} (h : cs.length = 7) : ∃ c0 c1 c2 c3 c4 c5 c6, cs = [c0, c1, c2, c3, c4, c5, c6] := by
  match cs, h with
  | [c0, c1, c2, c3, c4, c5, c6], _ => exact ⟨c0, c1, c2, c3, c4, c5, c6, rfl⟩
theorem list12 {α : Type} {cs : List α} (h : cs.length = 12) : ∃ c0 c1 c2 c3 c4 c5 c6 c7 c8 c9 c10 c11, cs = [c0, c1, c2, c3, c4, c5, c6, c7, c8, c9, c10, c11] := by
  match cs, h with
  | [c0, c1, c2, c3, c4, c5, c6, c7, c8, c9, c10, c11], _ => exact ⟨c0, c1, c2, c3, c4, c5, c6, c7, c8, c9, c10, c11, rfl⟩
set_option maxRecDepth 100000 in
theorem trod_span {H : Type} {enc : TypeId × Value → H} {W : World} {b0 n : Nat} {spare : Nat → Bool} {held : Bool} {cs : List Value} {x : DataW H × List MemPlace}
    (hf : DataW.trod enc Try.prog W b0 spare held n 25 cs = some x) : ∃ s : Sp, cs = s.vals ∧ s.u64 := by
  obtain ⟨xs, m, _, hxx, hcl, hl, hx⟩ := DataW.trod_struct Try.underlying25 hf
  obtain ⟨c0, c1, rfl⟩ := list2 (hcl.trans (by kernel_rfl))
  have at_ : ∀ i, i < 2 → ∃ y, xs[i]? = some y := by
    intro i hi
    have : i < xs.length := by rw [hl]; simpa using hi
    exact ⟨xs[i], by simp [this]⟩
  obtain ⟨y0, t0⟩ := at_ 0 (by omega)
  rw [← hx 0 _ rfl] at t0
  obtain ⟨y1, t1⟩ := at_ 1 (by omega)
  rw [← hx 1 _ rfl] at t1
  have q0 : Try.prog.cellsOf 23 = 1 := by kernel_rfl
  obtain ⟨a, f0, _, v0⟩ := DataW.trod_int Try.underlying23 t0
  replace v0 := bd_u64 v0
  obtain ⟨b, f1, _, v1⟩ := DataW.trod_int Try.underlying23 t1
  replace v1 := bd_u64 v1
  simp [q0] at f0 f1
  subst f0
  subst f1
  exact ⟨⟨a, b⟩, rfl, v0.1, v0.2, v1.1, v1.2⟩
set_option maxRecDepth 100000 in
theorem trod_cap {H : Type} {enc : TypeId × Value → H} {W : World} {b0 n : Nat} {spare : Nat → Bool} {held : Bool} {cs : List Value} {x : DataW H × List MemPlace}
    (hf : DataW.trod enc Try.prog W b0 spare held n 32 cs = some x) : ∃ k : Kc, cs = k.vals ∧ k.Rng := by
  obtain ⟨xs, m, _, hxx, hcl, hl, hx⟩ := DataW.trod_struct Try.underlying32 hf
  obtain ⟨c0, c1, c2, c3, c4, rfl⟩ := list5 (hcl.trans (by kernel_rfl))
  have at_ : ∀ i, i < 5 → ∃ y, xs[i]? = some y := by
    intro i hi
    have : i < xs.length := by rw [hl]; simpa using hi
    exact ⟨xs[i], by simp [this]⟩
  obtain ⟨y0, t0⟩ := at_ 0 (by omega)
  rw [← hx 0 _ rfl] at t0
  obtain ⟨y1, t1⟩ := at_ 1 (by omega)
  rw [← hx 1 _ rfl] at t1
  obtain ⟨y2, t2⟩ := at_ 2 (by omega)
  rw [← hx 2 _ rfl] at t2
  obtain ⟨y3, t3⟩ := at_ 3 (by omega)
  rw [← hx 3 _ rfl] at t3
  obtain ⟨y4, t4⟩ := at_ 4 (by omega)
  rw [← hx 4 _ rfl] at t4
  have q0 : Try.prog.cellsOf 23 = 1 := by kernel_rfl
  have q1 : Try.prog.cellsOf 26 = 1 := by kernel_rfl
  have q2 : Try.prog.cellsOf 3 = 1 := by kernel_rfl
  obtain ⟨b, f0, _, v0⟩ := DataW.trod_int Try.underlying23 t0
  replace v0 := bd_u64 v0
  obtain ⟨e, f1, _, v1⟩ := DataW.trod_int Try.underlying23 t1
  replace v1 := bd_u64 v1
  obtain ⟨c, f2, _, v2⟩ := DataW.trod_int Try.underlying23 t2
  replace v2 := bd_u64 v2
  obtain ⟨p', f3, _, v3⟩ := DataW.trod_int Try.underlying26 t3
  obtain ⟨p, rfl, u3⟩ := bd_u8 v3
  obtain ⟨s, f4, _, v4⟩ := DataW.trod_int Try.underlying3 t4
  simp [q0, q1, q2] at f0 f1 f2 f3 f4
  subst f0
  subst f1
  subst f2
  subst f3
  subst f4
  exact ⟨⟨b, e, c, p, s⟩, rfl, v0, v1, v2, u3⟩
set_option maxRecDepth 100000 in
theorem trod_value {H : Type} {enc : TypeId × Value → H} {W : World} {b0 n : Nat} {spare : Nat → Bool} {held : Bool} {cs : List Value} {x : DataW H × List MemPlace}
    (hf : DataW.trod enc Try.prog W b0 spare held n 34 cs = some x) : ∃ v : Vv, cs = v.vals ∧ v.Rng := by
  obtain ⟨xs, m, _, hxx, hcl, hl, hx⟩ := DataW.trod_struct Try.underlying34 hf
  obtain ⟨c0, c1, c2, c3, c4, c5, c6, rfl⟩ := list7 (hcl.trans (by kernel_rfl))
  have at_ : ∀ i, i < 3 → ∃ y, xs[i]? = some y := by
    intro i hi
    have : i < xs.length := by rw [hl]; simpa using hi
    exact ⟨xs[i], by simp [this]⟩
  obtain ⟨y0, t0⟩ := at_ 0 (by omega)
  rw [← hx 0 _ rfl] at t0
  obtain ⟨y1, t1⟩ := at_ 1 (by omega)
  rw [← hx 1 _ rfl] at t1
  obtain ⟨y2, t2⟩ := at_ 2 (by omega)
  rw [← hx 2 _ rfl] at t2
  have q0 : Try.prog.cellsOf 4 = 1 := by kernel_rfl
  have q1 : Try.prog.cellsOf 23 = 1 := by kernel_rfl
  have q2 : Try.prog.cellsOf 32 = 5 := by kernel_rfl
  obtain ⟨g, f0, _⟩ := DataW.trod_bool Try.underlying4 t0
  obtain ⟨nn, f1, _, v1⟩ := DataW.trod_int Try.underlying23 t1
  replace v1 := bd_u64 v1
  obtain ⟨c, f2, v2⟩ := trod_cap t2
  simp [q0, q1, q2, Kc.vals] at f0 f1 f2
  subst f0
  subst f1
  obtain ⟨rfl, rfl, rfl, rfl, rfl⟩ := f2
  exact ⟨⟨g, nn, c⟩, rfl, v1, v2⟩
set_option maxRecDepth 100000 in
theorem trod_type {H : Type} {enc : TypeId × Value → H} {W : World} {b0 n : Nat} {spare : Nat → Bool} {held : Bool} {cs : List Value} {x : DataW H × List MemPlace}
    (hf : DataW.trod enc Try.prog W b0 spare held n 30 cs = some x) : ∃ t : Tt, cs = t.vals ∧ t.Rng := by
  obtain ⟨xs, m, _, hxx, hcl, hl, hx⟩ := DataW.trod_struct Try.underlying30 hf
  obtain ⟨c0, c1, c2, c3, c4, c5, c6, rfl⟩ := list7 (hcl.trans (by kernel_rfl))
  have at_ : ∀ i, i < 7 → ∃ y, xs[i]? = some y := by
    intro i hi
    have : i < xs.length := by rw [hl]; simpa using hi
    exact ⟨xs[i], by simp [this]⟩
  obtain ⟨y0, t0⟩ := at_ 0 (by omega)
  rw [← hx 0 _ rfl] at t0
  obtain ⟨y1, t1⟩ := at_ 1 (by omega)
  rw [← hx 1 _ rfl] at t1
  obtain ⟨y2, t2⟩ := at_ 2 (by omega)
  rw [← hx 2 _ rfl] at t2
  obtain ⟨y3, t3⟩ := at_ 3 (by omega)
  rw [← hx 3 _ rfl] at t3
  obtain ⟨y4, t4⟩ := at_ 4 (by omega)
  rw [← hx 4 _ rfl] at t4
  obtain ⟨y5, t5⟩ := at_ 5 (by omega)
  rw [← hx 5 _ rfl] at t5
  obtain ⟨y6, t6⟩ := at_ 6 (by omega)
  rw [← hx 6 _ rfl] at t6
  have q0 : Try.prog.cellsOf 4 = 1 := by kernel_rfl
  have q1 : Try.prog.cellsOf 23 = 1 := by kernel_rfl
  have q2 : Try.prog.cellsOf 26 = 1 := by kernel_rfl
  have q3 : Try.prog.cellsOf 3 = 1 := by kernel_rfl
  obtain ⟨g, f0, _⟩ := DataW.trod_bool Try.underlying4 t0
  obtain ⟨b, f1, _, v1⟩ := DataW.trod_int Try.underlying23 t1
  replace v1 := bd_u64 v1
  obtain ⟨e, f2, _, v2⟩ := DataW.trod_int Try.underlying23 t2
  replace v2 := bd_u64 v2
  obtain ⟨lo, f3, _, v3⟩ := DataW.trod_int Try.underlying23 t3
  replace v3 := bd_u64 v3
  obtain ⟨hi, f4, _, v4⟩ := DataW.trod_int Try.underlying23 t4
  replace v4 := bd_u64 v4
  obtain ⟨p', f5, _, v5⟩ := DataW.trod_int Try.underlying26 t5
  obtain ⟨p, rfl, u5⟩ := bd_u8 v5
  obtain ⟨s, f6, _, v6⟩ := DataW.trod_int Try.underlying3 t6
  simp [q0, q1, q2, q3] at f0 f1 f2 f3 f4 f5 f6
  subst f0
  subst f1
  subst f2
  subst f3
  subst f4
  subst f5
  subst f6
  exact ⟨⟨g, b, e, lo, hi, p, s⟩, rfl, v1, v2, v3, v4, u5⟩
set_option maxRecDepth 100000 in
theorem trod_rt {H : Type} {enc : TypeId × Value → H} {W : World} {b0 n : Nat} {spare : Nat → Bool} {held : Bool} {cs : List Value} {x : DataW H × List MemPlace}
    (hf : DataW.trod enc Try.prog W b0 spare held n 28 cs = some x) : ∃ r : RT, cs = r.vals ∧ r.Rng := by
  obtain ⟨xs, m, _, hxx, hcl, hl, hx⟩ := DataW.trod_struct Try.underlying28 hf
  obtain ⟨c0, c1, c2, c3, c4, c5, c6, c7, c8, c9, c10, c11, rfl⟩ := list12 (hcl.trans (by kernel_rfl))
  have at_ : ∀ i, i < 8 → ∃ y, xs[i]? = some y := by
    intro i hi
    have : i < xs.length := by rw [hl]; simpa using hi
    exact ⟨xs[i], by simp [this]⟩
  obtain ⟨y0, t0⟩ := at_ 0 (by omega)
  rw [← hx 0 _ rfl] at t0
  obtain ⟨y1, t1⟩ := at_ 1 (by omega)
  rw [← hx 1 _ rfl] at t1
  obtain ⟨y2, t2⟩ := at_ 2 (by omega)
  rw [← hx 2 _ rfl] at t2
  obtain ⟨y3, t3⟩ := at_ 3 (by omega)
  rw [← hx 3 _ rfl] at t3
  obtain ⟨y4, t4⟩ := at_ 4 (by omega)
  rw [← hx 4 _ rfl] at t4
  obtain ⟨y5, t5⟩ := at_ 5 (by omega)
  rw [← hx 5 _ rfl] at t5
  obtain ⟨y6, t6⟩ := at_ 6 (by omega)
  rw [← hx 6 _ rfl] at t6
  obtain ⟨y7, t7⟩ := at_ 7 (by omega)
  rw [← hx 7 _ rfl] at t7
  have q0 : Try.prog.cellsOf 22 = 1 := by kernel_rfl
  have q1 : Try.prog.cellsOf 25 = 2 := by kernel_rfl
  have q2 : Try.prog.cellsOf 26 = 1 := by kernel_rfl
  have q3 : Try.prog.cellsOf 3 = 1 := by kernel_rfl
  obtain ⟨k, f0, _, v0⟩ := DataW.trod_int Try.underlying22 t0
  obtain ⟨nn, f1, v1⟩ := trod_span t1
  obtain ⟨b, f2, v2⟩ := trod_span t2
  obtain ⟨e, f3, v3⟩ := trod_span t3
  obtain ⟨p, f4, v4⟩ := trod_span t4
  obtain ⟨mu', f5, _, v5⟩ := DataW.trod_int Try.underlying26 t5
  obtain ⟨mu, rfl, u5⟩ := bd_u8 v5
  obtain ⟨ma', f6, _, v6⟩ := DataW.trod_int Try.underlying26 t6
  obtain ⟨ma, rfl, u6⟩ := bd_u8 v6
  obtain ⟨s, f7, _, v7⟩ := DataW.trod_int Try.underlying3 t7
  simp [q0, q1, q2, q3, Sp.vals] at f0 f1 f2 f3 f4 f5 f6 f7
  subst f0
  obtain ⟨rfl, rfl⟩ := f1
  obtain ⟨rfl, rfl⟩ := f2
  obtain ⟨rfl, rfl⟩ := f3
  obtain ⟨rfl, rfl⟩ := f4
  subst f5
  subst f6
  subst f7
  exact ⟨⟨k, nn, b, e, p, mu, ma, s⟩, rfl, v1, v2, v3, v4, u5, u6⟩
theorem open_span {H : Type} {enc : TypeId × Value → H} {W : World} {r : Reach} {base b0 : Nat} {spare : Nat → Bool} {held : Bool} {v : Value} {d : DataW H} {ps : List MemPlace}
    (hv : Value.okWide Try.prog W r base 25 v) (h : DataW.Trod enc Try.prog W b0 spare held 25 v d ps) : ∃ k : Sp, v = .agg k.vals.toArray ∧ k.u64 := by
  obtain ⟨cs, rfl, hsz⟩ := okWide_struct Try.underlying25 hv
  obtain ⟨fuel, hf⟩ := h
  obtain ⟨k, hk, hok⟩ := trod_span hf
  obtain ⟨l⟩ := cs
  simp [Value.cells] at hk
  subst hk
  exact ⟨k, rfl, hok⟩
theorem open_cap {H : Type} {enc : TypeId × Value → H} {W : World} {r : Reach} {base b0 : Nat} {spare : Nat → Bool} {held : Bool} {v : Value} {d : DataW H} {ps : List MemPlace}
    (hv : Value.okWide Try.prog W r base 32 v) (h : DataW.Trod enc Try.prog W b0 spare held 32 v d ps) : ∃ k : Kc, v = .agg k.vals.toArray ∧ k.Rng := by
  obtain ⟨cs, rfl, hsz⟩ := okWide_struct Try.underlying32 hv
  obtain ⟨fuel, hf⟩ := h
  obtain ⟨k, hk, hok⟩ := trod_cap hf
  obtain ⟨l⟩ := cs
  simp [Value.cells] at hk
  subst hk
  exact ⟨k, rfl, hok⟩
theorem open_value {H : Type} {enc : TypeId × Value → H} {W : World} {r : Reach} {base b0 : Nat} {spare : Nat → Bool} {held : Bool} {v : Value} {d : DataW H} {ps : List MemPlace}
    (hv : Value.okWide Try.prog W r base 34 v) (h : DataW.Trod enc Try.prog W b0 spare held 34 v d ps) : ∃ k : Vv, v = .agg k.vals.toArray ∧ k.Rng := by
  obtain ⟨cs, rfl, hsz⟩ := okWide_struct Try.underlying34 hv
  obtain ⟨fuel, hf⟩ := h
  obtain ⟨k, hk, hok⟩ := trod_value hf
  obtain ⟨l⟩ := cs
  simp [Value.cells] at hk
  subst hk
  exact ⟨k, rfl, hok⟩
theorem open_type {H : Type} {enc : TypeId × Value → H} {W : World} {r : Reach} {base b0 : Nat} {spare : Nat → Bool} {held : Bool} {v : Value} {d : DataW H} {ps : List MemPlace}
    (hv : Value.okWide Try.prog W r base 30 v) (h : DataW.Trod enc Try.prog W b0 spare held 30 v d ps) : ∃ k : Tt, v = .agg k.vals.toArray ∧ k.Rng := by
  obtain ⟨cs, rfl, hsz⟩ := okWide_struct Try.underlying30 hv
  obtain ⟨fuel, hf⟩ := h
  obtain ⟨k, hk, hok⟩ := trod_type hf
  obtain ⟨l⟩ := cs
  simp [Value.cells] at hk
  subst hk
  exact ⟨k, rfl, hok⟩
theorem open_rt {H : Type} {enc : TypeId × Value → H} {W : World} {r : Reach} {base b0 : Nat} {spare : Nat → Bool} {held : Bool} {v : Value} {d : DataW H} {ps : List MemPlace}
    (hv : Value.okWide Try.prog W r base 28 v) (h : DataW.Trod enc Try.prog W b0 spare held 28 v d ps) : ∃ k : RT, v = .agg k.vals.toArray ∧ k.Rng := by
  obtain ⟨cs, rfl, hsz⟩ := okWide_struct Try.underlying28 hv
  obtain ⟨fuel, hf⟩ := h
  obtain ⟨k, hk, hok⟩ := trod_rt hf
  obtain ⟨l⟩ := cs
  simp [Value.cells] at hk
  subst hk
  exact ⟨k, rfl, hok⟩
end R
end Go.Proofs.Ytbbpbfbifgfjdaa
