/-
  Stage 4, image: what a region holds.
-/
import Derived.Test.YthmfaafpdogpdaaDoorMLeaf
namespace Go.Proofs.YthmfaafpdogpdaaDoor
open Go.RowKit
theorem extract_any (S : List UInt8) (i j : Nat) : (str S).extract i j = str ((S.take j).drop i) := by
  apply ByteArray.ext
  simp [str, ByteArray.data_extract]
  rw [List.drop_take]
theorem ends_last (d : List UInt8) (h : 0 < d.length) : (((str d).extract (d.length - 1) d.length).toList == (str [0]).toList) = endsNought d := by
  rw [extract_any, str_list, str_list, List.take_length]
  have e : d.drop (d.length - 1) = [d[d.length - 1]] := by
    rw [List.drop_eq_getElem_cons (by omega)]
    have : d.drop (d.length - 1 + 1) = [] := by rw [List.drop_eq_nil_iff]; omega
    rw [this]
  rw [e]
  unfold endsNought
  rw [List.getLast?_eq_getElem?, List.getElem?_eq_getElem (by omega)]
  simp
set_option maxHeartbeats 400000 in
theorem liteSuffix_any (d : List UInt8) (w : World) (hd : d.length ≤ 9223372036854775807) :
    Calls Tryd.prog 90 #[.string (str d), .string (str [0])] w fun x w' => x = .returned (.bool (endsNought d)) ∧ w = w' := by
  have ss := str_size d
  have s1 : (str [0]).size = 1 := rfl
  by_cases h : 0 < d.length
  · have e := ends_last d h
    have h1 : (1 : Int) ≤ d.length := by omega
    generalize endsNought d = q at e ⊢
    go_enter Tryd.func90, Tryd.ntmps90
    go_wp2
    go_ret
    exact ⟨ret_bool rfl, rfl⟩
  · have e : d = [] := List.eq_nil_of_length_eq_zero (by omega)
    subst e
    go_enter Tryd.func90, Tryd.ntmps90
    go_wp2
    go_ret
    exact ⟨rfl, rfl⟩
set_option maxHeartbeats 400000 in
theorem HasSuffix_any (d : List UInt8) (w : World) (hd : d.length ≤ 9223372036854775807) :
    Calls Tryd.prog 77 #[.string (str d), .string (str [0])] w fun x w' => x = .returned (.bool (endsNought d)) ∧ w = w' := by
  have hl := fun w => liteSuffix_any d w hd
  generalize endsNought d = q at hl ⊢
  go_enter Tryd.func77, Tryd.ntmps77
  go_wp2_with (go_at_call 90; refine (hl _).mono ?_; rintro x w' ⟨rfl, rfl⟩)
  go_ret
  exact ⟨rfl, rfl⟩
set_option maxHeartbeats 1000000 in
theorem contentRight_any (b n : Int) (d : List UInt8) (a : Option Addr) (k c : Nat) (w : World) (hd : d.length ≤ 9223372036854775807) (hk : k ≤ 140737488355328) :
    Calls Tryd.prog 54 #[.agg #[.int .u64 b, .int .u64 n, .string (str d), .slice a k c]] w fun x w' => x = .returned (.bool (contentB n d k)) ∧ Gr w w' := by
  have hl := fun w => HasSuffix_any d w hd
  have ss := str_size d
  have sl := str_list d
  have z0 : (⟨#[0]⟩ : ByteArray) = str [0] := rfl
  by_cases h : 0 < k
  · have e1 : IntKind.u64.wrap (16 * (k : Int)) = 16 * k := by rw [IntKind.wrap_u64]; omega
    have e2 : IntKind.u64.wrap (k : Int) = k := by rw [IntKind.wrap_u64]; omega
    rw [show contentB n d k = (d.isEmpty && (n == 16 * (k : Int))) by simp [contentB, h]]
    have h' : (0 : Int) < k := by omega
    go_enter Tryd.func54, Tryd.ntmps54
    go_wp2
    all_goals
      go_ret
      refine ⟨ret_bool (by simp_all <;> (intros; omega)), ?_⟩
      (with_reducible repeat (first | exact Gr.refl _ | refine Gr.alloc ?_ _ | refine Gr.grow ?_ _ | refine Gr.drew ?_ | refine Gr.setCell ?_ _ _ _ (gr_size ?_)))
  · have e2 : IntKind.u64.wrap (d.length : Int) = d.length := by rw [IntKind.wrap_u64]; omega
    rw [show contentB n d k = (decide ((d.length : Int) ≤ n) && !endsNought d) by simp [contentB, h]]
    generalize endsNought d = q at hl ⊢
    obtain rfl : k = 0 := by omega
    go_enter Tryd.func54, Tryd.ntmps54
    go_wp2_with (go_at_call 77; refine (hl _).mono ?_; rintro x w' ⟨rfl, rfl⟩)
    all_goals
      go_ret
      refine ⟨ret_bool (by simp_all <;> (intros; omega)), ?_⟩
      (with_reducible repeat (first | exact Gr.refl _ | refine Gr.alloc ?_ _ | refine Gr.grow ?_ _ | refine Gr.drew ?_ | refine Gr.setCell ?_ _ _ _ (gr_size ?_)))
end Go.Proofs.YthmfaafpdogpdaaDoor
