/-
  Stage 9, regtype: a state is the same as itself.
-/
import Derived.Test.YtbbpbfbifgfjdaaRMrgS
import Derived.DeepKeys
namespace Go.Proofs.Ytbbpbfbifgfjdaa
namespace R
open Go.RowKit
theorem part_rt (R : List RT) (i : Nat) (hi : i < R.length) (W : World) : (part 28 (rowV [] RT.vals R).toArray (i * 12)).run Try.prog W = .ok (.agg (RT.vals R[i]).toArray) W := by
  unfold part
  simp [go_sem]
  exact row_take rt_len R i hi
set_option maxHeartbeats 2000000 in
theorem eqRT_in (d : Nat) (r : RT) (W : World) : (Op.equalIn (d + 4) 28 (.agg (RT.vals r).toArray) (.agg (RT.vals r).toArray)).run Try.prog W = .ok true W := by
  obtain ⟨k, ⟨n1, n2⟩, ⟨b1, b2⟩, ⟨e1, e2⟩, ⟨p1, p2⟩, mu, ma, s⟩ := r
  simp only [RT.vals]
  simp [go_sem]
theorem items_refl (d : Nat) (R : List RT) (W : World) : ∀ is : List Nat, (∀ i ∈ is, i < R.length) → (Op.eqItems (d + 4) 28 12 (rowV [] RT.vals R).toArray (rowV [] RT.vals R).toArray is).run Try.prog W = .ok true W
  | [], _ => by simp [Op.eqItems]
  | i :: is, h => by
    have hi := h i (List.mem_cons_self ..)
    simp only [Op.eqItems, Sem.run_bind, part_rt R i hi, Result.andThen_ok, eqRT_in]
    simpa using items_refl d R W is (fun j hj => h j (List.mem_cons_of_mem _ hj))
set_option maxHeartbeats 2000000 in
theorem eqSt_in (d : Nat) (l : Bool) (R : List RT) (hR : R.length = 16) (W : World) : (Op.equalIn (d + 6) 47 (.agg (stC l R).toArray) (.agg (stC l R).toArray)).run Try.prog W = .ok true W := by
  have ht : List.take 192 (List.drop 1 (stC l R)) = rowV [] RT.vals R := by
    unfold stC rowV
    have := flat_len rt_len R
    simp only [List.singleton_append, List.drop_succ_cons, List.drop_zero, List.nil_append]
    exact List.take_of_length_le (by omega)
  have hi := items_refl d R W (List.range 16) (fun i hi => by rw [hR]; simpa using hi)
  have ha := run_equalIn_array (P := Try.prog) W (d + 4) (rowV [] RT.vals R).toArray (rowV [] RT.vals R).toArray Try.underlying45 (e := 28) rfl
  rw [show Try.prog.cellsOf 28 = 12 by kernel_rfl, hi] at ha
  have h0 : (stC l R)[0]? = some (.bool l) := rfl
  rw [run_equalIn_struct (d := d + 5) (ht := by kernel_rfl) (hp := by kernel_rfl)]
  have p1 : (part 4 (stC l R).toArray 0).run Try.prog W = .ok (.bool l) W := by
    unfold part
    simp [go_sem, h0]
  have p2 : (part 45 (stC l R).toArray 1).run Try.prog W = .ok (.agg (rowV [] RT.vals R).toArray) W := by
    unfold part
    simp [go_sem]
    rw [List.drop_one] at ht
    exact ht
  have hf : ∃ f1 f2 : Field, (Try.prog.fieldsOf 47).toList = [f1, f2] ∧ f1.name ≠ "_" ∧ f2.name ≠ "_" ∧ f1.type = 4 ∧ f2.type = 45 ∧ f1.offset = 0 ∧ f2.offset = 1 := by
    unfold Program.fieldsOf
    rw [Try.underlying47]
    exact ⟨_, _, rfl, by decide, by decide, rfl, rfl, rfl, rfl⟩
  obtain ⟨f1, f2, hf, n1, n2, t1, t2, o1, o2⟩ := hf
  rw [hf]
  have b1 := run_equalIn_bool' (P := Try.prog) W (d + 4) 4 l l Try.underlying4
  rw [beq_self_eq_true] at b1
  rw [show d + 4 + 1 = d + 5 from rfl] at b1 ha
  generalize hq1 : Op.equalIn (d + 5) 4 (.bool l) (.bool l) = E1 at b1
  generalize hq2 : Op.equalIn (d + 5) 45 (.agg (rowV [] RT.vals R).toArray) (.agg (rowV [] RT.vals R).toArray) = E2 at ha
  generalize d + 5 = d5 at *
  have u1 : ∀ f fs, f.name ≠ "_" → Op.eqFields d5 (stC l R).toArray (stC l R).toArray (f :: fs) = (do
      let a ← part f.type (stC l R).toArray f.offset
      let b ← part f.type (stC l R).toArray f.offset
      let r ← Op.equalIn d5 f.type a b
      if (!r) = true then pure false else Op.eqFields d5 (stC l R).toArray (stC l R).toArray fs) := fun f fs h => by
    rw [Op.eqFields, if_pos h]
  rw [u1 f1 [f2] n1, t1, o1]
  rw [Sem.run_bind, p1, Result.andThen_ok, Sem.run_bind, p1, Result.andThen_ok, Sem.run_bind, hq1, b1, Result.andThen_ok, if_neg (by decide), u1 f2 [] n2, t2, o2]
  rw [Sem.run_bind, p2, Result.andThen_ok, Sem.run_bind, p2, Result.andThen_ok, Sem.run_bind, hq2, ha, Result.andThen_ok, if_neg (by decide), Op.eqFields]
  rfl
theorem eqSt (l : Bool) (R : List RT) (hR : R.length = 16) (W : World) : (binOp .eql 47 (.agg (stC l R).toArray) (.agg (stC l R).toArray)).run Try.prog W = .ok (.bool true) W := by
  rw [run_eql_struct, eqSt_in 9994 l R hR W]
  rfl
end R
end Go.Proofs.Ytbbpbfbifgfjdaa
