/-
  Stage 9, regtype: what the laws ask of the program; alive, norm.
-/
import Derived.Test.YtbbpbfbifgfjdaaRRef
import Derived.Deep.RegionWith
namespace Go.Proofs.Ytbbpbfbifgfjdaa
namespace R
open Go.RowKit

/-- What the program's calls answer. -/
def CInt : Prop := ∀ (s : Sp) w, s.u64 → Calls Try.prog 22 #[.agg #[.int .u64 s.lo, .int .u64 s.hi]] w fun x w' => x = .returned (mkInt s).rt.agg ∧ Gr w w'
def CUnder : Prop := ∀ (a b : RT) w, a.Rng → b.Rng → Calls Try.prog 11 #[a.agg, b.agg] w fun x w' => x = .returned (.bool (a.nm.und b.nm)) ∧ Gr w w'
def CJoin : Prop := ∀ (a b : RT) w, a.Rng → b.Rng → Calls Try.prog 9 #[a.agg, b.agg] w fun x w' => x = .returned (a.nm.jn b.nm).rt.agg ∧ Gr w w'
def CWiden : Prop := ∀ (a b : RT) w, a.Rng → b.Rng → Calls Try.prog 37 #[a.agg, b.agg] w fun x w' => x = .returned (a.nm.wd b.nm).rt.agg ∧ Gr w w'
theorem neRT (a b : RT) (W : World) : (binOp .neq 28 a.agg b.agg).run Try.prog W = .ok (.bool (!(a.eqB b))) W := by
  have h := eqRT a b W
  simp only [RT.agg] at h ⊢
  rw [run_eql_struct] at h
  rw [run_neq_struct]
  revert h
  generalize Sem.run Try.prog (Op.equalIn 10000 _ _ _) W = r
  intro h
  cases r with
  | ok u w' =>
    simp only [Result.andThen] at h ⊢
    injection h with h1 h2
    injection h1 with h1
    rw [h1, h2]
  | halt x w' => cases h
theorem zero_rng : RT.zero.Rng := RV.rt_rng (a := .any) trivial
theorem zero_nm : RT.zero.nm = .any := RV.nm_rt (a := .any) trivial
set_option maxHeartbeats 4000000 in
theorem alive_any (hI : CInt) (hJ : CJoin) (w : World) : Calls Try.prog 6 #[] w fun x w' => x = .returned (.bool true) ∧ Gr w w' := by
  have u1 : (⟨3, 5⟩ : Sp).u64 := by unfold Sp.u64; decide
  have u2 : (⟨9, 9⟩ : Sp).u64 := by unfold Sp.u64; decide
  have h1 : T.Hid (∀ W, Calls Try.prog 22 #[.agg #[.int .u64 3, .int .u64 5]] W fun x w' => x = .returned (RV.int ⟨3, 5⟩).rt.agg ∧ Gr W w') := T.Hid.mk (fun W => by have := hI ⟨3, 5⟩ W u1; rw [show mkInt ⟨3, 5⟩ = .int ⟨3, 5⟩ from if_pos (by decide)] at this; exact this)
  have h2 : T.Hid (∀ W, Calls Try.prog 22 #[.agg #[.int .u64 9, .int .u64 9]] W fun x w' => x = .returned (RV.int ⟨9, 9⟩).rt.agg ∧ Gr W w') := T.Hid.mk (fun W => by have := hI ⟨9, 9⟩ W u2; rw [show mkInt ⟨9, 9⟩ = .int ⟨9, 9⟩ from if_pos (by decide)] at this; exact this)
  have o1 : (RV.int ⟨3, 5⟩).ok := ⟨by decide, by decide, by decide⟩
  have o2 : (RV.int ⟨9, 9⟩).ok := ⟨by decide, by decide, by decide⟩
  have h3 := T.Hid.mk (fun W => hJ (RV.int ⟨3, 5⟩).rt (RV.int ⟨9, 9⟩).rt W (RV.rt_rng o1) (RV.rt_rng o2))
  rw [RV.nm_rt o1, RV.nm_rt o2, show (RV.int ⟨3, 5⟩).jn (RV.int ⟨9, 9⟩) = .int ⟨3, 9⟩ from rfl] at h3
  clear u1 u2 o1 o2 hI hJ
  simp only [RV.rt, RT.agg, Sp.no, Int.cast_ofNat_Int] at h1 h2 h3
  have L1 := grow_cell
  have L2 := grow_frozen
  have L3 := grow_set
  have L4 := grow_lt
  have L5 := glt1
  have L6 := glt2
  have L7 := glt3
  have L8 := glt4
  have L9 := glt5
  have L10 := glt6
  have L11 := lt1
  have L12 := lt2
  have L13 := lt3
  have L14 := lt4
  have L15 := lt5
  have L16 := lt6
  have L17 := lt7
  have L18 := lt8
  go_enter Try.func6, Try.ntmps6
  go_upto_region 2 with (go_at_call 22; refine (h1.out _).mono ?_; rintro x w' ⟨rfl, l, rfl⟩)
  go_upto_region 3 with (go_at_call 22; refine (h2.out _).mono ?_; rintro x w' ⟨rfl, l', rfl⟩)
  go_wp2_with (go_at_call 9; refine (h3.out _).mono ?_; rintro x w' ⟨rfl, l2, rfl⟩)
  go_ret
  refine ⟨rfl, ?_⟩
  repeat (first | exact Gr.refl _ | refine Gr.alloc ?_ _ | refine Gr.grow ?_ _ | refine Gr.drew ?_)
end R
end Go.Proofs.Ytbbpbfbifgfjdaa
