/-
  Stage 3, instr: pick; what 'fields' makes of raw numbers. The first half has Go in sight, the second none.
-/
import Derived.Test.YtehjikjpgdnjdabDoorICode
namespace Go.Proofs.YtehjikjpgdnjdabDoor
open Go.RowKit

def pickF (c n : Int) : Int := (if c < 0 then -(c + 1) else c) % n
theorem pickF_range (c n : Int) (hn : 0 < n) : 0 ≤ pickF c n ∧ pickF c n < n :=
  ⟨Int.emod_nonneg _ (by omega), Int.emod_lt_of_pos _ hn⟩
def R64 (n : Int) : Prop := -9223372036854775808 ≤ n ∧ n < 9223372036854775808
theorem ret_i {k : IntKind} {a b : Int} (h : a = b) : Ending.returned (.int k a) = .returned (.int k b) := by rw [h]
set_option maxHeartbeats 400000 in
theorem pick_any (c n : Int) (w : World) (hc : R64 c) (hn : 0 < n) (hn1 : n ≤ 9223372036854775807) :
    Calls Tryd.prog 9 #[.int .i64 c, .int .i64 n] w fun x w' => x = .returned (.int .i64 (pickF c n)) ∧ w = w' := by
  obtain ⟨h0, h1⟩ := hc
  have n0 : n ≠ 0 := by omega
  by_cases hneg : c < 0
  · have g : decide (c < 0) = true := by simpa using hneg
    have e : pickF c n = (-(c + 1)).tmod n := by
      unfold pickF; rw [if_pos hneg, Int.tmod_eq_emod_of_nonneg (by omega)]
    have r := pickF_range c n hn
    rw [e] at r ⊢
    clear e
    have b1 : (0 : Int) ≤ -(c + 1) := by omega
    have b2 : -(c + 1) ≤ 9223372036854775807 := by omega
    go_enter Tryd.func9, Tryd.ntmps9
    go_wp2_with fail
    go_ret
    exact ⟨ret_i (Int.neg_tmod _ _).symm, rfl⟩
  · have g : decide (c < 0) = false := by simpa using hneg
    have e : pickF c n = c.tmod n := by
      unfold pickF; rw [if_neg hneg, Int.tmod_eq_emod_of_nonneg (by omega)]
    have r := pickF_range c n hn
    rw [e] at r ⊢
    clear e
    go_enter Tryd.func9, Tryd.ntmps9
    go_wp2_with fail
    go_ret
    exact ⟨ret_i (Int.tmod_eq_emod_of_nonneg hneg).symm, rfl⟩

/-- What 'fields' makes of raw numbers, letter by letter. -/
def stepM (op : Int) (r : Ins) (l : Int) (n : Int) (i : Ins) : Ins :=
  if l = 114 then (if n = 0 then { i with a := pickF r.a 16 } else if n = 1 then { i with b := pickF r.b 16 } else { i with c := pickF r.c 16 })
  else if l = 105 then (if r.m < 0 ∧ op ≠ 70 ∧ op ≠ 71 then { i with m := -1 - pickF r.m 2147483648 } else { i with m := pickF r.m 2147483648 })
  else if l = 110 then { i with m := pickF r.m 65537 }
  else if l = 112 then { i with m := pickF r.m 128 }
  else if l = 115 then { i with m := pickF r.m 16 }
  else if l = 116 ∨ l = 103 then { i with m := pickF r.m 2147483648 }
  else if l = 99 then (if op = 28 then { i with m := pickF r.m 256 } else { i with c := pickF r.c 256 })
  else i
def fF (op : Int) (r : Ins) : List UInt8 → Int → Ins → Ins
  | [], _, i => i
  | l :: s, n, i => fF op r s (if (l.toNat : Int) = 114 then n + 1 else n) (stepM op r l.toNat n i)
def madeF (r : Ins) (op : Int) : Ins := fF op r (shapeOf op) 0 ⟨op, 0, 0, 0, 0⟩
theorem made_op (r : Ins) (op : Int) : (madeF r op).op = op := by
  have h1 : ∀ (l n : Int) (i : Ins), (stepM op r l n i).op = i.op := fun l n i => by unfold stepM; (repeat' split) <;> rfl
  have h2 : ∀ (s : List UInt8) (n : Int) (i : Ins), (fF op r s n i).op = i.op := by
    intro s
    induction s with
    | nil => intro n i; rfl
    | cons l s ih => intro n i; rw [fF, ih, h1]
  exact h2 _ _ _
theorem made_fields (r : Ins) (op : Int) (s : List UInt8) (hs : s ∈ shapes) (ht : op = 28 → s = [99]) :
    fR op s 0 (fF op r s 0 ⟨op, 0, 0, 0, 0⟩).a (fF op r s 0 ⟨op, 0, 0, 0, 0⟩).b (fF op r s 0 ⟨op, 0, 0, 0, 0⟩).c (fF op r s 0 ⟨op, 0, 0, 0, 0⟩).m = true := by
  have p := pickF_range
  have a16 := p r.a 16 (by omega)
  have b16 := p r.b 16 (by omega)
  have c16 := p r.c 16 (by omega)
  have c256 := p r.c 256 (by omega)
  have m31 := p r.m 2147483648 (by omega)
  have mn := p r.m 65537 (by omega)
  have mp := p r.m 128 (by omega)
  have ms := p r.m 16 (by omega)
  have mc := p r.m 256 (by omega)
  clear p
  simp only [shapes, List.mem_cons, List.not_mem_nil, or_false] at hs
  by_cases h28 : op = 28
  · obtain rfl := ht h28
    subst h28
    simp [fR, inE, loE, hiE, fF, stepM]; omega
  · by_cases h70 : op = 70 ∨ op = 71
    · have e : ¬ (op ≠ 70 ∧ op ≠ 71) := by omega
      rcases hs with rfl | rfl | rfl | rfl | rfl | rfl | rfl | rfl | rfl | rfl | rfl | rfl | rfl | rfl | rfl | rfl | rfl | rfl <;>
        (simp [fR, inE, loE, hiE, fF, stepM, h28, e]) <;> omega
    · have e : ¬ op = 70 ∧ ¬ op = 71 := by omega
      rcases hs with rfl | rfl | rfl | rfl | rfl | rfl | rfl | rfl | rfl | rfl | rfl | rfl | rfl | rfl | rfl | rfl | rfl | rfl <;>
        (simp [fR, inE, loE, hiE, fF, stepM, h28, e]) <;> (try split) <;> (try simp) <;> omega
theorem made_right (r : Ins) (op : Int) (h1 : op < 256) (hn : nameOf op ≠ []) : (madeF r op).right = 0 := by
  have h := made_fields r op (shapeOf op) (shape_in op h1) (fun e => by subst e; rfl)
  unfold Ins.right rightF
  rw [made_op, if_neg hn]
  unfold madeF
  rw [h]
  rfl
end Go.Proofs.YtehjikjpgdnjdabDoor
