/-
  Stage 3, instr: a field that may not be so. No Go in sight.
-/
import Derived.Test.YtehjikjpgdnjdaaDoorIMadeOne
namespace Go.Proofs.YtehjikjpgdnjdaaDoor
open Go.RowKit

/-- What is counted of a shape: registers, whether there is a code, whether there is a number. -/
def cntN : List UInt8 → Int → Int
  | [], n => n
  | l :: s, n => cntN s (if (l.toNat : Int) = 114 then n + 1 else n)
def cntC (op : Int) : List UInt8 → Bool → Bool
  | [], c => c
  | l :: s, c => cntC op s (if (l.toNat : Int) = 99 then decide (op ≠ 28) else c)
def cntM : List UInt8 → Bool → Bool
  | [], m => m
  | l :: s, m => cntM s (m || (decide ((l.toNat : Int) ≠ 114) && decide ((l.toNat : Int) ≠ 99)))
def newA (N u : Int) : Int := if N < 1 then u else 15 + u
def newC (N u : Int) (C : Bool) : Int := if N < 3 ∧ C = false then -u else 255 + u
def newM (u : Int) (M : Bool) : Int := if M = false then u else 2147483647 + u
theorem bads (op a b c m u : Int) (s : List UInt8) (hs : s ∈ shapes) (ht : op = 28 → s = [99]) (h1 : 1 ≤ u) :
    fR op s 0 (newA (cntN s 0) u) b c m = false ∧ fR op s 0 a (-u) c m = false ∧ fR op s 0 a b (newC (cntN s 0) u (cntC op s false)) m = false ∧ fR op s 0 a b c (newM u (cntM s (decide (op = 28)))) = false := by
  by_cases h28 : op = 28
  · obtain rfl := ht h28
    subst h28
    simp [fR, inE, loE, hiE, cntN, cntC, cntM, newA, newC, newM]
    omega
  · clear ht
    simp only [shapes, List.mem_cons, List.not_mem_nil, or_false] at hs
    by_cases h70 : op = 70 ∨ op = 71
    · have e : ¬ (op ≠ 70 ∧ op ≠ 71) := by omega
      rcases hs with rfl | rfl | rfl | rfl | rfl | rfl | rfl | rfl | rfl | rfl | rfl | rfl | rfl | rfl | rfl | rfl | rfl | rfl <;>
        (simp [fR, inE, loE, hiE, cntN, cntC, cntM, newA, newC, newM, h28, e]; omega)
    · have e : ¬ op = 70 ∧ ¬ op = 71 := by omega
      rcases hs with rfl | rfl | rfl | rfl | rfl | rfl | rfl | rfl | rfl | rfl | rfl | rfl | rfl | rfl | rfl | rfl | rfl | rfl <;>
        (simp [fR, inE, loE, hiE, cntN, cntC, cntM, newA, newC, newM, h28, e]; omega)
theorem bad_right {op a b c m : Int} (hn : nameOf op ≠ []) (h : fR op (shapeOf op) 0 a b c m = false) : rightF op a b c m = 32 := by
  unfold rightF; rw [if_neg hn, h]; rfl
end Go.Proofs.YtehjikjpgdnjdaaDoor
