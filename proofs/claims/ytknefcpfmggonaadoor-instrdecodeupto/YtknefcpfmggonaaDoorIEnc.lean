/-
  Stage 3, instr: Encode.
-/
import Derived.Test.YtknefcpfmggonaaDoorIApp
import Derived.Test.YtknefcpfmggonaaDoorIRight
namespace Go.Proofs.YtknefcpfmggonaaDoor
open Go.RowKit

def Ins.right (k : Ins) : Int := rightF k.op k.a k.b k.c k.m
/-- What Encode answers of the instructions that are left. -/
def encF : List Ins → Nat → List UInt8 → List UInt8 × Int × Int
  | [], _, B => (B, 0, 0)
  | k :: r, j, B => if k.right = 0 then encF r (j + 1) (B ++ bytesOf k) else ([], k.right, j)
theorem enc_next {L : List Ins} {j : Nat} {B : List UInt8} (h : j < L.length) (hr : L[j].right = 0) : encF (L.drop j) j B = encF (L.drop (j + 1)) (j + 1) (B ++ bytesOf L[j]) := by
  rw [List.drop_eq_getElem_cons h, encF, if_pos hr]
theorem enc_stop {L : List Ins} {j : Nat} {B : List UInt8} (h : j < L.length) (hr : ¬ L[j].right = 0) : encF (L.drop j) j B = ([], L[j].right, (j : Int)) := by
  rw [List.drop_eq_getElem_cons h, encF, if_neg hr]
theorem enc_end {L : List Ins} {j : Nat} {B : List UInt8} (h : ¬ j < L.length) : encF (L.drop j) j B = (B, 0, 0) := by
  have : L.drop j = [] := by rw [List.drop_eq_nil_iff]; omega
  rw [this]; rfl
/-- An operation's number is one of a byte. -/
def OpsIn (L : List Ins) : Prop := ∀ k ∈ L, 0 ≤ k.op ∧ k.op < 256
/-- So many instructions as memory can hold. -/
def maxI : Nat := 3518437208883
end Go.Proofs.YtknefcpfmggonaaDoor
