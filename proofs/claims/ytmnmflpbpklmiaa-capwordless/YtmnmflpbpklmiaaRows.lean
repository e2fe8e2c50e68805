/-
  No cell of these rows narrows 'for every input' (looked for: loops, veiled, ifaces, maps, wideKeys, modest, calm, conditions, laid).
  DERIVED. THE GIVEN ROWS OF THIS SEAT. 6 by the template 'for every input the law returns true; each argument reads behind the call as it read before'; 0 by the template 'total and deterministic' (their statements: YtmnmflpbpklmiaaTotals.lean).
  GIVEN WITH THE SEED: the statements are not yours to turn. If you find one false, say at which input.
  Laid BY PROGRAM, IN A SANDBOX (cutbox-rows.mjs): the forced cells as the released guide's own fill.sh prints them over the translation 7a7eb6ee61a65a05… (all of the seat's roots in one cut). By AI agents, Wed Nov 11 2026. No macro, syntax, notation, axiom, sorry.
-/
import Derived.Test.YtmnmflpbpklmiaaChecked
import GoSem.Claim
import GoSem.ClaimJoined
import GoSem.ClaimMapViews
import Derived.JoinedTies
import Derived.KernelRfl
namespace Go.Proofs.Ytmnmflpbpklmiaa
/- THE CELL 'sum', in the pinned program and in every row, IS THE sha256 OF THE DUMP (.gsa) THAT YtmnmflpbpklmiaaProg.lean LOADS. Nothing in Lean hashes anything: it is a label: what it is worth is what the hold of that sum in a sandbox is worth. -/
noncomputable def Try.pinned : Pinned := { name := "ytmnmflpbpklmiaa", sum := "7a7eb6ee61a65a0558ac5277d8d0f1adbffe61be539b562861a07c121537b29a", checked := Try.checked }
namespace Rows
def none {H : Type} : Left H := { results := [], args := [] }

/-- 'paddocklaw1.CapwordOrder': WHATEVER THE INPUT: true; the input reads as it did. -/
def capwordOrderSpec : ChangeSpec := { name := "capwordOrder", fn := fun _ => fun
  | [d1, d2, d3] => { results := [.lit (.bool true)], args := [d1, d2, d3] }
  | _ => none }
def capwordOrderRow : OpenClaim := { program := "ytmnmflpbpklmiaa", sum := "7a7eb6ee61a65a0558ac5277d8d0f1adbffe61be539b562861a07c121537b29a", func := "paddock/paddocklaw1.CapwordOrder", spec := "capwordOrder", apart := false }
def CapwordOrderSaid : Prop := capwordOrderRow.holds Try.pinned (OpenSpec.ofChange capwordOrderSpec)

/-- ITS FALSE NEIGHBOUR: 'it returns false'. Refute it at one input. -/
def capwordOrderWrong : ChangeSpec := { name := "capwordOrder", fn := fun _ => fun
  | [d1, d2, d3] => { results := [.lit (.bool false)], args := [d1, d2, d3] }
  | _ => none }
def CapwordOrderWrongFalsely : Prop := capwordOrderRow.holds Try.pinned (OpenSpec.ofChange capwordOrderWrong)

/-- 'paddocklaw1.CapwordUsed': WHATEVER THE INPUT: true; the input reads as it did. -/
def capwordUsedSpec : ChangeSpec := { name := "capwordUsed", fn := fun _ => fun
  | [d1, d2, d3, d4, d5] => { results := [.lit (.bool true)], args := [d1, d2, d3, d4, d5] }
  | _ => none }
def capwordUsedRow : OpenClaim := { program := "ytmnmflpbpklmiaa", sum := "7a7eb6ee61a65a0558ac5277d8d0f1adbffe61be539b562861a07c121537b29a", func := "paddock/paddocklaw1.CapwordUsed", spec := "capwordUsed", apart := false }
def CapwordUsedSaid : Prop := capwordUsedRow.holds Try.pinned (OpenSpec.ofChange capwordUsedSpec)

/-- ITS FALSE NEIGHBOUR: 'it returns false'. Refute it at one input. -/
def capwordUsedWrong : ChangeSpec := { name := "capwordUsed", fn := fun _ => fun
  | [d1, d2, d3, d4, d5] => { results := [.lit (.bool false)], args := [d1, d2, d3, d4, d5] }
  | _ => none }
def CapwordUsedWrongFalsely : Prop := capwordUsedRow.holds Try.pinned (OpenSpec.ofChange capwordUsedWrong)

/-- 'paddocklaw1.CapwordRight': WHATEVER THE INPUT: true; the input reads as it did. -/
def capwordRightSpec : ChangeSpec := { name := "capwordRight", fn := fun _ => fun
  | [d] => { results := [.lit (.bool true)], args := [d] }
  | _ => none }
def capwordRightRow : OpenClaim := { program := "ytmnmflpbpklmiaa", sum := "7a7eb6ee61a65a0558ac5277d8d0f1adbffe61be539b562861a07c121537b29a", func := "paddock/paddocklaw1.CapwordRight", spec := "capwordRight", apart := false }
def CapwordRightSaid : Prop := capwordRightRow.holds Try.pinned (OpenSpec.ofChange capwordRightSpec)

/-- ITS FALSE NEIGHBOUR: 'it returns false'. Refute it at one input. -/
def capwordRightWrong : ChangeSpec := { name := "capwordRight", fn := fun _ => fun
  | [d] => { results := [.lit (.bool false)], args := [d] }
  | _ => none }
def CapwordRightWrongFalsely : Prop := capwordRightRow.holds Try.pinned (OpenSpec.ofChange capwordRightWrong)

/-- 'paddocklaw1.CapwordUnder': WHATEVER THE INPUT: true; the input reads as it did. -/
def capwordUnderSpec : ChangeSpec := { name := "capwordUnder", fn := fun _ => fun
  | [d1, d2] => { results := [.lit (.bool true)], args := [d1, d2] }
  | _ => none }
def capwordUnderRow : OpenClaim := { program := "ytmnmflpbpklmiaa", sum := "7a7eb6ee61a65a0558ac5277d8d0f1adbffe61be539b562861a07c121537b29a", func := "paddock/paddocklaw1.CapwordUnder", spec := "capwordUnder", apart := false }
def CapwordUnderSaid : Prop := capwordUnderRow.holds Try.pinned (OpenSpec.ofChange capwordUnderSpec)

/-- ITS FALSE NEIGHBOUR: 'it returns false'. Refute it at one input. -/
def capwordUnderWrong : ChangeSpec := { name := "capwordUnder", fn := fun _ => fun
  | [d1, d2] => { results := [.lit (.bool false)], args := [d1, d2] }
  | _ => none }
def CapwordUnderWrongFalsely : Prop := capwordUnderRow.holds Try.pinned (OpenSpec.ofChange capwordUnderWrong)

/-- 'paddocklaw1.CapwordAccess': WHATEVER THE INPUT: true; the input reads as it did. -/
def capwordAccessSpec : ChangeSpec := { name := "capwordAccess", fn := fun _ => fun
  | [d1, d2, d3, d4] => { results := [.lit (.bool true)], args := [d1, d2, d3, d4] }
  | _ => none }
def capwordAccessRow : OpenClaim := { program := "ytmnmflpbpklmiaa", sum := "7a7eb6ee61a65a0558ac5277d8d0f1adbffe61be539b562861a07c121537b29a", func := "paddock/paddocklaw1.CapwordAccess", spec := "capwordAccess", apart := false }
def CapwordAccessSaid : Prop := capwordAccessRow.holds Try.pinned (OpenSpec.ofChange capwordAccessSpec)

/-- ITS FALSE NEIGHBOUR: 'it returns false'. Refute it at one input. -/
def capwordAccessWrong : ChangeSpec := { name := "capwordAccess", fn := fun _ => fun
  | [d1, d2, d3, d4] => { results := [.lit (.bool false)], args := [d1, d2, d3, d4] }
  | _ => none }
def CapwordAccessWrongFalsely : Prop := capwordAccessRow.holds Try.pinned (OpenSpec.ofChange capwordAccessWrong)

/-- 'paddocklaw1.CapwordLess': WHATEVER THE INPUT: true; the input reads as it did. -/
def capwordLessSpec : ChangeSpec := { name := "capwordLess", fn := fun _ => fun
  | [d1, d2, d3, d4, d5] => { results := [.lit (.bool true)], args := [d1, d2, d3, d4, d5] }
  | _ => none }
def capwordLessRow : OpenClaim := { program := "ytmnmflpbpklmiaa", sum := "7a7eb6ee61a65a0558ac5277d8d0f1adbffe61be539b562861a07c121537b29a", func := "paddock/paddocklaw1.CapwordLess", spec := "capwordLess", apart := false }
def CapwordLessSaid : Prop := capwordLessRow.holds Try.pinned (OpenSpec.ofChange capwordLessSpec)

/-- ITS FALSE NEIGHBOUR: 'it returns false'. Refute it at one input. -/
def capwordLessWrong : ChangeSpec := { name := "capwordLess", fn := fun _ => fun
  | [d1, d2, d3, d4, d5] => { results := [.lit (.bool false)], args := [d1, d2, d3, d4, d5] }
  | _ => none }
def CapwordLessWrongFalsely : Prop := capwordLessRow.holds Try.pinned (OpenSpec.ofChange capwordLessWrong)

/- THE SECOND FORM. 'bulk': how many values and letters a reading holds, each counted each time it is reached (what is shared counts as often as it is met; a slice's spare places count too). A statement '..UptoSaid' is the law's where the arguments, and the package variables that the reading takes, are together of bulk at most 1048576: NARROWER than '..Said'. Prove '..Said' where nothing that the law and all that it calls make is longer than what came in: it says more and counts as full. Else prove '..UptoSaid'. A law counts once. -/
mutual
def uptoBulk {H : Type} : DataW H → Nat
  | .lit (.string bytes) => bytes.length + 1
  | .lit _ => 1
  | .nil => 1
  | .ptr d => uptoBulk d + 1
  | .slice elems spare => uptoBulkAll elems + uptoBulkAll spare + 1
  | .agg parts => uptoBulkAll parts + 1
  | .iface _ d => uptoBulk d + 1
  | .map entries => uptoBulkEntries entries + 1
  | .held _ => 1
def uptoBulkAll {H : Type} : List (DataW H) → Nat
  | [] => 0
  | d :: r => uptoBulk d + uptoBulkAll r
def uptoBulkEntries {H : Type} : List (Lit × DataW H) → Nat
  | [] => 0
  | x :: r => uptoBulkEntry x + uptoBulkEntries r
def uptoBulkEntry {H : Type} : Lit × DataW H → Nat
  | (.string bytes, d) => bytes.length + uptoBulk d + 1
  | (_, d) => uptoBulk d + 1
 end
def uptoSmall : (H : Type) → List (DataW H) → Bool := fun _ ds => decide (uptoBulkAll ds ≤ 1048576)
def OpenSpec.upto (s : _root_.Go.ChangeSpec) : _root_.Go.OpenSpec := { _root_.Go.OpenSpec.ofChange s with cond := some uptoSmall }

/-- 'paddocklaw1.CapwordOrder', WHERE WHAT IT READS IS OF BULK AT MOST 1048576: true; the input reads as it did. -/
def capwordOrderUptoRow : OpenClaim := { program := "ytmnmflpbpklmiaa", sum := "7a7eb6ee61a65a0558ac5277d8d0f1adbffe61be539b562861a07c121537b29a", func := "paddock/paddocklaw1.CapwordOrder", spec := "capwordOrder", apart := false, narrowed := true }
def CapwordOrderUptoSaid : Prop := capwordOrderUptoRow.holds Try.pinned (OpenSpec.upto capwordOrderSpec)

/-- 'paddocklaw1.CapwordUsed', WHERE WHAT IT READS IS OF BULK AT MOST 1048576: true; the input reads as it did. -/
def capwordUsedUptoRow : OpenClaim := { program := "ytmnmflpbpklmiaa", sum := "7a7eb6ee61a65a0558ac5277d8d0f1adbffe61be539b562861a07c121537b29a", func := "paddock/paddocklaw1.CapwordUsed", spec := "capwordUsed", apart := false, narrowed := true }
def CapwordUsedUptoSaid : Prop := capwordUsedUptoRow.holds Try.pinned (OpenSpec.upto capwordUsedSpec)

/-- 'paddocklaw1.CapwordRight', WHERE WHAT IT READS IS OF BULK AT MOST 1048576: true; the input reads as it did. -/
def capwordRightUptoRow : OpenClaim := { program := "ytmnmflpbpklmiaa", sum := "7a7eb6ee61a65a0558ac5277d8d0f1adbffe61be539b562861a07c121537b29a", func := "paddock/paddocklaw1.CapwordRight", spec := "capwordRight", apart := false, narrowed := true }
def CapwordRightUptoSaid : Prop := capwordRightUptoRow.holds Try.pinned (OpenSpec.upto capwordRightSpec)

/-- 'paddocklaw1.CapwordUnder', WHERE WHAT IT READS IS OF BULK AT MOST 1048576: true; the input reads as it did. -/
def capwordUnderUptoRow : OpenClaim := { program := "ytmnmflpbpklmiaa", sum := "7a7eb6ee61a65a0558ac5277d8d0f1adbffe61be539b562861a07c121537b29a", func := "paddock/paddocklaw1.CapwordUnder", spec := "capwordUnder", apart := false, narrowed := true }
def CapwordUnderUptoSaid : Prop := capwordUnderUptoRow.holds Try.pinned (OpenSpec.upto capwordUnderSpec)

/-- 'paddocklaw1.CapwordAccess', WHERE WHAT IT READS IS OF BULK AT MOST 1048576: true; the input reads as it did. -/
def capwordAccessUptoRow : OpenClaim := { program := "ytmnmflpbpklmiaa", sum := "7a7eb6ee61a65a0558ac5277d8d0f1adbffe61be539b562861a07c121537b29a", func := "paddock/paddocklaw1.CapwordAccess", spec := "capwordAccess", apart := false, narrowed := true }
def CapwordAccessUptoSaid : Prop := capwordAccessUptoRow.holds Try.pinned (OpenSpec.upto capwordAccessSpec)

/-- 'paddocklaw1.CapwordLess', WHERE WHAT IT READS IS OF BULK AT MOST 1048576: true; the input reads as it did. -/
def capwordLessUptoRow : OpenClaim := { program := "ytmnmflpbpklmiaa", sum := "7a7eb6ee61a65a0558ac5277d8d0f1adbffe61be539b562861a07c121537b29a", func := "paddock/paddocklaw1.CapwordLess", spec := "capwordLess", apart := false, narrowed := true }
def CapwordLessUptoSaid : Prop := capwordLessUptoRow.holds Try.pinned (OpenSpec.upto capwordLessSpec)

end Rows
end Go.Proofs.Ytmnmflpbpklmiaa
