/-
  No cell of these rows narrows 'for every input' (looked for: loops, veiled, ifaces, maps, wideKeys, modest, calm, conditions, laid).
  DERIVED. THE GIVEN ROWS OF THIS SEAT. 4 by the template 'for every input the law returns true; each argument reads behind the call as it read before'; 0 by the template 'total and deterministic' (their statements: YtmnmflpbpklmiabTotals.lean).
  GIVEN WITH THE SEED: the statements are not yours to turn. If you find one false, say at which input.
  Laid BY PROGRAM, IN A SANDBOX (cutbox-rows.mjs): the forced cells as the released guide's own fill.sh prints them over the translation 44bbbc4612471789… (all of the seat's roots in one cut). By AI agents, Wed Nov 11 2026. No macro, syntax, notation, axiom, sorry.
-/
import Derived.Test.YtmnmflpbpklmiabChecked
import GoSem.Claim
import GoSem.ClaimJoined
import GoSem.ClaimMapViews
import Derived.JoinedTies
import Derived.KernelRfl
namespace Go.Proofs.Ytmnmflpbpklmiab
/- THE CELL 'sum', in the pinned program and in every row, IS THE sha256 OF THE DUMP (.gsa) THAT YtmnmflpbpklmiabProg.lean LOADS. Nothing in Lean hashes anything: it is a label: what it is worth is what the hold of that sum in a sandbox is worth. -/
noncomputable def Try.pinned : Pinned := { name := "ytmnmflpbpklmiab", sum := "44bbbc461247178945f0d6c7f865a6768e39cddd105bfea93878c7a5fb89df5f", checked := Try.checked }
namespace Rows
def none {H : Type} : Left H := { results := [], args := [] }

/-- 'paddocklaw1.CapwordSeals': WHATEVER THE INPUT: true; the input reads as it did. -/
def capwordSealsSpec : ChangeSpec := { name := "capwordSeals", fn := fun _ => fun
  | [d1, d2] => { results := [.lit (.bool true)], args := [d1, d2] }
  | _ => none }
def capwordSealsRow : OpenClaim := { program := "ytmnmflpbpklmiab", sum := "44bbbc461247178945f0d6c7f865a6768e39cddd105bfea93878c7a5fb89df5f", func := "paddock/paddocklaw1.CapwordSeals", spec := "capwordSeals", apart := false }
def CapwordSealsSaid : Prop := capwordSealsRow.holds Try.pinned (OpenSpec.ofChange capwordSealsSpec)

/-- ITS FALSE NEIGHBOUR: 'it returns false'. Refute it at one input. -/
def capwordSealsWrong : ChangeSpec := { name := "capwordSeals", fn := fun _ => fun
  | [d1, d2] => { results := [.lit (.bool false)], args := [d1, d2] }
  | _ => none }
def CapwordSealsWrongFalsely : Prop := capwordSealsRow.holds Try.pinned (OpenSpec.ofChange capwordSealsWrong)

/-- 'paddocklaw1.CapwordBack': WHATEVER THE INPUT: true; the input reads as it did. -/
def capwordBackSpec : ChangeSpec := { name := "capwordBack", fn := fun _ => fun
  | [d1, d2, d3, d4, d5] => { results := [.lit (.bool true)], args := [d1, d2, d3, d4, d5] }
  | _ => none }
def capwordBackRow : OpenClaim := { program := "ytmnmflpbpklmiab", sum := "44bbbc461247178945f0d6c7f865a6768e39cddd105bfea93878c7a5fb89df5f", func := "paddock/paddocklaw1.CapwordBack", spec := "capwordBack", apart := false }
def CapwordBackSaid : Prop := capwordBackRow.holds Try.pinned (OpenSpec.ofChange capwordBackSpec)

/-- ITS FALSE NEIGHBOUR: 'it returns false'. Refute it at one input. -/
def capwordBackWrong : ChangeSpec := { name := "capwordBack", fn := fun _ => fun
  | [d1, d2, d3, d4, d5] => { results := [.lit (.bool false)], args := [d1, d2, d3, d4, d5] }
  | _ => none }
def CapwordBackWrongFalsely : Prop := capwordBackRow.holds Try.pinned (OpenSpec.ofChange capwordBackWrong)

/-- 'paddocklaw1.CapwordDerive': WHATEVER THE INPUT: true; the input reads as it did. -/
def capwordDeriveSpec : ChangeSpec := { name := "capwordDerive", fn := fun _ => fun
  | [d1, d2, d3] => { results := [.lit (.bool true)], args := [d1, d2, d3] }
  | _ => none }
def capwordDeriveRow : OpenClaim := { program := "ytmnmflpbpklmiab", sum := "44bbbc461247178945f0d6c7f865a6768e39cddd105bfea93878c7a5fb89df5f", func := "paddock/paddocklaw1.CapwordDerive", spec := "capwordDerive", apart := false }
def CapwordDeriveSaid : Prop := capwordDeriveRow.holds Try.pinned (OpenSpec.ofChange capwordDeriveSpec)

/-- ITS FALSE NEIGHBOUR: 'it returns false'. Refute it at one input. -/
def capwordDeriveWrong : ChangeSpec := { name := "capwordDerive", fn := fun _ => fun
  | [d1, d2, d3] => { results := [.lit (.bool false)], args := [d1, d2, d3] }
  | _ => none }
def CapwordDeriveWrongFalsely : Prop := capwordDeriveRow.holds Try.pinned (OpenSpec.ofChange capwordDeriveWrong)

/-- 'paddocklaw1.CapwordNever': WHATEVER THE INPUT: true; the input reads as it did. -/
def capwordNeverSpec : ChangeSpec := { name := "capwordNever", fn := fun _ => fun
  | [d1, d2] => { results := [.lit (.bool true)], args := [d1, d2] }
  | _ => none }
def capwordNeverRow : OpenClaim := { program := "ytmnmflpbpklmiab", sum := "44bbbc461247178945f0d6c7f865a6768e39cddd105bfea93878c7a5fb89df5f", func := "paddock/paddocklaw1.CapwordNever", spec := "capwordNever", apart := false }
def CapwordNeverSaid : Prop := capwordNeverRow.holds Try.pinned (OpenSpec.ofChange capwordNeverSpec)

/-- ITS FALSE NEIGHBOUR: 'it returns false'. Refute it at one input. -/
def capwordNeverWrong : ChangeSpec := { name := "capwordNever", fn := fun _ => fun
  | [d1, d2] => { results := [.lit (.bool false)], args := [d1, d2] }
  | _ => none }
def CapwordNeverWrongFalsely : Prop := capwordNeverRow.holds Try.pinned (OpenSpec.ofChange capwordNeverWrong)

/- THE SECOND FORM. 'bulk': how many values and letters a reading holds, each counted each time it is reached (what is shared counts as often as it is met; a slice's spare places count too). A statement '..UptoSaid' is the law's where the arguments, and the package variables that the reading takes, are together of bulk at most 1048576: NARROWER than '..Said'. Prove '..Said' where nothing that the law and all that it calls make is longer than what came in: it says more and counts as full. Else prove '..UptoSaid'. A law counts once. -/
mutual
def uptoBulk {H : Type} : DataW H → Nat
  | .lit (.string bytes) => bytes.length + 1
  | .lit _ => 1
  | .nil => 1
  | .ptr d => uptoBulk d + 1
  | .slice elems spare => uptoBulkAll elems + uptoBulkAll spare + 1
  | .agg parts => uptoBulkAll parts + 1
  | .iface _ d => uptoBulk d + 1
  | .map entries => uptoBulkEntries entries + 1
  | .held _ => 1
def uptoBulkAll {H : Type} : List (DataW H) → Nat
  | [] => 0
  | d :: r => uptoBulk d + uptoBulkAll r
def uptoBulkEntries {H : Type} : List (Lit × DataW H) → Nat
  | [] => 0
  | x :: r => uptoBulkEntry x + uptoBulkEntries r
def uptoBulkEntry {H : Type} : Lit × DataW H → Nat
  | (.string bytes, d) => bytes.length + uptoBulk d + 1
  | (_, d) => uptoBulk d + 1
 end
def uptoSmall : (H : Type) → List (DataW H) → Bool := fun _ ds => decide (uptoBulkAll ds ≤ 1048576)
def OpenSpec.upto (s : _root_.Go.ChangeSpec) : _root_.Go.OpenSpec := { _root_.Go.OpenSpec.ofChange s with cond := some uptoSmall }

/-- 'paddocklaw1.CapwordSeals', WHERE WHAT IT READS IS OF BULK AT MOST 1048576: true; the input reads as it did. -/
def capwordSealsUptoRow : OpenClaim := { program := "ytmnmflpbpklmiab", sum := "44bbbc461247178945f0d6c7f865a6768e39cddd105bfea93878c7a5fb89df5f", func := "paddock/paddocklaw1.CapwordSeals", spec := "capwordSeals", apart := false, narrowed := true }
def CapwordSealsUptoSaid : Prop := capwordSealsUptoRow.holds Try.pinned (OpenSpec.upto capwordSealsSpec)

/-- 'paddocklaw1.CapwordBack', WHERE WHAT IT READS IS OF BULK AT MOST 1048576: true; the input reads as it did. -/
def capwordBackUptoRow : OpenClaim := { program := "ytmnmflpbpklmiab", sum := "44bbbc461247178945f0d6c7f865a6768e39cddd105bfea93878c7a5fb89df5f", func := "paddock/paddocklaw1.CapwordBack", spec := "capwordBack", apart := false, narrowed := true }
def CapwordBackUptoSaid : Prop := capwordBackUptoRow.holds Try.pinned (OpenSpec.upto capwordBackSpec)

/-- 'paddocklaw1.CapwordDerive', WHERE WHAT IT READS IS OF BULK AT MOST 1048576: true; the input reads as it did. -/
def capwordDeriveUptoRow : OpenClaim := { program := "ytmnmflpbpklmiab", sum := "44bbbc461247178945f0d6c7f865a6768e39cddd105bfea93878c7a5fb89df5f", func := "paddock/paddocklaw1.CapwordDerive", spec := "capwordDerive", apart := false, narrowed := true }
def CapwordDeriveUptoSaid : Prop := capwordDeriveUptoRow.holds Try.pinned (OpenSpec.upto capwordDeriveSpec)

/-- 'paddocklaw1.CapwordNever', WHERE WHAT IT READS IS OF BULK AT MOST 1048576: true; the input reads as it did. -/
def capwordNeverUptoRow : OpenClaim := { program := "ytmnmflpbpklmiab", sum := "44bbbc461247178945f0d6c7f865a6768e39cddd105bfea93878c7a5fb89df5f", func := "paddock/paddocklaw1.CapwordNever", spec := "capwordNever", apart := false, narrowed := true }
def CapwordNeverUptoSaid : Prop := capwordNeverUptoRow.holds Try.pinned (OpenSpec.upto capwordNeverSpec)

end Rows
end Go.Proofs.Ytmnmflpbpklmiab
