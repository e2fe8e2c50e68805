/-
  No cell of these rows narrows 'for every input' (looked for: loops, veiled, ifaces, maps, wideKeys, modest, calm, conditions, laid).
  DERIVED. THE GIVEN ROWS OF THIS SEAT. 3 by the template 'for every input the law returns true; each argument reads behind the call as it read before'; 0 by the template 'total and deterministic' (their statements: YtlmgnfoopimmlaaGreatTotals.lean).
  GIVEN WITH THE SEED: the statements are not yours to turn. If you find one false, say at which input.
  Laid BY PROGRAM, IN A SANDBOX (cutbox-rows.mjs): the forced cells as the released guide's own fill.sh prints them over the translation 8eca81ad090dedd9… (all of the seat's roots in one cut). By AI agents, Wed Nov 11 2026. No macro, syntax, notation, axiom, sorry.
-/
import Derived.Test.YtlmgnfoopimmlaaGreatChecked
import GoSem.Claim
import GoSem.ClaimJoined
import GoSem.ClaimMapViews
import Derived.JoinedTies
import Derived.KernelRfl
namespace Go.Proofs.YtlmgnfoopimmlaaGreat
/- THE CELL 'sum', in the pinned program and in every row, IS THE sha256 OF THE DUMP (.gsa) THAT YtlmgnfoopimmlaaGreatProg.lean LOADS. Nothing in Lean hashes anything: it is a label: what it is worth is what the hold of that sum in a sandbox is worth. -/
noncomputable def Tryz.pinned : Pinned := { name := "ytlmgnfoopimmlaagreat", sum := "8eca81ad090dedd9478f0c589b8bc6d932eabc512f69c1452f4ed4548d449fee", checked := Tryz.checked }
namespace Rows
def none {H : Type} : Left H := { results := [], args := [] }

/-- 'paddocklaw13.FastvmNone': WHATEVER THE INPUT: true; the input reads as it did. -/
def fastvmNoneSpec : ChangeSpec := { name := "fastvmNone", fn := fun _ => fun
  | [d] => { results := [.lit (.bool true)], args := [d] }
  | _ => none }
def fastvmNoneRow : OpenClaim := { program := "ytlmgnfoopimmlaagreat", sum := "8eca81ad090dedd9478f0c589b8bc6d932eabc512f69c1452f4ed4548d449fee", func := "paddock/paddocklaw13.FastvmNone", spec := "fastvmNone", inPlace := ["internal/abi.NoEscape", "internal/bytealg.MakeNoZero"], unfollowed := true, recurses := true, apart := false }
def FastvmNoneSaid : Prop := fastvmNoneRow.holds Tryz.pinned (OpenSpec.ofChange fastvmNoneSpec)

/-- ITS FALSE NEIGHBOUR: 'it returns false'. Refute it at one input. -/
def fastvmNoneWrong : ChangeSpec := { name := "fastvmNone", fn := fun _ => fun
  | [d] => { results := [.lit (.bool false)], args := [d] }
  | _ => none }
def FastvmNoneWrongFalsely : Prop := fastvmNoneRow.holds Tryz.pinned (OpenSpec.ofChange fastvmNoneWrong)

/-- 'paddocklaw13.FastvmStill': WHATEVER THE INPUT: true; the input reads as it did. -/
def fastvmStillSpec : ChangeSpec := { name := "fastvmStill", fn := fun _ => fun
  | [d1, d2, d3, d4] => { results := [.lit (.bool true)], args := [d1, d2, d3, d4] }
  | _ => none }
def fastvmStillRow : OpenClaim := { program := "ytlmgnfoopimmlaagreat", sum := "8eca81ad090dedd9478f0c589b8bc6d932eabc512f69c1452f4ed4548d449fee", func := "paddock/paddocklaw13.FastvmStill", spec := "fastvmStill", inPlace := ["internal/abi.NoEscape", "internal/bytealg.MakeNoZero"], unfollowed := true, recurses := true, apart := false }
def FastvmStillSaid : Prop := fastvmStillRow.holds Tryz.pinned (OpenSpec.ofChange fastvmStillSpec)

/-- ITS FALSE NEIGHBOUR: 'it returns false'. Refute it at one input. -/
def fastvmStillWrong : ChangeSpec := { name := "fastvmStill", fn := fun _ => fun
  | [d1, d2, d3, d4] => { results := [.lit (.bool false)], args := [d1, d2, d3, d4] }
  | _ => none }
def FastvmStillWrongFalsely : Prop := fastvmStillRow.holds Tryz.pinned (OpenSpec.ofChange fastvmStillWrong)

/-- 'paddocklaw13.FastvmFuel': WHATEVER THE INPUT: true; the input reads as it did. -/
def fastvmFuelSpec : ChangeSpec := { name := "fastvmFuel", fn := fun _ => fun
  | [d1, d2, d3, d4, d5] => { results := [.lit (.bool true)], args := [d1, d2, d3, d4, d5] }
  | _ => none }
def fastvmFuelRow : OpenClaim := { program := "ytlmgnfoopimmlaagreat", sum := "8eca81ad090dedd9478f0c589b8bc6d932eabc512f69c1452f4ed4548d449fee", func := "paddock/paddocklaw13.FastvmFuel", spec := "fastvmFuel", inPlace := ["internal/abi.NoEscape", "internal/bytealg.MakeNoZero"], unfollowed := true, recurses := true, apart := false }
def FastvmFuelSaid : Prop := fastvmFuelRow.holds Tryz.pinned (OpenSpec.ofChange fastvmFuelSpec)

/-- ITS FALSE NEIGHBOUR: 'it returns false'. Refute it at one input. -/
def fastvmFuelWrong : ChangeSpec := { name := "fastvmFuel", fn := fun _ => fun
  | [d1, d2, d3, d4, d5] => { results := [.lit (.bool false)], args := [d1, d2, d3, d4, d5] }
  | _ => none }
def FastvmFuelWrongFalsely : Prop := fastvmFuelRow.holds Tryz.pinned (OpenSpec.ofChange fastvmFuelWrong)

/- THE SECOND FORM. 'bulk': how many values and letters a reading holds, each counted each time it is reached (what is shared counts as often as it is met; a slice's spare places count too). A statement '..UptoSaid' is the law's where the arguments, and the package variables that the reading takes, are together of bulk at most 1048576: NARROWER than '..Said'. Prove '..Said' where nothing that the law and all that it calls make is longer than what came in: it says more and counts as full. Else prove '..UptoSaid'. A law counts once. -/
mutual
def uptoBulk {H : Type} : DataW H → Nat
  | .lit (.string bytes) => bytes.length + 1
  | .lit _ => 1
  | .nil => 1
  | .ptr d => uptoBulk d + 1
  | .slice elems spare => uptoBulkAll elems + uptoBulkAll spare + 1
  | .agg parts => uptoBulkAll parts + 1
  | .iface _ d => uptoBulk d + 1
  | .map entries => uptoBulkEntries entries + 1
  | .held _ => 1
def uptoBulkAll {H : Type} : List (DataW H) → Nat
  | [] => 0
  | d :: r => uptoBulk d + uptoBulkAll r
def uptoBulkEntries {H : Type} : List (Lit × DataW H) → Nat
  | [] => 0
  | x :: r => uptoBulkEntry x + uptoBulkEntries r
def uptoBulkEntry {H : Type} : Lit × DataW H → Nat
  | (.string bytes, d) => bytes.length + uptoBulk d + 1
  | (_, d) => uptoBulk d + 1
 end
def uptoSmall : (H : Type) → List (DataW H) → Bool := fun _ ds => decide (uptoBulkAll ds ≤ 1048576)
def OpenSpec.upto (s : _root_.Go.ChangeSpec) : _root_.Go.OpenSpec := { _root_.Go.OpenSpec.ofChange s with cond := some uptoSmall }

/-- 'paddocklaw13.FastvmNone', WHERE WHAT IT READS IS OF BULK AT MOST 1048576: true; the input reads as it did. -/
def fastvmNoneUptoRow : OpenClaim := { program := "ytlmgnfoopimmlaagreat", sum := "8eca81ad090dedd9478f0c589b8bc6d932eabc512f69c1452f4ed4548d449fee", func := "paddock/paddocklaw13.FastvmNone", spec := "fastvmNone", inPlace := ["internal/abi.NoEscape", "internal/bytealg.MakeNoZero"], unfollowed := true, recurses := true, apart := false, narrowed := true }
def FastvmNoneUptoSaid : Prop := fastvmNoneUptoRow.holds Tryz.pinned (OpenSpec.upto fastvmNoneSpec)

/-- 'paddocklaw13.FastvmStill', WHERE WHAT IT READS IS OF BULK AT MOST 1048576: true; the input reads as it did. -/
def fastvmStillUptoRow : OpenClaim := { program := "ytlmgnfoopimmlaagreat", sum := "8eca81ad090dedd9478f0c589b8bc6d932eabc512f69c1452f4ed4548d449fee", func := "paddock/paddocklaw13.FastvmStill", spec := "fastvmStill", inPlace := ["internal/abi.NoEscape", "internal/bytealg.MakeNoZero"], unfollowed := true, recurses := true, apart := false, narrowed := true }
def FastvmStillUptoSaid : Prop := fastvmStillUptoRow.holds Tryz.pinned (OpenSpec.upto fastvmStillSpec)

/-- 'paddocklaw13.FastvmFuel', WHERE WHAT IT READS IS OF BULK AT MOST 1048576: true; the input reads as it did. -/
def fastvmFuelUptoRow : OpenClaim := { program := "ytlmgnfoopimmlaagreat", sum := "8eca81ad090dedd9478f0c589b8bc6d932eabc512f69c1452f4ed4548d449fee", func := "paddock/paddocklaw13.FastvmFuel", spec := "fastvmFuel", inPlace := ["internal/abi.NoEscape", "internal/bytealg.MakeNoZero"], unfollowed := true, recurses := true, apart := false, narrowed := true }
def FastvmFuelUptoSaid : Prop := fastvmFuelUptoRow.holds Tryz.pinned (OpenSpec.upto fastvmFuelSpec)

end Rows
end Go.Proofs.YtlmgnfoopimmlaaGreat
