/-
  No cell of these rows narrows 'for every input' (looked for: loops, veiled, ifaces, maps, wideKeys, modest, calm, conditions, laid).
  DERIVED. THE GIVEN ROWS OF THIS SEAT. 6 by the template 'for every input the law returns true; each argument reads behind the call as it read before'; 0 by the template 'total and deterministic' (their statements: YtihminokipepcaaTotals.lean).
  GIVEN WITH THE SEED: the statements are not yours to turn. If you find one false, say at which input.
  Laid BY PROGRAM, IN A SANDBOX (cutbox-rows.mjs): the forced cells as the released guide's own fill.sh prints them over the translation 314fa5078ace40a8… (all of the seat's roots in one cut). By AI agents, Wed Nov 11 2026. No macro, syntax, notation, axiom, sorry.
-/
import Derived.Test.YtihminokipepcaaChecked
import GoSem.Claim
import GoSem.ClaimJoined
import GoSem.ClaimMapViews
import Derived.JoinedTies
import Derived.KernelRfl
namespace Go.Proofs.Ytihminokipepcaa
/- THE CELL 'sum', in the pinned program and in every row, IS THE sha256 OF THE DUMP (.gsa) THAT YtihminokipepcaaProg.lean LOADS. Nothing in Lean hashes anything: it is a label: what it is worth is what the hold of that sum in a sandbox is worth. -/
noncomputable def Try.pinned : Pinned := { name := "ytihminokipepcaa", sum := "314fa5078ace40a8722acf588b3ba8eb89445199f49f9cca5e87e29b1f413215", checked := Try.checked }
namespace Rows
def none {H : Type} : Left H := { results := [], args := [] }

/-- 'paddocklaw9.RegtypeOrder': WHATEVER THE INPUT: true; the input reads as it did. -/
def regtypeOrderSpec : ChangeSpec := { name := "regtypeOrder", fn := fun _ => fun
  | [d1, d2, d3] => { results := [.lit (.bool true)], args := [d1, d2, d3] }
  | _ => none }
def regtypeOrderRow : OpenClaim := { program := "ytihminokipepcaa", sum := "314fa5078ace40a8722acf588b3ba8eb89445199f49f9cca5e87e29b1f413215", func := "paddock/paddocklaw9.RegtypeOrder", spec := "regtypeOrder", unfollowed := true, recurses := true, apart := false }
def RegtypeOrderSaid : Prop := regtypeOrderRow.holds Try.pinned (OpenSpec.ofChange regtypeOrderSpec)

/-- ITS FALSE NEIGHBOUR: 'it returns false'. Refute it at one input. -/
def regtypeOrderWrong : ChangeSpec := { name := "regtypeOrder", fn := fun _ => fun
  | [d1, d2, d3] => { results := [.lit (.bool false)], args := [d1, d2, d3] }
  | _ => none }
def RegtypeOrderWrongFalsely : Prop := regtypeOrderRow.holds Try.pinned (OpenSpec.ofChange regtypeOrderWrong)

/-- 'paddocklaw9.RegtypeJoin': WHATEVER THE INPUT: true; the input reads as it did. -/
def regtypeJoinSpec : ChangeSpec := { name := "regtypeJoin", fn := fun _ => fun
  | [d1, d2, d3] => { results := [.lit (.bool true)], args := [d1, d2, d3] }
  | _ => none }
def regtypeJoinRow : OpenClaim := { program := "ytihminokipepcaa", sum := "314fa5078ace40a8722acf588b3ba8eb89445199f49f9cca5e87e29b1f413215", func := "paddock/paddocklaw9.RegtypeJoin", spec := "regtypeJoin", unfollowed := true, recurses := true, apart := false }
def RegtypeJoinSaid : Prop := regtypeJoinRow.holds Try.pinned (OpenSpec.ofChange regtypeJoinSpec)

/-- ITS FALSE NEIGHBOUR: 'it returns false'. Refute it at one input. -/
def regtypeJoinWrong : ChangeSpec := { name := "regtypeJoin", fn := fun _ => fun
  | [d1, d2, d3] => { results := [.lit (.bool false)], args := [d1, d2, d3] }
  | _ => none }
def RegtypeJoinWrongFalsely : Prop := regtypeJoinRow.holds Try.pinned (OpenSpec.ofChange regtypeJoinWrong)

/-- 'paddocklaw9.RegtypeGrows': WHATEVER THE INPUT: true; the input reads as it did. -/
def regtypeGrowsSpec : ChangeSpec := { name := "regtypeGrows", fn := fun _ => fun
  | [d1, d2] => { results := [.lit (.bool true)], args := [d1, d2] }
  | _ => none }
def regtypeGrowsRow : OpenClaim := { program := "ytihminokipepcaa", sum := "314fa5078ace40a8722acf588b3ba8eb89445199f49f9cca5e87e29b1f413215", func := "paddock/paddocklaw9.RegtypeGrows", spec := "regtypeGrows", unfollowed := true, recurses := true, apart := false }
def RegtypeGrowsSaid : Prop := regtypeGrowsRow.holds Try.pinned (OpenSpec.ofChange regtypeGrowsSpec)

/-- ITS FALSE NEIGHBOUR: 'it returns false'. Refute it at one input. -/
def regtypeGrowsWrong : ChangeSpec := { name := "regtypeGrows", fn := fun _ => fun
  | [d1, d2] => { results := [.lit (.bool false)], args := [d1, d2] }
  | _ => none }
def RegtypeGrowsWrongFalsely : Prop := regtypeGrowsRow.holds Try.pinned (OpenSpec.ofChange regtypeGrowsWrong)

/-- 'paddocklaw9.RegtypeHas': WHATEVER THE INPUT: true; the input reads as it did. -/
def regtypeHasSpec : ChangeSpec := { name := "regtypeHas", fn := fun _ => fun
  | [d1, d2] => { results := [.lit (.bool true)], args := [d1, d2] }
  | _ => none }
def regtypeHasRow : OpenClaim := { program := "ytihminokipepcaa", sum := "314fa5078ace40a8722acf588b3ba8eb89445199f49f9cca5e87e29b1f413215", func := "paddock/paddocklaw9.RegtypeHas", spec := "regtypeHas", unfollowed := true, recurses := true, apart := false }
def RegtypeHasSaid : Prop := regtypeHasRow.holds Try.pinned (OpenSpec.ofChange regtypeHasSpec)

/-- ITS FALSE NEIGHBOUR: 'it returns false'. Refute it at one input. -/
def regtypeHasWrong : ChangeSpec := { name := "regtypeHas", fn := fun _ => fun
  | [d1, d2] => { results := [.lit (.bool false)], args := [d1, d2] }
  | _ => none }
def RegtypeHasWrongFalsely : Prop := regtypeHasRow.holds Try.pinned (OpenSpec.ofChange regtypeHasWrong)

/-- 'paddocklaw9.RegtypeExact': WHATEVER THE INPUT: true; the input reads as it did. -/
def regtypeExactSpec : ChangeSpec := { name := "regtypeExact", fn := fun _ => fun
  | [d1, d2, d3, d4] => { results := [.lit (.bool true)], args := [d1, d2, d3, d4] }
  | _ => none }
def regtypeExactRow : OpenClaim := { program := "ytihminokipepcaa", sum := "314fa5078ace40a8722acf588b3ba8eb89445199f49f9cca5e87e29b1f413215", func := "paddock/paddocklaw9.RegtypeExact", spec := "regtypeExact", unfollowed := true, recurses := true, apart := false }
def RegtypeExactSaid : Prop := regtypeExactRow.holds Try.pinned (OpenSpec.ofChange regtypeExactSpec)

/-- ITS FALSE NEIGHBOUR: 'it returns false'. Refute it at one input. -/
def regtypeExactWrong : ChangeSpec := { name := "regtypeExact", fn := fun _ => fun
  | [d1, d2, d3, d4] => { results := [.lit (.bool false)], args := [d1, d2, d3, d4] }
  | _ => none }
def RegtypeExactWrongFalsely : Prop := regtypeExactRow.holds Try.pinned (OpenSpec.ofChange regtypeExactWrong)

/-- 'paddocklaw9.RegtypeValues': WHATEVER THE INPUT: true; the input reads as it did. -/
def regtypeValuesSpec : ChangeSpec := { name := "regtypeValues", fn := fun _ => fun
  | [d1, d2, d3] => { results := [.lit (.bool true)], args := [d1, d2, d3] }
  | _ => none }
def regtypeValuesRow : OpenClaim := { program := "ytihminokipepcaa", sum := "314fa5078ace40a8722acf588b3ba8eb89445199f49f9cca5e87e29b1f413215", func := "paddock/paddocklaw9.RegtypeValues", spec := "regtypeValues", unfollowed := true, recurses := true, apart := false }
def RegtypeValuesSaid : Prop := regtypeValuesRow.holds Try.pinned (OpenSpec.ofChange regtypeValuesSpec)

/-- ITS FALSE NEIGHBOUR: 'it returns false'. Refute it at one input. -/
def regtypeValuesWrong : ChangeSpec := { name := "regtypeValues", fn := fun _ => fun
  | [d1, d2, d3] => { results := [.lit (.bool false)], args := [d1, d2, d3] }
  | _ => none }
def RegtypeValuesWrongFalsely : Prop := regtypeValuesRow.holds Try.pinned (OpenSpec.ofChange regtypeValuesWrong)

/- THE SECOND FORM. 'bulk': how many values and letters a reading holds, each counted each time it is reached (what is shared counts as often as it is met; a slice's spare places count too). A statement '..UptoSaid' is the law's where the arguments, and the package variables that the reading takes, are together of bulk at most 1048576: NARROWER than '..Said'. Prove '..Said' where nothing that the law and all that it calls make is longer than what came in: it says more and counts as full. Else prove '..UptoSaid'. A law counts once. -/
mutual
def uptoBulk {H : Type} : DataW H → Nat
  | .lit (.string bytes) => bytes.length + 1
  | .lit _ => 1
  | .nil => 1
  | .ptr d => uptoBulk d + 1
  | .slice elems spare => uptoBulkAll elems + uptoBulkAll spare + 1
  | .agg parts => uptoBulkAll parts + 1
  | .iface _ d => uptoBulk d + 1
  | .map entries => uptoBulkEntries entries + 1
  | .held _ => 1
def uptoBulkAll {H : Type} : List (DataW H) → Nat
  | [] => 0
  | d :: r => uptoBulk d + uptoBulkAll r
def uptoBulkEntries {H : Type} : List (Lit × DataW H) → Nat
  | [] => 0
  | x :: r => uptoBulkEntry x + uptoBulkEntries r
def uptoBulkEntry {H : Type} : Lit × DataW H → Nat
  | (.string bytes, d) => bytes.length + uptoBulk d + 1
  | (_, d) => uptoBulk d + 1
 end
def uptoSmall : (H : Type) → List (DataW H) → Bool := fun _ ds => decide (uptoBulkAll ds ≤ 1048576)
def OpenSpec.upto (s : _root_.Go.ChangeSpec) : _root_.Go.OpenSpec := { _root_.Go.OpenSpec.ofChange s with cond := some uptoSmall }

/-- 'paddocklaw9.RegtypeOrder', WHERE WHAT IT READS IS OF BULK AT MOST 1048576: true; the input reads as it did. -/
def regtypeOrderUptoRow : OpenClaim := { program := "ytihminokipepcaa", sum := "314fa5078ace40a8722acf588b3ba8eb89445199f49f9cca5e87e29b1f413215", func := "paddock/paddocklaw9.RegtypeOrder", spec := "regtypeOrder", unfollowed := true, recurses := true, apart := false, narrowed := true }
def RegtypeOrderUptoSaid : Prop := regtypeOrderUptoRow.holds Try.pinned (OpenSpec.upto regtypeOrderSpec)

/-- 'paddocklaw9.RegtypeJoin', WHERE WHAT IT READS IS OF BULK AT MOST 1048576: true; the input reads as it did. -/
def regtypeJoinUptoRow : OpenClaim := { program := "ytihminokipepcaa", sum := "314fa5078ace40a8722acf588b3ba8eb89445199f49f9cca5e87e29b1f413215", func := "paddock/paddocklaw9.RegtypeJoin", spec := "regtypeJoin", unfollowed := true, recurses := true, apart := false, narrowed := true }
def RegtypeJoinUptoSaid : Prop := regtypeJoinUptoRow.holds Try.pinned (OpenSpec.upto regtypeJoinSpec)

/-- 'paddocklaw9.RegtypeGrows', WHERE WHAT IT READS IS OF BULK AT MOST 1048576: true; the input reads as it did. -/
def regtypeGrowsUptoRow : OpenClaim := { program := "ytihminokipepcaa", sum := "314fa5078ace40a8722acf588b3ba8eb89445199f49f9cca5e87e29b1f413215", func := "paddock/paddocklaw9.RegtypeGrows", spec := "regtypeGrows", unfollowed := true, recurses := true, apart := false, narrowed := true }
def RegtypeGrowsUptoSaid : Prop := regtypeGrowsUptoRow.holds Try.pinned (OpenSpec.upto regtypeGrowsSpec)

/-- 'paddocklaw9.RegtypeHas', WHERE WHAT IT READS IS OF BULK AT MOST 1048576: true; the input reads as it did. -/
def regtypeHasUptoRow : OpenClaim := { program := "ytihminokipepcaa", sum := "314fa5078ace40a8722acf588b3ba8eb89445199f49f9cca5e87e29b1f413215", func := "paddock/paddocklaw9.RegtypeHas", spec := "regtypeHas", unfollowed := true, recurses := true, apart := false, narrowed := true }
def RegtypeHasUptoSaid : Prop := regtypeHasUptoRow.holds Try.pinned (OpenSpec.upto regtypeHasSpec)

/-- 'paddocklaw9.RegtypeExact', WHERE WHAT IT READS IS OF BULK AT MOST 1048576: true; the input reads as it did. -/
def regtypeExactUptoRow : OpenClaim := { program := "ytihminokipepcaa", sum := "314fa5078ace40a8722acf588b3ba8eb89445199f49f9cca5e87e29b1f413215", func := "paddock/paddocklaw9.RegtypeExact", spec := "regtypeExact", unfollowed := true, recurses := true, apart := false, narrowed := true }
def RegtypeExactUptoSaid : Prop := regtypeExactUptoRow.holds Try.pinned (OpenSpec.upto regtypeExactSpec)

/-- 'paddocklaw9.RegtypeValues', WHERE WHAT IT READS IS OF BULK AT MOST 1048576: true; the input reads as it did. -/
def regtypeValuesUptoRow : OpenClaim := { program := "ytihminokipepcaa", sum := "314fa5078ace40a8722acf588b3ba8eb89445199f49f9cca5e87e29b1f413215", func := "paddock/paddocklaw9.RegtypeValues", spec := "regtypeValues", unfollowed := true, recurses := true, apart := false, narrowed := true }
def RegtypeValuesUptoSaid : Prop := regtypeValuesUptoRow.holds Try.pinned (OpenSpec.upto regtypeValuesSpec)

end Rows
end Go.Proofs.Ytihminokipepcaa
