/-
  No cell of these rows narrows 'for every input' (looked for: loops, veiled, ifaces, maps, wideKeys, modest, calm, conditions, laid).
  DERIVED. THE GIVEN ROWS OF THIS SEAT. 3 by the template 'for every input the law returns true; each argument reads behind the call as it read before'; 0 by the template 'total and deterministic' (their statements: YtihminokipepcabTotals.lean).
  GIVEN WITH THE SEED: the statements are not yours to turn. If you find one false, say at which input.
  Laid BY PROGRAM, IN A SANDBOX (cutbox-rows.mjs): the forced cells as the released guide's own fill.sh prints them over the translation dfeb91fb451902bb… (all of the seat's roots in one cut). By AI agents, Wed Nov 11 2026. No macro, syntax, notation, axiom, sorry.
-/
import Derived.Test.YtihminokipepcabChecked
import GoSem.Claim
import GoSem.ClaimJoined
import GoSem.ClaimMapViews
import Derived.JoinedTies
import Derived.KernelRfl
namespace Go.Proofs.Ytihminokipepcab
/- THE CELL 'sum', in the pinned program and in every row, IS THE sha256 OF THE DUMP (.gsa) THAT YtihminokipepcabProg.lean LOADS. Nothing in Lean hashes anything: it is a label: what it is worth is what the hold of that sum in a sandbox is worth. -/
noncomputable def Try.pinned : Pinned := { name := "ytihminokipepcab", sum := "dfeb91fb451902bbe31f2dac25bda7f7f546469bfc3b50fa71ed0db8262b8fff", checked := Try.checked }
namespace Rows
def none {H : Type} : Left H := { results := [], args := [] }

/-- 'paddocklaw9.RegtypeSure': WHATEVER THE INPUT: true; the input reads as it did. -/
def regtypeSureSpec : ChangeSpec := { name := "regtypeSure", fn := fun _ => fun
  | [d1, d2] => { results := [.lit (.bool true)], args := [d1, d2] }
  | _ => none }
def regtypeSureRow : OpenClaim := { program := "ytihminokipepcab", sum := "dfeb91fb451902bbe31f2dac25bda7f7f546469bfc3b50fa71ed0db8262b8fff", func := "paddock/paddocklaw9.RegtypeSure", spec := "regtypeSure", unfollowed := true, recurses := true, apart := false }
def RegtypeSureSaid : Prop := regtypeSureRow.holds Try.pinned (OpenSpec.ofChange regtypeSureSpec)

/-- ITS FALSE NEIGHBOUR: 'it returns false'. Refute it at one input. -/
def regtypeSureWrong : ChangeSpec := { name := "regtypeSure", fn := fun _ => fun
  | [d1, d2] => { results := [.lit (.bool false)], args := [d1, d2] }
  | _ => none }
def RegtypeSureWrongFalsely : Prop := regtypeSureRow.holds Try.pinned (OpenSpec.ofChange regtypeSureWrong)

/-- 'paddocklaw9.RegtypeMade': WHATEVER THE INPUT: true; the input reads as it did. -/
def regtypeMadeSpec : ChangeSpec := { name := "regtypeMade", fn := fun _ => fun
  | [d1, d2, d3] => { results := [.lit (.bool true)], args := [d1, d2, d3] }
  | _ => none }
def regtypeMadeRow : OpenClaim := { program := "ytihminokipepcab", sum := "dfeb91fb451902bbe31f2dac25bda7f7f546469bfc3b50fa71ed0db8262b8fff", func := "paddock/paddocklaw9.RegtypeMade", spec := "regtypeMade", unfollowed := true, recurses := true, apart := false }
def RegtypeMadeSaid : Prop := regtypeMadeRow.holds Try.pinned (OpenSpec.ofChange regtypeMadeSpec)

/-- ITS FALSE NEIGHBOUR: 'it returns false'. Refute it at one input. -/
def regtypeMadeWrong : ChangeSpec := { name := "regtypeMade", fn := fun _ => fun
  | [d1, d2, d3] => { results := [.lit (.bool false)], args := [d1, d2, d3] }
  | _ => none }
def RegtypeMadeWrongFalsely : Prop := regtypeMadeRow.holds Try.pinned (OpenSpec.ofChange regtypeMadeWrong)

/-- 'paddocklaw9.RegtypeMerged': WHATEVER THE INPUT: true; the input reads as it did. -/
def regtypeMergedSpec : ChangeSpec := { name := "regtypeMerged", fn := fun _ => fun
  | [d1, d2] => { results := [.lit (.bool true)], args := [d1, d2] }
  | _ => none }
def regtypeMergedRow : OpenClaim := { program := "ytihminokipepcab", sum := "dfeb91fb451902bbe31f2dac25bda7f7f546469bfc3b50fa71ed0db8262b8fff", func := "paddock/paddocklaw9.RegtypeMerged", spec := "regtypeMerged", unfollowed := true, recurses := true, apart := false }
def RegtypeMergedSaid : Prop := regtypeMergedRow.holds Try.pinned (OpenSpec.ofChange regtypeMergedSpec)

/-- ITS FALSE NEIGHBOUR: 'it returns false'. Refute it at one input. -/
def regtypeMergedWrong : ChangeSpec := { name := "regtypeMerged", fn := fun _ => fun
  | [d1, d2] => { results := [.lit (.bool false)], args := [d1, d2] }
  | _ => none }
def RegtypeMergedWrongFalsely : Prop := regtypeMergedRow.holds Try.pinned (OpenSpec.ofChange regtypeMergedWrong)

/- THE SECOND FORM. 'bulk': how many values and letters a reading holds, each counted each time it is reached (what is shared counts as often as it is met; a slice's spare places count too). A statement '..UptoSaid' is the law's where the arguments, and the package variables that the reading takes, are together of bulk at most 1048576: NARROWER than '..Said'. Prove '..Said' where nothing that the law and all that it calls make is longer than what came in: it says more and counts as full. Else prove '..UptoSaid'. A law counts once. -/
mutual
def uptoBulk {H : Type} : DataW H → Nat
  | .lit (.string bytes) => bytes.length + 1
  | .lit _ => 1
  | .nil => 1
  | .ptr d => uptoBulk d + 1
  | .slice elems spare => uptoBulkAll elems + uptoBulkAll spare + 1
  | .agg parts => uptoBulkAll parts + 1
  | .iface _ d => uptoBulk d + 1
  | .map entries => uptoBulkEntries entries + 1
  | .held _ => 1
def uptoBulkAll {H : Type} : List (DataW H) → Nat
  | [] => 0
  | d :: r => uptoBulk d + uptoBulkAll r
def uptoBulkEntries {H : Type} : List (Lit × DataW H) → Nat
  | [] => 0
  | x :: r => uptoBulkEntry x + uptoBulkEntries r
def uptoBulkEntry {H : Type} : Lit × DataW H → Nat
  | (.string bytes, d) => bytes.length + uptoBulk d + 1
  | (_, d) => uptoBulk d + 1
 end
def uptoSmall : (H : Type) → List (DataW H) → Bool := fun _ ds => decide (uptoBulkAll ds ≤ 1048576)
def OpenSpec.upto (s : _root_.Go.ChangeSpec) : _root_.Go.OpenSpec := { _root_.Go.OpenSpec.ofChange s with cond := some uptoSmall }

/-- 'paddocklaw9.RegtypeSure', WHERE WHAT IT READS IS OF BULK AT MOST 1048576: true; the input reads as it did. -/
def regtypeSureUptoRow : OpenClaim := { program := "ytihminokipepcab", sum := "dfeb91fb451902bbe31f2dac25bda7f7f546469bfc3b50fa71ed0db8262b8fff", func := "paddock/paddocklaw9.RegtypeSure", spec := "regtypeSure", unfollowed := true, recurses := true, apart := false, narrowed := true }
def RegtypeSureUptoSaid : Prop := regtypeSureUptoRow.holds Try.pinned (OpenSpec.upto regtypeSureSpec)

/-- 'paddocklaw9.RegtypeMade', WHERE WHAT IT READS IS OF BULK AT MOST 1048576: true; the input reads as it did. -/
def regtypeMadeUptoRow : OpenClaim := { program := "ytihminokipepcab", sum := "dfeb91fb451902bbe31f2dac25bda7f7f546469bfc3b50fa71ed0db8262b8fff", func := "paddock/paddocklaw9.RegtypeMade", spec := "regtypeMade", unfollowed := true, recurses := true, apart := false, narrowed := true }
def RegtypeMadeUptoSaid : Prop := regtypeMadeUptoRow.holds Try.pinned (OpenSpec.upto regtypeMadeSpec)

/-- 'paddocklaw9.RegtypeMerged', WHERE WHAT IT READS IS OF BULK AT MOST 1048576: true; the input reads as it did. -/
def regtypeMergedUptoRow : OpenClaim := { program := "ytihminokipepcab", sum := "dfeb91fb451902bbe31f2dac25bda7f7f546469bfc3b50fa71ed0db8262b8fff", func := "paddock/paddocklaw9.RegtypeMerged", spec := "regtypeMerged", unfollowed := true, recurses := true, apart := false, narrowed := true }
def RegtypeMergedUptoSaid : Prop := regtypeMergedUptoRow.holds Try.pinned (OpenSpec.upto regtypeMergedSpec)

end Rows
end Go.Proofs.Ytihminokipepcab
