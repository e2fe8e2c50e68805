/-
  NARROWER THAN 'FOR EVERY INPUT', by the rows' own cells (each row's printed sentence says how): BoundStraight: laid.
  DERIVED. THE GIVEN ROWS OF THIS SEAT. 1 by the template 'for every input the law returns true; each argument reads behind the call as it read before'; 0 by the template 'total and deterministic' (their statements: YtkhbiaaangnkdaaGreatDoorTotals.lean).
  GIVEN WITH THE SEED: the statements are not yours to turn. If you find one false, say at which input.
  Laid BY PROGRAM, IN A SANDBOX (cutbox-rows.mjs): the forced cells as the released guide's own fill.sh prints them over the translation d246391abb8a7981… (all of the seat's roots in one cut). By AI agents, Wed Nov 11 2026. No macro, syntax, notation, axiom, sorry.
-/
import Derived.Test.YtkhbiaaangnkdaaGreatDoorChecked
import GoSem.Claim
import GoSem.ClaimJoined
import GoSem.ClaimMapViews
import Derived.JoinedTies
import Derived.KernelRfl
namespace Go.Proofs.YtkhbiaaangnkdaaGreatDoor
/- THE CELL 'sum', in the pinned program and in every row, IS THE sha256 OF THE DUMP (.gsa) THAT YtkhbiaaangnkdaaGreatDoorProg.lean LOADS. Nothing in Lean hashes anything: it is a label: what it is worth is what the hold of that sum in a sandbox is worth. -/
noncomputable def Tryz.pinned : Pinned := { name := "ytkhbiaaangnkdaagreatdoor", sum := "d246391abb8a79815975c606dec9b55baa9150e24ed8b7570c6e18df6aea82bd", checked := Tryz.checked }
namespace Rows
def none {H : Type} : Left H := { results := [], args := [] }

/- WHAT THE LISTED PACKAGE-LEVEL VARIABLES READ AS WHEN THE CALL BEGINS. Each datum BY PROGRAM (the guide's laid-datum.mjs) off the statement by which the dump's own 'gosem.cut.vars' lays the variable. In a bare row this is a premise. The card (YtkhbiaaangnkdaaGreatDoorCards.lean) ties it to the program's text. -/
def laid_paddock_instr_names {H : Type} : DataW H := .agg [.lit (.string []), .lit (.string [108, 105]), .lit (.string [109, 111, 118]), .lit (.string [97, 100, 100]), .lit (.string [115, 117, 98]), .lit (.string [109, 117, 108]), .lit (.string [97, 110, 100]), .lit (.string [111, 114]), .lit (.string [120, 111, 114]), .lit (.string [115, 104, 108]), .lit (.string [115, 104, 114]), .lit (.string [97, 100, 100, 105]), .lit (.string [115, 108, 116]), .lit (.string [115, 101, 113]), .lit (.string []), .lit (.string []), .lit (.string []), .lit (.string []), .lit (.string []), .lit (.string []), .lit (.string [106, 109, 112]), .lit (.string [98, 101, 113]), .lit (.string [98, 110, 101]), .lit (.string [98, 108, 116]), .lit (.string [98, 103, 101]), .lit (.string [99, 112, 99]), .lit (.string [106, 99]), .lit (.string [104, 97, 108, 116]), .lit (.string [116, 114, 97, 112]), .lit (.string [105, 110]), .lit (.string [111, 117, 116]), .lit (.string [99, 97, 108, 108]), .lit (.string [114, 101, 116]), .lit (.string []), .lit (.string []), .lit (.string []), .lit (.string []), .lit (.string []), .lit (.string []), .lit (.string []), .lit (.string [99, 105, 110, 99]), .lit (.string [99, 105, 110, 99, 105]), .lit (.string [99, 115, 101, 116, 98]), .lit (.string [99, 115, 101, 116, 98, 105]), .lit (.string [99, 97, 110, 100, 112]), .lit (.string [99, 115, 101, 97, 108]), .lit (.string [99, 117, 110, 115, 101, 97, 108]), .lit (.string []), .lit (.string []), .lit (.string []), .lit (.string [99, 97, 100, 100, 114]), .lit (.string [99, 98, 97, 115, 101]), .lit (.string [99, 101, 110, 100]), .lit (.string [99, 112, 101, 114, 109]), .lit (.string [99, 115, 101, 97, 108, 101, 100]), .lit (.string [99, 116, 97, 103]), .lit (.string [99, 115, 97, 109, 101]), .lit (.string []), .lit (.string []), .lit (.string []), .lit (.string [108, 98]), .lit (.string [108, 119]), .lit (.string [115, 98]), .lit (.string [115, 119]), .lit (.string [108, 99]), .lit (.string [115, 99]), .lit (.string []), .lit (.string []), .lit (.string []), .lit (.string []), .lit (.string [103, 108, 116]), .lit (.string [103, 103, 101]), .lit (.string [103, 116, 97, 103]), .lit (.string [103, 105, 110]), .lit (.string [103, 112, 101, 114, 109]), .lit (.string [103, 115, 101, 97, 108])]
def laid_paddock_instr_shapes {H : Type} : DataW H := .agg [.lit (.string []), .lit (.string [114, 105]), .lit (.string [114, 114]), .lit (.string [114, 114, 114]), .lit (.string [114, 114, 114]), .lit (.string [114, 114, 114]), .lit (.string [114, 114, 114]), .lit (.string [114, 114, 114]), .lit (.string [114, 114, 114]), .lit (.string [114, 114, 114]), .lit (.string [114, 114, 114]), .lit (.string [114, 114, 105]), .lit (.string [114, 114, 114]), .lit (.string [114, 114, 114]), .lit (.string []), .lit (.string []), .lit (.string []), .lit (.string []), .lit (.string []), .lit (.string []), .lit (.string [116]), .lit (.string [114, 114, 116]), .lit (.string [114, 114, 116]), .lit (.string [114, 114, 116]), .lit (.string [114, 114, 116]), .lit (.string [114, 116]), .lit (.string [114]), .lit (.string [114]), .lit (.string [99]), .lit (.string [114]), .lit (.string [114]), .lit (.string [103]), .lit (.string []), .lit (.string []), .lit (.string []), .lit (.string []), .lit (.string []), .lit (.string []), .lit (.string []), .lit (.string []), .lit (.string [114, 114, 114]), .lit (.string [114, 114, 105]), .lit (.string [114, 114, 114]), .lit (.string [114, 114, 110]), .lit (.string [114, 114, 112]), .lit (.string [114, 114, 114]), .lit (.string [114, 114, 114]), .lit (.string []), .lit (.string []), .lit (.string []), .lit (.string [114, 114]), .lit (.string [114, 114]), .lit (.string [114, 114]), .lit (.string [114, 114]), .lit (.string [114, 114]), .lit (.string [114, 114]), .lit (.string [114, 114, 114]), .lit (.string []), .lit (.string []), .lit (.string []), .lit (.string [114, 114, 105]), .lit (.string [114, 114, 105]), .lit (.string [114, 114, 105]), .lit (.string [114, 114, 105]), .lit (.string [114, 114, 105]), .lit (.string [114, 114, 105]), .lit (.string []), .lit (.string []), .lit (.string []), .lit (.string []), .lit (.string [114, 105, 99]), .lit (.string [114, 105, 99]), .lit (.string [114, 99]), .lit (.string [114, 110, 99]), .lit (.string [114, 112, 99]), .lit (.string [114, 115, 99])]

/-- 'paddocklaw18.BoundStraight': WHATEVER THE INPUT: true; the input reads as it did. -/
def boundStraightSpec : ChangeSpec := { name := "boundStraight", fn := fun _ => fun
  | [d1, d2] => { results := [.lit (.bool true)], args := [d1, d2] }
  | _ => none }
def boundStraightRow : OpenClaim := { program := "ytkhbiaaangnkdaagreatdoor", sum := "d246391abb8a79815975c606dec9b55baa9150e24ed8b7570c6e18df6aea82bd", func := "paddock/paddocklaw18.BoundStraight", spec := "boundStraight", unfollowed := true, recurses := true, named := ["paddock/instr.names", "paddock/instr.shapes"], apart := false, laid := [("paddock/instr.names", laid_paddock_instr_names), ("paddock/instr.shapes", laid_paddock_instr_shapes)] }
def BoundStraightSaid : Prop := boundStraightRow.holds Tryz.pinned (OpenSpec.ofChange boundStraightSpec)

/-- ITS FALSE NEIGHBOUR: 'it returns false'. Refute it at one input. -/
def boundStraightWrong : ChangeSpec := { name := "boundStraight", fn := fun _ => fun
  | [d1, d2] => { results := [.lit (.bool false)], args := [d1, d2] }
  | _ => none }
def BoundStraightWrongFalsely : Prop := boundStraightRow.holds Tryz.pinned (OpenSpec.ofChange boundStraightWrong)

/- THE SECOND FORM. 'bulk': how many values and letters a reading holds, each counted each time it is reached (what is shared counts as often as it is met; a slice's spare places count too). A statement '..UptoSaid' is the law's where the arguments, and the package variables that the reading takes, are together of bulk at most 1048576: NARROWER than '..Said'. Prove '..Said' where nothing that the law and all that it calls make is longer than what came in: it says more and counts as full. Else prove '..UptoSaid'. A law counts once. -/
mutual
def uptoBulk {H : Type} : DataW H → Nat
  | .lit (.string bytes) => bytes.length + 1
  | .lit _ => 1
  | .nil => 1
  | .ptr d => uptoBulk d + 1
  | .slice elems spare => uptoBulkAll elems + uptoBulkAll spare + 1
  | .agg parts => uptoBulkAll parts + 1
  | .iface _ d => uptoBulk d + 1
  | .map entries => uptoBulkEntries entries + 1
  | .held _ => 1
def uptoBulkAll {H : Type} : List (DataW H) → Nat
  | [] => 0
  | d :: r => uptoBulk d + uptoBulkAll r
def uptoBulkEntries {H : Type} : List (Lit × DataW H) → Nat
  | [] => 0
  | x :: r => uptoBulkEntry x + uptoBulkEntries r
def uptoBulkEntry {H : Type} : Lit × DataW H → Nat
  | (.string bytes, d) => bytes.length + uptoBulk d + 1
  | (_, d) => uptoBulk d + 1
 end
def uptoSmall : (H : Type) → List (DataW H) → Bool := fun _ ds => decide (uptoBulkAll ds ≤ 1048576)
def OpenSpec.upto (s : _root_.Go.ChangeSpec) : _root_.Go.OpenSpec := { _root_.Go.OpenSpec.ofChange s with cond := some uptoSmall }

/-- 'paddocklaw18.BoundStraight', WHERE WHAT IT READS IS OF BULK AT MOST 1048576: true; the input reads as it did. -/
def boundStraightUptoRow : OpenClaim := { program := "ytkhbiaaangnkdaagreatdoor", sum := "d246391abb8a79815975c606dec9b55baa9150e24ed8b7570c6e18df6aea82bd", func := "paddock/paddocklaw18.BoundStraight", spec := "boundStraight", unfollowed := true, recurses := true, named := ["paddock/instr.names", "paddock/instr.shapes"], apart := false, laid := [("paddock/instr.names", laid_paddock_instr_names), ("paddock/instr.shapes", laid_paddock_instr_shapes)], narrowed := true }
def BoundStraightUptoSaid : Prop := boundStraightUptoRow.holds Tryz.pinned (OpenSpec.upto boundStraightSpec)

end Rows
end Go.Proofs.YtkhbiaaangnkdaaGreatDoor
