/-
  No cell of these rows narrows 'for every input' (looked for: loops, veiled, ifaces, maps, wideKeys, modest, calm, conditions, laid).
  DERIVED. THE GIVEN ROWS OF THIS SEAT. 6 by the template 'for every input the law returns true; each argument reads behind the call as it read before'; 0 by the template 'total and deterministic' (their statements: YtbmkefpgfifigaaTotals.lean).
  GIVEN WITH THE SEED: the statements are not yours to turn. If you find one false, say at which input.
  Laid BY PROGRAM, IN A SANDBOX (cutbox-rows.mjs): the forced cells as the released guide's own fill.sh prints them over the translation 27bebff7b17c2025… (all of the seat's roots in one cut). By AI agents, Wed Nov 11 2026. No macro, syntax, notation, axiom, sorry.
-/
import Derived.Test.YtbmkefpgfifigaaChecked
import GoSem.Claim
import GoSem.ClaimJoined
import GoSem.ClaimMapViews
import Derived.JoinedTies
import Derived.KernelRfl
namespace Go.Proofs.Ytbmkefpgfifigaa
/- THE CELL 'sum', in the pinned program and in every row, IS THE sha256 OF THE DUMP (.gsa) THAT YtbmkefpgfifigaaProg.lean LOADS. Nothing in Lean hashes anything: it is a label: what it is worth is what the hold of that sum in a sandbox is worth. -/
noncomputable def Try.pinned : Pinned := { name := "ytbmkefpgfifigaa", sum := "27bebff7b17c2025ce6ce4b163936887e6b76b554456e8649e1c56c73b3f3261", checked := Try.checked }
namespace Rows
def none {H : Type} : Left H := { results := [], args := [] }

/-- 'paddocklaw6.TagmemKept': WHATEVER THE INPUT: true; the input reads as it did. -/
def tagmemKeptSpec : ChangeSpec := { name := "tagmemKept", fn := fun _ => fun
  | [d1, d2] => { results := [.lit (.bool true)], args := [d1, d2] }
  | _ => none }
def tagmemKeptRow : OpenClaim := { program := "ytbmkefpgfifigaa", sum := "27bebff7b17c2025ce6ce4b163936887e6b76b554456e8649e1c56c73b3f3261", func := "paddock/paddocklaw6.TagmemKept", spec := "tagmemKept", inPlace := ["internal/abi.NoEscape", "internal/bytealg.MakeNoZero"], apart := false }
def TagmemKeptSaid : Prop := tagmemKeptRow.holds Try.pinned (OpenSpec.ofChange tagmemKeptSpec)

/-- ITS FALSE NEIGHBOUR: 'it returns false'. Refute it at one input. -/
def tagmemKeptWrong : ChangeSpec := { name := "tagmemKept", fn := fun _ => fun
  | [d1, d2] => { results := [.lit (.bool false)], args := [d1, d2] }
  | _ => none }
def TagmemKeptWrongFalsely : Prop := tagmemKeptRow.holds Try.pinned (OpenSpec.ofChange tagmemKeptWrong)

/-- 'paddocklaw6.TagmemFlat': WHATEVER THE INPUT: true; the input reads as it did. -/
def tagmemFlatSpec : ChangeSpec := { name := "tagmemFlat", fn := fun _ => fun
  | [d1, d2, d3] => { results := [.lit (.bool true)], args := [d1, d2, d3] }
  | _ => none }
def tagmemFlatRow : OpenClaim := { program := "ytbmkefpgfifigaa", sum := "27bebff7b17c2025ce6ce4b163936887e6b76b554456e8649e1c56c73b3f3261", func := "paddock/paddocklaw6.TagmemFlat", spec := "tagmemFlat", inPlace := ["internal/abi.NoEscape", "internal/bytealg.MakeNoZero"], apart := false }
def TagmemFlatSaid : Prop := tagmemFlatRow.holds Try.pinned (OpenSpec.ofChange tagmemFlatSpec)

/-- ITS FALSE NEIGHBOUR: 'it returns false'. Refute it at one input. -/
def tagmemFlatWrong : ChangeSpec := { name := "tagmemFlat", fn := fun _ => fun
  | [d1, d2, d3] => { results := [.lit (.bool false)], args := [d1, d2, d3] }
  | _ => none }
def TagmemFlatWrongFalsely : Prop := tagmemFlatRow.holds Try.pinned (OpenSpec.ofChange tagmemFlatWrong)

/-- 'paddocklaw6.TagmemTags': WHATEVER THE INPUT: true; the input reads as it did. -/
def tagmemTagsSpec : ChangeSpec := { name := "tagmemTags", fn := fun _ => fun
  | [d] => { results := [.lit (.bool true)], args := [d] }
  | _ => none }
def tagmemTagsRow : OpenClaim := { program := "ytbmkefpgfifigaa", sum := "27bebff7b17c2025ce6ce4b163936887e6b76b554456e8649e1c56c73b3f3261", func := "paddock/paddocklaw6.TagmemTags", spec := "tagmemTags", apart := false }
def TagmemTagsSaid : Prop := tagmemTagsRow.holds Try.pinned (OpenSpec.ofChange tagmemTagsSpec)

/-- ITS FALSE NEIGHBOUR: 'it returns false'. Refute it at one input. -/
def tagmemTagsWrong : ChangeSpec := { name := "tagmemTags", fn := fun _ => fun
  | [d] => { results := [.lit (.bool false)], args := [d] }
  | _ => none }
def TagmemTagsWrongFalsely : Prop := tagmemTagsRow.holds Try.pinned (OpenSpec.ofChange tagmemTagsWrong)

/-- 'paddocklaw6.TagmemNil': WHATEVER THE INPUT: true; the input reads as it did. -/
def tagmemNilSpec : ChangeSpec := { name := "tagmemNil", fn := fun _ => fun
  | [] => { results := [.lit (.bool true)], args := [] }
  | _ => none }
def tagmemNilRow : OpenClaim := { program := "ytbmkefpgfifigaa", sum := "27bebff7b17c2025ce6ce4b163936887e6b76b554456e8649e1c56c73b3f3261", func := "paddock/paddocklaw6.TagmemNil", spec := "tagmemNil", inPlace := ["internal/abi.NoEscape", "internal/bytealg.MakeNoZero"], apart := false }
def TagmemNilSaid : Prop := tagmemNilRow.holds Try.pinned (OpenSpec.ofChange tagmemNilSpec)

/-- ITS FALSE NEIGHBOUR: 'it returns false'. Refute it at one input. -/
def tagmemNilWrong : ChangeSpec := { name := "tagmemNil", fn := fun _ => fun
  | [] => { results := [.lit (.bool false)], args := [] }
  | _ => none }
def TagmemNilWrongFalsely : Prop := tagmemNilRow.holds Try.pinned (OpenSpec.ofChange tagmemNilWrong)

/-- 'paddocklaw6.TagmemAlike': WHATEVER THE INPUT: true; the input reads as it did. -/
def tagmemAlikeSpec : ChangeSpec := { name := "tagmemAlike", fn := fun _ => fun
  | [d1, d2] => { results := [.lit (.bool true)], args := [d1, d2] }
  | _ => none }
def tagmemAlikeRow : OpenClaim := { program := "ytbmkefpgfifigaa", sum := "27bebff7b17c2025ce6ce4b163936887e6b76b554456e8649e1c56c73b3f3261", func := "paddock/paddocklaw6.TagmemAlike", spec := "tagmemAlike", inPlace := ["internal/abi.NoEscape", "internal/bytealg.MakeNoZero"], apart := false }
def TagmemAlikeSaid : Prop := tagmemAlikeRow.holds Try.pinned (OpenSpec.ofChange tagmemAlikeSpec)

/-- ITS FALSE NEIGHBOUR: 'it returns false'. Refute it at one input. -/
def tagmemAlikeWrong : ChangeSpec := { name := "tagmemAlike", fn := fun _ => fun
  | [d1, d2] => { results := [.lit (.bool false)], args := [d1, d2] }
  | _ => none }
def TagmemAlikeWrongFalsely : Prop := tagmemAlikeRow.holds Try.pinned (OpenSpec.ofChange tagmemAlikeWrong)

/-- 'paddocklaw6.TagmemPlace': WHATEVER THE INPUT: true; the input reads as it did. -/
def tagmemPlaceSpec : ChangeSpec := { name := "tagmemPlace", fn := fun _ => fun
  | [d1, d2, d3, d4, d5] => { results := [.lit (.bool true)], args := [d1, d2, d3, d4, d5] }
  | _ => none }
def tagmemPlaceRow : OpenClaim := { program := "ytbmkefpgfifigaa", sum := "27bebff7b17c2025ce6ce4b163936887e6b76b554456e8649e1c56c73b3f3261", func := "paddock/paddocklaw6.TagmemPlace", spec := "tagmemPlace", inPlace := ["internal/abi.NoEscape", "internal/bytealg.MakeNoZero"], apart := false }
def TagmemPlaceSaid : Prop := tagmemPlaceRow.holds Try.pinned (OpenSpec.ofChange tagmemPlaceSpec)

/-- ITS FALSE NEIGHBOUR: 'it returns false'. Refute it at one input. -/
def tagmemPlaceWrong : ChangeSpec := { name := "tagmemPlace", fn := fun _ => fun
  | [d1, d2, d3, d4, d5] => { results := [.lit (.bool false)], args := [d1, d2, d3, d4, d5] }
  | _ => none }
def TagmemPlaceWrongFalsely : Prop := tagmemPlaceRow.holds Try.pinned (OpenSpec.ofChange tagmemPlaceWrong)

/- THE SECOND FORM. 'bulk': how many values and letters a reading holds, each counted each time it is reached (what is shared counts as often as it is met; a slice's spare places count too). A statement '..UptoSaid' is the law's where the arguments, and the package variables that the reading takes, are together of bulk at most 1048576: NARROWER than '..Said'. Prove '..Said' where nothing that the law and all that it calls make is longer than what came in: it says more and counts as full. Else prove '..UptoSaid'. A law counts once. -/
mutual
def uptoBulk {H : Type} : DataW H → Nat
  | .lit (.string bytes) => bytes.length + 1
  | .lit _ => 1
  | .nil => 1
  | .ptr d => uptoBulk d + 1
  | .slice elems spare => uptoBulkAll elems + uptoBulkAll spare + 1
  | .agg parts => uptoBulkAll parts + 1
  | .iface _ d => uptoBulk d + 1
  | .map entries => uptoBulkEntries entries + 1
  | .held _ => 1
def uptoBulkAll {H : Type} : List (DataW H) → Nat
  | [] => 0
  | d :: r => uptoBulk d + uptoBulkAll r
def uptoBulkEntries {H : Type} : List (Lit × DataW H) → Nat
  | [] => 0
  | x :: r => uptoBulkEntry x + uptoBulkEntries r
def uptoBulkEntry {H : Type} : Lit × DataW H → Nat
  | (.string bytes, d) => bytes.length + uptoBulk d + 1
  | (_, d) => uptoBulk d + 1
 end
def uptoSmall : (H : Type) → List (DataW H) → Bool := fun _ ds => decide (uptoBulkAll ds ≤ 1048576)
def OpenSpec.upto (s : _root_.Go.ChangeSpec) : _root_.Go.OpenSpec := { _root_.Go.OpenSpec.ofChange s with cond := some uptoSmall }

/-- 'paddocklaw6.TagmemKept', WHERE WHAT IT READS IS OF BULK AT MOST 1048576: true; the input reads as it did. -/
def tagmemKeptUptoRow : OpenClaim := { program := "ytbmkefpgfifigaa", sum := "27bebff7b17c2025ce6ce4b163936887e6b76b554456e8649e1c56c73b3f3261", func := "paddock/paddocklaw6.TagmemKept", spec := "tagmemKept", inPlace := ["internal/abi.NoEscape", "internal/bytealg.MakeNoZero"], apart := false, narrowed := true }
def TagmemKeptUptoSaid : Prop := tagmemKeptUptoRow.holds Try.pinned (OpenSpec.upto tagmemKeptSpec)

/-- 'paddocklaw6.TagmemFlat', WHERE WHAT IT READS IS OF BULK AT MOST 1048576: true; the input reads as it did. -/
def tagmemFlatUptoRow : OpenClaim := { program := "ytbmkefpgfifigaa", sum := "27bebff7b17c2025ce6ce4b163936887e6b76b554456e8649e1c56c73b3f3261", func := "paddock/paddocklaw6.TagmemFlat", spec := "tagmemFlat", inPlace := ["internal/abi.NoEscape", "internal/bytealg.MakeNoZero"], apart := false, narrowed := true }
def TagmemFlatUptoSaid : Prop := tagmemFlatUptoRow.holds Try.pinned (OpenSpec.upto tagmemFlatSpec)

/-- 'paddocklaw6.TagmemTags', WHERE WHAT IT READS IS OF BULK AT MOST 1048576: true; the input reads as it did. -/
def tagmemTagsUptoRow : OpenClaim := { program := "ytbmkefpgfifigaa", sum := "27bebff7b17c2025ce6ce4b163936887e6b76b554456e8649e1c56c73b3f3261", func := "paddock/paddocklaw6.TagmemTags", spec := "tagmemTags", apart := false, narrowed := true }
def TagmemTagsUptoSaid : Prop := tagmemTagsUptoRow.holds Try.pinned (OpenSpec.upto tagmemTagsSpec)

/-- 'paddocklaw6.TagmemNil', WHERE WHAT IT READS IS OF BULK AT MOST 1048576: true; the input reads as it did. -/
def tagmemNilUptoRow : OpenClaim := { program := "ytbmkefpgfifigaa", sum := "27bebff7b17c2025ce6ce4b163936887e6b76b554456e8649e1c56c73b3f3261", func := "paddock/paddocklaw6.TagmemNil", spec := "tagmemNil", inPlace := ["internal/abi.NoEscape", "internal/bytealg.MakeNoZero"], apart := false, narrowed := true }
def TagmemNilUptoSaid : Prop := tagmemNilUptoRow.holds Try.pinned (OpenSpec.upto tagmemNilSpec)

/-- 'paddocklaw6.TagmemAlike', WHERE WHAT IT READS IS OF BULK AT MOST 1048576: true; the input reads as it did. -/
def tagmemAlikeUptoRow : OpenClaim := { program := "ytbmkefpgfifigaa", sum := "27bebff7b17c2025ce6ce4b163936887e6b76b554456e8649e1c56c73b3f3261", func := "paddock/paddocklaw6.TagmemAlike", spec := "tagmemAlike", inPlace := ["internal/abi.NoEscape", "internal/bytealg.MakeNoZero"], apart := false, narrowed := true }
def TagmemAlikeUptoSaid : Prop := tagmemAlikeUptoRow.holds Try.pinned (OpenSpec.upto tagmemAlikeSpec)

/-- 'paddocklaw6.TagmemPlace', WHERE WHAT IT READS IS OF BULK AT MOST 1048576: true; the input reads as it did. -/
def tagmemPlaceUptoRow : OpenClaim := { program := "ytbmkefpgfifigaa", sum := "27bebff7b17c2025ce6ce4b163936887e6b76b554456e8649e1c56c73b3f3261", func := "paddock/paddocklaw6.TagmemPlace", spec := "tagmemPlace", inPlace := ["internal/abi.NoEscape", "internal/bytealg.MakeNoZero"], apart := false, narrowed := true }
def TagmemPlaceUptoSaid : Prop := tagmemPlaceUptoRow.holds Try.pinned (OpenSpec.upto tagmemPlaceSpec)

end Rows
end Go.Proofs.Ytbmkefpgfifigaa
