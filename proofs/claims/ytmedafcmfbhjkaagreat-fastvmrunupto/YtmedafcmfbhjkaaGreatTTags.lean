import Derived.Test.YtmedafcmfbhjkaaGreatP06
import Derived.Deep.AppendLies
namespace Go.Proofs.YtmedafcmfbhjkaaGreat
namespace T
open Go.RowKit

def u64V (n : Nat) : Value := .int .u64 n
def UOwn (w : World) (base : Nat) (v : Value) (L : List Nat) : Prop := w.ownsRow base 35 1 v L.length (L.map u64V)
theorem UOwn.below {w w1 : World} {base : Nat} {v : Value} {L : List Nat} (h : UOwn w base v L) (hb : Below w.heap.size w w1) : UOwn w1 base v L := by
 refine ⟨h.1, ?_⟩
 rcases h.2 with h2 | ⟨g, cap, cur, hv, hbg, hg, rest⟩
 · exact .inl h2
 · have hlt : g < w.heap.size := (Array.getElem?_eq_some_iff.1 hg).1
   exact .inr ⟨g, cap, cur, hv, hbg, (hb.block g hlt).trans hg, rest⟩
theorem UOwn.nil (w : World) (base : Nat) : UOwn w base (.slice none 0 0) [] := ⟨rfl, .inl ⟨rfl, rfl⟩⟩
theorem UOwn.block {w : World} {base : Nat} {v : Value} {L : List Nat} (h : UOwn w base v L) : ∀ g, v.ownBlock = some g → base ≤ g ∧ g < w.heap.size := by
 intro g hg
 rcases h.2 with ⟨rfl, _⟩ | ⟨g', cap, cur, rfl, hbg, hh, rest⟩
 · cases hg
 · have : g' = g := by simpa [Value.ownBlock] using hg
   subst this
   exact ⟨hbg, (Array.getElem?_eq_some_iff.1 hh).1⟩
theorem info_parts' {t : TypeId} {z : Value} {s b : Nat} (h : (Tryz.prog.info? t).map (fun i => (i.zero, i.size, i.bytes)) = some (some z, s, b)) :
   ∃ i, Tryz.prog.info? t = some i ∧ i.zero = some z ∧ i.size = s ∧ i.bytes = b := by
 obtain ⟨i, hi, he⟩ := Option.map_eq_some_iff.1 h
 simp only [Prod.mk.injEq] at he
 exact ⟨i, hi, he.1, he.2.1, he.2.2⟩
theorem Below.of_grown {B : Nat} {w w1 : World} {row : Option Nat} (h : w.grownBy w1 row) (hB : B ≤ w.heap.size) (hr : ∀ g, row = some g → B ≤ g) : Below B w w1 :=
 ⟨h.os, h.tape, h.output, h.size, fun k hk => h.block k (Nat.lt_of_lt_of_le hk hB) (fun e => by have := hr k e.symm; omega)⟩
end T
end Go.Proofs.YtmedafcmfbhjkaaGreat
