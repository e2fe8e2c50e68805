/-
  Stage 3, instr: 'made' of one row of raw numbers.
-/
import Derived.Test.YtehjikjpgdnjdaaDoorIMade
namespace Go.Proofs.YtehjikjpgdnjdaaDoor
open Go.RowKit

theorem made_one (r : Ins) (w : World) (ht : TabIn w) (hr : InRaw r) :
    Calls Tryd.prog 17 #[.slice (some ⟨w.heap.size, 0, none⟩) 1 1] (w.alloc (.cells #[.int .i64 r.op, .int .i64 r.a, .int .i64 r.b, .int .i64 r.c, .int .i64 r.m] 32)) fun x w' =>
      ∃ a c, x = .returned (.tuple #[.slice a 1 c, .bool true]) ∧ LIn w'.heap.size w' a [madeR r] ∧ Below w.heap.size w w' := by
  have hA := At.new w #[.int .i64 r.op, .int .i64 r.a, .int .i64 r.b, .int .i64 r.c, .int .i64 r.m] 32
  have hR : RIn (w.alloc (.cells #[.int .i64 r.op, .int .i64 r.a, .int .i64 r.b, .int .i64 r.c, .int .i64 r.m] 32)).heap.size (w.alloc (.cells #[.int .i64 r.op, .int .i64 r.a, .int .i64 r.b, .int .i64 r.c, .int .i64 r.m] 32)) (some ⟨w.heap.size, 0, none⟩) [r] := fun i hi => by
    obtain rfl : i = 0 := by simpa using hi
    exact ⟨w.heap.size, 0, rfl, hA.1, hA.1, ⟨hA.2.1 0, hA.2.1 1, hA.2.1 2, hA.2.1 3, hA.2.1 4⟩, hr⟩
  refine (made_any [r] 1 (some ⟨w.heap.size, 0, none⟩) _ (ht.gr ((Gr.refl w).alloc _)) hR (by simp [maxI])).mono ?_
  rintro x w' ⟨v, rfl, hL, hB⟩
  obtain ⟨a, c, rfl, hLi⟩ := hL.form
  exact ⟨a, c, rfl, hLi, (((Gr.refl w).alloc _).below).trans (hB.mono (by simp))⟩
end Go.Proofs.YtehjikjpgdnjdaaDoor
