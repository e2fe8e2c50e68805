import Derived.Test.YtdmkedpnkejpbaaDoorP05
import Derived.Test.YtdmkedpnkejpbaaDoorChecked
import Derived.Shelf.Strconv.Clone
/-
  Stage 4, image: the library's Clone of a text, at this program: the library's contract, laid by hand.
-/
namespace Go.Proofs.YtdmkedpnkejpbaaDoor
open Go.RowKit Go.Shelf

/-- The library's numbers at this program. -/
def renC : Ren := ⟨fun _ => 74, fun n => if n = 0 then 0 else if n = 3 then 3 else if n = 4 then 4 else if n = 5 then 5 else if n = 9 then 9 else if n = 37 then 68 else 141, fun n => n⟩
theorem lays316 : LaysM.n316 Tryd.prog renC :=
  ⟨⟨by kernel_rfl, by kernel_rfl,
   by kernel_rfl, fun w => Tryd.isAgg0 w, fun w => Tryd.sizeOf0 w, fun w => Tryd.zeroValue0 w,
   by kernel_rfl, fun w => Tryd.isAgg3 w, fun w => Tryd.sizeOf3 w, fun w => Tryd.zeroValue3 w,
   by kernel_rfl, fun w => Tryd.isAgg4 w, fun w => Tryd.sizeOf4 w, fun w => Tryd.zeroValue4 w,
   by kernel_rfl, fun w => Tryd.isAgg9 w, fun w => Tryd.sizeOf9 w, fun w => Tryd.zeroValue9 w,
   by kernel_rfl, fun w => Tryd.isAgg68 w, fun w => Tryd.sizeOf68 w, fun w => Tryd.zeroValue68 w,
   by kernel_rfl, fun w => Tryd.isAgg141 w, fun w => Tryd.sizeOf141 w, fun w => Tryd.zeroValue141 w⟩,
   by kernel_rfl, fun w => Tryd.isAgg5 w, fun w => Tryd.sizeOf5 w, fun w => Tryd.zeroValue5 w,
   by kernel_rfl, by kernel_rfl, by kernel_rfl, by kernel_rfl, by kernel_rfl, by kernel_rfl, by kernel_rfl⟩
theorem liteClone_any (s : List UInt8) (w : World) (h : s.length ≤ 140737488355328) :
    Calls Tryd.prog 74 #[.string (str s)] w fun x w' => x = .returned (.string (str s)) ∧ Below w.heap.size w w' :=
  Any.stringslite_Clone lays316 (str s) w (by rw [str_size]; omega)
set_option maxHeartbeats 400000 in
theorem Clone_any (s : List UInt8) (w : World) (h : s.length ≤ 140737488355328) :
    Calls Tryd.prog 54 #[.string (str s)] w fun x w' => x = .returned (.string (str s)) ∧ Below w.heap.size w w' := by
  have hl := fun W => liteClone_any s W h
  go_enter Tryd.func54, Tryd.ntmps54
  go_wp2_with fail
  refine (hl _).mono ?_
  rintro x w' ⟨rfl, hb⟩
  replace hb := Hid.mk hb
  go_wp2_with fail
  go_ret
  exact ⟨rfl, hb.out⟩
end Go.Proofs.YtdmkedpnkejpbaaDoor
