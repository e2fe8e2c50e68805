/-
  Stage 6, tagmem: TagmemNil.
-/
import Derived.Test.YtbmkefpgfifigaaTNil
namespace Go.Proofs.Ytbmkefpgfifigaa
open Go.RowKit

set_option maxHeartbeats 2000000 in
theorem walk_TagmemNil (w : World) : Calls Try.prog 6 #[] w fun x w' => x = .returned (.bool true) ∧ Below w.heap.size w w' := by
  have hA := T.alive_any w
  have l0 := T.tgLoad_nil
  have l1 := T.tgStore_nil
  have l2 := T.flLoad_nil
  have l3 := T.flStore_nil
  have l4 := T.tgTags_nil
  have l5 := T.tgBytes_nil
  have l6 := T.flBytes_nil
  go_enter Try.func6, Try.ntmps6
  go_wp2_with (first
    | (go_at_call 26; refine hA.mono ?_; rintro x w1 ⟨rfl, hB⟩; replace hB := T.Hid.mk hB; clear hA)
    | (go_at_call 15; refine (l0 _ _ _).mono ?_; rintro x w2 ⟨rfl, rfl⟩)
    | (go_at_call 14; refine (l1 _ _ _ _).mono ?_; rintro x w2 ⟨rfl, rfl⟩)
    | (go_at_call 23; refine (T.tgLoadCap_nil _ _).mono ?_; rintro x w2 ⟨rfl, hB2⟩; replace hB2 := T.Hid.mk hB2))
  refine (T.tgStoreCap_nil _ _).mono ?_
  rintro x w3 ⟨rfl, hB3⟩
  have A := T.at_below (At.new w2 _ _) hB3 (by simp)
  have hB4 := ((hB.out.trans (hB2.out.mono hB.out.size)).alloc (by have := hB.out.size; have := hB2.out.size; omega) _).trans (hB3.mono (by have := hB.out.size; have := hB2.out.size; simp; omega))
  have y0 : w3.cell? ⟨w2.heap.size, 0, none⟩ = some (.bool false) := A.2.1 0
  have y1 : w3.cell? ⟨w2.heap.size, 1, none⟩ = some (.int .u64 0) := A.2.1 1
  have y2 : w3.cell? ⟨w2.heap.size, 2, none⟩ = some (.int .u64 0) := A.2.1 2
  have y3 : w3.cell? ⟨w2.heap.size, 3, none⟩ = some (.int .u64 0) := A.2.1 3
  have y4 : w3.cell? ⟨w2.heap.size, 4, none⟩ = some (.int .u64 0) := A.2.1 4
  have y5 : w3.cell? ⟨w2.heap.size, 5, none⟩ = some (.int .u8 0) := A.2.1 5
  have y6 : w3.cell? ⟨w2.heap.size, 6, none⟩ = some (.int .i64 0) := A.2.1 6
  replace A := T.Hid.mk A
  replace hB4 := T.Hid.mk hB4
  clear hB hB2 hB3
  go_wp2_with (first
    | (go_at_call 17; refine (l2 _ _ _).mono ?_; rintro x w2 ⟨rfl, rfl⟩)
    | (go_at_call 19; refine (l3 _ _ _ _).mono ?_; rintro x w2 ⟨rfl, rfl⟩)
    | (go_at_call 25; refine (l4 _).mono ?_; rintro x w2 ⟨rfl, rfl⟩)
    | (go_at_call 12; refine (l5 _).mono ?_; rintro x w2 ⟨rfl, rfl⟩)
    | (go_at_call 21; refine (l6 _).mono ?_; rintro x w2 ⟨rfl, rfl⟩))
  go_ret
  exact ⟨rfl, hB4.out⟩
end Go.Proofs.Ytbmkefpgfifigaa
