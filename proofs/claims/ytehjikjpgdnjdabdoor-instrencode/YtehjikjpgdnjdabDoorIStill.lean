/-
  Stage 3, instr: 'still': is it as it was, and what stands behind it?
-/
import Derived.Test.YtehjikjpgdnjdabDoorILent
import Derived.Test.YtehjikjpgdnjdabDoorISame
namespace Go.Proofs.YtehjikjpgdnjdabDoor
open Go.RowKit

theorem LIn.prefix {B : Nat} {w : World} {a : Option Addr} {L M : List Ins} (h : LIn B w a (L ++ M)) : LIn B w a L := fun i hi => by
  obtain ⟨b, off, e, h1, h2, h3⟩ := h i (by rw [List.length_append]; omega)
  rw [List.getElem_append_left hi] at h3
  exact ⟨b, off, e, h1, h2, h3⟩
theorem mks_get (j : Nat) (hj : j < 8) : (mks 8)[j]'(by rw [mks_len]; exact hj) = mkI j := by simp [mks]
set_option maxHeartbeats 2000000 in
theorem still_any (L : List Ins) (cap c g : Nat) (ad : Addr) (w : World) (hR : LIn w.heap.size w (some ⟨g, 0, none⟩) (L ++ mks 8)) (hL : LIn w.heap.size w (some ad) L) (hc : L.length + 8 ≤ c) (hlen : L.length + 100 ≤ maxI) :
    Calls Tryd.prog 14 #[.slice (some ⟨g, 0, none⟩) L.length c, .slice (some ad) L.length cap] w fun x w' => x = .returned (.bool true) ∧ Gr w w' := by
  have hl1 : (L.length : Int) + 100 ≤ 3518437208883 := by unfold maxI at hlen; omega
  have eqs := fun W => eql_some ad L.length cap W
  have k1 : (L.length : Int) + 8 ≤ c := by omega
  have k2 : L.length + 8 ≤ c := hc
  have k3 : (L.length : Int) ≤ c := by omega
  replace hR := Hid.mk hR
  replace hL := Hid.mk hL
  go_enter Tryd.func14, Tryd.ntmps14
  go_wp2_with fail
  go_loop [6] (fun n => ∃ j : Nat, n = .int .i64 j ∧ j ≤ 8) (fun n => 8 - (intOf n).toNat)
  case atStart => exact ⟨0, rfl, by omega⟩
  case round =>
    obtain ⟨j, rfl, hj⟩ := hrel
    by_cases hlt : j < 8
    · have jl : (j : Int) < 8 := by omega
      have hi : L.length + j < (L ++ mks 8).length := by rw [List.length_append, mks_len]; omega
      obtain ⟨b, off, e, hb, hb2, f5⟩ := hR.out (L.length + j) hi
      cases e
      have hgk : (L ++ mks 8)[L.length + j] = mkI j := by
        rw [List.getElem_append_right (by omega)]
        have := mks_get j hlt
        simpa using this
      rw [hgk, Nat.zero_add] at f5
      obtain ⟨c0, c1, c2, c3, c4⟩ := f5
      simp only [mkI] at c0 c1 c2 c3 c4
      clear hgk hi
      have jb : (L.length : Int) + j < (L.length : Int) + 8 := by omega
      have jn : ((L.length : Int) + j).toNat = L.length + j := by omega
      go_wp2_with fail
      go_round
      case rel => exact ⟨j + 1, by simp, by omega⟩
      case measure => simp [intOf]; omega
    · have jl : ¬ (j : Int) < 8 := by omega
      have hSm := sameList_any L L c cap (some ⟨g, 0, none⟩) (some ad) w hR.out.prefix hL.out (by unfold maxI at hlen; unfold maxLen; omega)
      rw [sameB_eq rfl] at hSm
      go_wp2_with fail
      refine hSm.mono ?_
      rintro x w2 ⟨rfl, hG⟩
      replace hG := Hid.mk hG
      clear hSm
      go_wp2_with fail
      go_ret
      exact ⟨rfl, hG.out⟩
end Go.Proofs.YtehjikjpgdnjdabDoor
