/-
  Stage 3, instr: 'lent': a row that is handed in, with some of the caller's own behind it.
-/
import Derived.Test.YtehjikjpgdnjdabDoorIAppL
namespace Go.Proofs.YtehjikjpgdnjdabDoor
open Go.RowKit

def mkI (k : Nat) : Ins := ⟨200, -(k : Int), 0, 0, 0⟩
def mks (n : Nat) : List Ins := (List.range n).map mkI
theorem mks_succ (n : Nat) : mks (n + 1) = mks n ++ [mkI n] := by simp [mks, List.range_succ]
theorem mks_len (n : Nat) : (mks n).length = n := by simp [mks]
theorem eql_some (ad : Addr) (n c : Nat) (W : World) : (binOp .eql 23 (.slice (some ad) n c) (.slice none 0 0)).run Tryd.prog W = .ok (.bool false) W := rfl
theorem eql_none (n c : Nat) (W : World) : (binOp .eql 23 (.slice none n c) (.slice none 0 0)).run Tryd.prog W = .ok (.bool true) W := rfl
set_option maxHeartbeats 2000000 in
theorem lent_any (L : List Ins) (cap : Nat) (ad : Addr) (w : World) (hL : LIn w.heap.size w (some ad) L) (hlen : L.length + 100 ≤ maxI) :
    Calls Tryd.prog 12 #[.slice (some ad) L.length cap] w fun x w' => ∃ g c, x = .returned (.slice (some ⟨g, 0, none⟩) L.length c) ∧ L.length + 8 ≤ c ∧ LOwn w' w.heap.size (.slice (some ⟨g, 0, none⟩) (L.length + 8) c) (L ++ mks 8) ∧ Below w.heap.size w w' := by
  have hl1 : (L.length : Int) + 100 ≤ 3518437208883 := by unfold maxI at hlen; omega
  have hN := LOwn.nil w w.heap.size
  have eqs := fun W => eql_some ad L.length cap W
  have hbl : ([] : List Ins).length + L.length ≤ maxI := by simp; omega
  go_enter Tryd.func12, Tryd.ntmps12
  go_wp2_with (at_builtin; refine wpList_append_list rfl (.const (.slice none 0 0)) (.tmp 7) rfl w.heap.size (.slice none 0 0) [] L rfl hN (some ad) cap rfl w.heap.size hL hbl (Nat.le_refl _) ?_)
  intro v1 w1 hL1 hg1 _
  have hb1 : Below w.heap.size w w1 := Below.of_grown hg1 (Nat.le_refl _) (fun g h => by cases h)
  have hL1' : LOwn w1 w.heap.size v1 (L ++ mks 0) := by simpa [mks] using hL1
  replace hL1' := Hid.mk hL1'
  replace hb1 := Hid.mk hb1
  clear hL1 hg1 hN hbl
  go_wp2_with fail
  go_loopw [3, 4] (fun v n wr => ∃ j : Nat, n = .int .i64 j ∧ j ≤ 8 ∧ Hid (LOwn wr w.heap.size v (L ++ mks j) ∧ Below w.heap.size w wr)) (fun _ n _ => 8 - (intOf n).toNat)
  case atStart => exact ⟨0, rfl, by omega, ⟨hL1'.out, hb1.out⟩⟩
  case round =>
    clear hL1' hb1
    obtain ⟨j, rfl, hj, ⟨hO, hW⟩⟩ := hrel
    have hws := hW.size
    by_cases hlt : j < 8
    · have jl : (j : Int) < 8 := by omega
      have hob := Hid.mk (own_block hO)
      have hO2 : LOwn (wr.alloc (.cells (mkI j).vals.toArray 40)) w.heap.size u3 (L ++ mks j) := own_below hO ((Gr.refl wr).alloc _).below
      have hW2 : Below w.heap.size w (wr.alloc (.cells (mkI j).vals.toArray 40)) := hW.trans (((Gr.refl wr).alloc _).below.mono hws)
      have hln : (L ++ mks j).length + 1 ≤ maxI := by rw [List.length_append, mks_len]; omega
      have hms : L ++ mks (j + 1) = (L ++ mks j) ++ [mkI j] := by rw [mks_succ, List.append_assoc]
      generalize L ++ mks j = X at *
      replace hO := Hid.mk hO
      replace hW := Hid.mk hW
      replace hO2 := Hid.mk hO2
      replace hW2 := Hid.mk hW2
      replace hms := Hid.mk hms
      go_wp2_with (at_builtin; refine wpList_append_ins rfl (.tmp 13) (.tmp 17) rfl w.heap.size u3 X (mkI j) rfl hO2.out wr.heap.size rfl (by exact At.new wr _ _) hln (by simp; omega) ?_)
      intro g c w3 hL3 hg3 _
      replace hL3 := Hid.mk hL3
      replace hg3 := Hid.mk hg3
      go_wp2_with fail
      go_roundw
      case rel =>
        refine ⟨j + 1, by simp, by omega, ⟨?_, hW2.out.trans (Below.of_grown hg3.out (by simp; omega) (fun q hq => (hob.out q hq).1))⟩⟩
        rw [hms.out]
        exact hL3.out
      case measure => simp [intOf]; omega
    · have jl : ¬ (j : Int) < 8 := by omega
      obtain rfl : j = 8 := by omega
      have hl8 : (L ++ mks 8).length = L.length + 8 := by rw [List.length_append, mks_len]
      obtain ⟨g, c, rfl, hbg, hgl⟩ := World.ownsRow.form hO (by rw [hl8]; omega)
      have hc : L.length + 8 ≤ c := by
        rcases hO.2 with ⟨h, _⟩ | ⟨g', c', cur, hv, _, _, hnc, _⟩
        · cases h
        · simp at hv
          rw [hl8] at hnc
          omega
      have hO8 : LOwn wr w.heap.size (.slice (some ⟨g, 0, none⟩) (L.length + 8) c) (L ++ mks 8) := by rw [hl8] at hO; exact hO
      rw [hl8]
      clear hO hl8
      replace hO8 := Hid.mk hO8
      replace hW := Hid.mk hW
      have k1 : (L.length : Int) ≤ c := by omega
      have k2 : L.length ≤ c := by omega
      go_wp2_with fail
      go_ret
      exact ⟨g, c, rfl, hc, hO8.out, hW.out⟩
end Go.Proofs.YtehjikjpgdnjdabDoor
