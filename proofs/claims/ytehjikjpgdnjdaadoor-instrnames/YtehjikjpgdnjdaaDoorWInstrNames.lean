/-
  Stage 3, instr: the walk of the statement on names and shapes.
-/
import Derived.Test.YtehjikjpgdnjdaaDoorIFind
import Derived.Test.YtehjikjpgdnjdaaDoorIOpen
namespace Go.Proofs.YtehjikjpgdnjdaaDoor
open Go.RowKit

theorem wrap_u8 (n : Int) : 0 ≤ IntKind.u8.wrap n ∧ IntKind.u8.wrap n < 256 := by
  simp only [IntKind.wrap, IntKind.bits, IntKind.signed]
  have h1 := Int.emod_nonneg n (b := 256) (by decide)
  have h2 := Int.emod_lt_of_pos n (b := 256) (by decide)
  simp
  omega
set_option maxHeartbeats 1000000 in
theorem walk_InstrNames (op : Int) (nm : List UInt8) (w : World) (ht : TabIn w) (_ : I64 op) (_ : nm.length ≤ maxLen) :
    Calls Tryd.prog 3 #[.int .i64 op, .string (str nm)] w fun x w' => x = .returned (.bool true) ∧ Gr w w' := by
  have sl := str_list
  go_enter Tryd.func3, Tryd.ntmps3
  go_wp2_with fail
  go_loopw [5] (fun n wr => ∃ k : Nat, n = .int .i64 k ∧ k ≤ 256 ∧ Gr w wr) (fun n _ => 256 - (intOf n).toNat)
  case atStart => exact ⟨0, rfl, by omega, Gr.refl w⟩
  case round =>
    obtain ⟨k, rfl, hk, hG⟩ := hrel
    have ht1 := ht.gr hG
    by_cases hlt : k < 256
    · have kl : (k : Int) < 256 := by omega
      have k0 : (0 : Int) ≤ k := by omega
      have e1 := Name_any (k : Int) wr ht1 k0 kl
      have e2 := Shape_any (k : Int) wr ht1 k0 kl
      have e3 := refName_any (k : Int)
      have e4 := refShape_any (k : Int)
      rw [name_doc _ k0 kl] at e3
      rw [shape_doc _ k0 kl] at e4
      have hfi := op_name (k : Int) k0 kl
      have e5 := Find_any (nameOf (k : Int))
      generalize shapeOf (k : Int) = sh at *
      by_cases hn : nameOf (k : Int) = []
      · have g : (nameOf (k : Int)).isEmpty = true := by simpa using hn
        clear hfi
        replace hn := Hid.mk hn
        generalize nameOf (k : Int) = z at *
        go_wp2_with fail
        refine e1.mono ?_
        rintro x w' ⟨rfl, rfl⟩
        go_wp2_with fail
        refine e2.mono ?_
        rintro x w' ⟨rfl, rfl⟩
        go_wp2_with fail
        refine (e3 _).mono ?_
        rintro x w1 ⟨rfl, hG1⟩
        go_wp2_with fail
        refine (e4 _).mono ?_
        rintro x w2 ⟨rfl, hG2⟩
        go_wp2_with fail
        go_roundw
        case rel => exact ⟨k + 1, by simp, by omega, hG.trans (hG1.trans hG2)⟩
        case measure => simp [intOf]; omega
      · have g : (nameOf (k : Int)).isEmpty = false := by simpa using hn
        rw [hfi hn] at e5
        clear hfi
        replace hn := Hid.mk hn
        generalize nameOf (k : Int) = z at *
        go_wp2_with fail
        refine e1.mono ?_
        rintro x w' ⟨rfl, rfl⟩
        go_wp2_with fail
        refine e2.mono ?_
        rintro x w' ⟨rfl, rfl⟩
        go_wp2_with fail
        refine (e3 _).mono ?_
        rintro x w1 ⟨rfl, hG1⟩
        go_wp2_with fail
        refine (e4 _).mono ?_
        rintro x w2 ⟨rfl, hG2⟩
        go_wp2_with fail
        refine (e5 w2 (ht1.gr (hG1.trans hG2))).mono ?_
        rintro x w' ⟨rfl, rfl⟩
        go_wp2_with fail
        go_roundw
        case rel => exact ⟨k + 1, by simp, by omega, hG.trans (hG1.trans hG2)⟩
        case measure => simp [intOf]; omega
    · have kl : ¬ (k : Int) < 256 := by omega
      obtain ⟨u0, u1⟩ := wrap_u8 op
      have e1 := Find_any nm wr ht1
      have e2 := refFind_any nm
      rw [op_doc] at e2
      have e3 := Name_any (IntKind.u8.wrap op)
      have e4 := refName_any (IntKind.u8.wrap op)
      rw [name_doc _ u0 u1] at e4
      generalize nameOf (IntKind.u8.wrap op) = z at *
      generalize opOf nm = o at *
      go_wp2_with fail
      refine e1.mono ?_
      rintro x w' ⟨rfl, rfl⟩
      go_wp2_with fail
      refine (e2 _).mono ?_
      rintro x w1 ⟨rfl, hG1⟩
      go_wp2_with fail
      refine (e3 w1 (ht1.gr hG1) u0 u1).mono ?_
      rintro x w' ⟨rfl, rfl⟩
      go_wp2_with fail
      refine (e4 _).mono ?_
      rintro x w2 ⟨rfl, hG2⟩
      go_wp2_with fail
      go_ret
      exact ⟨by simp, hG.trans (hG1.trans hG2)⟩
end Go.Proofs.YtehjikjpgdnjdaaDoor
