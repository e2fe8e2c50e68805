import Derived.Test.YtbichnngepjpnaaGreatP21
/-
  Stage 13, fastvm: the method value of an instruction.
-/
namespace Go.Proofs.YtbichnngepjpnaaGreat
namespace Z
open Go.RowKit
open T (Sep Ob Kp Mf FlIn boxOb)

set_option maxRecDepth 100000 in
set_option maxHeartbeats 4000000 in
theorem m0_any (ia ib ic : Nat) (im : Int) (w : World) :
    Calls Tryz.prog 51 #[.agg #[.int .u8 0, .int .i64 ia, .int .i64 ib, .int .i64 ic, .int .u64 im]] w fun x w' => x = .returned (methV ⟨0, ia, ib, ic, im⟩) ∧ Gr w w' := by
  go_enter Tryz.func51, Tryz.ntmps51
  go_wp2_with fail
  go_ret
  exact ⟨rfl, (Gr.refl w).alloc _⟩
set_option maxRecDepth 100000 in
set_option maxHeartbeats 4000000 in
theorem m1_any (ia ib ic : Nat) (im : Int) (w : World) :
    Calls Tryz.prog 51 #[.agg #[.int .u8 1, .int .i64 ia, .int .i64 ib, .int .i64 ic, .int .u64 im]] w fun x w' => x = .returned (methV ⟨1, ia, ib, ic, im⟩) ∧ Gr w w' := by
  go_enter Tryz.func51, Tryz.ntmps51
  go_wp2_with fail
  go_ret
  exact ⟨rfl, (Gr.refl w).alloc _⟩
set_option maxRecDepth 100000 in
set_option maxHeartbeats 4000000 in
theorem m2_any (ia ib ic : Nat) (im : Int) (w : World) :
    Calls Tryz.prog 51 #[.agg #[.int .u8 2, .int .i64 ia, .int .i64 ib, .int .i64 ic, .int .u64 im]] w fun x w' => x = .returned (methV ⟨2, ia, ib, ic, im⟩) ∧ Gr w w' := by
  go_enter Tryz.func51, Tryz.ntmps51
  go_wp2_with fail
  go_ret
  exact ⟨rfl, (Gr.refl w).alloc _⟩
set_option maxRecDepth 100000 in
set_option maxHeartbeats 4000000 in
theorem m3_any (ia ib ic : Nat) (im : Int) (w : World) :
    Calls Tryz.prog 51 #[.agg #[.int .u8 3, .int .i64 ia, .int .i64 ib, .int .i64 ic, .int .u64 im]] w fun x w' => x = .returned (methV ⟨3, ia, ib, ic, im⟩) ∧ Gr w w' := by
  go_enter Tryz.func51, Tryz.ntmps51
  go_wp2_with fail
  go_ret
  exact ⟨rfl, (Gr.refl w).alloc _⟩
set_option maxRecDepth 100000 in
set_option maxHeartbeats 4000000 in
theorem m4_any (ia ib ic : Nat) (im : Int) (w : World) :
    Calls Tryz.prog 51 #[.agg #[.int .u8 4, .int .i64 ia, .int .i64 ib, .int .i64 ic, .int .u64 im]] w fun x w' => x = .returned (methV ⟨4, ia, ib, ic, im⟩) ∧ Gr w w' := by
  go_enter Tryz.func51, Tryz.ntmps51
  go_wp2_with fail
  go_ret
  exact ⟨rfl, (Gr.refl w).alloc _⟩
set_option maxRecDepth 100000 in
set_option maxHeartbeats 4000000 in
theorem m5_any (ia ib ic : Nat) (im : Int) (w : World) :
    Calls Tryz.prog 51 #[.agg #[.int .u8 5, .int .i64 ia, .int .i64 ib, .int .i64 ic, .int .u64 im]] w fun x w' => x = .returned (methV ⟨5, ia, ib, ic, im⟩) ∧ Gr w w' := by
  go_enter Tryz.func51, Tryz.ntmps51
  go_wp2_with fail
  go_ret
  exact ⟨rfl, (Gr.refl w).alloc _⟩
set_option maxRecDepth 100000 in
set_option maxHeartbeats 4000000 in
theorem m6_any (ia ib ic : Nat) (im : Int) (w : World) :
    Calls Tryz.prog 51 #[.agg #[.int .u8 6, .int .i64 ia, .int .i64 ib, .int .i64 ic, .int .u64 im]] w fun x w' => x = .returned (methV ⟨6, ia, ib, ic, im⟩) ∧ Gr w w' := by
  go_enter Tryz.func51, Tryz.ntmps51
  go_wp2_with fail
  go_ret
  exact ⟨rfl, (Gr.refl w).alloc _⟩
set_option maxRecDepth 100000 in
set_option maxHeartbeats 4000000 in
theorem m7_any (ia ib ic : Nat) (im : Int) (w : World) :
    Calls Tryz.prog 51 #[.agg #[.int .u8 7, .int .i64 ia, .int .i64 ib, .int .i64 ic, .int .u64 im]] w fun x w' => x = .returned (methV ⟨7, ia, ib, ic, im⟩) ∧ Gr w w' := by
  go_enter Tryz.func51, Tryz.ntmps51
  go_wp2_with fail
  go_ret
  exact ⟨rfl, (Gr.refl w).alloc _⟩
set_option maxRecDepth 100000 in
set_option maxHeartbeats 4000000 in
theorem m8_any (ia ib ic : Nat) (im : Int) (w : World) :
    Calls Tryz.prog 51 #[.agg #[.int .u8 8, .int .i64 ia, .int .i64 ib, .int .i64 ic, .int .u64 im]] w fun x w' => x = .returned (methV ⟨8, ia, ib, ic, im⟩) ∧ Gr w w' := by
  go_enter Tryz.func51, Tryz.ntmps51
  go_wp2_with fail
  go_ret
  exact ⟨rfl, (Gr.refl w).alloc _⟩
set_option maxRecDepth 100000 in
set_option maxHeartbeats 4000000 in
theorem m9_any (ia ib ic : Nat) (im : Int) (w : World) :
    Calls Tryz.prog 51 #[.agg #[.int .u8 9, .int .i64 ia, .int .i64 ib, .int .i64 ic, .int .u64 im]] w fun x w' => x = .returned (methV ⟨9, ia, ib, ic, im⟩) ∧ Gr w w' := by
  go_enter Tryz.func51, Tryz.ntmps51
  go_wp2_with fail
  go_ret
  exact ⟨rfl, (Gr.refl w).alloc _⟩
set_option maxRecDepth 100000 in
set_option maxHeartbeats 4000000 in
theorem m10_any (ia ib ic : Nat) (im : Int) (w : World) :
    Calls Tryz.prog 51 #[.agg #[.int .u8 10, .int .i64 ia, .int .i64 ib, .int .i64 ic, .int .u64 im]] w fun x w' => x = .returned (methV ⟨10, ia, ib, ic, im⟩) ∧ Gr w w' := by
  go_enter Tryz.func51, Tryz.ntmps51
  go_wp2_with fail
  go_ret
  exact ⟨rfl, (Gr.refl w).alloc _⟩
set_option maxRecDepth 100000 in
set_option maxHeartbeats 4000000 in
theorem m11_any (ia ib ic : Nat) (im : Int) (w : World) :
    Calls Tryz.prog 51 #[.agg #[.int .u8 11, .int .i64 ia, .int .i64 ib, .int .i64 ic, .int .u64 im]] w fun x w' => x = .returned (methV ⟨11, ia, ib, ic, im⟩) ∧ Gr w w' := by
  go_enter Tryz.func51, Tryz.ntmps51
  go_wp2_with fail
  go_ret
  exact ⟨rfl, (Gr.refl w).alloc _⟩
set_option maxRecDepth 100000 in
set_option maxHeartbeats 4000000 in
theorem m12_any (ia ib ic : Nat) (im : Int) (w : World) :
    Calls Tryz.prog 51 #[.agg #[.int .u8 12, .int .i64 ia, .int .i64 ib, .int .i64 ic, .int .u64 im]] w fun x w' => x = .returned (methV ⟨12, ia, ib, ic, im⟩) ∧ Gr w w' := by
  go_enter Tryz.func51, Tryz.ntmps51
  go_wp2_with fail
  go_ret
  exact ⟨rfl, (Gr.refl w).alloc _⟩
set_option maxRecDepth 100000 in
set_option maxHeartbeats 4000000 in
theorem m13_any (ia ib ic : Nat) (im : Int) (w : World) :
    Calls Tryz.prog 51 #[.agg #[.int .u8 13, .int .i64 ia, .int .i64 ib, .int .i64 ic, .int .u64 im]] w fun x w' => x = .returned (methV ⟨13, ia, ib, ic, im⟩) ∧ Gr w w' := by
  go_enter Tryz.func51, Tryz.ntmps51
  go_wp2_with fail
  go_ret
  exact ⟨rfl, (Gr.refl w).alloc _⟩
set_option maxRecDepth 100000 in
set_option maxHeartbeats 4000000 in
theorem m20_any (ia ib ic : Nat) (im : Int) (w : World) :
    Calls Tryz.prog 52 #[.agg #[.int .u8 20, .int .i64 ia, .int .i64 ib, .int .i64 ic, .int .u64 im]] w fun x w' => x = .returned (methV ⟨20, ia, ib, ic, im⟩) ∧ Gr w w' := by
  go_enter Tryz.func52, Tryz.ntmps52
  go_wp2_with fail
  go_ret
  exact ⟨rfl, (Gr.refl w).alloc _⟩
set_option maxRecDepth 100000 in
set_option maxHeartbeats 4000000 in
theorem m21_any (ia ib ic : Nat) (im : Int) (w : World) :
    Calls Tryz.prog 52 #[.agg #[.int .u8 21, .int .i64 ia, .int .i64 ib, .int .i64 ic, .int .u64 im]] w fun x w' => x = .returned (methV ⟨21, ia, ib, ic, im⟩) ∧ Gr w w' := by
  go_enter Tryz.func52, Tryz.ntmps52
  go_wp2_with fail
  go_ret
  exact ⟨rfl, (Gr.refl w).alloc _⟩
set_option maxRecDepth 100000 in
set_option maxHeartbeats 4000000 in
theorem m22_any (ia ib ic : Nat) (im : Int) (w : World) :
    Calls Tryz.prog 52 #[.agg #[.int .u8 22, .int .i64 ia, .int .i64 ib, .int .i64 ic, .int .u64 im]] w fun x w' => x = .returned (methV ⟨22, ia, ib, ic, im⟩) ∧ Gr w w' := by
  go_enter Tryz.func52, Tryz.ntmps52
  go_wp2_with fail
  go_ret
  exact ⟨rfl, (Gr.refl w).alloc _⟩
set_option maxRecDepth 100000 in
set_option maxHeartbeats 4000000 in
theorem m23_any (ia ib ic : Nat) (im : Int) (w : World) :
    Calls Tryz.prog 52 #[.agg #[.int .u8 23, .int .i64 ia, .int .i64 ib, .int .i64 ic, .int .u64 im]] w fun x w' => x = .returned (methV ⟨23, ia, ib, ic, im⟩) ∧ Gr w w' := by
  go_enter Tryz.func52, Tryz.ntmps52
  go_wp2_with fail
  go_ret
  exact ⟨rfl, (Gr.refl w).alloc _⟩
set_option maxRecDepth 100000 in
set_option maxHeartbeats 4000000 in
theorem m24_any (ia ib ic : Nat) (im : Int) (w : World) :
    Calls Tryz.prog 52 #[.agg #[.int .u8 24, .int .i64 ia, .int .i64 ib, .int .i64 ic, .int .u64 im]] w fun x w' => x = .returned (methV ⟨24, ia, ib, ic, im⟩) ∧ Gr w w' := by
  go_enter Tryz.func52, Tryz.ntmps52
  go_wp2_with fail
  go_ret
  exact ⟨rfl, (Gr.refl w).alloc _⟩
set_option maxRecDepth 100000 in
set_option maxHeartbeats 4000000 in
theorem m27_any (ia ib ic : Nat) (im : Int) (w : World) :
    Calls Tryz.prog 52 #[.agg #[.int .u8 27, .int .i64 ia, .int .i64 ib, .int .i64 ic, .int .u64 im]] w fun x w' => x = .returned (methV ⟨27, ia, ib, ic, im⟩) ∧ Gr w w' := by
  go_enter Tryz.func52, Tryz.ntmps52
  go_wp2_with fail
  go_ret
  exact ⟨rfl, (Gr.refl w).alloc _⟩
set_option maxRecDepth 100000 in
set_option maxHeartbeats 4000000 in
theorem m28_any (ia ib ic : Nat) (im : Int) (w : World) :
    Calls Tryz.prog 52 #[.agg #[.int .u8 28, .int .i64 ia, .int .i64 ib, .int .i64 ic, .int .u64 im]] w fun x w' => x = .returned (methV ⟨28, ia, ib, ic, im⟩) ∧ Gr w w' := by
  go_enter Tryz.func52, Tryz.ntmps52
  go_wp2_with fail
  go_ret
  exact ⟨rfl, (Gr.refl w).alloc _⟩
set_option maxRecDepth 100000 in
set_option maxHeartbeats 4000000 in
theorem m29_any (ia ib ic : Nat) (im : Int) (w : World) :
    Calls Tryz.prog 52 #[.agg #[.int .u8 29, .int .i64 ia, .int .i64 ib, .int .i64 ic, .int .u64 im]] w fun x w' => x = .returned (methV ⟨29, ia, ib, ic, im⟩) ∧ Gr w w' := by
  go_enter Tryz.func52, Tryz.ntmps52
  go_wp2_with fail
  go_ret
  exact ⟨rfl, (Gr.refl w).alloc _⟩
set_option maxRecDepth 100000 in
set_option maxHeartbeats 4000000 in
theorem m30_any (ia ib ic : Nat) (im : Int) (w : World) :
    Calls Tryz.prog 52 #[.agg #[.int .u8 30, .int .i64 ia, .int .i64 ib, .int .i64 ic, .int .u64 im]] w fun x w' => x = .returned (methV ⟨30, ia, ib, ic, im⟩) ∧ Gr w w' := by
  go_enter Tryz.func52, Tryz.ntmps52
  go_wp2_with fail
  go_ret
  exact ⟨rfl, (Gr.refl w).alloc _⟩
set_option maxRecDepth 100000 in
set_option maxHeartbeats 4000000 in
theorem m31_any (ia ib ic : Nat) (im : Int) (w : World) :
    Calls Tryz.prog 52 #[.agg #[.int .u8 31, .int .i64 ia, .int .i64 ib, .int .i64 ic, .int .u64 im]] w fun x w' => x = .returned (methV ⟨31, ia, ib, ic, im⟩) ∧ Gr w w' := by
  go_enter Tryz.func52, Tryz.ntmps52
  go_wp2_with fail
  go_ret
  exact ⟨rfl, (Gr.refl w).alloc _⟩
set_option maxRecDepth 100000 in
set_option maxHeartbeats 4000000 in
theorem m32_any (ia ib ic : Nat) (im : Int) (w : World) :
    Calls Tryz.prog 52 #[.agg #[.int .u8 32, .int .i64 ia, .int .i64 ib, .int .i64 ic, .int .u64 im]] w fun x w' => x = .returned (methV ⟨32, ia, ib, ic, im⟩) ∧ Gr w w' := by
  go_enter Tryz.func52, Tryz.ntmps52
  go_wp2_with fail
  go_ret
  exact ⟨rfl, (Gr.refl w).alloc _⟩
set_option maxRecDepth 100000 in
set_option maxHeartbeats 4000000 in
theorem m60_any (ia ib ic : Nat) (im : Int) (w : World) :
    Calls Tryz.prog 53 #[.agg #[.int .u8 60, .int .i64 ia, .int .i64 ib, .int .i64 ic, .int .u64 im]] w fun x w' => x = .returned (methV ⟨60, ia, ib, ic, im⟩) ∧ Gr w w' := by
  go_enter Tryz.func53, Tryz.ntmps53
  go_wp2_with fail
  go_ret
  exact ⟨rfl, (Gr.refl w).alloc _⟩
set_option maxRecDepth 100000 in
set_option maxHeartbeats 4000000 in
theorem m61_any (ia ib ic : Nat) (im : Int) (w : World) :
    Calls Tryz.prog 53 #[.agg #[.int .u8 61, .int .i64 ia, .int .i64 ib, .int .i64 ic, .int .u64 im]] w fun x w' => x = .returned (methV ⟨61, ia, ib, ic, im⟩) ∧ Gr w w' := by
  go_enter Tryz.func53, Tryz.ntmps53
  go_wp2_with fail
  go_ret
  exact ⟨rfl, (Gr.refl w).alloc _⟩
set_option maxRecDepth 100000 in
set_option maxHeartbeats 4000000 in
theorem m62_any (ia ib ic : Nat) (im : Int) (w : World) :
    Calls Tryz.prog 53 #[.agg #[.int .u8 62, .int .i64 ia, .int .i64 ib, .int .i64 ic, .int .u64 im]] w fun x w' => x = .returned (methV ⟨62, ia, ib, ic, im⟩) ∧ Gr w w' := by
  go_enter Tryz.func53, Tryz.ntmps53
  go_wp2_with fail
  go_ret
  exact ⟨rfl, (Gr.refl w).alloc _⟩
set_option maxRecDepth 100000 in
set_option maxHeartbeats 4000000 in
theorem m63_any (ia ib ic : Nat) (im : Int) (w : World) :
    Calls Tryz.prog 53 #[.agg #[.int .u8 63, .int .i64 ia, .int .i64 ib, .int .i64 ic, .int .u64 im]] w fun x w' => x = .returned (methV ⟨63, ia, ib, ic, im⟩) ∧ Gr w w' := by
  go_enter Tryz.func53, Tryz.ntmps53
  go_wp2_with fail
  go_ret
  exact ⟨rfl, (Gr.refl w).alloc _⟩
set_option maxRecDepth 100000 in
set_option maxHeartbeats 4000000 in
theorem m64_any (ia ib ic : Nat) (im : Int) (w : World) :
    Calls Tryz.prog 53 #[.agg #[.int .u8 64, .int .i64 ia, .int .i64 ib, .int .i64 ic, .int .u64 im]] w fun x w' => x = .returned (methV ⟨64, ia, ib, ic, im⟩) ∧ Gr w w' := by
  go_enter Tryz.func53, Tryz.ntmps53
  go_wp2_with fail
  go_ret
  exact ⟨rfl, (Gr.refl w).alloc _⟩
set_option maxRecDepth 100000 in
set_option maxHeartbeats 4000000 in
theorem m65_any (ia ib ic : Nat) (im : Int) (w : World) :
    Calls Tryz.prog 53 #[.agg #[.int .u8 65, .int .i64 ia, .int .i64 ib, .int .i64 ic, .int .u64 im]] w fun x w' => x = .returned (methV ⟨65, ia, ib, ic, im⟩) ∧ Gr w w' := by
  go_enter Tryz.func53, Tryz.ntmps53
  go_wp2_with fail
  go_ret
  exact ⟨rfl, (Gr.refl w).alloc _⟩
set_option maxRecDepth 100000 in
set_option maxHeartbeats 4000000 in
theorem m70_any (ia ib ic : Nat) (im : Int) (w : World) :
    Calls Tryz.prog 54 #[.agg #[.int .u8 70, .int .i64 ia, .int .i64 ib, .int .i64 ic, .int .u64 im]] w fun x w' => x = .returned (methV ⟨70, ia, ib, ic, im⟩) ∧ Gr w w' := by
  go_enter Tryz.func54, Tryz.ntmps54
  go_wp2_with fail
  go_ret
  exact ⟨rfl, (Gr.refl w).alloc _⟩
set_option maxRecDepth 100000 in
set_option maxHeartbeats 4000000 in
theorem m71_any (ia ib ic : Nat) (im : Int) (w : World) :
    Calls Tryz.prog 54 #[.agg #[.int .u8 71, .int .i64 ia, .int .i64 ib, .int .i64 ic, .int .u64 im]] w fun x w' => x = .returned (methV ⟨71, ia, ib, ic, im⟩) ∧ Gr w w' := by
  go_enter Tryz.func54, Tryz.ntmps54
  go_wp2_with fail
  go_ret
  exact ⟨rfl, (Gr.refl w).alloc _⟩
set_option maxRecDepth 100000 in
set_option maxHeartbeats 4000000 in
theorem m72_any (ia ib ic : Nat) (im : Int) (w : World) :
    Calls Tryz.prog 54 #[.agg #[.int .u8 72, .int .i64 ia, .int .i64 ib, .int .i64 ic, .int .u64 im]] w fun x w' => x = .returned (methV ⟨72, ia, ib, ic, im⟩) ∧ Gr w w' := by
  go_enter Tryz.func54, Tryz.ntmps54
  go_wp2_with fail
  go_ret
  exact ⟨rfl, (Gr.refl w).alloc _⟩
set_option maxRecDepth 100000 in
set_option maxHeartbeats 4000000 in
theorem method_ok (i : Fi) (w : World) (h : Named i.op) :
    Calls Tryz.prog 42 #[.agg #[.int .u8 i.op, .int .i64 i.a, .int .i64 i.b, .int .i64 i.c, .int .u64 i.i]] w fun x w' => x = .returned (methV i) ∧ Gr w w' := by
  obtain ⟨op, ia, ib, ic, im⟩ := i
  dsimp only at *
  have hc : op = 0 ∨ op = 1 ∨ op = 2 ∨ op = 3 ∨ op = 4 ∨ op = 5 ∨ op = 6 ∨ op = 7 ∨ op = 8 ∨ op = 9 ∨ op = 10 ∨ op = 11 ∨ op = 12 ∨ op = 13 ∨ op = 20 ∨ op = 21 ∨ op = 22 ∨ op = 23 ∨ op = 24 ∨ op = 27 ∨ op = 28 ∨ op = 29 ∨ op = 30 ∨ op = 31 ∨ op = 32 ∨ op = 60 ∨ op = 61 ∨ op = 62 ∨ op = 63 ∨ op = 64 ∨ op = 65 ∨ op = 70 ∨ op = 71 ∨ op = 72 := by unfold Named at h; omega
  clear h
  rcases hc with rfl | rfl | rfl | rfl | rfl | rfl | rfl | rfl | rfl | rfl | rfl | rfl | rfl | rfl | rfl | rfl | rfl | rfl | rfl | rfl | rfl | rfl | rfl | rfl | rfl | rfl | rfl | rfl | rfl | rfl | rfl | rfl | rfl | rfl
  · go_enter Tryz.func42, Tryz.ntmps42
    go_wp2_with fail
    refine (m0_any ia ib ic im _).mono ?_
    rintro r w1 ⟨rfl, g1⟩
    go_wp2_with fail
    go_ret
    exact ⟨rfl, ((Gr.refl w).alloc _).trans g1⟩
  · go_enter Tryz.func42, Tryz.ntmps42
    go_wp2_with fail
    refine (m1_any ia ib ic im _).mono ?_
    rintro r w1 ⟨rfl, g1⟩
    go_wp2_with fail
    go_ret
    exact ⟨rfl, ((Gr.refl w).alloc _).trans g1⟩
  · go_enter Tryz.func42, Tryz.ntmps42
    go_wp2_with fail
    refine (m2_any ia ib ic im _).mono ?_
    rintro r w1 ⟨rfl, g1⟩
    go_wp2_with fail
    go_ret
    exact ⟨rfl, ((Gr.refl w).alloc _).trans g1⟩
  · go_enter Tryz.func42, Tryz.ntmps42
    go_wp2_with fail
    refine (m3_any ia ib ic im _).mono ?_
    rintro r w1 ⟨rfl, g1⟩
    go_wp2_with fail
    go_ret
    exact ⟨rfl, ((Gr.refl w).alloc _).trans g1⟩
  · go_enter Tryz.func42, Tryz.ntmps42
    go_wp2_with fail
    refine (m4_any ia ib ic im _).mono ?_
    rintro r w1 ⟨rfl, g1⟩
    go_wp2_with fail
    go_ret
    exact ⟨rfl, ((Gr.refl w).alloc _).trans g1⟩
  · go_enter Tryz.func42, Tryz.ntmps42
    go_wp2_with fail
    refine (m5_any ia ib ic im _).mono ?_
    rintro r w1 ⟨rfl, g1⟩
    go_wp2_with fail
    go_ret
    exact ⟨rfl, ((Gr.refl w).alloc _).trans g1⟩
  · go_enter Tryz.func42, Tryz.ntmps42
    go_wp2_with fail
    refine (m6_any ia ib ic im _).mono ?_
    rintro r w1 ⟨rfl, g1⟩
    go_wp2_with fail
    go_ret
    exact ⟨rfl, ((Gr.refl w).alloc _).trans g1⟩
  · go_enter Tryz.func42, Tryz.ntmps42
    go_wp2_with fail
    refine (m7_any ia ib ic im _).mono ?_
    rintro r w1 ⟨rfl, g1⟩
    go_wp2_with fail
    go_ret
    exact ⟨rfl, ((Gr.refl w).alloc _).trans g1⟩
  · go_enter Tryz.func42, Tryz.ntmps42
    go_wp2_with fail
    refine (m8_any ia ib ic im _).mono ?_
    rintro r w1 ⟨rfl, g1⟩
    go_wp2_with fail
    go_ret
    exact ⟨rfl, ((Gr.refl w).alloc _).trans g1⟩
  · go_enter Tryz.func42, Tryz.ntmps42
    go_wp2_with fail
    refine (m9_any ia ib ic im _).mono ?_
    rintro r w1 ⟨rfl, g1⟩
    go_wp2_with fail
    go_ret
    exact ⟨rfl, ((Gr.refl w).alloc _).trans g1⟩
  · go_enter Tryz.func42, Tryz.ntmps42
    go_wp2_with fail
    refine (m10_any ia ib ic im _).mono ?_
    rintro r w1 ⟨rfl, g1⟩
    go_wp2_with fail
    go_ret
    exact ⟨rfl, ((Gr.refl w).alloc _).trans g1⟩
  · go_enter Tryz.func42, Tryz.ntmps42
    go_wp2_with fail
    refine (m11_any ia ib ic im _).mono ?_
    rintro r w1 ⟨rfl, g1⟩
    go_wp2_with fail
    go_ret
    exact ⟨rfl, ((Gr.refl w).alloc _).trans g1⟩
  · go_enter Tryz.func42, Tryz.ntmps42
    go_wp2_with fail
    refine (m12_any ia ib ic im _).mono ?_
    rintro r w1 ⟨rfl, g1⟩
    go_wp2_with fail
    go_ret
    exact ⟨rfl, ((Gr.refl w).alloc _).trans g1⟩
  · go_enter Tryz.func42, Tryz.ntmps42
    go_wp2_with fail
    refine (m13_any ia ib ic im _).mono ?_
    rintro r w1 ⟨rfl, g1⟩
    go_wp2_with fail
    go_ret
    exact ⟨rfl, ((Gr.refl w).alloc _).trans g1⟩
  · go_enter Tryz.func42, Tryz.ntmps42
    go_wp2_with fail
    refine (m20_any ia ib ic im _).mono ?_
    rintro r w1 ⟨rfl, g1⟩
    go_wp2_with fail
    go_ret
    exact ⟨rfl, ((Gr.refl w).alloc _).trans g1⟩
  · go_enter Tryz.func42, Tryz.ntmps42
    go_wp2_with fail
    refine (m21_any ia ib ic im _).mono ?_
    rintro r w1 ⟨rfl, g1⟩
    go_wp2_with fail
    go_ret
    exact ⟨rfl, ((Gr.refl w).alloc _).trans g1⟩
  · go_enter Tryz.func42, Tryz.ntmps42
    go_wp2_with fail
    refine (m22_any ia ib ic im _).mono ?_
    rintro r w1 ⟨rfl, g1⟩
    go_wp2_with fail
    go_ret
    exact ⟨rfl, ((Gr.refl w).alloc _).trans g1⟩
  · go_enter Tryz.func42, Tryz.ntmps42
    go_wp2_with fail
    refine (m23_any ia ib ic im _).mono ?_
    rintro r w1 ⟨rfl, g1⟩
    go_wp2_with fail
    go_ret
    exact ⟨rfl, ((Gr.refl w).alloc _).trans g1⟩
  · go_enter Tryz.func42, Tryz.ntmps42
    go_wp2_with fail
    refine (m24_any ia ib ic im _).mono ?_
    rintro r w1 ⟨rfl, g1⟩
    go_wp2_with fail
    go_ret
    exact ⟨rfl, ((Gr.refl w).alloc _).trans g1⟩
  · go_enter Tryz.func42, Tryz.ntmps42
    go_wp2_with fail
    refine (m27_any ia ib ic im _).mono ?_
    rintro r w1 ⟨rfl, g1⟩
    go_wp2_with fail
    go_ret
    exact ⟨rfl, ((Gr.refl w).alloc _).trans g1⟩
  · go_enter Tryz.func42, Tryz.ntmps42
    go_wp2_with fail
    refine (m28_any ia ib ic im _).mono ?_
    rintro r w1 ⟨rfl, g1⟩
    go_wp2_with fail
    go_ret
    exact ⟨rfl, ((Gr.refl w).alloc _).trans g1⟩
  · go_enter Tryz.func42, Tryz.ntmps42
    go_wp2_with fail
    refine (m29_any ia ib ic im _).mono ?_
    rintro r w1 ⟨rfl, g1⟩
    go_wp2_with fail
    go_ret
    exact ⟨rfl, ((Gr.refl w).alloc _).trans g1⟩
  · go_enter Tryz.func42, Tryz.ntmps42
    go_wp2_with fail
    refine (m30_any ia ib ic im _).mono ?_
    rintro r w1 ⟨rfl, g1⟩
    go_wp2_with fail
    go_ret
    exact ⟨rfl, ((Gr.refl w).alloc _).trans g1⟩
  · go_enter Tryz.func42, Tryz.ntmps42
    go_wp2_with fail
    refine (m31_any ia ib ic im _).mono ?_
    rintro r w1 ⟨rfl, g1⟩
    go_wp2_with fail
    go_ret
    exact ⟨rfl, ((Gr.refl w).alloc _).trans g1⟩
  · go_enter Tryz.func42, Tryz.ntmps42
    go_wp2_with fail
    refine (m32_any ia ib ic im _).mono ?_
    rintro r w1 ⟨rfl, g1⟩
    go_wp2_with fail
    go_ret
    exact ⟨rfl, ((Gr.refl w).alloc _).trans g1⟩
  · go_enter Tryz.func42, Tryz.ntmps42
    go_wp2_with fail
    refine (m60_any ia ib ic im _).mono ?_
    rintro r w1 ⟨rfl, g1⟩
    go_wp2_with fail
    go_ret
    exact ⟨rfl, ((Gr.refl w).alloc _).trans g1⟩
  · go_enter Tryz.func42, Tryz.ntmps42
    go_wp2_with fail
    refine (m61_any ia ib ic im _).mono ?_
    rintro r w1 ⟨rfl, g1⟩
    go_wp2_with fail
    go_ret
    exact ⟨rfl, ((Gr.refl w).alloc _).trans g1⟩
  · go_enter Tryz.func42, Tryz.ntmps42
    go_wp2_with fail
    refine (m62_any ia ib ic im _).mono ?_
    rintro r w1 ⟨rfl, g1⟩
    go_wp2_with fail
    go_ret
    exact ⟨rfl, ((Gr.refl w).alloc _).trans g1⟩
  · go_enter Tryz.func42, Tryz.ntmps42
    go_wp2_with fail
    refine (m63_any ia ib ic im _).mono ?_
    rintro r w1 ⟨rfl, g1⟩
    go_wp2_with fail
    go_ret
    exact ⟨rfl, ((Gr.refl w).alloc _).trans g1⟩
  · go_enter Tryz.func42, Tryz.ntmps42
    go_wp2_with fail
    refine (m64_any ia ib ic im _).mono ?_
    rintro r w1 ⟨rfl, g1⟩
    go_wp2_with fail
    go_ret
    exact ⟨rfl, ((Gr.refl w).alloc _).trans g1⟩
  · go_enter Tryz.func42, Tryz.ntmps42
    go_wp2_with fail
    refine (m65_any ia ib ic im _).mono ?_
    rintro r w1 ⟨rfl, g1⟩
    go_wp2_with fail
    go_ret
    exact ⟨rfl, ((Gr.refl w).alloc _).trans g1⟩
  · go_enter Tryz.func42, Tryz.ntmps42
    go_wp2_with fail
    refine (m70_any ia ib ic im _).mono ?_
    rintro r w1 ⟨rfl, g1⟩
    go_wp2_with fail
    go_ret
    exact ⟨rfl, ((Gr.refl w).alloc _).trans g1⟩
  · go_enter Tryz.func42, Tryz.ntmps42
    go_wp2_with fail
    refine (m71_any ia ib ic im _).mono ?_
    rintro r w1 ⟨rfl, g1⟩
    go_wp2_with fail
    go_ret
    exact ⟨rfl, ((Gr.refl w).alloc _).trans g1⟩
  · go_enter Tryz.func42, Tryz.ntmps42
    go_wp2_with fail
    refine (m72_any ia ib ic im _).mono ?_
    rintro r w1 ⟨rfl, g1⟩
    go_wp2_with fail
    go_ret
    exact ⟨rfl, ((Gr.refl w).alloc _).trans g1⟩
end Z
end Go.Proofs.YtbichnngepjpnaaGreat
