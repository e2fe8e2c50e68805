/-
  Stage 13, fastvm: what may be.
-/
import Derived.Test.YtijmjmefdedojaaGreatZIn
import Derived.Test.YtijmjmefdedojaaGreatTEin
import Derived.Test.YtijmjmefdedojaaGreatRRow0
namespace Go.Proofs.YtijmjmefdedojaaGreat
namespace Z
open Go.RowKit
open T (Sep Ob Kp Mf FlIn boxOb)

def Named (op : Int) : Prop := (0 ≤ op ∧ op ≤ 13) ∨ (20 ≤ op ∧ op ≤ 24) ∨ (27 ≤ op ∧ op ≤ 32) ∨ (60 ≤ op ∧ op ≤ 65) ∨ (70 ≤ op ∧ op ≤ 72)
/-- An instruction of a row of so many, where there are so many gates. -/
structure Fi.Ok (i : Fi) (n k : Nat) : Prop where
  op : Named i.op
  a : i.a < 16
  b : i.b < 16
  c : i.c < 16 ∨ 70 ≤ i.op ∧ i.c ≤ 255
  im : 0 ≤ i.i ∧ i.i < 18446744073709551616
  jm : 20 ≤ i.op ∧ i.op ≤ 24 → i.i < n
  cl : i.op = 31 → i.i < k
set_option maxRecDepth 100000 in
set_option maxHeartbeats 4000000 in
theorem isWithin_ok (n lo hi : Int) (w : World) (h1 : lo ≤ n) (h2 : n ≤ hi) :
    Calls Tryz.prog 42 #[.int .i64 n, .int .i64 lo, .int .i64 hi] w fun x w' => x = .returned (.bool true) ∧ w' = w := by
  go_enter Tryz.func42, Tryz.ntmps42
  go_wp2_with fail
  go_ret
  exact ⟨rfl, rfl⟩
set_option maxRecDepth 100000 in
set_option maxHeartbeats 4000000 in
theorem isNamed_ok (op : Int) (w : World) (h : Named op) :
    Calls Tryz.prog 51 #[.int .u8 op] w fun x w' => x = .returned (.bool true) ∧ w' = w := by
  rcases h with h | h | h | h | h
  · skip
    have y1 : op ≤ 13 := by omega
    have y2 : 0 ≤ op := by omega
    clear h
    go_enter Tryz.func51, Tryz.ntmps51
    go_wp2_with fail
    go_ret
    exact ⟨rfl, rfl⟩
  · skip
    have n0 : ¬ op ≤ 13 := by omega
    have y1 : op ≤ 24 := by omega
    have y2 : 20 ≤ op := by omega
    clear h
    go_enter Tryz.func51, Tryz.ntmps51
    go_wp2_with fail
    go_ret
    exact ⟨rfl, rfl⟩
  · skip
    have n0 : ¬ op ≤ 13 := by omega
    have n1 : ¬ op ≤ 24 := by omega
    have y1 : op ≤ 32 := by omega
    have y2 : 27 ≤ op := by omega
    clear h
    go_enter Tryz.func51, Tryz.ntmps51
    go_wp2_with fail
    go_ret
    exact ⟨rfl, rfl⟩
  · skip
    have n0 : ¬ op ≤ 13 := by omega
    have n1 : ¬ op ≤ 24 := by omega
    have n2 : ¬ op ≤ 32 := by omega
    have y1 : op ≤ 65 := by omega
    have y2 : 60 ≤ op := by omega
    clear h
    go_enter Tryz.func51, Tryz.ntmps51
    go_wp2_with fail
    go_ret
    exact ⟨rfl, rfl⟩
  · skip
    have n0 : ¬ op ≤ 13 := by omega
    have n1 : ¬ op ≤ 24 := by omega
    have n2 : ¬ op ≤ 32 := by omega
    have n3 : ¬ op ≤ 65 := by omega
    have y1 : op ≤ 72 := by omega
    have y2 : 70 ≤ op := by omega
    clear h
    go_enter Tryz.func51, Tryz.ntmps51
    go_wp2_with fail
    go_ret
    exact ⟨rfl, rfl⟩
set_option maxRecDepth 100000 in
set_option maxHeartbeats 4000000 in
theorem fields_ok (i : Fi) (w : World) (ha : i.a < 16) (hb : i.b < 16) (hc : i.c < 16 ∨ 70 ≤ i.op ∧ i.c ≤ 255) :
    Calls Tryz.prog 52 #[.agg #[.int .u8 i.op, .int .i64 i.a, .int .i64 i.b, .int .i64 i.c, .int .u64 i.i]] w fun x w' => x = .returned (.bool true) ∧ Gr w w' := by
  by_cases h70 : 70 ≤ i.op
  · have hcc : i.c ≤ 255 := by omega
    clear hc
    go_enter Tryz.func52, Tryz.ntmps52
    go_wp2_with fail
    refine (isWithin_ok _ _ _ _ (by omega) (by omega)).mono ?_
    rintro r w1 ⟨rfl, e1⟩
    subst e1
    go_wp2_with fail
    refine (isWithin_ok _ _ _ _ (by omega) (by omega)).mono ?_
    rintro r w1 ⟨rfl, e1⟩
    subst e1
    go_wp2_with fail
    refine (isWithin_ok _ _ _ _ (by omega) (by omega)).mono ?_
    rintro r w1 ⟨rfl, e1⟩
    subst e1
    go_wp2_with fail
    go_ret
    exact ⟨rfl, (Gr.refl w).alloc _⟩
  · have hcc : i.c < 16 := by omega
    clear hc
    go_enter Tryz.func52, Tryz.ntmps52
    go_wp2_with fail
    refine (isWithin_ok _ _ _ _ (by omega) (by omega)).mono ?_
    rintro r w1 ⟨rfl, e1⟩
    subst e1
    go_wp2_with fail
    refine (isWithin_ok _ _ _ _ (by omega) (by omega)).mono ?_
    rintro r w1 ⟨rfl, e1⟩
    subst e1
    go_wp2_with fail
    refine (isWithin_ok _ _ _ _ (by omega) (by omega)).mono ?_
    rintro r w1 ⟨rfl, e1⟩
    subst e1
    go_wp2_with fail
    go_ret
    exact ⟨rfl, (Gr.refl w).alloc _⟩
set_option maxRecDepth 100000 in
set_option maxHeartbeats 4000000 in
theorem there_ok (i : Fi) (n k : Nat) (w : World) (hl : n ≤ 1000 ∧ k ≤ 1000) (jm : 20 ≤ i.op ∧ i.op ≤ 24 → i.i < n) (cl : i.op = 31 → i.i < k) :
    Calls Tryz.prog 53 #[.agg #[.int .u8 i.op, .int .i64 i.a, .int .i64 i.b, .int .i64 i.c, .int .u64 i.i], .int .i64 n, .int .i64 k] w fun x w' => x = .returned (.bool true) ∧ Gr w w' := by
  obtain ⟨op, ia, ib, ic, im⟩ := i
  dsimp only at *
  have hn : IntKind.u64.wrap (n : Int) = (n : Int) := by simp [IntKind.wrap, IntKind.bits, IntKind.signed]; omega
  have hk : IntKind.u64.wrap (k : Int) = (k : Int) := by simp [IntKind.wrap, IntKind.bits, IntKind.signed]; omega
  replace hl := Hz.mk hl
  by_cases e20 : op = 20
  · subst e20
    have y := jm ⟨by omega, by omega⟩
    clear jm cl
    go_enter Tryz.func53, Tryz.ntmps53
    go_wp2_with fail
    go_ret
    exact ⟨rfl, (Gr.refl w).alloc _⟩
  by_cases e21 : op = 21
  · subst e21
    have y := jm ⟨by omega, by omega⟩
    clear jm cl
    go_enter Tryz.func53, Tryz.ntmps53
    go_wp2_with fail
    go_ret
    exact ⟨rfl, (Gr.refl w).alloc _⟩
  by_cases e22 : op = 22
  · subst e22
    have y := jm ⟨by omega, by omega⟩
    clear jm cl
    go_enter Tryz.func53, Tryz.ntmps53
    go_wp2_with fail
    go_ret
    exact ⟨rfl, (Gr.refl w).alloc _⟩
  by_cases e23 : op = 23
  · subst e23
    have y := jm ⟨by omega, by omega⟩
    clear jm cl
    go_enter Tryz.func53, Tryz.ntmps53
    go_wp2_with fail
    go_ret
    exact ⟨rfl, (Gr.refl w).alloc _⟩
  by_cases e24 : op = 24
  · subst e24
    have y := jm ⟨by omega, by omega⟩
    clear jm cl
    go_enter Tryz.func53, Tryz.ntmps53
    go_wp2_with fail
    go_ret
    exact ⟨rfl, (Gr.refl w).alloc _⟩
  by_cases e31 : op = 31
  · subst e31
    have y := cl rfl
    clear jm cl
    go_enter Tryz.func53, Tryz.ntmps53
    go_wp2_with fail
    go_ret
    exact ⟨rfl, (Gr.refl w).alloc _⟩
  have f20 : (op == 20) = false := by simpa using e20
  have f21 : (op == 21) = false := by simpa using e21
  have f22 : (op == 22) = false := by simpa using e22
  have f23 : (op == 23) = false := by simpa using e23
  have f24 : (op == 24) = false := by simpa using e24
  have f31 : (op == 31) = false := by simpa using e31
  clear jm cl e20 e21 e22 e23 e24 e31
  go_enter Tryz.func53, Tryz.ntmps53
  go_wp2_with fail
  go_ret
  exact ⟨rfl, (Gr.refl w).alloc _⟩
end Z
end Go.Proofs.YtijmjmefdedojaaGreat
