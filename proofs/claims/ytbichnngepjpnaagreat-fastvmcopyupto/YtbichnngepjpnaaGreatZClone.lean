import Derived.Test.YtbichnngepjpnaaGreatP24
import Derived.Laws.AppendOwn
/-
  Stage 13, fastvm: copies of lists.
-/
namespace Go.Proofs.YtbichnngepjpnaaGreat
namespace Z
open Go.RowKit
open T (Sep Ob Kp Mf FlIn boxOb)

set_option maxRecDepth 100000 in
theorem eqs_gates (ad : Addr) (n c : Nat) (W : World) : (binOp .eql 23 (.slice (some ad) n c) (.slice none 0 0)).run Tryz.prog W = .ok (.bool false) W := rfl
set_option maxRecDepth 100000 in
theorem eqn_gates (n c : Nat) (W : World) : (binOp .eql 23 (.slice none n c) (.slice none 0 0)).run Tryz.prog W = .ok (.bool true) W := rfl
set_option maxRecDepth 100000 in
set_option maxHeartbeats 4000000 in
theorem clone_gates (b off n c : Nat) (xs : List Value) (w : World) (hb : b < w.heap.size) (hl : xs.length = n * 19) (hc : ∀ j u, xs[j]? = some u → w.cell? ⟨b, off + j, none⟩ = some u) (h1 : ∀ u ∈ xs, u.oneCell' = true) (hn : n ≤ 2000000) :
    Calls Tryz.prog 24 #[.slice (some ⟨b, off, none⟩) n c] w fun x w' => ∃ v, x = .returned v ∧ w'.ownsRow w.heap.size 78 19 v n xs ∧ Below w.heap.size w w' := by
  have eq0 := eqs_gates ⟨b, off, none⟩ n c
  obtain ⟨i0, hi, hz0, hz1, hz2⟩ := T.info_parts' (t := 78) (z := .agg #[.int .i64 0, .int .i64 0, .int .i64 0, .int .u64 0, .int .u64 0, .int .u64 0, .int .u64 0, .int .u64 0, .int .u64 0, .int .u64 0, .int .u64 0, .int .u64 0, .int .u64 0, .int .u64 0, .int .u64 0, .int .u64 0, .int .u64 0, .int .u64 0, .int .u64 0]) (s := 19) (b := 152) (by kernel_rfl)
  have hO : (w.alloc (.cells #[] 78)).ownsRow w.heap.size 78 19 (.slice (some ⟨w.heap.size, 0, none⟩) 0 0) 0 [] := ⟨by simp, .inr ⟨w.heap.size, 0, #[], rfl, Nat.le_refl _, (MapKept.heap_alloc w _).1, Nat.le_refl _, by simp [maxLen], by simp, by simp⟩⟩
  have hc2 : ∀ j u, xs[j]? = some u → (w.alloc (.cells #[] 78)).cell? ((⟨b, off, none⟩ : Addr).add j) = some u := fun j u q => by
    rw [addr_addZ]
    exact (T.cell_of_block (((Below.refl _ w).alloc (Nat.le_refl _) _).block b hb) _).trans (hc j u q)
  have hby : (0 + n) * 152 ≤ 140737488355328 := by omega
  replace hO := Hz.mk hO
  replace hc2 := Hz.mk hc2
  replace hc := Hz.mk hc
  replace h1 := Hz.mk h1
  go_enter Tryz.func24, Tryz.ntmps24
  go_wp2_with (at_builtin; refine wpList_append_own_at _ rfl (.tmp 5) (.tmp 6) 23 rfl w.heap.size 78 i0 (.agg #[.int .i64 0, .int .i64 0, .int .i64 0, .int .u64 0, .int .u64 0, .int .u64 0, .int .u64 0, .int .u64 0, .int .u64 0, .int .u64 0, .int .u64 0, .int .u64 0, .int .u64 0, .int .u64 0, .int .u64 0, .int .u64 0, .int .u64 0, .int .u64 0, .int .u64 0]) 19 152 Tryz.underlying23 hi hz0 hz1 hz2 rfl (by decide) (.slice (some ⟨w.heap.size, 0, none⟩) 0 0) 0 [] rfl hO.out ⟨b, off, none⟩ n c xs rfl hl hc2.out h1.out (by unfold maxLen; omega) hby (by simp) ?_)
  intro v' w' g1 g2 _ _
  replace g1 := Hz.mk g1
  have g4 : Hz (Below w.heap.size w w') := Hz.mk (Below.trans (((Below.refl _ w).alloc (Nat.le_refl _) _)) (T.Below.of_grown g2 (by simp) (fun k r => by simp [Value.ownBlock] at r; omega)))
  clear g2
  go_wp2_with fail
  go_ret
  exact ⟨_, rfl, g1.out, g4.out⟩
set_option maxRecDepth 100000 in
set_option maxHeartbeats 4000000 in
theorem clnil_gates (w : World) : Calls Tryz.prog 24 #[.slice none 0 0] w fun x w' => x = .returned (.slice none 0 0) ∧ w' = w := by
  have eq0 := eqn_gates 0 0
  go_enter Tryz.func24, Tryz.ntmps24
  go_wp2_with fail
  go_ret
  exact ⟨rfl, rfl⟩
set_option maxRecDepth 100000 in
theorem eqs_u64 (ad : Addr) (n c : Nat) (W : World) : (binOp .eql 26 (.slice (some ad) n c) (.slice none 0 0)).run Tryz.prog W = .ok (.bool false) W := rfl
set_option maxRecDepth 100000 in
theorem eqn_u64 (n c : Nat) (W : World) : (binOp .eql 26 (.slice none n c) (.slice none 0 0)).run Tryz.prog W = .ok (.bool true) W := rfl
set_option maxRecDepth 100000 in
set_option maxHeartbeats 4000000 in
theorem clone_u64 (b off n c : Nat) (xs : List Value) (w : World) (hb : b < w.heap.size) (hl : xs.length = n * 1) (hc : ∀ j u, xs[j]? = some u → w.cell? ⟨b, off + j, none⟩ = some u) (h1 : ∀ u ∈ xs, u.oneCell' = true) (hn : n ≤ 2000000) :
    Calls Tryz.prog 28 #[.slice (some ⟨b, off, none⟩) n c] w fun x w' => ∃ v, x = .returned v ∧ w'.ownsRow w.heap.size 31 1 v n xs ∧ Below w.heap.size w w' := by
  have eq0 := eqs_u64 ⟨b, off, none⟩ n c
  obtain ⟨i0, hi, hz0, hz1, hz2⟩ := T.info_parts' (t := 31) (z := .int .u64 0) (s := 1) (b := 8) (by kernel_rfl)
  have hO : (w.alloc (.cells #[] 31)).ownsRow w.heap.size 31 1 (.slice (some ⟨w.heap.size, 0, none⟩) 0 0) 0 [] := ⟨by simp, .inr ⟨w.heap.size, 0, #[], rfl, Nat.le_refl _, (MapKept.heap_alloc w _).1, Nat.le_refl _, by simp [maxLen], by simp, by simp⟩⟩
  have hc2 : ∀ j u, xs[j]? = some u → (w.alloc (.cells #[] 31)).cell? ((⟨b, off, none⟩ : Addr).add j) = some u := fun j u q => by
    rw [addr_addZ]
    exact (T.cell_of_block (((Below.refl _ w).alloc (Nat.le_refl _) _).block b hb) _).trans (hc j u q)
  have hby : (0 + n) * 8 ≤ 140737488355328 := by omega
  replace hO := Hz.mk hO
  replace hc2 := Hz.mk hc2
  replace hc := Hz.mk hc
  replace h1 := Hz.mk h1
  go_enter Tryz.func28, Tryz.ntmps28
  go_wp2_with (at_builtin; refine wpList_append_own_at _ rfl (.tmp 5) (.tmp 6) 26 rfl w.heap.size 31 i0 (.int .u64 0) 1 8 Tryz.underlying26 hi hz0 hz1 hz2 rfl (by decide) (.slice (some ⟨w.heap.size, 0, none⟩) 0 0) 0 [] rfl hO.out ⟨b, off, none⟩ n c xs rfl hl hc2.out h1.out (by unfold maxLen; omega) hby (by simp) ?_)
  intro v' w' g1 g2 _ _
  replace g1 := Hz.mk g1
  have g4 : Hz (Below w.heap.size w w') := Hz.mk (Below.trans (((Below.refl _ w).alloc (Nat.le_refl _) _)) (T.Below.of_grown g2 (by simp) (fun k r => by simp [Value.ownBlock] at r; omega)))
  clear g2
  go_wp2_with fail
  go_ret
  exact ⟨_, rfl, g1.out, g4.out⟩
set_option maxRecDepth 100000 in
set_option maxHeartbeats 4000000 in
theorem clnil_u64 (w : World) : Calls Tryz.prog 28 #[.slice none 0 0] w fun x w' => x = .returned (.slice none 0 0) ∧ w' = w := by
  have eq0 := eqn_u64 0 0
  go_enter Tryz.func28, Tryz.ntmps28
  go_wp2_with fail
  go_ret
  exact ⟨rfl, rfl⟩
set_option maxRecDepth 100000 in
theorem eqs_tcs (ad : Addr) (n c : Nat) (W : World) : (binOp .eql 46 (.slice (some ad) n c) (.slice none 0 0)).run Tryz.prog W = .ok (.bool false) W := rfl
set_option maxRecDepth 100000 in
theorem eqn_tcs (n c : Nat) (W : World) : (binOp .eql 46 (.slice none n c) (.slice none 0 0)).run Tryz.prog W = .ok (.bool true) W := rfl
set_option maxRecDepth 100000 in
set_option maxHeartbeats 4000000 in
theorem clone_tcs (b off n c : Nat) (xs : List Value) (w : World) (hb : b < w.heap.size) (hl : xs.length = n * 3) (hc : ∀ j u, xs[j]? = some u → w.cell? ⟨b, off + j, none⟩ = some u) (h1 : ∀ u ∈ xs, u.oneCell' = true) (hn : n ≤ 2000000) :
    Calls Tryz.prog 29 #[.slice (some ⟨b, off, none⟩) n c] w fun x w' => ∃ v, x = .returned v ∧ w'.ownsRow w.heap.size 60 3 v n xs ∧ Below w.heap.size w w' := by
  have eq0 := eqs_tcs ⟨b, off, none⟩ n c
  obtain ⟨i0, hi, hz0, hz1, hz2⟩ := T.info_parts' (t := 60) (z := .agg #[.bool false, .int .u64 0, .int .u64 0]) (s := 3) (b := 24) (by kernel_rfl)
  have hO : (w.alloc (.cells #[] 60)).ownsRow w.heap.size 60 3 (.slice (some ⟨w.heap.size, 0, none⟩) 0 0) 0 [] := ⟨by simp, .inr ⟨w.heap.size, 0, #[], rfl, Nat.le_refl _, (MapKept.heap_alloc w _).1, Nat.le_refl _, by simp [maxLen], by simp, by simp⟩⟩
  have hc2 : ∀ j u, xs[j]? = some u → (w.alloc (.cells #[] 60)).cell? ((⟨b, off, none⟩ : Addr).add j) = some u := fun j u q => by
    rw [addr_addZ]
    exact (T.cell_of_block (((Below.refl _ w).alloc (Nat.le_refl _) _).block b hb) _).trans (hc j u q)
  have hby : (0 + n) * 24 ≤ 140737488355328 := by omega
  replace hO := Hz.mk hO
  replace hc2 := Hz.mk hc2
  replace hc := Hz.mk hc
  replace h1 := Hz.mk h1
  go_enter Tryz.func29, Tryz.ntmps29
  go_wp2_with (at_builtin; refine wpList_append_own_at _ rfl (.tmp 5) (.tmp 6) 46 rfl w.heap.size 60 i0 (.agg #[.bool false, .int .u64 0, .int .u64 0]) 3 24 Tryz.underlying46 hi hz0 hz1 hz2 rfl (by decide) (.slice (some ⟨w.heap.size, 0, none⟩) 0 0) 0 [] rfl hO.out ⟨b, off, none⟩ n c xs rfl hl hc2.out h1.out (by unfold maxLen; omega) hby (by simp) ?_)
  intro v' w' g1 g2 _ _
  replace g1 := Hz.mk g1
  have g4 : Hz (Below w.heap.size w w') := Hz.mk (Below.trans (((Below.refl _ w).alloc (Nat.le_refl _) _)) (T.Below.of_grown g2 (by simp) (fun k r => by simp [Value.ownBlock] at r; omega)))
  clear g2
  go_wp2_with fail
  go_ret
  exact ⟨_, rfl, g1.out, g4.out⟩
set_option maxRecDepth 100000 in
set_option maxHeartbeats 4000000 in
theorem clnil_tcs (w : World) : Calls Tryz.prog 29 #[.slice none 0 0] w fun x w' => x = .returned (.slice none 0 0) ∧ w' = w := by
  have eq0 := eqn_tcs 0 0
  go_enter Tryz.func29, Tryz.ntmps29
  go_wp2_with fail
  go_ret
  exact ⟨rfl, rfl⟩
end Z
end Go.Proofs.YtbichnngepjpnaaGreat
