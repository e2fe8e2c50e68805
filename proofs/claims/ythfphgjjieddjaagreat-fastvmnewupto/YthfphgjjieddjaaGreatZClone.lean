import Derived.Test.YthfphgjjieddjaaGreatP21
import Derived.Laws.AppendOwn
namespace Go.Proofs.YthfphgjjieddjaaGreat
set_option maxRecDepth 100000
set_option maxHeartbeats 40000000
namespace Z
open Go.RowKit
open T (Sep Ob Kp Mf FlIn boxOb)

theorem eqs_gates (ad : Addr) (n c : Nat) (W : World) : (binOp .eql 23 (.slice (some ad) n c) (.slice none 0 0)).run Tryz.prog W = .ok (.bool false) W := rfl
theorem clone_gates (b off n c : Nat) (xs : List Value) (w : World) (hb : b < w.heap.size) (hl : xs.length = n * 19) (hc : ∀ j u, xs[j]? = some u → w.cell? ⟨b, off + j, none⟩ = some u) (h1 : ∀ u ∈ xs, u.oneCell' = true) (hn : n ≤ 2000000) :
   Calls Tryz.prog 30 #[.slice (some ⟨b, off, none⟩) n c] w fun x w' => ∃ v, x = .returned v ∧ w'.ownsRow w.heap.size 83 19 v n xs ∧ Below w.heap.size w w' := by
 have eq0 := eqs_gates ⟨b, off, none⟩ n c
 obtain ⟨i0, hi, hz0, hz1, hz2⟩ := T.info_parts' (t := 83) (z := .agg #[.int .i64 0, .int .i64 0, .int .i64 0, .int .u64 0, .int .u64 0, .int .u64 0, .int .u64 0, .int .u64 0, .int .u64 0, .int .u64 0, .int .u64 0, .int .u64 0, .int .u64 0, .int .u64 0, .int .u64 0, .int .u64 0, .int .u64 0, .int .u64 0, .int .u64 0]) (s := 19) (b := 152) (by kernel_rfl)
 have hO : (w.alloc (.cells #[] 83)).ownsRow w.heap.size 83 19 (.slice (some ⟨w.heap.size, 0, none⟩) 0 0) 0 [] := ⟨by simp, .inr ⟨w.heap.size, 0, #[], rfl, Nat.le_refl _, (MapKept.heap_alloc w _).1, Nat.le_refl _, by simp [maxLen], by simp, by simp⟩⟩
 have hc2 : ∀ j u, xs[j]? = some u → (w.alloc (.cells #[] 83)).cell? ((⟨b, off, none⟩ : Addr).add j) = some u := fun j u q => by
   rw [addr_addZ]
   exact (T.cell_of_block (((Below.refl _ w).alloc (Nat.le_refl _) _).block b hb) _).trans (hc j u q)
 have hby : (0 + n) * 152 ≤ 140737488355328 := by omega
 replace hO := Hz.mk hO
 replace hc2 := Hz.mk hc2
 replace hc := Hz.mk hc
 replace h1 := Hz.mk h1
 go_enter Tryz.func30, Tryz.ntmps30
 go_wp2_with (at_builtin; refine wpList_append_own_at _ rfl (.tmp 5) (.tmp 6) 23 rfl w.heap.size 83 i0 (.agg #[.int .i64 0, .int .i64 0, .int .i64 0, .int .u64 0, .int .u64 0, .int .u64 0, .int .u64 0, .int .u64 0, .int .u64 0, .int .u64 0, .int .u64 0, .int .u64 0, .int .u64 0, .int .u64 0, .int .u64 0, .int .u64 0, .int .u64 0, .int .u64 0, .int .u64 0]) 19 152 Tryz.underlying23 hi hz0 hz1 hz2 rfl (by decide) (.slice (some ⟨w.heap.size, 0, none⟩) 0 0) 0 [] rfl hO.out ⟨b, off, none⟩ n c xs rfl hl hc2.out h1.out (by unfold maxLen; omega) hby (by simp) ?_)
 intro v' w' g1 g2 _ _
 replace g1 := Hz.mk g1
 have g4 : Hz (Below w.heap.size w w') := Hz.mk (Below.trans (((Below.refl _ w).alloc (Nat.le_refl _) _)) (T.Below.of_grown g2 (by simp) (fun k r => by simp [Value.ownBlock] at r; omega)))
 clear g2
 go_wp2_with fail
 go_ret
 exact ⟨_, rfl, g1.out, g4.out⟩
theorem eqs_u64 (ad : Addr) (n c : Nat) (W : World) : (binOp .eql 26 (.slice (some ad) n c) (.slice none 0 0)).run Tryz.prog W = .ok (.bool false) W := rfl
theorem eqn_u64 (n c : Nat) (W : World) : (binOp .eql 26 (.slice none n c) (.slice none 0 0)).run Tryz.prog W = .ok (.bool true) W := rfl
theorem clone_u64 (b off n c : Nat) (xs : List Value) (w : World) (hb : b < w.heap.size) (hl : xs.length = n * 1) (hc : ∀ j u, xs[j]? = some u → w.cell? ⟨b, off + j, none⟩ = some u) (h1 : ∀ u ∈ xs, u.oneCell' = true) (hn : n ≤ 2000000) :
   Calls Tryz.prog 33 #[.slice (some ⟨b, off, none⟩) n c] w fun x w' => ∃ v, x = .returned v ∧ w'.ownsRow w.heap.size 34 1 v n xs ∧ Below w.heap.size w w' := by
 have eq0 := eqs_u64 ⟨b, off, none⟩ n c
 obtain ⟨i0, hi, hz0, hz1, hz2⟩ := T.info_parts' (t := 34) (z := .int .u64 0) (s := 1) (b := 8) (by kernel_rfl)
 have hO : (w.alloc (.cells #[] 34)).ownsRow w.heap.size 34 1 (.slice (some ⟨w.heap.size, 0, none⟩) 0 0) 0 [] := ⟨by simp, .inr ⟨w.heap.size, 0, #[], rfl, Nat.le_refl _, (MapKept.heap_alloc w _).1, Nat.le_refl _, by simp [maxLen], by simp, by simp⟩⟩
 have hc2 : ∀ j u, xs[j]? = some u → (w.alloc (.cells #[] 34)).cell? ((⟨b, off, none⟩ : Addr).add j) = some u := fun j u q => by
   rw [addr_addZ]
   exact (T.cell_of_block (((Below.refl _ w).alloc (Nat.le_refl _) _).block b hb) _).trans (hc j u q)
 have hby : (0 + n) * 8 ≤ 140737488355328 := by omega
 replace hO := Hz.mk hO
 replace hc2 := Hz.mk hc2
 replace hc := Hz.mk hc
 replace h1 := Hz.mk h1
 go_enter Tryz.func33, Tryz.ntmps33
 go_wp2_with (at_builtin; refine wpList_append_own_at _ rfl (.tmp 5) (.tmp 6) 26 rfl w.heap.size 34 i0 (.int .u64 0) 1 8 Tryz.underlying26 hi hz0 hz1 hz2 rfl (by decide) (.slice (some ⟨w.heap.size, 0, none⟩) 0 0) 0 [] rfl hO.out ⟨b, off, none⟩ n c xs rfl hl hc2.out h1.out (by unfold maxLen; omega) hby (by simp) ?_)
 intro v' w' g1 g2 _ _
 replace g1 := Hz.mk g1
 have g4 : Hz (Below w.heap.size w w') := Hz.mk (Below.trans (((Below.refl _ w).alloc (Nat.le_refl _) _)) (T.Below.of_grown g2 (by simp) (fun k r => by simp [Value.ownBlock] at r; omega)))
 clear g2
 go_wp2_with fail
 go_ret
 exact ⟨_, rfl, g1.out, g4.out⟩
theorem clnil_u64 (w : World) : Calls Tryz.prog 33 #[.slice none 0 0] w fun x w' => x = .returned (.slice none 0 0) ∧ w' = w := by
 have eq0 := eqn_u64 0 0
 go_enter Tryz.func33, Tryz.ntmps33
 go_wp2_with fail
 go_ret
 exact ⟨rfl, rfl⟩
theorem eqs_tcs (ad : Addr) (n c : Nat) (W : World) : (binOp .eql 53 (.slice (some ad) n c) (.slice none 0 0)).run Tryz.prog W = .ok (.bool false) W := rfl
theorem eqn_tcs (n c : Nat) (W : World) : (binOp .eql 53 (.slice none n c) (.slice none 0 0)).run Tryz.prog W = .ok (.bool true) W := rfl
theorem clone_tcs (b off n c : Nat) (xs : List Value) (w : World) (hb : b < w.heap.size) (hl : xs.length = n * 3) (hc : ∀ j u, xs[j]? = some u → w.cell? ⟨b, off + j, none⟩ = some u) (h1 : ∀ u ∈ xs, u.oneCell' = true) (hn : n ≤ 2000000) :
   Calls Tryz.prog 37 #[.slice (some ⟨b, off, none⟩) n c] w fun x w' => ∃ v, x = .returned v ∧ w'.ownsRow w.heap.size 56 3 v n xs ∧ Below w.heap.size w w' := by
 have eq0 := eqs_tcs ⟨b, off, none⟩ n c
 obtain ⟨i0, hi, hz0, hz1, hz2⟩ := T.info_parts' (t := 56) (z := .agg #[.bool false, .int .u64 0, .int .u64 0]) (s := 3) (b := 24) (by kernel_rfl)
 have hO : (w.alloc (.cells #[] 56)).ownsRow w.heap.size 56 3 (.slice (some ⟨w.heap.size, 0, none⟩) 0 0) 0 [] := ⟨by simp, .inr ⟨w.heap.size, 0, #[], rfl, Nat.le_refl _, (MapKept.heap_alloc w _).1, Nat.le_refl _, by simp [maxLen], by simp, by simp⟩⟩
 have hc2 : ∀ j u, xs[j]? = some u → (w.alloc (.cells #[] 56)).cell? ((⟨b, off, none⟩ : Addr).add j) = some u := fun j u q => by
   rw [addr_addZ]
   exact (T.cell_of_block (((Below.refl _ w).alloc (Nat.le_refl _) _).block b hb) _).trans (hc j u q)
 have hby : (0 + n) * 24 ≤ 140737488355328 := by omega
 replace hO := Hz.mk hO
 replace hc2 := Hz.mk hc2
 replace hc := Hz.mk hc
 replace h1 := Hz.mk h1
 go_enter Tryz.func37, Tryz.ntmps37
 go_wp2_with (at_builtin; refine wpList_append_own_at _ rfl (.tmp 5) (.tmp 6) 53 rfl w.heap.size 56 i0 (.agg #[.bool false, .int .u64 0, .int .u64 0]) 3 24 Tryz.underlying53 hi hz0 hz1 hz2 rfl (by decide) (.slice (some ⟨w.heap.size, 0, none⟩) 0 0) 0 [] rfl hO.out ⟨b, off, none⟩ n c xs rfl hl hc2.out h1.out (by unfold maxLen; omega) hby (by simp) ?_)
 intro v' w' g1 g2 _ _
 replace g1 := Hz.mk g1
 have g4 : Hz (Below w.heap.size w w') := Hz.mk (Below.trans (((Below.refl _ w).alloc (Nat.le_refl _) _)) (T.Below.of_grown g2 (by simp) (fun k r => by simp [Value.ownBlock] at r; omega)))
 clear g2
 go_wp2_with fail
 go_ret
 exact ⟨_, rfl, g1.out, g4.out⟩
theorem clnil_tcs (w : World) : Calls Tryz.prog 37 #[.slice none 0 0] w fun x w' => x = .returned (.slice none 0 0) ∧ w' = w := by
 have eq0 := eqn_tcs 0 0
 go_enter Tryz.func37, Tryz.ntmps37
 go_wp2_with fail
 go_ret
 exact ⟨rfl, rfl⟩
end Z
end Go.Proofs.YthfphgjjieddjaaGreat
