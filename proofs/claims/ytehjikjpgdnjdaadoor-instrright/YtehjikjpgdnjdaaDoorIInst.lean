/-
  Stage 3, instr: an instruction that came in; the walk of the statement on Right.
-/
import Derived.Test.YtehjikjpgdnjdaaDoorIDocR
import Derived.Test.YtehjikjpgdnjdaaDoorIOpen
import Derived.Deep.RegionHeld3
import Derived.StillTactics
namespace Go.Proofs.YtehjikjpgdnjdaaDoor
open Go.RowKit

theorem right_ret : rightF 32 0 0 0 0 = 0 := by kernel_rfl
theorem right_add : rightF 3 16 0 0 0 = 32 := by kernel_rfl
set_option maxHeartbeats 1000000 in
theorem walk_InstrRight (op a b c m : Int) (w : World) (ht : TabIn w) (hi : InI op a b c m) :
    Calls Tryd.prog 4 #[.agg #[.int .u8 op, .int .i64 a, .int .i64 b, .int .i64 c, .int .i64 m]] w fun x w' => x = .returned (.bool true) ∧ Gr w w' := by
  have h0 := hi.1.1
  have h1 := hi.1.2
  clear hi
  have e1 := Right_any 32 0 0 0 0
  have e2 := Right_any 3 16 0 0 0
  rw [right_ret] at e1
  rw [right_add] at e2
  have hd := right_doc op a b c m h0 h1
  have e3 := Right_any op a b c m
  have e4 := refRight_any op a b c m
  rw [hd] at e4
  generalize rightF op a b c m = r at *
  clear hd
  go_enter Tryd.func4, Tryd.ntmps4
  go_wp2_with fail
  refine (e1 _ (ht.gr ((Gr.refl w).alloc _)) (by omega) (by omega)).mono ?_
  rintro x w1 ⟨rfl, hG1⟩
  go_wp2_with fail
  refine (e2 _ (ht.gr hG1.of_alloc) (by omega) (by omega)).mono ?_
  rintro x w2 ⟨rfl, hG2⟩
  go_upto_region 3 with fail
  refine wp_world (fun W => Gr w W ∧ At W w.heap.size #[.int .u8 op, .int .i64 a, .int .i64 b, .int .i64 c, .int .i64 m]) ⟨hG1.of_alloc.trans hG2, (At.new w _ _).gr (hG1.trans hG2)⟩ ?_
  clear hG1 hG2 e1 e2
  rintro W ⟨hG, A1⟩
  have hlt : w.heap.size < W.heap.size := A1.1
  have q0 : ∀ o, W.cell? ⟨w.heap.size, o, none⟩ = #[Value.int .u8 op, .int .i64 a, .int .i64 b, .int .i64 c, .int .i64 m][o]? := A1.2.1
  have q1 := A1.grown
  have q2 : ∀ l l' o, (grow (grow W.drew l) l').cell? ⟨w.heap.size, o, none⟩ = #[Value.int .u8 op, .int .i64 a, .int .i64 b, .int .i64 c, .int .i64 m][o]? := fun l l' o => ((A1.drew.gr ⟨l, rfl⟩).gr ⟨l', rfl⟩).2.1 o
  have T0 : TabIn W.drew := ht.gr hG.drew
  have T1 : ∀ l, TabIn (grow W.drew l) := fun l => ht.gr (hG.drew.grow l)
  go_region_held3 (fun w' => w'.cell? ⟨w.heap.size, 0, none⟩ = some (.int .u8 op) ∧ w'.cell? ⟨w.heap.size, 1, none⟩ = some (.int .i64 a) ∧ w'.cell? ⟨w.heap.size, 2, none⟩ = some (.int .i64 b) ∧ w'.cell? ⟨w.heap.size, 3, none⟩ = some (.int .i64 c) ∧ w'.cell? ⟨w.heap.size, 4, none⟩ = some (.int .i64 m)) (simp [go_sem, *]) (first | (go_at_call 15; refine (e3 _ (by first | exact T0 | exact T1 _) h0 h1).mono ?_; rintro x w' ⟨rfl, l, rfl⟩) | (go_at_call 16; refine (e4 _ h0 h1).mono ?_; rintro x w' ⟨rfl, l, rfl⟩))
  all_goals go_wp2_with fail
  all_goals go_ret
  all_goals exact ⟨rfl, by repeat (first | exact hG | refine Gr.grow ?_ _ | refine Gr.drew ?_)⟩
end Go.Proofs.YtehjikjpgdnjdaaDoor
