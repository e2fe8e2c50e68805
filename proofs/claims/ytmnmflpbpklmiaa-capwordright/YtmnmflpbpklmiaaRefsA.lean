/-
  Stage 1, capword: what the document's own answer does (Right, Under, Access).
-/
import Derived.Test.YtmnmflpbpklmiaaRefs
namespace Go.Proofs.Ytmnmflpbpklmiaa
open Go.RowKit

set_option maxHeartbeats 400000 in
theorem refRight_any (b e c p s : Int) (w : World) (hp0 : 0 ≤ p) (hp1 : p < 256) :
    Calls Try.prog 14 #[.agg #[.int .u64 b, .int .u64 e, .int .u64 c, .int .u8 p, .int .i64 s]] w fun x w' => x = .returned (.bool (rightB b e p s)) ∧ w.alloc (.cells #[.int .u64 b, .int .u64 e, .int .u64 c, .int .u8 p, .int .i64 s] 25) = w' := by
  go_enter Try.func14, Try.ntmps14
  go_wp2_with (go_at_call 26; refine (has_any _ _ _ (by omega) (by omega) (by omega) (by omega)).mono ?_; rintro x w' ⟨rfl, rfl⟩)
  all_goals
    go_ret
    refine ⟨ret_bool ?_, rfl⟩
    first | (refine right_last ?_ ?_ ?_ ?_ <;> assumption) | (refine right_false ?_; rintro ⟨h1, h2, h3, h4, h5⟩; first | omega | contradiction)

set_option maxHeartbeats 400000 in
theorem refUnder_any (b e c p s b' e' c' p' s' : Int) (w : World) (hp0 : 0 ≤ p) (hp1 : p < 256) (hq0 : 0 ≤ p') (hq1 : p' < 256) :
    Calls Try.prog 15 #[.agg #[.int .u64 b, .int .u64 e, .int .u64 c, .int .u8 p, .int .i64 s], .agg #[.int .u64 b', .int .u64 e', .int .u64 c', .int .u8 p', .int .i64 s']] w fun x w' => x = .returned (.bool (underB b e p s b' e' p' s')) ∧ (w.alloc (.cells #[.int .u64 b, .int .u64 e, .int .u64 c, .int .u8 p, .int .i64 s] 25)).alloc (.cells #[.int .u64 b', .int .u64 e', .int .u64 c', .int .u8 p', .int .i64 s'] 25) = w' := by
  go_enter Try.func15, Try.ntmps15
  go_wp2_with (go_at_call 26; refine (has_any _ _ _ (by omega) (by omega) (by omega) (by omega)).mono ?_; rintro x w' ⟨rfl, rfl⟩)
  all_goals
    go_ret
    refine ⟨ret_bool ?_, rfl⟩
    first | (refine under_last ?_ ?_ ?_ <;> assumption) | (refine under_false ?_; rintro ⟨h1, h2, h3, h4⟩; first | omega | contradiction)

set_option maxHeartbeats 400000 in
theorem refAccess_any (b e c p s off n q : Int) (w : World) (hp0 : 0 ≤ p) (hp1 : p < 256) (hq0 : 0 ≤ q) (hq1 : q < 256) :
    Calls Try.prog 17 #[.agg #[.int .u64 b, .int .u64 e, .int .u64 c, .int .u8 p, .int .i64 s], .int .u64 off, .int .u64 n, .int .u8 q] w fun x w' => x = .returned (.int .i64 (accessF b e c p s off n q)) ∧ w.alloc (.cells #[.int .u64 b, .int .u64 e, .int .u64 c, .int .u8 p, .int .i64 s] 25) = w' := by
  go_enter Try.func17, Try.ntmps17
  go_wp2_with (first | (go_at_call 26; refine (has_any _ _ _ (by omega) (by omega) (by omega) (by omega)).mono ?_; rintro x w' ⟨rfl, rfl⟩) | (go_at_call 27; refine (from_any _ _ _ _ _).mono ?_; rintro x w' ⟨rfl, rfl⟩))
  all_goals
    go_ret
    refine ⟨ret_int ?_, rfl⟩
    simp_all [accessF]
end Go.Proofs.Ytmnmflpbpklmiaa
