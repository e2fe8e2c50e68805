/-
  Stage 8, flow: Sort of two numbers at most.
-/
import Derived.Test.YtjmknpkmbghgdaaFSort
namespace Go.Proofs.Ytjmknpkmbghgdaa
namespace F
open Go.RowKit
open T

set_option maxRecDepth 100000 in
set_option maxHeartbeats 2000000 in
theorem Sort_any (lo : Nat) (v : Value) (l : List Int) (w : World) (hl : l.length ≤ 2) (h : IOwn w lo v l) : Calls Try.prog 50 #[v] w fun e w' => e = .returned (.tuple #[]) ∧ IOwn w' lo v (srt l) ∧ Kp (fun k => v.ownBlock = some k) w w' := by
  obtain ⟨a, cap, rfl⟩ := own_slice h
  have hP : ∀ lim, Calls Try.prog 54 #[.slice a l.length cap, .int .i64 0, .int .i64 l.length, .int .i64 lim] w fun e w' => e = .returned (.tuple #[]) ∧ IOwn w' lo (.slice a l.length cap) (srt l) ∧ Kp (fun k => (Value.slice a l.length cap).ownBlock = some k) w w' := by
    intro lim
    have hI : Calls Try.prog 56 #[.slice a l.length cap, .int .i64 0, .int .i64 l.length] w fun e w' => e = .returned (.tuple #[]) ∧ IOwn w' lo (.slice a l.length cap) (srt l) ∧ Kp (fun k => (Value.slice a l.length cap).ownBlock = some k) w w' := by
      match l, hl, h with
      | [], _, h =>
        refine (ins_few a 0 cap w (by omega)).mono ?_
        rintro x w1 ⟨rfl, rfl⟩
        exact ⟨rfl, h, Kp.refl _ _⟩
      | [x], _, h =>
        refine (ins_few a 1 cap w (by omega)).mono ?_
        rintro x w1 ⟨rfl, rfl⟩
        exact ⟨rfl, h, Kp.refl _ _⟩
      | [x, y], _, h =>
        obtain ⟨g, rfl⟩ : ∃ g, a = some ⟨g, 0, none⟩ := by
          rcases h.2 with ⟨h0, _⟩ | ⟨g, cap', cur, h0, _⟩
          · cases h0
          · exact ⟨g, by injection h0⟩
        refine (ins_two lo g cap x y w h).mono ?_
        rintro x w1 ⟨rfl, h1, h2⟩
        refine ⟨rfl, ?_, h2.mono (fun k r => .inl (by simp [Value.ownBlock, r]))⟩
        exact h1
    have hl1 : (l.length : Int) ≤ 12 := by omega
    replace h := Hid.mk h
    replace hI := Hid.mk hI
    go_enter Try.func54, Try.ntmps54
    go_wp2_with fail
    refine wp_loop_rounds 1 ?_
    rw [rounds_succ]
    go_wp2_with (go_at_call 56; refine hI.out.mono ?_; rintro x w1 ⟨rfl, h1, h2⟩; replace h1 := Hid.mk h1; replace h2 := Hid.mk h2)
    refine bodyPost_ret (results_none (by kernel_rfl) _ _ _) rfl ?_
    exact ⟨rfl, h1.out, h2.out⟩
  have hn := len_any l.length w hl
  have hw : IntKind.u64.wrap (l.length : Int) = l.length := by rw [IntKind.wrap_u64]; omega
  replace h := Hid.mk h
  replace hP := Hid.mk hP
  replace hn := Hid.mk hn
  go_enter Try.func50, Try.ntmps50
  go_wp2_with (first | (go_at_call 55; refine hn.out.mono ?_; rintro x w1 ⟨⟨k, rfl⟩, rfl⟩) | (go_at_call 54; refine (hP.out _).mono ?_; rintro x w2 ⟨rfl, h1, h2⟩; replace h1 := Hid.mk h1; replace h2 := Hid.mk h2))
  go_end0
  exact ⟨rfl, h1.out, h2.out⟩
end F
end Go.Proofs.Ytjmknpkmbghgdaa
