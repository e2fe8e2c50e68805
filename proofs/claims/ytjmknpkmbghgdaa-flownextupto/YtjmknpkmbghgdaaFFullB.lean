/-
  Stage 8, flow: 'full', walked.
-/
import Derived.Test.YtjmknpkmbghgdaaFFull
namespace Go.Proofs.Ytjmknpkmbghgdaa
namespace F
open Go.RowKit
open T

theorem XO.here {base : Nat} {w : World} {v : Value} {m : Nat} {b : Bool} (h : XO base w v m b) (hm : 0 < m) : ∃ g c, v = .slice (some ⟨g, 0, none⟩) m c ∧ base ≤ g ∧ g < w.heap.size := by
  rcases h.2 with ⟨_, h0⟩ | ⟨g, cap, cur, hv, hb, hh, _⟩
  · omega
  · exact ⟨g, cap, hv, hb, (Array.getElem?_eq_some_iff.1 hh).1⟩
theorem XO.slice {base : Nat} {w : World} {v : Value} {m : Nat} {b : Bool} (h : XO base w v m b) : ∃ a c, v = .slice a m c := by
  rcases h.2 with ⟨rfl, h0⟩ | ⟨g, cap, cur, rfl, _⟩
  · exact ⟨none, 0, by rw [h0]⟩
  · exact ⟨_, cap, rfl⟩
set_option maxRecDepth 100000 in
set_option maxHeartbeats 8000000 in
theorem full_any (g h n : Nat) (f1 f2 : Nat → Bool) (w : World) (h1 : At w g (boolA n f1)) (h2 : At w h (boolA n f2)) (hgh : g ≠ h) (hn : n ≤ 1900000) :
    Calls Try.prog 30 #[.slice (some ⟨g, 0, none⟩) n n, .slice (some ⟨h, 0, none⟩) n n] w fun e w' => e = .returned (.bool true) ∧ At w' g (boolA n fun _ => true) ∧ At w' h (boolA n fun _ => false) ∧ Kp (fun k => k = g ∨ k = h) w w' := by
  have h0 : Hid (At w g (boolA n fun k => decide (k < 0) || f1 k) ∧ At w h (boolA n f2) ∧ Kp (fun k => k = g ∨ k = h) w w) := Hid.mk ⟨by rw [boolA_congr (g := f1) (fun k _ => by simp)]; exact h1, h2, Kp.refl _ _⟩
  clear h1 h2
  go_enter Try.func30, Try.ntmps30
  go_wp2_with fail
  go_loopw [5] (fun x wr => ∃ j : Nat, x = .int .i64 j ∧ j ≤ n ∧ Hid (At wr g (boolA n fun k => decide (k < j) || f1 k) ∧ At wr h (boolA n f2) ∧ Kp (fun k => k = g ∨ k = h) w wr)) (fun x _ => n - (intOf x).toNat)
  case atStart => exact ⟨0, rfl, by omega, h0⟩
  case round =>
    clear h0
    obtain ⟨j, rfl, hj, ⟨i1, i2, i3⟩⟩ := hrel
    by_cases hlt : j < n
    · have hi1 : (j : Int) < n := by omega
      have z := boolA_at i1 j hlt
      have zf := i1.2.2
      have zl := i1.1
      have hnew : Hid (At (wr.setCell ⟨g, j, none⟩ (.bool true)) g (boolA n fun k => decide (k < j + 1) || f1 k) ∧ At (wr.setCell ⟨g, j, none⟩ (.bool true)) h (boolA n f2) ∧ Kp (fun k => k = g ∨ k = h) w (wr.setCell ⟨g, j, none⟩ (.bool true))) := Hid.mk ⟨boolA_put i1 j true hlt (fun q _ => by
        by_cases e : q = j
        · subst e; simp
        · have : (q < j + 1) = (q < j) := by apply propext; omega
          simp only [this, e, if_false]), i2.set_other _ hgh, i3.trans (Kp.set (S := fun k => k = g ∨ k = h) wr _ _ (.inl rfl)) (fun k r => .inl r)⟩
      replace i1 := Hid.mk i1
      replace i2 := Hid.mk i2
      replace i3 := Hid.mk i3
      go_wp2_with fail
      go_roundw
      all_goals first | exact ⟨j + 1, by simp, by omega, hnew⟩ | (simp only [intOf]; omega)
    · have hi1 : ¬ (j : Int) < n := by omega
      have h0 : Hid (At wr g (boolA n fun _ => true) ∧ At wr h (boolA n fun k => !decide (k < 0) && f2 k) ∧ Kp (fun k => k = g ∨ k = h) w wr) := Hid.mk ⟨by rw [boolA_congr (g := fun k => decide (k < j) || f1 k) (fun k hk => by simp [show k < j by omega])]; exact i1, by rw [boolA_congr (g := f2) (fun k _ => by simp)]; exact i2, i3⟩
      clear i1 i2 i3
      go_wp2_with fail
      rename World => wo
      go_loopw [6] (fun x wr => ∃ j : Nat, x = .int .i64 j ∧ j ≤ n ∧ Hid (At wr g (boolA n fun _ => true) ∧ At wr h (boolA n fun k => !decide (k < j) && f2 k) ∧ Kp (fun k => k = g ∨ k = h) w wr)) (fun x _ => n - (intOf x).toNat)
      case atStart => exact ⟨0, rfl, by omega, h0⟩
      case round =>
        clear h0
        obtain ⟨j, rfl, hj, ⟨i1, i2, i3⟩⟩ := hrel
        by_cases hlt : j < n
        · have hi1 : (j : Int) < n := by omega
          have z := boolA_at i2 j hlt
          have zf := i2.2.2
          have zl := i2.1
          have hnew : Hid (At (wr.setCell ⟨h, j, none⟩ (.bool false)) g (boolA n fun _ => true) ∧ At (wr.setCell ⟨h, j, none⟩ (.bool false)) h (boolA n fun k => !decide (k < j + 1) && f2 k) ∧ Kp (fun k => k = g ∨ k = h) w (wr.setCell ⟨h, j, none⟩ (.bool false))) := Hid.mk ⟨i1.set_other _ (fun e => hgh e.symm), boolA_put i2 j false hlt (fun q _ => by
            by_cases e : q = j
            · subst e; simp
            · have : (q < j + 1) = (q < j) := by apply propext; omega
              simp only [this, e, if_false]), i3.trans (Kp.set (S := fun k => k = g ∨ k = h) wr _ _ (.inr rfl)) (fun k r => .inl r)⟩
          replace i1 := Hid.mk i1
          replace i2 := Hid.mk i2
          replace i3 := Hid.mk i3
          go_wp2_with fail
          go_roundw
          all_goals first | exact ⟨j + 1, by simp, by omega, hnew⟩ | (simp only [intOf]; omega)
        · have hi1 : ¬ (j : Int) < n := by omega
          have hA : Hid (At wr g (boolA n fun _ => true)) := Hid.mk i1
          have hB : Hid (At wr h (boolA n fun _ => false)) := Hid.mk (by rw [boolA_congr (g := fun k => !decide (k < j) && f2 k) (fun k hk => by simp [show k < j by omega])]; exact i2)
          have hgl := i1.1
          have hhl := i2.1
          replace i3 := Hid.mk i3
          clear i1 i2
          go_wp2_with fail
          rename World => w3
          go_loopw [7, 9] (fun v x wr => ∃ j : Nat, x = .int .i64 j ∧ j ≤ 64 ∧ Hid (((j = 0 ∧ v = .slice (some ⟨g, 0, none⟩) n n) ∨ XO w3.heap.size wr v (n + j) true) ∧ Below w3.heap.size w3 wr)) (fun _ x _ => 64 - (intOf x).toNat)
          case atStart => exact ⟨0, rfl, by omega, Hid.mk ⟨.inl ⟨rfl, rfl⟩, Below.refl _ _⟩⟩
          case round =>
            obtain ⟨j, rfl, hj, ⟨i1, i2⟩⟩ := hrel
            by_cases hlt : j < 64
            · have hi2 : (j : Int) < 64 := by omega
              have hsz := i2.size
              obtain ⟨va, vn, vc, rfl⟩ : ∃ va vn vc, u7 = .slice va vn vc := by
                rcases i1 with ⟨_, r⟩ | r
                · exact ⟨_, _, _, r⟩
                · obtain ⟨a, c, e⟩ := r.slice
                  exact ⟨_, _, _, e⟩
              have hAw := Hid.mk (at_below hA.out (i2.trans ((Below.refl _ wr).alloc hsz (.cells #[.bool true] 4))) hgl)
              have i1' : Hid ((j = 0 ∧ Value.slice va vn vc = .slice (some ⟨g, 0, none⟩) n n) ∨ XO w3.heap.size (wr.alloc (.cells #[.bool true] 4)) (.slice va vn vc) (n + j) true) := Hid.mk (i1.imp id (fun r => own_below r ((Below.refl _ wr).alloc (Nat.le_refl _) _)))
              replace i2 := Hid.mk i2
              clear i1
              go_wp2_with (at_builtin; refine wpList_append_b rfl (.tmp 37) (.tmp 38) rfl w3.heap.size (.slice va vn vc) g n j true rfl i1'.out hAw.out wr.heap.size rfl (At.new wr _ _) (by omega) (by simp; omega) ?_)
              intro g' c w' k1 k2
              have hnew : Hid (((j + 1 = 0 ∧ Value.slice (some ⟨g', 0, none⟩) (n + (j + 1)) c = .slice (some ⟨g, 0, none⟩) n n) ∨ XO w3.heap.size w' (.slice (some ⟨g', 0, none⟩) (n + (j + 1)) c) (n + (j + 1)) true) ∧ Below w3.heap.size w3 w') := Hid.mk ⟨.inr k1, (i2.out.trans ((Below.refl _ wr).alloc hsz _)).trans k2⟩
              replace k1 := Hid.mk k1
              replace k2 := Hid.mk k2
              go_wp2_with fail
              go_roundw
              all_goals first | exact ⟨j + 1, by simp, by omega, hnew⟩ | (simp only [intOf]; omega)
            · have hi2 : ¬ (j : Int) < 64 := by omega
              have ej : j = 64 := by omega
              subst ej
              have hXO : XO w3.heap.size wr u7 (n + 64) true := i1.resolve_left (fun r => by omega)
              obtain ⟨gx, cx, rfl, hgx, hgxl⟩ := hXO.here (by omega)
              replace hXO := Hid.mk hXO
              replace i2 := Hid.mk i2
              have hA4 := Hid.mk (at_below hA.out i2.out hgl)
              have hB4 := Hid.mk (at_below hB.out i2.out hhl)
              have hgl4 := hA4.out.1
              have hhl4 := hB4.out.1
              clear i1 hA hB hgl hhl
              go_wp2_with fail
              rename World => w4
              go_loopw [8, 10] (fun v x wr => ∃ j : Nat, x = .int .i64 j ∧ j ≤ 64 ∧ Hid (((j = 0 ∧ v = .slice (some ⟨h, 0, none⟩) n n) ∨ XO w4.heap.size wr v (n + j) false) ∧ Below w4.heap.size w4 wr)) (fun _ x _ => 64 - (intOf x).toNat)
              case atStart => exact ⟨0, rfl, by omega, Hid.mk ⟨.inl ⟨rfl, rfl⟩, Below.refl _ _⟩⟩
              case round =>
                obtain ⟨j, rfl, hj, ⟨i1, j2⟩⟩ := hrel
                by_cases hlt : j < 64
                · have hi2 : (j : Int) < 64 := by omega
                  have hsz := j2.size
                  obtain ⟨va, vn, vc, rfl⟩ : ∃ va vn vc, u8 = .slice va vn vc := by
                    rcases i1 with ⟨_, r⟩ | r
                    · exact ⟨_, _, _, r⟩
                    · obtain ⟨a, c, e⟩ := r.slice
                      exact ⟨_, _, _, e⟩
                  have hBw := Hid.mk (at_below hB4.out (j2.trans ((Below.refl _ wr).alloc hsz (.cells #[.bool false] 4))) hhl4)
                  have i1' : Hid ((j = 0 ∧ Value.slice va vn vc = .slice (some ⟨h, 0, none⟩) n n) ∨ XO w4.heap.size (wr.alloc (.cells #[.bool false] 4)) (.slice va vn vc) (n + j) false) := Hid.mk (i1.imp id (fun r => own_below r ((Below.refl _ wr).alloc (Nat.le_refl _) _)))
                  replace j2 := Hid.mk j2
                  clear i1
                  go_wp2_with (at_builtin; refine wpList_append_b rfl (.tmp 44) (.tmp 45) rfl w4.heap.size (.slice va vn vc) h n j false rfl i1'.out hBw.out wr.heap.size rfl (At.new wr _ _) (by omega) (by simp; omega) ?_)
                  intro g' c w' k1 k2
                  have hnew : Hid (((j + 1 = 0 ∧ Value.slice (some ⟨g', 0, none⟩) (n + (j + 1)) c = .slice (some ⟨h, 0, none⟩) n n) ∨ XO w4.heap.size w' (.slice (some ⟨g', 0, none⟩) (n + (j + 1)) c) (n + (j + 1)) false) ∧ Below w4.heap.size w4 w') := Hid.mk ⟨.inr k1, (j2.out.trans ((Below.refl _ wr).alloc hsz _)).trans k2⟩
                  replace k1 := Hid.mk k1
                  replace k2 := Hid.mk k2
                  go_wp2_with fail
                  go_roundw
                  all_goals first | exact ⟨j + 1, by simp, by omega, hnew⟩ | (simp only [intOf]; omega)
                · have hi2 : ¬ (j : Int) < 64 := by omega
                  have ej : j = 64 := by omega
                  subst ej
                  have hYO : XO w4.heap.size wr u8 (n + 64) false := i1.resolve_left (fun r => by omega)
                  obtain ⟨gy, cy, rfl, hgy, hgyl⟩ := hYO.here (by omega)
                  have hxc : Hid (∀ k, k < n + 64 → wr.cell? ⟨gx, k, none⟩ = some (.bool true)) := Hid.mk (fun k hk => (j2.cell (p := ⟨gx, k, none⟩) hgxl).trans (hXO.out.cell k hk))
                  have hyc : Hid (∀ k, k < n + 64 → wr.cell? ⟨gy, k, none⟩ = some (.bool false)) := Hid.mk (fun k hk => hYO.cell k hk)
                  have hA5 := Hid.mk (at_below hA4.out j2 hgl4)
                  have hB5 := Hid.mk (at_below hB4.out j2 hhl4)
                  have hK5 : Hid (Kp (fun k => k = g ∨ k = h) w wr) := Hid.mk (i3.out.trans (Kp.of_below (S := fun _ => False) (i2.out.trans (j2.mono i2.out.size))) (fun _ r => r.elim))
                  clear i1 j2 hYO hXO
                  go_wp2_with fail
                  rename World => w5
                  go_loopw [11] (fun x wr => ∃ k : Nat, x = .int .i64 k ∧ k ≤ n + 64 ∧ wr = w5) (fun x _ => n + 64 - (intOf x).toNat)
                  case atStart => exact ⟨0, rfl, by omega, rfl⟩
                  case round =>
                    obtain ⟨k, rfl, hk, rfl⟩ := hrel
                    by_cases hlt : k < n + 64
                    · have hi3 : (k : Int) < (n : Int) + 64 := by omega
                      have z1 := hxc.out k hlt
                      by_cases hkn : k < n
                      · have hi4 : (k : Int) < n := by omega
                        have z2 := boolA_at hA5.out k hkn
                        go_wp2_with fail
                        go_roundw
                        all_goals first | exact ⟨k + 1, by simp, by omega, trivial⟩ | (simp only [intOf]; omega)
                      · have hi4 : ¬ (k : Int) < n := by omega
                        go_wp2_with fail
                        go_roundw
                        all_goals first | exact ⟨k + 1, by simp, by omega, trivial⟩ | (simp only [intOf]; omega)
                    · have hi3 : ¬ (k : Int) < (n : Int) + 64 := by omega
                      go_wp2_with fail
                      rename World => w5
                      go_loopw [12] (fun x wr => ∃ k : Nat, x = .int .i64 k ∧ k ≤ n + 64 ∧ wr = w5) (fun x _ => n + 64 - (intOf x).toNat)
                      case atStart => exact ⟨0, rfl, by omega, rfl⟩
                      case round =>
                        obtain ⟨k, rfl, hk, rfl⟩ := hrel
                        by_cases hlt : k < n + 64
                        · have hi3 : (k : Int) < (n : Int) + 64 := by omega
                          have z1 := hyc.out k hlt
                          by_cases hkn : k < n
                          · have hi4 : (k : Int) < n := by omega
                            have z2 := boolA_at hB5.out k hkn
                            go_wp2_with fail
                            go_roundw
                            all_goals first | exact ⟨k + 1, by simp, by omega, trivial⟩ | (simp only [intOf]; omega)
                          · have hi4 : ¬ (k : Int) < n := by omega
                            go_wp2_with fail
                            go_roundw
                            all_goals first | exact ⟨k + 1, by simp, by omega, trivial⟩ | (simp only [intOf]; omega)
                        · have hi3 : ¬ (k : Int) < (n : Int) + 64 := by omega
                          go_wp2_with fail
                          go_ret
                          exact ⟨rfl, hA5.out, hB5.out, hK5.out⟩
end F
end Go.Proofs.Ytjmknpkmbghgdaa
