/-
  Stage 1, capword: the walk of the statement that nothing is gained.
-/
import Derived.Test.YtmnmflpbpklmiabExB
import Derived.Test.YtmnmflpbpklmiabOpen
import Derived.Test.YtmnmflpbpklmiabCapsN
import Derived.Test.YtmnmflpbpklmiabNAct
import Derived.Test.YtmnmflpbpklmiabNOpens
namespace Go.Proofs.Ytmnmflpbpklmiab
open Go.RowKit

/-- A slice of capabilities that came in. -/
def CapsIn (w : World) (a : Option Addr) (len : Nat) : Prop := ∀ i, i < len → ∃ (b off : Nat) (k : Kap), a = some ⟨b, off, none⟩ ∧ b < w.heap.size ∧ InR k.b k.e k.c k.p k.s ∧
  w.cell? ⟨b, off + i * 5, none⟩ = some (.int .u64 k.b) ∧ w.cell? ⟨b, off + i * 5 + 1, none⟩ = some (.int .u64 k.e) ∧ w.cell? ⟨b, off + i * 5 + 1 + 1, none⟩ = some (.int .u64 k.c) ∧ w.cell? ⟨b, off + i * 5 + 1 + 1 + 1, none⟩ = some (.int .u8 k.p) ∧ w.cell? ⟨b, off + i * 5 + 1 + 1 + 1 + 1, none⟩ = some (.int .i64 k.s)
/-- A slice of acts that came in. -/
def ActsIn (w : World) (a : Option Addr) (len : Nat) : Prop := ∀ i, i < len → ∃ (b off : Nat) (kd of by_ n p : Int), a = some ⟨b, off, none⟩ ∧ b < w.heap.size ∧
  (-9223372036854775808 ≤ kd ∧ kd < 9223372036854775808) ∧ (-9223372036854775808 ≤ of ∧ of < 9223372036854775808) ∧ (-9223372036854775808 ≤ by_ ∧ by_ < 9223372036854775808) ∧ (0 ≤ n ∧ n < 18446744073709551616) ∧ (0 ≤ p ∧ p < 256) ∧
  w.cell? ⟨b, off + i * 5, none⟩ = some (.int .i64 kd) ∧ w.cell? ⟨b, off + i * 5 + 1, none⟩ = some (.int .i64 of) ∧ w.cell? ⟨b, off + i * 5 + 1 + 1, none⟩ = some (.int .i64 by_) ∧ w.cell? ⟨b, off + i * 5 + 1 + 1 + 1, none⟩ = some (.int .u64 n) ∧ w.cell? ⟨b, off + i * 5 + 1 + 1 + 1 + 1, none⟩ = some (.int .u8 p)

theorem LAt.two (w : World) (base : Nat) (k y : Kap) (hb : base ≤ w.heap.size) : LAt (w.alloc (.cells (k.vals ++ y.vals).toArray 25)) base w.heap.size 2 [k, y] :=
  ⟨by simp [flat, Kap.vals], .inr ⟨w.heap.size, 2, (k.vals ++ y.vals).toArray, rfl, hb, (MapKept.heap_alloc w _).1, by simp, by simp [maxLen], by simp [Kap.vals], by simp [flat, Kap.vals]⟩⟩
theorem LAt.weaken {w : World} {base base' g cap : Nat} {L : List Kap} (h : LAt w base g cap L) (hb : base' ≤ base) : LAt w base' g cap L :=
  ⟨h.1, h.2.elim .inl fun ⟨g', cap', cur, hv, hg, r⟩ => .inr ⟨g', cap', cur, hv, Nat.le_trans hb hg, r⟩⟩
theorem out_all (L : List Kap) (h : L.length ≤ 6) : (outAt L (L.length * L.length)).length ≤ 1000 := by
  have h1 := outAt_length L (L.length * L.length)
  have h2 : L.length * L.length ≤ 6 * 6 := Nat.mul_le_mul h h
  omega
theorem NearR.rk {b e c p s : Int} (h : NearR b e c p s) : Rk ⟨b, e, c, p, s⟩ := by
  obtain ⟨h1, h2, h3, h4, h5⟩ := h
  exact ⟨by show 0 ≤ b ∧ b ≤ e ∧ e ≤ 4294967296; omega, by show 0 ≤ c ∧ c < 18446744073709551616; omega, h4, h5⟩
theorem rk_first : Rk ⟨0, 16, 3, 33, 0⟩ := by unfold Rk; decide
theorem rk_second : Rk ⟨16, 48, 16, 15, 0⟩ := by unfold Rk; decide
theorem act_ok {A M : List Kap} {n p b' e' c' p' s' : Int} (hA : Closed A) (hM : Inv A M) (hp : 0 ≤ p ∧ p < 256) (h : ActR M n p b' e' c' p' s' 0) : Rk ⟨b', e', c', p', s'⟩ ∧ madeB A ⟨b', e', c', p', s'⟩ = true := by
  obtain ⟨k, hk, y, hy, h⟩ := h
  rcases h with h | h | h | h | h
  · exact made_set hA (by omega) (hM k hk) h
  · exact made_and hA hp (hM k hk) h
  · exact made_inc hA (hM k hk) h
  · exact made_seal hA (hM k hk) (hM y hy) h
  · exact made_unseal hA (hM k hk) (hM y hy) h
theorem act_zero {M : List Kap} {n p b' e' c' p' s' f : Int} (h : ActR M n p b' e' c' p' s' f) (hf : f ≠ 0) : 0 = b' ∧ 0 = e' ∧ 0 = c' ∧ 0 = p' ∧ 0 = s' := by
  obtain ⟨k, hk, y, hy, h⟩ := h
  rcases h with h | h | h | h | h
  · unfold SetB at h; omega
  · unfold AndP at h; omega
  · unfold IncR at h; omega
  · unfold SealR at h; omega
  · unfold UnsealR at h; omega
theorem Inv.snoc {A M : List Kap} {k : Kap} (h : Inv A M) (hk : Rk k ∧ madeB A k = true) : Inv A (M ++ [k]) := by
  intro x hx
  rcases List.mem_append.mp hx with hx | hx
  · exact h x hx
  · simp at hx; rw [hx]; exact hk
theorem rk_snoc {L : List Kap} {k : Kap} (h : ∀ x ∈ L, Rk x) (hk : Rk k) : ∀ x ∈ L ++ [k], Rk x := by
  intro x hx
  rcases List.mem_append.mp hx with hx | hx
  · exact h x hx
  · simp at hx; rw [hx]; exact hk

set_option maxRecDepth 100000 in
set_option maxHeartbeats 4000000 in
theorem walk_CapwordNever (a0 : Option Addr) (len0 cap0 : Nat) (a1 : Option Addr) (len1 cap1 : Nat) (w : World) (h0 : CapsIn w a0 len0) (h1 : ActsIn w a1 len1) (hl0 : len0 ≤ maxLen) (hl1 : len1 ≤ maxLen) :
    Calls Try.prog 6 #[.slice a0 len0 cap0, .slice a1 len1 cap1] w fun x w' => x = .returned (.bool true) ∧ Below w.heap.size w w' := by
  unfold maxLen at hl0 hl1
  go_enter Try.func6, Try.ntmps6
  go_wp2_with fail
  refine (examples_any _).mono ?_
  rintro x w1 ⟨rfl, hB⟩
  have hL := LAt.two w1 w.heap.size ⟨0, 16, 3, 33, 0⟩ ⟨16, 48, 16, 15, 0⟩ hB.size
  replace hB := hB.alloc hB.size (.cells #[.int .u64 0, .int .u64 16, .int .u64 3, .int .u8 33, .int .i64 0, .int .u64 16, .int .u64 48, .int .u64 16, .int .u8 15, .int .i64 0] 25)
  go_wp2_with fail
  go_loopw [6, 7] (fun v i wr => ∃ (j g cp : Nat) (L : List Kap), j ≤ 4 ∧ j ≤ len0 ∧ i = .int .i64 j ∧ v = .slice (some ⟨g, 0, none⟩) L.length cp ∧ L.length = 2 + j ∧ Hid (∀ k ∈ L, Rk k) ∧ LAt wr w.heap.size g cp L ∧ Below w.heap.size w wr) (fun _ i _ => 4 - (intOf i).toNat)
  case atStart => exact ⟨0, w1.heap.size, 2, [⟨0, 16, 3, 33, 0⟩, ⟨16, 48, 16, 15, 0⟩], by omega, by omega, rfl, rfl, rfl, by intro k hk; simp at hk; rcases hk with rfl | rfl; exact rk_first; exact rk_second, hL, hB⟩
  case round =>
    clear hL hB
    obtain ⟨j, g, cp, L, hj4, hjl, rfl, rfl, hLl, HR, hL, hB⟩ := hrel
    by_cases hgo : j < len0 ∧ j < 4
    · obtain ⟨hg1, hg2⟩ := hgo
      obtain ⟨b, off, k, rfl, hbw, hk, e0, e1, e2, e3, e4⟩ := h0 j hg1
      have y0 := (hB.cell (p := ⟨b, off + j * 5, none⟩) hbw).trans e0
      have y1 := (hB.cell (p := ⟨b, off + j * 5 + 1, none⟩) hbw).trans e1
      have y2 := (hB.cell (p := ⟨b, off + j * 5 + 1 + 1, none⟩) hbw).trans e2
      have y3 := (hB.cell (p := ⟨b, off + j * 5 + 1 + 1 + 1, none⟩) hbw).trans e3
      have y4 := (hB.cell (p := ⟨b, off + j * 5 + 1 + 1 + 1 + 1, none⟩) hbw).trans e4
      clear e0 e1 e2 e3 e4
      have HLl : Hid (L.length = 2 + j) := hLl
      clear hLl
      go_wp2_with fail
      refine (near_any _ _ _ _ _ _ hk).mono ?_
      rintro x w2 ⟨b', e', c', p', s', rfl, hN, hb⟩
      clear y0 y1 y2 y3 y4
      replace hL := hL.below hb
      replace hB := bstep hB hb
      clear hb
      have hBs := hB.size
      have hgN := hL.lt
      go_wp2_with (at_builtin; refine wpList_append_kap rfl (.tmp 28) (.tmp 34) rfl w.heap.size g cp L ⟨b', e', c', p', s'⟩ L.length rfl rfl (hL.alloc _) w2.heap.size rfl (by exact At.new w2 _ _) (by have := HLl.out; omega) (by simp; omega) ?_)
      intro g2 cp2 w3 hL3 hgr hgg
      replace hB := Below.grown (hB.alloc hB.size _) hgr (by simp; omega) (by intro k hk; simp at hk; omega)
      clear hgr hgg hL
      go_wp2
      go_roundw
      case rel => exact ⟨j + 1, g2, cp2, L ++ [⟨b', e', c', p', s'⟩], by omega, by omega, by go_num, by simp, by have := HLl.out; simp; omega, rk_snoc HR.out hN.rk, hL3, hB⟩
      case measure => simp [intOf]; omega
    · have HLl : Hid (L.length = 2 + j) := hLl
      clear hLl
      have hcase : ¬ j < len0 ∨ (j < len0 ∧ ¬ j < 4) := by omega
      clear hgo
      rcases hcase with hg1 | ⟨hg1, hg2⟩
      all_goals
        go_wp2_with fail
        refine (opens_any w.heap.size g cp L _ hL (by have := HLl.out; omega) (by have := HLl.out; omega) HR.out).mono ?_
        rintro x w4 ⟨g', cp', rfl, hA, hb⟩
        have hgg : g ≠ g' := by have h3 := hL.lt; have h4 := hA.lt; omega
        replace hL := hL.below hb
        replace hA := hA.weaken hB.size
        replace hB := bstep hB hb
        clear hb hg1
        have hCl := closed_all L HR.out
        have hIn := inv_first L HR.out
        have hAl := out_all L (by have := HLl.out; omega)
        have hM1 : 1 ≤ L.length := by have := HLl.out; omega
        have hM2 : L.length ≤ 6 := by have := HLl.out; omega
        generalize outAt L (L.length * L.length) = A at *
        go_wp2_with fail
        go_loopw [6, 9] (fun v i wr => ∃ (j g cp : Nat) (M : List Kap), j ≤ 30 ∧ j ≤ len1 ∧ i = .int .i64 j ∧ v = .slice (some ⟨g, 0, none⟩) M.length cp ∧ 1 ≤ M.length ∧ M.length ≤ 6 + j ∧ Hid (Inv A M) ∧ LAt wr w.heap.size g cp M ∧ LAt wr w.heap.size g' cp' A ∧ g ≠ g' ∧ Below w.heap.size w wr) (fun _ i _ => 30 - (intOf i).toNat)
        case atStart => exact ⟨0, g, cp, L, by omega, by omega, rfl, rfl, hM1, hM2, hIn, hL, hA, hgg, hB⟩
        case round =>
          clear hL hA hB hgg hIn hM1 hM2 HR HLl
          obtain ⟨i, g, cp, M, hi30, hil, rfl, rfl, hM1, hM2, HI, hL, hA, hgg, hB⟩ := hrel
          by_cases hgo : i < len1 ∧ i < 30
          · obtain ⟨hi1, hi2⟩ := hgo
            obtain ⟨b, off, kd, of, by_, n, p, rfl, hbw, r1, r2, r3, r4, r5, e0, e1, e2, e3, e4⟩ := h1 i hi1
            have y0 := (hB.cell (p := ⟨b, off + i * 5, none⟩) hbw).trans e0
            have y1 := (hB.cell (p := ⟨b, off + i * 5 + 1, none⟩) hbw).trans e1
            have y2 := (hB.cell (p := ⟨b, off + i * 5 + 1 + 1, none⟩) hbw).trans e2
            have y3 := (hB.cell (p := ⟨b, off + i * 5 + 1 + 1 + 1, none⟩) hbw).trans e3
            have y4 := (hB.cell (p := ⟨b, off + i * 5 + 1 + 1 + 1 + 1, none⟩) hbw).trans e4
            clear e0 e1 e2 e3 e4
            go_wp2_with fail
            refine (act_any w.heap.size g cp M kd of by_ n p _ hL hM1 (by omega) (fun k hk => (HI.out k hk).1) r1 r2 r3 r4).mono ?_
            rintro x w5 ⟨b', e', c', p', s', f', rfl, hS, hb⟩
            clear y0 y1 y2 y3 y4
            replace hL := hL.below hb
            replace hA := hA.below hb
            replace hB := bstep hB hb
            clear hb
            by_cases hf : f' = 0
            · subst hf
              obtain ⟨hk1, hk2⟩ := act_ok hCl HI.out r5 hS
              have hk3 := hk1.right
              simp only at hk3
              clear hS
              go_wp2_with fail
              refine (made_any w.heap.size g' cp' A _ _ _ _ _ _ (hA.alloc _) hAl hCl.1 hk1.2.2.2).mono ?_
              rintro x w6 ⟨rfl, hb⟩
              rw [hk2]
              have hX : At w6 w5.heap.size #[.int .u64 b', .int .u64 e', .int .u64 c', .int .u8 p', .int .i64 s'] := (At.new w5 _ _).below hb
              replace hL := (hL.alloc _).below hb
              replace hA := (hA.alloc _).below hb
              replace hB := bstep (hB.alloc hB.size _) hb
              clear hb
              have q_hX := hX.2.1
              have z_hX := hX.1
              have hBs := hB.size
              have hgN := hL.lt
              have hgA := hA.lt
              go_wp2_with fail
              refine (right_any _ _ _ _ _ _).mono ?_
              rintro x w' ⟨rfl, rfl⟩
              go_wp2_with (at_builtin; refine wpList_append_kap rfl (.tmp 73) (.tmp 75) rfl w.heap.size g cp M ⟨b', e', c', p', s'⟩ M.length rfl rfl ((hL.alloc _).alloc _) (w6.heap.size + 1) rfl (by exact (size_one w6 _ ▸ At.new (w6.alloc _) _ _ : At _ (w6.heap.size + 1) _)) (by omega) (by simp; omega) ?_)
              intro g2 cp2 w7 hL7 hgr hg2
              have hne2 : g2 ≠ g' := by
                rcases hg2 with h | h
                · omega
                · omega
              replace hA := ((hA.alloc _).alloc _).grown hgr (by omega)
              replace hB := Below.grown ((hB.alloc hB.size _).alloc (by simp; omega) _) hgr (by simp; omega) (by intro k hk; simp at hk; omega)
              clear hgr hg2 hL q_hX z_hX hX
              go_wp2
              go_roundw
              case rel => exact ⟨i + 1, g2, cp2, M ++ [⟨b', e', c', p', s'⟩], by omega, by omega, by go_num, by simp, by simp, by simp; omega, Inv.snoc HI.out ⟨hk1, hk2⟩, hL7, hA, hne2, hB⟩
              case measure => simp [intOf]; omega
            · have hf' : (f' != 0) = true := by simpa using hf
              obtain ⟨rfl, rfl, rfl, rfl, rfl⟩ := act_zero hS hf
              clear hS
              go_wp2
              go_roundw
              case rel => exact ⟨i + 1, g, cp, M, by omega, by omega, by go_num, rfl, hM1, by omega, HI, hL.alloc _, hA.alloc _, hgg, hB.alloc hB.size _⟩
              case measure => simp [intOf]; omega
          · have hcase : ¬ i < len1 ∨ (i < len1 ∧ ¬ i < 30) := by omega
            clear hgo
            rcases hcase with hi1 | ⟨hi1, hi2⟩
            all_goals
              go_wp2
              go_ret
              exact ⟨rfl, hB⟩
end Go.Proofs.Ytmnmflpbpklmiab
